import PyProof.Rows.All
import Wide.All
import OpenK.AllK
import Wide.FinOn
import HandS.ForMost
import HandS.Wide
import HandS.IsInst
import HandS.TupMul
import HandS.TupAny
import HandS.SortInts
import HandS.SortRule
import HandS.Strs
import HandS.Deep
import HandS.Style
import HandS.Evl
import HandS.Zip
import HandS.Dict
import HandS.SetKeys
import HandS.Iter
import HandS.GenBody
import HandS.GenYield
import HandS.GenCall
import HandS.GenList
import HandS.DictTup
import PySem.Challenge.RW_loopstore_k15_whole_walks_that_meet
set_option Elab.async false
set_option linter.all false
set_option maxRecDepth 100000
set_option maxHeartbeats 4000000
/-! ## rules that the layer lacks -/
namespace RR
open PySem PySem.Spec PyProof.Rows L2 HT
section
variable {prog : Program} {w : World} {A : Around} {E : Value → Shared → Prop} {s : Shared}
/-- a tuple's items gathered -/
theorem collect_tuple {l : Addr} {vs : List Value} {Q : List Value → Shared → Prop} (hl : IsTup s.heap l vs.toArray)
    (h : Q vs { s with heap := (s.heap.push (seqObj "list" #[] 0)).update s.heap.objs.size (Obj.mapSeq (· ++ vs.toArray)) }) (hsz : vs.length ≤ sizeLine) :
    wpAny (model prog w) A (collect (.ref l)) Q E s := by
  obtain ⟨o, ho, hc, n, hd⟩ := id hl
  unfold collect
  refine wpAny_bind (wpAny_runValue (codeAny_builtin entry_proto_collect' ?_))
  show wpAny _ _ (do again (.builtin "list.__iadd__" ⟨[← newList [], .ref l], []⟩)) _ _ s
  refine wpAny_bind (wpAny_newList (wpAny_pure ⟨Code.quiet_builtin _ (by decide +kernel), codeAny_builtin entry_list_iadd' ?_⟩))
  show wpAny _ _ (Builtin.List.listExtendWith (.ref s.heap.objs.size) (.ref l) (.ref s.heap.objs.size)) _ _ { s with heap := s.heap.push (seqObj "list" #[] 0) }
  unfold Builtin.List.listExtendWith
  have ho' : (s.heap.push (seqObj "list" #[] 0)).get? l = some o := Heap.get?_push_of_some _ ho
  refine wpAny_bind (wpAny_typeOf (T := "tuple") ⟨o, ho', hc⟩ ?_)
  have ht : (Value.type "tuple" == Value.type "tuple") = true := by rfl
  rw [if_pos (by rw [ht]; simp)]
  refine wpAny_bind (listItems_at ho' hd ?_)
  refine wpAny_bind (listItems_at (xs := #[]) (n := 0) (Heap.get?_push_size _ rfl) rfl ?_)
  rw [if_neg (by simp)]
  refine wpAny_bind (listUpdate_at (xs := #[]) (n := 0) (Heap.get?_push_size _ rfl) rfl ?_ (Nat.zero_le _) (by show (#[] ++ vs.toArray).size ≤ sizeLine + 1; simp only [Array.size_append, List.size_toArray, List.length_nil]; omega))
  refine wpAny_pure ?_
  show wpAny (model prog w) A (do
      let o ← load s.heap.objs.size
      match o.data with
      | .seq xs _ => pure xs.toList
      | _ => unsupported "internal:collect") Q E { s with heap := (s.heap.push (seqObj "list" #[] 0)).update s.heap.objs.size (Obj.mapSeq (· ++ vs.toArray)) }
  refine wpAny_bind (wpAny_load (get?_update_seq (Heap.get?_push_size _ rfl) _) ?_)
  show wpAny _ _ (pure ((#[] : Array Value) ++ vs.toArray).toList) Q E _
  rw [show ((#[] : Array Value) ++ vs.toArray).toList = vs by simp]
  exact wpAny_pure h
theorem sorted_ordT {l : Addr} {vs : List Value} {ltv : Value → Value → Bool} {Q : Value → Shared → Prop} (O : SrtO.Swo ltv) (hl : IsTup s.heap l vs.toArray) (hz : vs.length ≤ sizeLine)
    (hS : 2 ≤ vs.length → ∀ (h₁ : Heap) (a : Addr), h₁.get? a = some (seqObj "list" vs.toArray 0) → (∀ b o, s.heap.get? b = some o → b ≠ a ∧ h₁.get? b = some o) → SrtO.SortableO prog w A.in1.in1 { s with heap := h₁ } a vs ltv)
    (h : ∀ out : List Value, SrtO.Srtd ltv out → SrtO.Stb ltv out vs → Q (.ref (s.heap.objs.size + 1)) { s with heap := sortedAll s.heap vs out.toArray }) :
    wpAny (model prog w) A (call (.builtin "sorted") [.ref l]) Q E s := by
  refine Calls.call_function_entry kind_sorted plain_sorted entry_sorted (args_sorted1 _) ?_
  unfold Builtin.«sorted»
  refine wpAny_bind (m := checkCount "sorted" 1 1 _) (wpAny_pure ?_)
  refine wpAny_bind (collect_tuple hl ?_ hz)
  refine wpAny_bind (wpAny_newList ?_ hz)
  have hsz : ((s.heap.push (seqObj "list" #[] 0)).update s.heap.objs.size (Obj.mapSeq (· ++ vs.toArray))).objs.size = s.heap.objs.size + 1 := by
    rw [Heap.size_update, size_push']
  have hoL : (((s.heap.push (seqObj "list" #[] 0)).update s.heap.objs.size (Obj.mapSeq (· ++ vs.toArray))).push (seqObj "list" vs.toArray 0)).get? (s.heap.objs.size + 1) = some (seqObj "list" vs.toArray 0) := by
    rw [← hsz]; exact Heap.get?_push_size _ rfl
  have keep : ∀ b o, s.heap.get? b = some o → b ≠ s.heap.objs.size + 1 ∧ (((s.heap.push (seqObj "list" #[] 0)).update s.heap.objs.size (Obj.mapSeq (· ++ vs.toArray))).push (seqObj "list" vs.toArray 0)).get? b = some o := fun b o q => by
    have hlt : b < s.heap.objs.size := Heap.lt_size q
    refine ⟨Nat.ne_of_lt (Nat.lt_succ_of_lt hlt), Heap.get?_push_of_some _ ?_⟩
    rw [Heap.get?_update_ne _ _ _ _ (Nat.ne_of_lt hlt)]
    exact Heap.get?_push_of_some _ q
  show wpAny _ _ _ _ _ { s with heap := ((s.heap.push (seqObj "list" #[] 0)).update s.heap.objs.size (Obj.mapSeq (· ++ vs.toArray))).push (seqObj "list" vs.toArray 0) }
  rw [hsz]
  refine wpAny_bind (wpAny_holding (wpAny_call_entry slot_list_sort ⟨_, hoL, rfl⟩ entry_list_sort (SrtO.list_sort_ord O hoL hz (fun h2 => hS h2 _ _ hoL keep) fun out hs hb => ⟨_, rfl, ?_⟩) (args_list_sort _)))
  exact wpAny_pure ⟨_, rfl, h out hs hb⟩
end
def rSortedU (K : PySem.W.Frag) : List V → Hp → VK → Prop := fun vs H Q => ∃ (a : Addr) (ns : List Int), vs = [V.ref a] ∧ SqT K H a (ns.map V.int) ∧
  ∀ (ns' : List Int) (p : Addr), ns'.Perm ns → ns'.Pairwise (· ≤ ·) → H p = none → Q (.ref p) (upd H p (.lst (ns'.map V.int)))
section
variable {X : Cx}
/-- sorted(t), t a tuple of ints -/
theorem cr_sortedU : CallR X (.builtin "sorted") (rSortedU X.K) := by
  intro pins s σ H vs us Q I r h
  obtain ⟨a, ns, rfl, hs, q⟩ := h
  obtain ⟨its, rv, hl, hz⟩ := I.tuple hs
  rw [Vals.ref1 r]
  have hi := rv.ints
  refine sorted_ordT SrtO.swo_int hl (by rw [← rv.length]; exact hz) (fun h2 h₁ a' _ _ => SrtO.ints_sortable hi h2) fun out h1 h2 => ?_
  obtain ⟨k1, k2, k3⟩ := SrtO.ints_out hi h1 h2
  obtain ⟨ep, he'⟩ := PyProof.Rows.sortedAll_at s.heap its out.toArray
  have hlen : ((out.map SrtO.iv).map V.int).length ≤ sizeLine := by
    rw [List.length_map, k2.length_eq]
    rw [List.length_map] at hz
    exact hz
  exact ⟨.ref _, upd H (s.heap.objs.size + 1) (.lst ((out.map SrtO.iv).map V.int)), I.laid (t' := s.toks) (fun _ _ => PyProof.Rows.sortedAll_old) (Nat.le_succ _) ⟨hlen, out, ep, vals_of_ints k1, he'⟩, rfl, q _ _ k2 k3 (I.hok.fresh (Nat.le_succ _))⟩
end
/-! ### t[::-1] -/
theorem adj_rev (n : Nat) : Builtin.Slice.sliceAdjust none none (-1) (n : Int) = ((n : Int) - 1, -1) := rfl
theorem pl_rev (n : Nat) : Builtin.Slice.slicePlaces ((n : Int) - 1) (-1) (-1) = n := by
  unfold Builtin.Slice.slicePlaces
  have h1 : ¬ ((-1 : Int) > 0) := by omega
  simp only [h1, if_false]
  split <;> simp <;> omega
theorem pick_rev (xs : List Value) : ((List.range xs.length).filterMap fun (m : Nat) => xs.toArray[(((xs.length : Int) - 1) + (m : Int) * (-1)).toNat]?) = xs.reverse := by
  have key : ∀ m, m ≤ xs.length → ((List.range m).filterMap fun (k : Nat) => xs.toArray[(((xs.length : Int) - 1) + (k : Int) * (-1)).toNat]?) = xs.reverse.take m := by
    intro m
    induction m with
    | zero => intro _; rfl
    | succ m ih =>
      intro hm
      rw [List.range_succ, List.filterMap_append, ih (by omega), List.take_add_one]
      have e : (((xs.length : Int) - 1) + (m : Int) * (-1)).toNat = xs.length - 1 - m := by omega
      have hl : m < xs.reverse.length := by rw [List.length_reverse]; omega
      have e2 : xs.toArray[xs.length - 1 - m]? = some (xs.reverse[m]) := by
        rw [List.getElem?_toArray, List.getElem_reverse, List.getElem?_eq_getElem]
      rw [List.getElem?_eq_getElem hl]
      simp only [List.filterMap_cons, List.filterMap_nil, e, e2, Option.toList_some]
  have := key xs.length (Nat.le_refl _)
  rw [this, List.take_of_length_le (by rw [List.length_reverse]; exact Nat.le_refl _)]
section
variable {prog : Program} {w : World} {A : Around} {E : Value → Shared → Prop} {s : Shared}
theorem sliceApplied_rev {sl : Addr} {vl vu vs : Value} {n : Nat} {Q : Int × Int × Nat → Shared → Prop} (hs : s.heap.IsSliceOf sl vl vu vs) (pl : IsPart vl none) (pu : IsPart vu none) (ps : IsPart vs (some (-1)))
    (h : Q ((n : Int) - 1, -1, n) s) : wpAny (model prog w) A (Builtin.Slice.sliceApplied (.ref sl) (pure (n : Int))) Q E s := by
  obtain ⟨os, hos, hcs, hds⟩ := id hs
  unfold Builtin.Slice.sliceApplied Builtin.Slice.sliceFields
  refine wpAny_bind (wpAny_bind (wpAny_field hos hds (x := vl) rfl (wpAny_bind (wpAny_field hos hds (x := vu) rfl (wpAny_bind (wpAny_field hos hds (x := vs) rfl (wpAny_pure ?_)))))))
  refine wpAny_bind (slicePart_ ps ?_)
  show wpAny _ _ (if ((-1 : Int) == 0) = true then _ else _) _ _ s
  rw [if_neg (by decide)]
  refine wpAny_bind (slicePart_ pl (wpAny_bind (slicePart_ pu (wpAny_bind (wpAny_pure ?_)))))
  show wpAny _ _ (match Builtin.Slice.sliceAdjust none none (-1) (n : Int) with | (lo, hi) => pure (lo, (-1 : Int), Builtin.Slice.slicePlaces lo hi (-1))) _ _ s
  rw [adj_rev n]
  show wpAny _ _ (pure ((n : Int) - 1, (-1 : Int), Builtin.Slice.slicePlaces ((n : Int) - 1) (-1) (-1))) _ _ s
  rw [pl_rev]
  exact wpAny_pure h
theorem getItem_tuple_rev {t sl : Addr} {items : List Value} {vl vu vs : Value} {Q : Value → Shared → Prop} (ht : IsTup s.heap t items.toArray) (hs : s.heap.IsSliceOf sl vl vu vs) (pl : IsPart vl none) (pu : IsPart vu none) (ps : IsPart vs (some (-1)))
    (h : Q (.ref s.heap.objs.size) { s with heap := s.heap.push { cls := .type "tuple", data := .seq items.reverse.toArray } })
    (hsz : items.length ≤ sizeLine) : wpAny (model prog w) A (getItem (.ref t) (.ref sl)) Q E s := by
  have htake : sizeOk (.seq items.reverse.toArray) := by
    show items.reverse.toArray.size ≤ sizeLine
    rw [List.size_toArray, List.length_reverse]
    omega
  obtain ⟨os, hos, hcs, hds⟩ := id hs
  have hTs : s.TypeIs (.ref sl) "slice" := ⟨os, hos, hcs⟩
  unfold getItem
  try with_reducible refine wpAny_holding ?_
  first | refine wpAny_bind (wpAny_pure ?_) | skip
  refine wpAny_bind (wpAny_sequenceKey ht.typeIs (by decide) ?_)
  refine wpAny_bind (wpAny_callSpecial?_slot (name := Str.ofString "__getitem__") ht.typeIs PyProof.Rows.slot_tuple_getitem
    (wpAny_call_entry PyProof.Rows.slot_tuple_getitem ht.typeIs entry_tuple_getitem ?_ (args_tuple_getitem _ _)))
  show wpAny _ _ (Builtin.Tuple.tupleItemsOf (.ref t) >>= _) _ _ s
  refine wpAny_bind (tupleItemsOf_ ht ?_)
  refine wpAny_bind (wpAny_typeOf hTs ?_)
  rw [if_pos (by decide)]
  rw [List.size_toArray]
  refine wpAny_bind (sliceApplied_rev hs pl pu ps ?_)
  have hno : ¬ ((((items.length : Int) - 1) == 0 && (-1 : Int) == 1 && items.length == items.length) = true) := by
    rw [show ((-1 : Int) == 1) = false from rfl, Bool.and_false, Bool.false_and]
    exact Bool.false_ne_true
  show wpAny _ _ (if (((items.length : Int) - 1) == 0 && (-1 : Int) == 1 && items.length == items.length) = true then _ else _) _ _ s
  rw [if_neg hno, pick_rev]
  first
    | exact wpAny_bind (m := Builtin.Tuple.tupleExact _) (wpAny_newObj_type (wpAny_pure ⟨_, rfl, wpAny_pure h⟩) htake)
    | exact wpAny_bind (m := Builtin.Tuple.tupleExact _) (wpAny_newObj_type (wpAny_bind (wpAny_pure (wpAny_pure ⟨_, rfl, wpAny_pure h⟩))) htake)
    | exact wpAny_bind (wpAny_bind (m := Builtin.Tuple.tupleExact _) (wpAny_newObj_type (wpAny_pure (wpAny_pure ⟨_, rfl, wpAny_pure h⟩)) htake))
    | exact wpAny_bind (wpAny_bind (m := Builtin.Tuple.tupleExact _) (wpAny_newObj_type (wpAny_pure ⟨_, rfl, wpAny_pure h⟩) htake))
end
def tRevT (K : PySem.W.Frag) (te : TE) : TE := fun σ H Q => te σ H fun x H1 => ∃ a xs, x = .ref a ∧ SqT K H1 a xs ∧ ∀ p, H1 p = none → Q (.ref p) (upd H1 p (.tup xs.reverse))
section
variable {X : Cx}
theorem pe_revT {e : Expr} {te : TE} {k : Nat} {p1 p2 p3 pos : Pos} (he : PE X e te) : PE X (.Subscript e (.Slice none none (some (.UnaryOp .USub (.Constant (.int 1) k p1) p2)) p3) pos) (tRevT X.K te) := by
  refine ⟨fun pins s σ H Q I h => ?_⟩
  refine Subscript_ (thn (he.run pins s σ H _ I h) fun v s1 ⟨x, H1, I1, r1, q1⟩ => ?_)
  obtain ⟨a, xs, ex, hx, q⟩ := q1
  subst ex
  cases r1
  have hst : PO X (some (.UnaryOp .USub (.Constant (.int 1) k p1) p2)) (tPart (tUn (rU fun i => .int (-i)) (tC (.int 1)))) := po_some (pe_un un_neg pe_int)
  refine wpAny_Slice (thn (po_none.run pins s1 σ H1 (fun o H2 => o = none ∧ H2 = H1) I1 ⟨rfl, rfl⟩) fun vl s2 ⟨l, H2, I2, pl, el, e2⟩ => ?_)
  subst el e2
  refine thn (po_none.run pins s2 σ H2 (fun o H3 => o = none ∧ H3 = H2) I2 ⟨rfl, rfl⟩) fun vu s3 ⟨u, H3, I3, pu, eu, e3⟩ => ?_
  subst eu e3
  refine thn (hst.run pins s3 σ H3 (fun o H4 => o = some (-1) ∧ H4 = H3) I3 ⟨1, rfl, -1, rfl, rfl, rfl⟩) fun vs s4 ⟨o, H4, I4, ps, eo, e4⟩ => ?_
  subst eo e4
  have I5 : Inv X pins σ H4 { s4 with heap := s4.heap.push { cls := .type "slice", data := .fields #[vl, vu, vs] } } := I4.kept (t' := s4.toks) fun b ob q => Heap.get?_push_of_some _ q
  obtain ⟨its, r, ht, hz⟩ := I5.tuple hx
  have hlen := r.length
  show wpAny (model X.prog X.w) X.A (subscriptTail e (.Slice none none (some (.UnaryOp .USub (.Constant (.int 1) k p1) p2)) p3) (.ref a) (.ref s4.heap.objs.size)) (EP X pins σ Q) X.xe { s4 with heap := s4.heap.push { cls := .type "slice", data := .fields #[vl, vu, vs] } }
  refine tail_any (ops := [.ref a, .ref s4.heap.objs.size]) ht.typeIs (PyProof.Rows.slot_tuple_getitem.lookup) ?_ (by with_unfolding_all rfl)
  refine getItem_tuple_rev ht (Heap.IsSliceOf.new _ vl vu vs) pl pu ps ?_ (by rw [← hlen]; exact hz)
  refine ⟨.ref _, _, I5.laid (t' := s4.toks) (o := .tup xs.reverse) (fun b ob q => Heap.get?_push_of_some _ q) (Nat.le_refl _) ?_, rfl, q _ (I5.hok.fresh (Nat.le_refl _))⟩
  exact ⟨by rw [List.length_reverse]; exact hz, _, r.reverse, IsTup.new _ _⟩
end
/-! ### t * k, k from 1 on -/
theorem tuple_mulW1 (l : Addr) (items : Array Value) (n : Nat) (dd : Option Addr) (sl : Array (Option Value)) (u : Tok) :
    Meets (Builtin.«tuple.__mul__» ⟨[.ref l, .int 1 u], []⟩) (fun _ R s => s.heap.get? l = some { cls := .type "tuple", dict := dd, data := .seq items n, slots := sl } ∧ R (.ok (.ret (Value.ref l))) s) :=
  .of_wp fun prog w A R s h => by
    obtain ⟨hp, g, d, tk, os⟩ := s
    obtain ⟨hl, h⟩ := h
    have f1 := AutoSeq1.idx_int
    have c0 : (decide ((1 : Int) < -(2 ^ 63)) || decide ((1 : Int) ≥ 2 ^ 63)) = false := by decide
    have c1 : (items.isEmpty || (1 : Int) == 1) = true := by rw [show ((1 : Int) == 1) = true from rfl, Bool.or_true]
    wp_walk using wpAny_loadPart' hl
    repeat (first
      | (refine wpAny_ite_false (decide_eq_false (by rw [c0]; exact Bool.false_ne_true)) ?_; wp_walk using wpAny_loadPart' hl)
      | (refine wpAny_ite_true (decide_eq_true c1) ?_; wp_walk using wpAny_loadPart' hl))
    exact ⟨_, rfl, h⟩
def rRepA (K : PySem.W.Frag) : R2 := fun x y H Q => ∃ l k xs, x = .ref l ∧ y = .int k ∧ SqT K H l xs ∧ xs ≠ [] ∧ 1 ≤ k ∧ k ≤ 1000 ∧ xs.length ≤ 1000 ∧ (k = 1 → Q (.ref l) H) ∧ (k ≠ 1 → ∀ p, H p = none → Q (.ref p) (upd H p (.tup (List.replicate k.toNat xs).flatten)))
section
variable {X : Cx}
theorem op_repA : OpR X (binaryOp .Mult) (rRepA X.K) := by
  intro pins s σ H x y v u Q I rx ry h
  obtain ⟨l, k, xs, rfl, rfl, hT, hne, h1, h2, hz, q1, q2⟩ := h
  by_cases hk : k = 1
  · subst hk
    cases rx
    obtain ⟨t, rfl⟩ := ry
    obtain ⟨its, r, ⟨⟨cls, dd, data, sl⟩, ho, hc, n, hd⟩, hs⟩ := I.tuple hT
    simp only at hc hd
    subst hc hd
    refine wpAny_binaryOp_repeat_ref (T := "tuple") (U := "int") (by decide) ⟨_, ho, rfl⟩ (fun s' => typeIs_int s' 1 t) noFill_tuple_mul F.fills_int_mul F.slot_int_rmul repeat_tuple F.slot_int_index.lookup
      (call_meets F.slot_int_rmul (typeIs_int s 1 t) F.entry_int_rmul (F.args_int_rmul_2 _ _) (int_rmul_tuple 1 t l its.toArray n dd sl)
        ⟨ho, rfl, ⟨_, ho, rfl⟩, call_meets F.slot_tuple_mul ⟨_, ho, rfl⟩ F.entry_tuple_mul (F.args_tuple_mul_2 _ _) (tuple_mulW1 l its.toArray n dd sl t) ⟨ho, ?_⟩⟩)
    exact ⟨.ref l, H, I, rfl, q1 rfl⟩
  · exact op_repT pins s σ H _ _ v u Q I rx ry ⟨l, k, xs, rfl, rfl, hT, hne, by omega, h2, hz, q2 hk⟩
end
end RR

/-! ## enumerate over a tuple; an empty tuple times k -/
namespace RR
open PySem PySem.Spec PyProof.Rows L2 HT
open Sem (wp)
open AutoSeq1 (wpAny_loadPart')
section
variable {prog : Program} {w : World} {A : Around} {E : Value → Shared → Prop} {s : Shared}
theorem next_tuple_item {it t : Addr} {i : Nat} {items} {x : Value} {Q : Value → Shared → Prop} (hit : s.heap.IsTupleIter it t i)
    (ht : s.heap.IsTuple t items) (hx : items[i]? = some x)
    (hQ : ∀ h', h'.IsTupleIter it t (i + 1) → Heap.SameBut it s.heap h' → Q x { s with heap := h' }) :
    wpAny (model prog w) A (Builtin.SmallTypes.nextOf (.ref it)) Q E s := by
  obtain ⟨o, ho, hc, hd⟩ := id hit
  obtain ⟨ol, hol, _, nl, hdl⟩ := ht
  unfold Builtin.SmallTypes.nextOf
  refine wpAny_bind (wpAny_callSpecial?_slot (name := Str.ofString "__next__") hit.typeIs F.slot_tuple_iterator_next
    (wpAny_call_entry F.slot_tuple_iterator_next hit.typeIs F.entry_tuple_iterator_next ?_ (F.args_tuple_iterator_next_1 _)))
  show wpAny _ _ (field (.ref it) 0 >>= _) _ _ s
  refine wpAny_bind (wpAny_field ho hd (x := .ref t) rfl ?_)
  show wpAny _ _ (if (Value.ref t == Value.none) = true then _ else _) _ _ s
  rw [if_neg (show ¬ ((Value.ref t == Value.none) = true) from Bool.false_ne_true)]
  show wpAny _ _ (field (.ref it) 1 >>= _) _ _ s
  refine wpAny_bind (wpAny_field ho hd (x := .int i 0) rfl ?_)
  show wpAny _ _ (seqItems? (.ref t) >>= _) _ _ s
  refine wpAny_bind (wpAny_seqItems hol hdl ?_)
  simp only [Int.toNat_natCast, hx]
  refine wpAny_bind (wpAny_setField ho hd (by simp) (wpAny_pure ⟨x, rfl, wpAny_pure (hQ _ ?_ (Heap.SameBut.update ..))⟩))
  exact ⟨_, Heap.get?_update_self _ ho (Obj.isFreed_of_fields (Obj.data_mapFields hd _)), (Obj.cls_mapFields ..).trans hc, by
    rw [Obj.data_mapFields hd]; simp [rawInt]⟩
theorem next_tuple_end {it t : Addr} {i : Nat} {items} {Q : Value → Shared → Prop} (hh : A.handled = none)
    (hit : s.heap.IsTupleIter it t i) (ht : s.heap.IsTuple t items) (hx : items[i]? = none)
    (hE : ∀ h' e, Heap.ExtBut it s.heap h' → (∃ o, h'.get? e = some o ∧ o.cls = .type "StopIteration") → E (.ref e) { s with heap := h' }) :
    wpAny (model prog w) A (Builtin.SmallTypes.nextOf (.ref it)) Q E s := by
  obtain ⟨o, ho, hc, hd⟩ := id hit
  obtain ⟨ol, hol, _, nl, hdl⟩ := ht
  unfold Builtin.SmallTypes.nextOf
  refine wpAny_bind (wpAny_callSpecial?_slot (name := Str.ofString "__next__") hit.typeIs F.slot_tuple_iterator_next
    (wpAny_call_entry F.slot_tuple_iterator_next hit.typeIs F.entry_tuple_iterator_next ?_ (F.args_tuple_iterator_next_1 _)))
  show wpAny _ _ (field (.ref it) 0 >>= _) _ _ s
  refine wpAny_bind (wpAny_field ho hd (x := .ref t) rfl ?_)
  show wpAny _ _ (if (Value.ref t == Value.none) = true then _ else _) _ _ s
  rw [if_neg (show ¬ ((Value.ref t == Value.none) = true) from Bool.false_ne_true)]
  show wpAny _ _ (field (.ref it) 1 >>= _) _ _ s
  refine wpAny_bind (wpAny_field ho hd (x := .int i 0) rfl ?_)
  show wpAny _ _ (seqItems? (.ref t) >>= _) _ _ s
  refine wpAny_bind (wpAny_seqItems hol hdl ?_)
  simp only [Int.toNat_natCast, hx]
  refine wpAny_bind (wpAny_rule (wpAny_bind (wpAny_setField ho hd (by simp) ?_)))
  show wpAny _ _ (newExc (.type "StopIteration") [] >>= _) _ _ _
  refine wpAny_bind ?_
  simp only [newExc, newTuple]
  refine wpAny_bind (wpAny_newObj_type ?_ (by size_fits))
  refine wpAny_bind (m := firstArgMember _ _) (wpAny_of_eq (a := Value.none) (by first | rfl | (simp only [firstArgMember]; rfl)) ?_)
  refine wpAny_newObj_type ?_ (by size_fits)
  simp only [raiseNew]
  refine wpAny_bind (wpAny_handled ?_)
  first | rw [show A.in1.handled = none from hh] | rw [hh]
  refine wpAny_bind (wpAny_pure (wpAny_throw ?_))
  exact hE _ _ (((Heap.SameBut.update ..).extBut.push _).push _) ⟨_, Heap.get?_push_size _ rfl, rfl⟩
end
theorem tup_at {h h' : Heap} {a : Addr} {items} (x : h.IsTuple a items) (e : ∀ o, h.get? a = some o → h'.get? a = some o) : h'.IsTuple a items := let ⟨o, ho, r⟩ := x; ⟨o, e _ ho, r⟩
theorem draws_tuple {prog : Program} {w : World} {A : Around} (hh : A.handled = none) (it l : Addr) (hne : l ≠ it) (items : Array Value) :
    Draws prog w A it [it, l] items.size (fun i v => items[i]? = some v) (fun i h => h.IsTupleIter it l i ∧ h.IsTuple l items) where
  live := fun _ _ st => let ⟨o, ho, _⟩ := st.1; ⟨o, ho⟩
  frame := fun _ _ _ st hk => ⟨st.1.at fun o e => hk it (by simp) o e, tup_at st.2 fun o e => hk l (by simp) o e⟩
  item := fun i s Q E hi st hQ => by
    refine next_tuple_item st.1 st.2 (x := items[i]) (by simp [hi]) fun h' hit' hs' => ?_
    exact hQ _ h' s.toks (by simp [hi]) ⟨hit', st.2.extBut hs'.extBut hne⟩ hs'
  done := fun s Q E st hE => next_tuple_end hh st.1 st.2 (by simp) hE
theorem enumerate_newT (l : Addr) (items : Array Value) (n : Nat) (dct : Option Addr) (sl : Array (Option Value)) :
    Meets (Builtin.«enumerate.__new__» ⟨[.type "enumerate", .ref l], []⟩) (fun _ R s => s.heap.get? l = some { cls := .type "tuple", dict := dct, data := .seq items n, slots := sl } ∧
      R (.ok (.ret (.ref (s.heap.push { cls := .type "tuple_iterator", data := .fields #[.ref l, .int 0 0] }).objs.size)))
        { s with heap := (s.heap.push { cls := .type "tuple_iterator", data := .fields #[.ref l, .int 0 0] }).push { cls := .type "enumerate", data := .fields #[.none, .bool false, .ref s.heap.objs.size, rawInt 0, .none, .none] } }) :=
  .of_wp fun prog w A R s h => by
    obtain ⟨hp, g, d, tk, os⟩ := s; obtain ⟨hl, h⟩ := h
    have hsub := sub_enumerate
    have hL : Heap.IsTuple (Shared.heap ⟨hp, g, d, tk, os⟩) l items := ⟨_, hl, rfl, n, rfl⟩
    wp_walk using wpAny_loadPart' hl
    refine wpAny_stack_any fun st => wpAny_pure ?_
    split
    · rename_i c _ _ _ _ _
      cases (c == Value.type "enumerate")
      · wp_walk using wpAny_loadPart' hl, wpAny_pyIter_tuple hL
        exact ⟨_, rfl, h⟩
      · wp_walk using wpAny_loadPart' hl, wpAny_pyIter_tuple hL
        exact ⟨_, rfl, h⟩
    · wp_walk using wpAny_loadPart' hl, wpAny_pyIter_tuple hL
      exact ⟨_, rfl, h⟩
section
variable {prog : Program} {w : World} {A : Around} {E : Value → Shared → Prop} {s : Shared}
theorem call_enumerate_tuple {l : Addr} {items : Array Value} {Q : Value → Shared → Prop} (hL : s.heap.IsTuple l items)
    (h : ∀ h', IsEnum h' (s.heap.objs.size + 1) s.heap.objs.size 0 .none → h'.IsTupleIter s.heap.objs.size l 0 → h'.objs.size = s.heap.objs.size + 2 →
      (∀ b o, s.heap.get? b = some o → h'.get? b = some o) → Q (.ref (s.heap.objs.size + 1)) { s with heap := h' }) :
    wpAny (model prog w) A (call (.type "enumerate") [.ref l]) Q E s := by
  obtain ⟨⟨c, dct, dt, sl⟩, hl, hc, n, hd⟩ := hL
  replace hc : c = .type "tuple" := hc
  replace hd : dt = .seq items n := hd
  subst hc hd
  refine callType_new F.called_enumerate (by decide) (F.typeCall_enumerate_1 _) (F.newCall_enumerate_1 _) (fun obj => F.args_object_init_2 obj _) F.entry_enumerate_new
    (enumerate_newT l items n dct sl) ⟨hl, ?_⟩
  have hz : (s.heap.push { cls := .type "tuple_iterator", data := .fields #[.ref l, .int 0 0] }).objs.size = s.heap.objs.size + 1 := Heap.size_push ..
  show _ ∧ _
  rw [hz]
  have he : IsEnum ((s.heap.push { cls := .type "tuple_iterator", data := .fields #[.ref l, .int 0 0] }).push
      { cls := .type "enumerate", data := .fields #[.none, .bool false, .ref s.heap.objs.size, rawInt 0, .none, .none] }) (s.heap.objs.size + 1) s.heap.objs.size 0 .none := by
    have := Heap.get?_push_size (s.heap.push { cls := .type "tuple_iterator", data := .fields #[.ref l, .int 0 0] })
      (o := { cls := .type "enumerate", data := .fields #[.none, .bool false, .ref s.heap.objs.size, rawInt 0, .none, .none] }) rfl
    rw [hz] at this; exact this
  refine ⟨⟨_, he, rfl⟩, h _ he ⟨_, Heap.get?_push_of_some _ (Heap.get?_push_size _ rfl), rfl, rfl⟩ (by rw [Heap.size_push, hz]) fun b o x => Heap.get?_push_of_some _ (Heap.get?_push_of_some _ x)⟩
end
/-- the tuple at a, each item in a new pair -/
def IteT (K : PySem.W.Frag) (a : Addr) : It :=
  ⟨fun i H => ∃ (xs : List V) (x : V), SqT K H a xs ∧ xs[i]? = some x, fun i H v H' => ∃ T x, v = .ref T ∧ H T = none ∧ H' = upd H T (.tup [.int (i : Nat), x]) ∧ ∀ xs, SqT K H a xs → xs[i]? = some x, fun i H => ∃ xs : List V, SqT K H a xs ∧ xs.length ≤ i⟩
theorem turn_enumT {P : Program} {w : World} {K : PySem.W.Frag} {elts : List Expr} {kk : Nat} {tpos : Pos} (a e it : Addr) :
    Turn P w K (.Tuple elts kk tpos) (IteT K a) [e, it] e (fun i h => (∃ old, IsEnum h e it ((i : Nat) : Int) old) ∧ h.IsTupleIter it a i ∧ e ≠ it ∧ a ≠ it ∧ a ≠ e) where
  mem := by simp
  obj := fun i h st b hb => by
    obtain ⟨⟨old, he⟩, ⟨o, ho, hc, hd⟩, _⟩ := st
    have e' : b = e ∨ b = it := by simpa using hb
    rcases e' with z | z
    · rw [z]; exact ⟨_, he, fun v q => nomatch q⟩
    · rw [z]; exact ⟨o, ho, fun v q => by rw [hd] at q; cases q⟩
  keep := fun i h h' st k => let ⟨⟨old, he⟩, hi, hne⟩ := st; ⟨⟨old, k e (by simp) _ he⟩, hi.at fun o q => k it (by simp) o q, hne⟩
  item := by
    intro X hP hw hK hc i pins s σ H E I hf st hg
    subst hP hw hK
    obtain ⟨⟨old, he⟩, hit, hne, hai, hae⟩ := st
    obtain ⟨xs, x, hq, hx⟩ := hg
    obtain ⟨its, rv, p, hz⟩ := I.tuple hq
    obtain ⟨u, hu, ru⟩ := rv.get hx
    have hel : e < s.heap.objs.size := Heap.lt_size he
    have hil : it < s.heap.objs.size := by obtain ⟨_, q, _⟩ := hit; exact Heap.lt_size q
    have hlt : i < its.toArray.size := by
      have := (List.getElem?_eq_some_iff.mp hu).1
      simpa using this
    refine wpAny_pyNext_enum_itemD (draws_tuple (prog := X.prog) (w := X.w) (A := X.A.in1) (show X.A.in1.handled = none from I.ok.hd hc) it a hai its.toArray) he ⟨hit, (show s.heap.IsTuple a its.toArray from p)⟩ hlt hne (by simp [hne, Ne.symm hae]) fun y h' tk hy ho hst' hT hsz hk => ?_
    have hyu : y = u := by
      have h2 : its.toArray[i]? = some u := by simpa using hu
      exact Option.some.inj (hy.symm.trans h2)
    subst hyu
    refine ⟨_, rfl, wpAny_letOwnedTupleGo_enum (s := { s with heap := h', toks := tk + 1 }) ho fun h'' he' sb => ?_⟩
    have hT2 : h''.get? s.heap.objs.size = some { cls := .type "tuple", data := .seq #[.int i tk, y] } := (sb.2 _ (Nat.ne_of_gt hel)).trans hT
    have new : ObjOk X.prog X.w (upd H s.heap.objs.size (.tup [.int (i : Nat), x])) h'' s.heap.objs.size (.tup [.int (i : Nat), x]) :=
      ⟨by show 2 ≤ sizeLine; decide, [.int i tk, y], .cons ⟨_, rfl⟩ (.cons ru .nil), ⟨_, hT2, rfl, _, rfl⟩⟩
    have I1 : Inv X pins σ (upd H s.heap.objs.size (.tup [.int (i : Nat), x])) { s with heap := h'', toks := tk + 1 } :=
      I.turnedNew (ch := [e, it]) (fun b ob hb q => (sb.2 b (fun z => hb (by simp [z]))).trans (hk b ob (fun z => hb (by simp [z])) (fun z => hb (by simp [z])) q)) hf (Nat.le_refl _) new
    refine ⟨.ref s.heap.objs.size, _, I1, rfl, ⟨_, x, rfl, I.hok.fresh (Nat.le_refl _), rfl, fun ys hy => by rw [I.tuple_inj hy hq]; exact hx⟩, ⟨⟨y, ?_⟩, hst'.1.at fun o q => (sb.2 it (Ne.symm hne)).trans q, hne, hai, hae⟩, fun b hb => ?_⟩
    · have e1 : ((i + 1 : Nat) : Int) = (i : Int) + 1 := by omega
      rw [e1]; exact he'
    · have hb' : b < s.heap.objs.size := by
        have e' : b = e ∨ b = it := by simpa using hb
        rcases e' with z | z
        · rw [z]; exact hel
        · rw [z]; exact hil
      rw [upd_ne (Nat.ne_of_lt hb')]
      exact (hf b hb).1
  done := by
    intro X hP hw hK hc i pins s σ H E I hf st hg
    subst hP hw hK
    obtain ⟨⟨old, he⟩, hit, hne, hai, hae⟩ := st
    obtain ⟨xs, hq, hx⟩ := hg
    obtain ⟨its, rv, p, hz⟩ := I.tuple hq
    obtain ⟨f0, f1, f2, f3, f4, f5⟩ := hf it (by simp)
    have hl := rv.length
    have hT : s.TypeIs (.ref e) "enumerate" := ⟨_, he, rfl⟩
    unfold pyNext
    refine wpAny_bind (wpAny_attempt (wpAny_callSpecial?_slot (name := Str.ofString "__next__") hT F.slot_enumerate_next
      (wpAny_call_entry F.slot_enumerate_next hT F.entry_enumerate_next ?_ (F.args_enumerate_next_1 _))))
    show wpAny _ _ (field (.ref e) 2 >>= _) _ _ _
    refine wpAny_bind (wpAny_field he rfl (x := .ref it) rfl ?_)
    refine wpAny_bind (next_tuple_end (I.ok.hd hc) hit (show s.heap.IsTuple a its.toArray from p) (by simp; omega) fun h' x eb hx' => ?_)
    obtain ⟨o, ho, hc'⟩ := hx'
    refine wpAny_bind (wpAny_isInstance (T := "StopIteration") (b := true) ⟨o, ho, hc'⟩ isSubtype_stop ?_)
    exact wpAny_pure ⟨rfl, I.turned (t' := s.toks) (fun b o hb q => eb b o hb q) f0 f1 f3 f4 f5⟩
  self := fun A i s Q E st h => let ⟨⟨_, he⟩, _⟩ := st; wpAny_pyIter_enum he h
def iEnumT (K : PySem.W.Frag) (ta : TA) : TI := fun σ H R => ta σ H fun vs H1 => ∃ a xs, vs = [.ref a] ∧ SqT K H1 a xs ∧ R (IteT K a) H1
theorem pi_enumT {X : Cx} {e : Expr} {ta : TA} {p pos tpos : Pos} {elts : List Expr} {kk : Nat} (hg : Gl X "enumerate") (hm : X.mg "enumerate" = none) (ha : PA X [e] ta) (hs : starEach [e] X.env = [(false, eval e X.env)] := by rfl) :
    PI X (.Tuple elts kk tpos) (.Call (.Name "enumerate" p) [e] [] pos) (iEnumT X.K ta) := by
  refine ⟨fun pins s σ H R I h => ?_⟩
  refine Call_ (ld_blt I hg hm boot_enumerate (PyProof.Rows.callWith_type1 (thn (ha.run pos pins s σ H _ I h) fun us s1 ⟨vs, H1, I1, r1, q1⟩ => ?_) hs rfl))
  obtain ⟨a, xs, ex, hq, q⟩ := q1
  subst ex
  cases r1 with
  | cons r rr =>
    cases rr
    cases r
    obtain ⟨its, rv, p', hz⟩ := I1.tuple hq
    have hp : s1.heap.IsTuple a its.toArray := p'
    have hal : a < s1.heap.objs.size := by obtain ⟨_, q, _⟩ := hp; exact Heap.lt_size q
    refine call_enumerate_tuple hp fun h' he hit hsz hk => wpAny_pyIter_enum he ?_
    have I2 : Inv X pins σ H1 { s1 with heap := h' } := I1.kept (t' := s1.toks) hk
    refine ⟨s1.heap.objs.size + 1, [s1.heap.objs.size + 1, s1.heap.objs.size], _, _, H1, rfl, I2, turn_enumT a (s1.heap.objs.size + 1) s1.heap.objs.size, ⟨⟨.none, he⟩, hit, Nat.succ_ne_self _, Nat.ne_of_lt hal, Nat.ne_of_lt (Nat.lt_succ_of_lt hal)⟩, fun b hb => ?_, q⟩
    have e' : b = s1.heap.objs.size + 1 ∨ b = s1.heap.objs.size := by simpa using hb
    have hle : s1.heap.objs.size ≤ b := by
      rcases e' with z | z
      · rw [z]; exact Nat.le_add_right _ _
      · rw [z]; exact Nat.le_refl _
    exact I1.fpOk hle (I1.hok.fresh hle)
theorem for_enumT {K : PySem.W.Frag} {a : Addr} {xs : List V} {g : TG} {tb : TS} {D : Ends} {σ : L2.St} {H : Hp} (Pv : Nat → L2.St → Hp → Prop) (h0 : Pv 0 σ H) (hl : ∀ i σ H, i ≤ xs.length → Pv i σ H → SqT K H a xs)
    (hs : ∀ i x T σ H, xs[i]? = some x → Pv i σ H → H T = none → g (.ref T) σ (upd H T (.tup [.int (i : Nat), x])) fun σ2 H2 => tb { D with nx := Pv (i + 1), ct := Pv (i + 1), bk := D.nx } σ2 H2) (hd : ∀ σ H, Pv xs.length σ H → D.nx σ H) :
    ∃ W : Nat → Nat → L2.St → Hp → Prop, (∃ m, W 0 m σ H) ∧ ∀ i m σ H, W i m σ H →
      ((IteT K a).stop i H ∧ D.nx σ H) ∨ ((IteT K a).go i H ∧ ∃ N : L2.St → Hp → Prop, (∀ σ' H', N σ' H' → ∃ m', m' < m ∧ W (i + 1) m' σ' H') ∧ ∀ x H', (IteT K a).yld i H x H' → g x σ H' fun σ2 H2 => tb { D with nx := N, ct := N, bk := D.nx } σ2 H2) := by
  refine ⟨fun i m σ H => m = xs.length - i ∧ i ≤ xs.length ∧ Pv i σ H, ⟨xs.length, by simp, Nat.zero_le _, h0⟩, ?_⟩
  rintro i m σ H ⟨rfl, hi, p⟩
  have hL := hl i σ H hi p
  by_cases h : i < xs.length
  · refine .inr ⟨⟨xs, xs[i], hL, List.getElem?_eq_getElem h⟩, Pv (i + 1), fun σ' H' n => ⟨xs.length - (i + 1), by omega, rfl, by omega, n⟩, ?_⟩
    rintro v H' ⟨T, x, rfl, nT, rfl, hx⟩
    exact hs i x T σ H (hx xs hL) p nT
  · have e : i = xs.length := by omega
    subst e
    exact .inl ⟨⟨xs, hL, Nat.le_refl _⟩, hd σ H p⟩
theorem for_enumL {K : PySem.W.Frag} {a : Addr} {xs : List V} {g : TG} {tb : TS} {D : Ends} {σ : L2.St} {H : Hp} (Pv : Nat → L2.St → Hp → Prop) (h0 : Pv 0 σ H) (hl : ∀ i σ H, i ≤ xs.length → Pv i σ H → SqL K H a xs)
    (hs : ∀ i x T σ H, xs[i]? = some x → Pv i σ H → H T = none → g (.ref T) σ (upd H T (.tup [.int (i : Nat), x])) fun σ2 H2 => tb { D with nx := Pv (i + 1), ct := Pv (i + 1), bk := D.nx } σ2 H2) (hd : ∀ σ H, Pv xs.length σ H → D.nx σ H) :
    ∃ W : Nat → Nat → L2.St → Hp → Prop, (∃ m, W 0 m σ H) ∧ ∀ i m σ H, W i m σ H →
      ((Ite K a).stop i H ∧ D.nx σ H) ∨ ((Ite K a).go i H ∧ ∃ N : L2.St → Hp → Prop, (∀ σ' H', N σ' H' → ∃ m', m' < m ∧ W (i + 1) m' σ' H') ∧ ∀ x H', (Ite K a).yld i H x H' → g x σ H' fun σ2 H2 => tb { D with nx := N, ct := N, bk := D.nx } σ2 H2) := by
  refine ⟨fun i m σ H => m = xs.length - i ∧ i ≤ xs.length ∧ Pv i σ H, ⟨xs.length, by simp, Nat.zero_le _, h0⟩, ?_⟩
  rintro i m σ H ⟨rfl, hi, p⟩
  have hL := hl i σ H hi p
  by_cases h : i < xs.length
  · refine .inr ⟨⟨xs, xs[i], hL, List.getElem?_eq_getElem h⟩, Pv (i + 1), fun σ' H' n => ⟨xs.length - (i + 1), by omega, rfl, by omega, n⟩, ?_⟩
    rintro v H' ⟨T, x, rfl, nT, rfl, hx⟩
    exact hs i x T σ H (hx xs hL) p nT
  · have e : i = xs.length := by omega
    subst e
    exact .inl ⟨⟨xs, hL, Nat.le_refl _⟩, hd σ H p⟩
/-! ### () * k -/
theorem tuple_mul0 (l : Addr) (n : Nat) (dd : Option Addr) (sl : Array (Option Value)) (x : Int) (u : Tok) (c0 : (decide (x < -(2 ^ 63)) || decide (x ≥ 2 ^ 63)) = false) :
    Meets (Builtin.«tuple.__mul__» ⟨[.ref l, .int x u], []⟩) (fun _ R s => s.heap.get? l = some { cls := .type "tuple", dict := dd, data := .seq #[] n, slots := sl } ∧ R (.ok (.ret (Value.ref l))) s) :=
  .of_wp fun prog w A R s h => by
    obtain ⟨hp, g, d, tk, os⟩ := s
    obtain ⟨hl, h⟩ := h
    have f1 := AutoSeq1.idx_int
    have c1 : ((#[] : Array Value).isEmpty || x == 1) = true := rfl
    wp_walk using wpAny_loadPart' hl
    repeat (first
      | (refine wpAny_ite_false (decide_eq_false (by rw [c0]; exact Bool.false_ne_true)) ?_; wp_walk using wpAny_loadPart' hl)
      | (refine wpAny_ite_true (decide_eq_true c1) ?_; wp_walk using wpAny_loadPart' hl))
    exact ⟨_, rfl, h⟩
def rRepZ (K : PySem.W.Frag) : R2 := fun x y H Q => ∃ l k xs, x = .ref l ∧ y = .int k ∧ SqT K H l xs ∧ 1 ≤ k ∧ k ≤ 1000 ∧ xs.length ≤ 1000 ∧ ∀ p H', (∀ b o, H b = some o → H' b = some o) → SqT K H' p (List.replicate k.toNat xs).flatten → Q (.ref p) H'
theorem flat_nil {α : Type} (k : Nat) : (List.replicate k ([] : List α)).flatten = [] := by
  induction k with
  | zero => rfl
  | succ k ih => rw [List.replicate_succ, List.flatten_cons, ih]; rfl
theorem op_repZ {X : Cx} : OpR X (binaryOp .Mult) (rRepZ X.K) := by
  intro pins s σ H x y v u Q I rx ry h
  obtain ⟨l, k, xs, rfl, rfl, hT, h1, h2, hz, q⟩ := h
  by_cases hne : xs = []
  · subst hne
    cases rx
    obtain ⟨t, rfl⟩ := ry
    obtain ⟨its, r, ⟨⟨cls, dd, data, sl⟩, ho, hc, n, hd⟩, hs⟩ := I.tuple hT
    simp only at hc hd
    subst hc hd
    cases r
    have c0 : (decide (k < -(2 ^ 63)) || decide (k ≥ 2 ^ 63)) = false := by
      rw [decide_eq_false (by omega), decide_eq_false (by omega)]
      rfl
    refine wpAny_binaryOp_repeat_ref (T := "tuple") (U := "int") (by decide) ⟨_, ho, rfl⟩ (fun s' => typeIs_int s' k t) noFill_tuple_mul F.fills_int_mul F.slot_int_rmul repeat_tuple F.slot_int_index.lookup
      (call_meets F.slot_int_rmul (typeIs_int s k t) F.entry_int_rmul (F.args_int_rmul_2 _ _) (int_rmul_tuple k t l #[] n dd sl)
        ⟨ho, rfl, ⟨_, ho, rfl⟩, call_meets F.slot_tuple_mul ⟨_, ho, rfl⟩ F.entry_tuple_mul (F.args_tuple_mul_2 _ _) (tuple_mul0 l n dd sl k t c0) ⟨ho, ?_⟩⟩)
    exact ⟨.ref l, H, I, rfl, q l H (fun _ _ h => h) (by rw [flat_nil]; exact hT)⟩
  · refine op_repA pins s σ H _ _ v u Q I rx ry ⟨l, k, xs, rfl, rfl, hT, hne, h1, h2, hz, fun e => ?_, fun e p np => ?_⟩
    · refine q l H (fun _ _ h => h) ?_
      subst e
      show SqT X.K H l ([xs]).flatten
      simpa using hT
    · refine q p _ (fun b o e => by rw [upd_ne (ne_of_none e np)]; exact e) (SqT.of upd_same)
end RR

/-! ## generators: if, for, a lock; the first item alone -/
namespace GZ
open PySem PySem.Spec PyProof.Rows L2 GenW
section
variable {M : Model} {A : Around} {R : GenEnd} {Y : Protocol} {n : Nat} {s₀ : Shared} {c : Code} {fs : List Frame} {s : Shared} {env : Env}
  {K : Flow → Sem PySem.Fin} {J : Value → Sem PySem.Fin} {gd : Bool → Bool} {lv : List Value → List Value}
theorem seg_If {test : Expr} {a b : List Stmt} {pos : Pos}
    (h : wpAny M (A.over c fs) (isTrue test env (eval test env)) (fun d s' => if d = true then Seg M A R Y n s₀ c ((execs a env).wrap K J gd lv) fs s' else Seg M A R Y n s₀ c ((execs b env).wrap K J gd lv) fs s')
      (fun x s' => Seg M A R Y n s₀ c (J x) fs s') s) :
    Seg M A R Y n s₀ c ((exec (.If test a b pos) env).wrap K J gd lv) fs s := by
  show Seg M A R Y n s₀ c (.at pos fun _ => (isTrue test env (eval test env) >>= fun d => if d = true then execs a env else execs b env).wrap K J gd lv) fs s
  refine seg_at ?_
  rw [Sem.bind_eq_wrap', Sem.wrap_wrap]
  refine seg_wrap (wpAny_mono h (fun d s' hd => ?_) fun _ _ x => x)
  cases d with
  | true =>
    rw [if_pos rfl] at hd
    exact hd
  | false =>
    rw [if_neg Bool.false_ne_true] at hd
    exact hd
theorem seg_For {target iter : Expr} {body orelse : List Stmt} {pos : Pos}
    (h : wpAny M (A.over c fs) (eval iter env) (fun x s1 => wpAny M (A.over c fs) (pyIter x) (fun it s2 => ∀ p, Seg M A R Y n s₀ (.forLoop target it body orelse env) (M.den (.forLoop target it body orelse env))
      (.ret (fun r => ((match r with | .ok f => (.pure f : Sem Flow) | .error e => .raise e).onRaise (cameBack env)).wrap K J gd lv) none (gd false) (lv []) c p [] :: fs) s2)
        (fun x s' => Seg M A R Y n s₀ c (J x) fs s') s1) (fun x s' => Seg M A R Y n s₀ c (J x) fs s') s)
    (hs : ∀ x, foldedSetIterable iter env x = pure x := by intro _; rfl) :
    Seg M A R Y n s₀ c ((exec (.For target iter body orelse pos) env).wrap K J gd lv) fs s := by
  rw [exec_For]
  show Seg M A R Y n s₀ c (.at pos fun _ => (eval iter env >>= fun v => foldedSetIterable iter env v >>= fun x => standAt iter.pos >>= fun _ => holding [x] (pyIter x) >>= fun it => runOwn (.forLoop target it body orelse env) env).wrap K J gd lv) fs s
  refine seg_at ?_
  rw [Sem.bind_eq_wrap', Sem.wrap_wrap]
  refine seg_wrap (wpAny_mono h (fun x s1 h1 => ?_) fun _ _ x => x)
  simp only [hs]
  show Seg M A R Y n s₀ c (Sem.wrap _ _ _ _ (standAt iter.pos >>= fun _ => holding [x] (pyIter x) >>= fun it => runOwn (.forLoop target it body orelse env) env)) fs s1
  rw [Sem.bind_eq_wrap', Sem.wrap_wrap]
  refine seg_wrap (wpAny_standAt ?_)
  show Seg M A R Y n s₀ c (Sem.wrap _ _ _ _ (holding [x] (pyIter x) >>= fun it => runOwn (.forLoop target it body orelse env) env)) fs s1
  rw [Sem.bind_eq_wrap', Sem.wrap_wrap]
  refine seg_wrap (wpAny_holding (wpAny_mono h1 (fun it s2 h2 => ?_) fun _ _ x => x))
  exact seg_call h2
end
section
variable {prog : Program} {w : World} {A : Around} {R : GenEnd} {Y : Protocol} {n : Nat} {s₀ : Shared} {fs : List Frame} {s : Shared} {env : Env}
theorem seg_forLoop {target : Expr} {it : Value} {body orelse : List Stmt}
    (h : wpAny (model prog w) (A.over (.forLoop target it body orelse env) fs) (pyNext it) (fun r s1 => match r with
        | none => Seg (model prog w) A R Y n s₀ (.forLoop target it body orelse env) (.pure (.again (.block orelse env))) fs s1
        | some v => wpAny (model prog w) (A.over (.forLoop target it body orelse env) fs) (letOwnedTupleGo target it v) (fun _ s2 => wpAny (model prog w) (A.over (.forLoop target it body orelse env) fs) (assign target env v) (fun _ s3 =>
          Seg (model prog w) A R Y n s₀ (.forLoop target it body orelse env) ((execs body env).wrap (fun f => match f with
            | .next | .cont => .pure (.again (.forLoop target it body orelse env))
            | .brk => .pure (.done .next)
            | .ret v => .pure (.done (.ret v))) (fun e => (do noteFrame e env; theTreesLotGoes e : Sem Unit).wrap (fun _ => .raise e) .raise id id) id id) fs s3)
          (fun x s' => Seg (model prog w) A R Y n s₀ (.forLoop target it body orelse env) ((do noteFrame x env; theTreesLotGoes x : Sem Unit).wrap (fun _ => .raise x) .raise id id) fs s') s2)
          (fun x s' => Seg (model prog w) A R Y n s₀ (.forLoop target it body orelse env) ((do noteFrame x env; theTreesLotGoes x : Sem Unit).wrap (fun _ => .raise x) .raise id id) fs s') s1)
      (fun x s' => Seg (model prog w) A R Y n s₀ (.forLoop target it body orelse env) ((do noteFrame x env; theTreesLotGoes x : Sem Unit).wrap (fun _ => .raise x) .raise id id) fs s') s) :
    Seg (model prog w) A R Y n s₀ (.forLoop target it body orelse env) ((model prog w).den (.forLoop target it body orelse env)) fs s := by
  show Seg _ A R Y n s₀ _ ((forTurn target it body orelse env).onRaise (fun x => do noteFrame x env; theTreesLotGoes x)) fs s
  have ex : ∀ x s', Seg (model prog w) A R Y n s₀ (.forLoop target it body orelse env) ((do noteFrame x env; theTreesLotGoes x : Sem Unit).wrap (fun _ => .raise x) .raise id id) fs s' →
      Seg (model prog w) A R Y n s₀ (.forLoop target it body orelse env) ((do noteFrame x env; theTreesLotGoes x : Sem Unit).bind fun _ => .raise x) fs s' := fun x s' hx => by
    rw [Sem.bind_eq_wrap]
    exact hx
  unfold forTurn
  rw [Sem.onRaise_eq_wrap, Sem.bind_eq_wrap', Sem.wrap_wrap]
  refine seg_wrap (wpAny_standAt ?_)
  rw [Sem.bind_eq_wrap', Sem.wrap_wrap]
  refine seg_wrap (wpAny_onRaise (wpAny_mono h (fun r s1 h1 => ?_) fun x s' hx => wpAny_standAt (ex x s' hx)))
  cases r with
  | none => exact h1
  | some v =>
    show Seg _ A R Y n s₀ _ (Sem.wrap _ _ _ _ (letOwnedTupleGo target it v >>= fun _ => assign target env v >>= fun _ => execs body env >>= _)) fs s1
    rw [Sem.bind_eq_wrap', Sem.wrap_wrap]
    refine seg_wrap (wpAny_mono h1 (fun _ s2 h2 => ?_) fun x s' hx => ex x s' hx)
    show Seg _ A R Y n s₀ _ (Sem.wrap _ _ _ _ (assign target env v >>= fun _ => execs body env >>= _)) fs s2
    rw [Sem.bind_eq_wrap', Sem.wrap_wrap]
    refine seg_wrap (wpAny_mono h2 (fun _ s3 h3 => ?_) fun x s' hx => ex x s' hx)
    show Seg _ A R Y n s₀ _ (Sem.wrap _ _ _ _ (execs body env >>= _)) fs s3
    rw [Sem.bind_eq_wrap', Sem.wrap_wrap]
    rw [Sem.wrap_congr (execs body env) _ _ (K' := fun f => match f with
            | .next | .cont => .pure (.again (.forLoop target it body orelse env))
            | .brk => .pure (.done .next)
            | .ret v => .pure (.done (.ret v))) (H' := (fun e => (do noteFrame e env; theTreesLotGoes e : Sem Unit).wrap (fun _ => .raise e) .raise id id))
        (fun f => by cases f <;> rfl)
        (fun e => by first | exact Sem.bind_eq_wrap _ _ | (show (do noteFrame e env; theTreesLotGoes e : Sem Unit).bind (fun _ => .raise e) = _; rw [Sem.bind_eq_wrap]))]
    exact h3
theorem seg_block {orelse : List Stmt} (h : Seg (model prog w) A R Y n s₀ (.block orelse env) ((execs orelse env).wrap (fun f => .pure (.done f)) (fun e => (do noteFrame e env; theTreesLotGoes e : Sem Unit).wrap (fun _ => .raise e) .raise id id) id id) fs s) :
    Seg (model prog w) A R Y n s₀ (.block orelse env) ((model prog w).den (.block orelse env)) fs s := by
  show Seg _ A R Y n s₀ _ ((execs orelse env).onRaise (fun x => do noteFrame x env; theTreesLotGoes x) >>= fun f => pure (.done f)) fs s
  rw [Sem.onRaise_eq_wrap, Sem.bind_eq_wrap', Sem.wrap_wrap]
  rw [Sem.wrap_congr (execs orelse env) _ _ (K' := fun f => (.pure (.done f) : Sem PySem.Fin)) (H' := (fun e => (do noteFrame e env; theTreesLotGoes e : Sem Unit).wrap (fun _ => .raise e) .raise id id)) (fun f => by rfl)
    (fun e => by rw [Sem.bind_eq_wrap, Sem.wrap_wrap]; rfl)]
  exact h
end

/-! ### the family: a consumer's list, or none (the first item alone) -/
structure ZEnds where
  nx : List V → L2.St → Hp → Prop
  rt : List V → VK
  bk : List V → L2.St → Hp → Prop := fun _ _ _ => False
  ct : List V → L2.St → Hp → Prop := fun _ _ _ => False
  yd : V → Hp → Prop := fun _ _ => True
abbrev TZn := ZEnds → List V → L2.St → Hp → Prop
def ZEnds.at (D : ZEnds) (ys : List V) : Ends := { nx := D.nx ys, rt := D.rt ys, bk := D.bk ys, ct := D.ct ys }
def GIz (X : Cx) : Option Addr → List (Addr × Obj) → List V → L2.St → Hp → Shared → Prop
  | some S, ip, ys, σ, H, s => GI X S ip ys σ H s
  | none, ip, ys, σ, H, s => ys = [] ∧ Inv X ip σ H s
theorem GIz.open {X : Cx} {So : Option Addr} {ip : List (Addr × Obj)} {ys : List V} {σ : L2.St} {H : Hp} {s : Shared} (h : GIz X So ip ys σ H s) :
    ∃ base : List (Addr × Obj), (∀ p ∈ base, So = some p.1) ∧ (∀ S, So = some S → ∃ o, (S, o) ∈ base) ∧ Inv X (base ++ ip) σ H s ∧ ∀ ip' σ' H' s', Inv X (base ++ ip') σ' H' s' → GIz X So ip' ys σ' H' s' := by
  cases So with
  | none =>
    refine ⟨[], ?_, ?_, h.2, ?_⟩
    · intro p hp
      cases hp
    · intro S hS
      cases hS
    · intro _ _ _ _ I
      exact ⟨h.1, I⟩
  | some S =>
    obtain ⟨acc, c, r, I⟩ := h
    refine ⟨[(S, lstObj acc c)], ?_, ?_, I, ?_⟩
    · intro p hp
      rw [List.mem_singleton.mp hp]
    · intro S' hS
      cases hS
      exact ⟨_, List.mem_singleton.mpr rfl⟩
    · intro _ _ _ _ I
      exact ⟨acc, c, r, I⟩
def YZ (X : Cx) : Option Addr → (V → Hp → Prop) → Protocol
  | some S, _ => GY X S
  | none, yd => fun _ _ v s _ => ∃ x ip σ H, RelV x v ∧ Inv X ip σ H s ∧ yd x H
def GSPz (X : Cx) (So : Option Addr) (ip : List (Addr × Obj)) (D : ZEnds) (ys : List V) (f : Flow) (s : Shared) : Prop :=
  match f with
  | .next => ∃ σ H, GIz X So ip ys σ H s ∧ D.nx ys σ H
  | .brk => ∃ σ H, GIz X So ip ys σ H s ∧ D.bk ys σ H
  | .cont => ∃ σ H, GIz X So ip ys σ H s ∧ D.ct ys σ H
  | .ret u => ∃ v σ H, GIz X So ip ys σ H s ∧ RelV v u ∧ D.rt ys v H
structure GCz (X : Cx) (So : Option Addr) (ip : List (Addr × Obj)) (A : Around) (c : Code) (fs : List Frame) (gd : Bool → Bool) : Prop where
  pn : ∀ S, So = some S → ∀ p ∈ X.pn, p.1 ≠ S
  ip : ∀ S, So = some S → ∀ p ∈ ip, p.1 ≠ S
  apart : ∀ S, So = some S → Apart X S
  over : A.over c fs = X.A
  split : splitAtGen fs = none
  guard : fs.any Frame.guarded = false
  gd : gd false = false
structure GKz (X : Cx) (So : Option Addr) (ip : List (Addr × Obj)) (A : Around) (R : GenEnd) (c : Code) (fs : List Frame) (K : Flow → Sem PySem.Fin) (J : Value → Sem PySem.Fin) (D : ZEnds) : Prop where
  ok : ∀ (n : Nat) (ys : List V) (s₀ s : Shared) (f : Flow), n + ys.length = sizeLine → GSPz X So ip D ys f s → Seg (model X.prog X.w) A R (YZ X So D.yd) n s₀ c (K f) fs s
  exc : ∀ (n : Nat) (s₀ : Shared) (e : Value) (s : Shared), X.xe e s → Seg (model X.prog X.w) A R (YZ X So D.yd) n s₀ c (J e) fs s
structure GSz (X : Cx) (st : Stmt) (t : TZn) : Prop where
  run : ∀ (A : Around) (So : Option Addr) (ip : List (Addr × Obj)) (R : GenEnd) (n : Nat) (ys : List V) (s₀ : Shared) (c : Code) (fs : List Frame) (K : Flow → Sem PySem.Fin) (J : Value → Sem PySem.Fin) (gd : Bool → Bool) (lv : List Value → List Value) (s : Shared) (σ : L2.St) (H : Hp) (D : ZEnds),
    GCz X So ip A c fs gd → n + ys.length = sizeLine → GKz X So ip A R c fs K J D → GIz X So ip ys σ H s → t D ys σ H →
    Seg (model X.prog X.w) A R (YZ X So D.yd) n s₀ c ((exec st X.env).wrap K J gd lv) fs s
structure GSsz (X : Cx) (st : List Stmt) (t : TZn) : Prop where
  run : ∀ (A : Around) (So : Option Addr) (ip : List (Addr × Obj)) (R : GenEnd) (n : Nat) (ys : List V) (s₀ : Shared) (c : Code) (fs : List Frame) (K : Flow → Sem PySem.Fin) (J : Value → Sem PySem.Fin) (gd : Bool → Bool) (lv : List Value → List Value) (s : Shared) (σ : L2.St) (H : Hp) (D : ZEnds),
    GCz X So ip A c fs gd → n + ys.length = sizeLine → GKz X So ip A R c fs K J D → GIz X So ip ys σ H s → t D ys σ H →
    Seg (model X.prog X.w) A R (YZ X So D.yd) n s₀ c ((execs st X.env).wrap K J gd lv) fs s
section
variable {X : Cx} {st : Stmt} {rest : List Stmt}
def tzPlain (t : TS) : TZn := fun D ys σ H => t (D.at ys) σ H
theorem sp_gspz {So : Option Addr} {base ip : List (Addr × Obj)} {s : Shared} {D : ZEnds} {ys : List V} {f : Flow} (r : ∀ σ' H' s', Inv X (base ++ ip) σ' H' s' → GIz X So ip ys σ' H' s') (h : SP X (base ++ ip) (D.at ys) f s) : GSPz X So ip D ys f s := by
  cases f with
  | next => obtain ⟨σ, H, I, q⟩ := h; exact ⟨σ, H, r _ _ _ I, q⟩
  | brk => obtain ⟨σ, H, I, q⟩ := h; exact ⟨σ, H, r _ _ _ I, q⟩
  | cont => obtain ⟨σ, H, I, q⟩ := h; exact ⟨σ, H, r _ _ _ I, q⟩
  | ret u => obtain ⟨v, σ, H, I, r1, q⟩ := h; exact ⟨v, σ, H, r _ _ _ I, r1, q⟩
theorem gz_ps {t : TS} (h : PS X st t) : GSz X st (tzPlain t) := by
  refine ⟨fun A So ip R n ys s₀ c fs K J gd lv s σ H D g hn k hI ht => ?_⟩
  obtain ⟨base, _, _, I, back⟩ := hI.open
  refine seg_wrap ?_
  rw [g.over]
  exact wpAny_mono (h.run _ s σ H (D.at ys) I ht) (fun f s' hs => k.ok n ys s₀ s' f hn (sp_gspz (back ip) hs)) fun x s' hx => k.exc n s₀ x s' hx
def tz0 : TZn := fun D ys σ H => D.nx ys σ H
theorem gzs_nil : GSsz X [] tz0 := by
  refine ⟨fun A So ip R n ys s₀ c fs K J gd lv s σ H D g hn k hI ht => ?_⟩
  exact seg_execs_nil (k.ok n ys s₀ s .next hn ⟨σ, H, hI, ht⟩)
def tzThen (t u : TZn) : TZn := fun D ys σ H => t { D with nx := fun ys' σ' H' => u D ys' σ' H' } ys σ H
theorem gzs_cons {t u : TZn} (a : GSz X st t) (b : GSsz X rest u) : GSsz X (st :: rest) (tzThen t u) := by
  refine ⟨fun A So ip R n ys s₀ c fs K J gd lv s σ H D g hn k hI ht => ?_⟩
  refine seg_execs_cons ?_
  refine a.run A So ip R n ys s₀ c fs _ J gd lv s σ H { D with nx := fun ys' σ' H' => u D ys' σ' H' } g hn ⟨fun n' ys' s₀' s' f hn' hs => ?_, k.exc⟩ hI ht
  cases f with
  | next =>
    obtain ⟨σ', H', I', q⟩ := hs
    exact b.run A So ip R n' ys' s₀' c fs K J gd lv s' σ' H' D g hn' k I' q
  | brk => exact k.ok n' ys' s₀' s' .brk hn' hs
  | cont => exact k.ok n' ys' s₀' s' .cont hn' hs
  | ret u => exact k.ok n' ys' s₀' s' (.ret u) hn' hs
theorem gzs_one {t : TZn} (a : GSz X st t) : GSsz X [st] t := by
  refine ⟨fun A So ip R n ys s₀ c fs K J gd lv s σ H D g hn k hI ht => ?_⟩
  refine seg_execs_cons ?_
  refine a.run A So ip R n ys s₀ c fs _ J gd lv s σ H D g hn ⟨fun n' ys' s₀' s' f hn' hs => ?_, k.exc⟩ hI ht
  cases f with
  | next => exact seg_execs_nil (k.ok n' ys' s₀' s' .next hn' hs)
  | brk => exact k.ok n' ys' s₀' s' .brk hn' hs
  | cont => exact k.ok n' ys' s₀' s' .cont hn' hs
  | ret u => exact k.ok n' ys' s₀' s' (.ret u) hn' hs
/-- yield e: D.yd is told of the item, too -/
def tzYield (te : TE) : TZn := fun D ys σ H => ys.length < sizeLine ∧ te σ H fun x H1 => (ys = [] → D.yd x H1) ∧ D.nx (ys ++ [x]) σ H1
theorem gz_yield {e : Expr} {yp pos : Pos} {te : TE} (he : PE X e te) (hco : X.env.scope.isCoroutine = false := by rfl) (hi : interactive X.env = false := by rfl) : GSz X (.Expr (.Yield (some e) yp) pos) (tzYield te) := by
  refine ⟨fun A So ip R n ys s₀ c fs K J gd lv s σ H D g hn k hI ht => ?_⟩
  obtain ⟨hlt, ht⟩ := ht
  obtain ⟨n, rfl⟩ : ∃ m, n = m + 1 := ⟨n - 1, by omega⟩
  obtain ⟨base, _, _, I, back⟩ := hI.open
  refine seg_Expr_Yield g.split g.gd g.guard ?_ hco hi
  rw [g.over]
  refine wpAny_mono (he.run _ s σ H _ I ht) (fun v s' hv => ?_) fun x s' hx => k.exc _ s₀ x s' hx
  obtain ⟨x, H1, I1, rv, q0, q⟩ := hv
  have G1 : GIz X So ip ys σ H1 s' := back _ _ _ _ I1
  intro kap hk
  cases So with
  | none =>
    obtain ⟨ey, I2⟩ := G1
    exact ⟨x, ip, σ, H1, rv, I2, q0 ey⟩
  | some S =>
    have G1 : GI X S ip ys σ H1 s' := G1
    refine ⟨ys, x, ip, σ, H1, hn, rv, G1, fun s'' z => hk .none s'' ?_⟩
    refine k.ok n (ys ++ [x]) s'' s'' .next ?_ ⟨σ, H1, (show GI X S ip (ys ++ [x]) σ H1 s'' from G1.woken (g.pn S rfl) (g.ip S rfl) (g.apart S rfl) rv z), q⟩
    rw [List.length_append, List.length_singleton]; omega
/-- if -/
def tzIf (c : TT) (t u : TZn) : TZn := fun D ys σ H => c σ H fun b H1 => if b = true then t D ys σ H1 else u D ys σ H1
theorem gz_if {test : Expr} {a b : List Stmt} {pos : Pos} {tc : TT} {t u : TZn} (hc : PT X test tc) (ha : GSsz X a t) (hb : GSsz X b u) : GSz X (.If test a b pos) (tzIf tc t u) := by
  refine ⟨fun A So ip R n ys s₀ c fs K J gd lv s σ H D g hn k hI ht => ?_⟩
  obtain ⟨base, _, _, I, back⟩ := hI.open
  refine seg_If ?_
  rw [g.over]
  refine wpAny_mono (hc.run _ s σ H _ I ht) (fun d s' hd => ?_) fun x s' hx => k.exc n s₀ x s' hx
  obtain ⟨H1, I1, q⟩ := hd
  have G1 : GIz X So ip ys σ H1 s' := back _ _ _ _ I1
  cases d with
  | true =>
    rw [if_pos rfl] at q ⊢
    exact ha.run A So ip R n ys s₀ c fs K J gd lv s' σ H1 D g hn k G1 q
  | false =>
    rw [if_neg Bool.false_ne_true] at q ⊢
    exact hb.run A So ip R n ys s₀ c fs K J gd lv s' σ H1 D g hn k G1 q
/-- the thing at d is locked meanwhile -/
def tzLock (t : TZn) : TZn := fun D ys σ H => ∃ d u, H d = some u ∧ Mut (some u) ∧ ∀ od, t ⟨fun ys' σ' H' => H' d = some (.frz od u) ∧ D.nx ys' σ' (upd H' d u), fun ys' v H' => H' d = some (.frz od u) ∧ D.rt ys' v (upd H' d u),
  fun ys' σ' H' => H' d = some (.frz od u) ∧ D.bk ys' σ' (upd H' d u), fun ys' σ' H' => H' d = some (.frz od u) ∧ D.ct ys' σ' (upd H' d u), D.yd⟩ ys σ (upd H d (.frz od u))
theorem gz_lock {t : TZn} (h : GSz X st t) : GSz X st (tzLock t) := by
  refine ⟨fun A So ip R n ys s₀ c fs K J gd lv s σ H D g hn k hI ht => ?_⟩
  obtain ⟨d, u, hd, mu, ht⟩ := ht
  obtain ⟨base, _, _, I, back⟩ := hI.open
  obtain ⟨od, I1⟩ := I.lock hd mu
  have un : ∀ {ys' : List V} {σ' : L2.St} {H' : Hp} {s' : Shared}, GIz X So ip ys' σ' H' s' → H' d = some (.frz od u) → GIz X So ip ys' σ' (upd H' d u) s' := fun {ys' σ' H' s'} G e => by
    obtain ⟨base', _, _, I', back'⟩ := G.open
    exact back' _ _ _ _ (I'.unlock e (I.nofrz hd mu))
  refine h.run A So ip R n ys s₀ c fs K J gd lv s σ _ { nx := fun ys' σ' H' => H' d = some (.frz od u) ∧ D.nx ys' σ' (upd H' d u), rt := fun ys' v H' => H' d = some (.frz od u) ∧ D.rt ys' v (upd H' d u), bk := fun ys' σ' H' => H' d = some (.frz od u) ∧ D.bk ys' σ' (upd H' d u), ct := fun ys' σ' H' => H' d = some (.frz od u) ∧ D.ct ys' σ' (upd H' d u), yd := D.yd } g hn ⟨fun n' ys' s₀' s' f hn' hs => ?_, k.exc⟩ (back _ _ _ _ I1) (ht od)
  cases f with
  | next => obtain ⟨σ', H', G, e, q⟩ := hs; exact k.ok n' ys' s₀' s' .next hn' ⟨σ', _, un G e, q⟩
  | brk => obtain ⟨σ', H', G, e, q⟩ := hs; exact k.ok n' ys' s₀' s' .brk hn' ⟨σ', _, un G e, q⟩
  | cont => obtain ⟨σ', H', G, e, q⟩ := hs; exact k.ok n' ys' s₀' s' .cont hn' ⟨σ', _, un G e, q⟩
  | ret v => obtain ⟨x, σ', H', G, r, e, q⟩ := hs; exact k.ok n' ys' s₀' s' (.ret v) hn' ⟨x, σ', _, un G e, r, q⟩
/-! ### for -/
def tzFor (wi : TI) (g : TG) (tb : TZn) : TZn := fun D ys σ H => wi σ H fun J H1 => ∃ W : Nat → Nat → List V → L2.St → Hp → Prop, (∃ m, W 0 m ys σ H1) ∧ ∀ i m ys σ H, W i m ys σ H →
  (J.stop i H ∧ D.nx ys σ H) ∨ (J.go i H ∧ ∃ N : List V → L2.St → Hp → Prop, (∀ ys' σ' H', N ys' σ' H' → ∃ m', m' < m ∧ W (i + 1) m' ys' σ' H') ∧ ∀ x H', J.yld i H x H' → g x σ H' fun σ2 H2 => tb { D with nx := N, ct := N, bk := D.nx } ys σ2 H2)
theorem gcz_loop {So : Option Addr} {ip : List (Addr × Obj)} {A : Around} {c c' : Code} {fs : List Frame} {gd : Bool → Bool} {k : Result → Sem PySem.Fin} {l kp : List Value} {p : Pos} (g : GCz X So ip A c fs gd) (hw : c'.weight = 0) (hu : c'.cUnits = 0) :
    GCz X So ip A c' (.ret k none (gd false) l c p kp :: fs) id where
  pn := g.pn
  ip := g.ip
  apart := g.apart
  over := (over_loop hw hu).trans g.over
  split := by
    show (splitAtGen fs).map _ = none
    rw [g.split]; rfl
  guard := by
    show (gd false || fs.any Frame.guarded) = false
    rw [g.gd, g.guard]; rfl
  gd := rfl
theorem GCz.more {So : Option Addr} {ip ip' : List (Addr × Obj)} {A : Around} {c : Code} {fs : List Frame} {gd : Bool → Bool} (g : GCz X So ip A c fs gd) (h : ∀ S, So = some S → ∀ p ∈ ip', p.1 ≠ S) : GCz X So ip' A c fs gd :=
  ⟨g.pn, h, g.apart, g.over, g.split, g.guard, g.gd⟩
theorem seg_cameBackz {So : Option Addr} {ip : List (Addr × Obj)} {A : Around} {R : GenEnd} {c : Code} {fs : List Frame} {K : Flow → Sem PySem.Fin} {J : Value → Sem PySem.Fin} {gd : Bool → Bool} {lv : List Value → List Value} {D : ZEnds} {n : Nat} {s₀ s : Shared} {e : Value}
    (g : GCz X So ip A c fs gd) (k : GKz X So ip A R c fs K J D) (h : cameBackBy (model X.prog X.w) X.A X.env X.xe e s) :
    Seg (model X.prog X.w) A R (YZ X So D.yd) n s₀ c (((Sem.raise e : Sem Flow).onRaise (cameBack X.env)).wrap K J gd lv) fs s := by
  show Seg _ _ _ _ _ _ _ (((cameBack X.env e).bind fun _ => (Sem.raise e : Sem Flow)).wrap K J gd lv) _ _
  rw [Sem.bind_eq_wrap, Sem.wrap_wrap]
  refine seg_wrap ?_
  rw [g.over]
  exact wpAny_mono h (fun _ s' hx => k.exc n s₀ e s' hx) fun x s' hx => k.exc n s₀ x s' hx
theorem gz_for {tg iter : Expr} {body : List Stmt} {wi : TI} {g : TG} {tb : TZn} {pos : Pos} (hp : PassesOwn (model X.prog X.w) X.A X.env X.xe) (hc : X.calm = true) (hi : PI X tg iter wi) (hg : PG X tg g) (hb : GSsz X body tb)
    (hs : ∀ x, foldedSetIterable iter X.env x = pure x := by intro _; rfl) : GSz X (.For tg iter body [] pos) (tzFor wi g tb) := by
  refine ⟨fun A So ip R n ys s₀ c fs K J gd lv s σ H D gc hn k hI ht => ?_⟩
  obtain ⟨base, hbs, hbo, I, back⟩ := hI.open
  refine seg_For ?_ hs
  rw [gc.over]
  refine wpAny_mono (hi.run _ s σ H _ I ht) (fun v s1 h1 => ?_) fun x s' hx => k.exc n s₀ x s' hx
  refine wpAny_mono h1 (fun itv s2 h2 => ?_) fun x s' hx => k.exc n s₀ x s' hx
  intro p
  obtain ⟨it, fp, tn, Jt, H2, e, I2, T, st2, f2, W, ⟨m0, w0⟩, turn⟩ := h2
  subst e
  have stat : ∀ {base' : List (Addr × Obj)} {H' : Hp}, (∀ p ∈ base', So = some p.1) → (∀ b ∈ fp, H' b = none) → ∀ b ∈ fp, FpOk X (base' ++ ip) H' b := fun {base' H'} hb' hn b hb => by
    obtain ⟨q1, q2, q3, q4, q5, q6⟩ := f2 b hb
    refine ⟨hn b hb, q2, q3, q4, q5, fun p hp => ?_⟩
    rcases List.mem_append.mp hp with hp | hp
    · exact q6 p (List.mem_append_left _ hp)
    · rcases List.mem_append.mp hp with hp | hp
      · obtain ⟨o, ho⟩ := hbo p.1 (hb' p hp)
        exact q6 (p.1, o) (List.mem_append_right _ (List.mem_append_left _ ho))
      · exact q6 p (List.mem_append_right _ (List.mem_append_right _ hp))
  have notS : ∀ S, So = some S → ∀ b ∈ fp, b ≠ S := fun S hS b hb z => by
    obtain ⟨o, ho⟩ := hbo S hS
    obtain ⟨_, _, _, _, _, q6⟩ := f2 b hb
    exact q6 (S, o) (List.mem_append_right _ (List.mem_append_left _ ho)) z.symm
  have gl := fun (kk : Result → Sem PySem.Fin) => gcz_loop (k := kk) (c' := .forLoop tg (.ref it) body [] X.env) (l := lv []) (kp := []) (p := p) gc rfl rfl
  have loop : ∀ (m i n : Nat) (ys : List V) (s₀ s : Shared) (σ : L2.St) (H : Hp), n + ys.length = sizeLine → W i m ys σ H → GIz X So ip ys σ H s → tn i s.heap → (∀ b ∈ fp, H b = none) →
      Seg (model X.prog X.w) A R (YZ X So D.yd) n s₀ (.forLoop tg (.ref it) body [] X.env) ((model X.prog X.w).den (.forLoop tg (.ref it) body [] X.env))
        (.ret (fun r => ((match r with | .ok f => (.pure f : Sem Flow) | .error e => .raise e).onRaise (cameBack X.env)).wrap K J gd lv) none (gd false) (lv []) c p [] :: fs) s := by
    intro m
    induction m using Nat.strongRecOn with
    | ind m ih =>
      intro i n ys s₀ s3 σ3 H3 hn w3 hI3 st3 fr3
      have ee : ∀ (n : Nat) (s₀ : Shared) (x : Value) (s' : Shared), X.xe x s' → Seg (model X.prog X.w) A R (YZ X So D.yd) n s₀ (.forLoop tg (.ref it) body [] X.env)
          ((do noteFrame x X.env; theTreesLotGoes x : Sem Unit).wrap (fun _ => .raise x) .raise id id)
          (.ret (fun r => ((match r with | .ok f => (.pure f : Sem Flow) | .error e => .raise e).onRaise (cameBack X.env)).wrap K J gd lv) none (gd false) (lv []) c p [] :: fs) s' := fun n s₀ x s' hx => by
        refine seg_wrap ?_
        rw [(gl _).over]
        refine wpAny_bind (wpAny_mono (hp x s' hx) (fun _ s'' hcb => wpAny_theTreesLotGoes ?_) fun y s'' hcb => ?_)
        · exact seg_leaf (.error x) (seg_cameBackz gc k hcb)
        · exact seg_leaf (.error y) (seg_cameBackz gc k hcb)
      obtain ⟨base3, hbs3, hbo3, I3, back3⟩ := hI3.open
      refine seg_forLoop ?_
      rw [(gl _).over]
      rcases turn i m ys σ3 H3 w3 with ⟨stop, qn⟩ | ⟨go, N, hN, step⟩
      · refine wpAny_mono (T.done X rfl rfl rfl hc i _ s3 σ3 H3 X.xe I3 (stat hbs3 fr3) st3 stop) (fun r s4 ⟨hr, I4⟩ => ?_) fun x s' hx => ee n s₀ x s' hx
        subst hr
        refine seg_again rfl (seg_block (seg_execs_nil ?_))
        exact seg_leaf (.ok .next) (k.ok n ys s₀ s4 .next hn ⟨σ3, H3, back3 _ _ _ _ I4, qn⟩)
      · refine wpAny_mono (T.item X rfl rfl rfl hc i _ s3 σ3 H3 X.xe I3 (stat hbs3 fr3) st3 go) (fun r s4 ⟨u, hr, h4⟩ => ?_) fun x s' hx => ee n s₀ x s' hx
        subst hr
        refine wpAny_mono h4 (fun _ s5 ⟨x, H5, I5, r5, y5, st5, fr5⟩ => ?_) fun x s' hx => ee n s₀ x s' hx
        have I5' := I5.pinned (stat hbs3 fr5) (T.obj _ _ st5)
        refine wpAny_mono (hg.run _ s5 σ3 H5 x u _ I5' r5 (step x H5 y5)) (fun _ s6 ⟨σ6, H6, I6, q6⟩ => ?_) fun x s' hx => ee n s₀ x s' hx
        rw [List.append_assoc] at I6
        have G6 := back3 _ _ _ _ I6
        have gc6 := (gl (fun r => ((match r with | .ok f => (.pure f : Sem Flow) | .error e => .raise e).onRaise (cameBack X.env)).wrap K J gd lv)).more (ip' := ip ++ pinsAt fp s5.heap) (fun S hS p hp => by
          rcases List.mem_append.mp hp with hp | hp
          · exact gc.ip S hS p hp
          · exact notS S hS p.1 (of_pinsAt hp).1)
        refine hb.run A So _ R n ys s₀ _ _ _ _ id id s6 σ6 H6 { D with nx := N, ct := N, bk := D.nx } gc6 hn ⟨fun n' ys' s₀' s7 f hn' hs7 => ?_, fun n' s₀' x s7 hx => ee n' s₀' x s7 hx⟩ G6 q6
        have un : ∀ {ys7 : List V} {σ7 : L2.St} {H7 : Hp}, GIz X So (ip ++ pinsAt fp s5.heap) ys7 σ7 H7 s7 → GIz X So ip ys7 σ7 H7 s7 ∧ tn (i + 1) s7.heap ∧ ∀ b ∈ fp, H7 b = none := fun {ys7 σ7 H7} G7 => by
          obtain ⟨base7, _, _, I7, back7⟩ := G7.open
          rw [← List.append_assoc] at I7
          refine ⟨back7 _ _ _ _ I7.unpinned, T.keep _ _ _ st5 fun b hb o e => (I7.pin (b, o) (List.mem_append_right _ (List.mem_append_right _ (mem_pinsAt hb e)))).1, fun b hb => ?_⟩
          obtain ⟨o, e, d⟩ := T.obj _ _ st5 b hb
          exact (I7.pin (b, o) (List.mem_append_right _ (List.mem_append_right _ (mem_pinsAt hb e)))).2.1
        cases f with
        | next =>
          obtain ⟨σ7, H7, G7, n7⟩ := hs7
          obtain ⟨m', hm, w7⟩ := hN ys' σ7 H7 n7
          obtain ⟨u1, u2, u3⟩ := un G7
          exact seg_again rfl (ih m' hm (i + 1) n' ys' s₀' s7 σ7 H7 hn' w7 u1 u2 u3)
        | cont =>
          obtain ⟨σ7, H7, G7, n7⟩ := hs7
          obtain ⟨m', hm, w7⟩ := hN ys' σ7 H7 n7
          obtain ⟨u1, u2, u3⟩ := un G7
          exact seg_again rfl (ih m' hm (i + 1) n' ys' s₀' s7 σ7 H7 hn' w7 u1 u2 u3)
        | brk =>
          obtain ⟨σ7, H7, G7, q7⟩ := hs7
          exact seg_leaf (.ok .next) (k.ok n' ys' s₀' s7 .next hn' ⟨σ7, H7, (un G7).1, q7⟩)
        | ret v =>
          obtain ⟨x7, σ7, H7, G7, r7, q7⟩ := hs7
          exact seg_leaf (.ok (.ret v)) (k.ok n' ys' s₀' s7 (.ret v) hn' ⟨x7, σ7, H7, (un G7).1, r7, q7⟩)
  exact loop m0 0 n ys s₀ s2 σ H2 hn w0 (back _ _ _ _ I2) st2 fun b hb => (f2 b hb).1
/-! ### as the library's generator bodies are -/
theorem gss_of {sts : List Stmt} {t : TZn} (h : GSsz X sts t) : GSs X sts (fun D ys σ H => t { nx := D.nx, rt := D.rt, bk := D.bk, ct := D.ct } ys σ H) := by
  refine ⟨fun A S ip R n ys s₀ c fs K J gd lv s σ H D g hn k hI ht => ?_⟩
  refine h.run A (some S) ip R n ys s₀ c fs K J gd lv s σ H { nx := D.nx, rt := D.rt, bk := D.bk, ct := D.ct } ⟨?_, ?_, ?_, g.over, g.split, g.guard, g.gd⟩ hn ⟨fun n' ys' s₀' s' f hn' hs => ?_, k.exc⟩ hI ht
  · intro S' hS
    cases hS
    exact g.pn
  · intro S' hS
    cases hS
    exact g.ip
  · intro S' hS
    cases hS
    exact g.apart
  · refine k.ok n' ys' s₀' s' f hn' ?_
    cases f with
    | next => exact hs
    | brk => exact hs
    | cont => exact hs
    | ret u => exact hs
end
/-! ### the first item alone -/
def RF (P : Program) (w : World) (outer : List Env) (H : Hp) (s : Shared) (Qe : Hp → Prop) : GenEnd := fun _ _ r s1 =>
  ((r = .ok (.ret .none) ∨ r = .ok .next) ∧ ∃ H', s1.os = s.os ∧ AllBare s1.gens ∧ Un (frs outer) [] H H' s.heap s1.heap ∧ HOk P w H' s1.heap ∧ Qe H') ∨ ∃ e, r = .error e ∧ (fun (_ : Value) (_ : Shared) => False) e s1
def YF (P : Program) (w : World) (outer : List Env) (H : Hp) (s : Shared) (Yd : V → Hp → Prop) : Protocol := fun _ _ v s1 _ =>
  ∃ x H', s1.os = s.os ∧ AllBare s1.gens ∧ Un (frs outer) [] H H' s.heap s1.heap ∧ HOk P w H' s1.heap ∧ RelV x v ∧ Yd x H'
def GMadeF (P : Program) (w : World) (k : Nat) (outer : List Env) (H : Hp) (s : Shared) (Yd : V → Hp → Prop) (Qe : Hp → Prop) (u : Value) (s' : Shared) : Prop :=
  ∃ (a : Addr) (g : Nat) (c : Code), u = .ref a ∧ s'.heap.IsGen a g ∧ s'.gens[g]? = some (.fresh c) ∧ s'.os = s.os ∧ AllBare s'.gens ∧ s'.heap.NoLimit ∧ (∀ b o, s.heap.get? b = some o → s'.heap.get? b = some o) ∧
    ∀ (A : Around) (s2 : Shared), Room k A → A.frames = some outer → (∀ b o, s'.heap.get? b = some o → s2.heap.get? b = some o) → s2.os = s.os → AllBare s2.gens →
      Seg (model P w) A (RF P w outer H s Qe) (YF P w outer H s Yd) sizeLine s2 c ((model P w).den c) [] s2
/-- the promise: what is told of the first item, what of the end if there is none -/
abbrev SpF := List V → Hp → (V → Hp → Prop) → (Hp → Prop) → Prop
structure GFnF (P : Program) (w : World) (K : PySem.W.Frag) (mg : Str → Option Value) (base : Heap) (k : Nat) (f : Addr) (fd : FuncData) (ps : List Str) (sp : SpF) : Prop where
  len : ∀ vs H Yd Qe, sp vs H Yd Qe → vs.length = ps.length
  run : ∀ (A : Around) (outer : List Env) (s : Shared) (H : Hp) (args : Args) (us : List Value) (vs : List V) (Yd : V → Hp → Prop) (Qe : Hp → Prop), Room k A → Env0 P w K mg base A outer s H → BindsTo s fd args (ps.zip us) → Vals vs us → sp vs H Yd Qe →
    codeAny (model P w) A (.call (.ref f) args) (fun r s' => match r with | .ok (.ret u) => GMadeF P w k outer H s Yd Qe u s' | _ => False) s
theorem gfnF_of {P : Program} {w : World} {K : PySem.W.Frag} {mg : Str → Option Value} {base : Heap} {k : Nat} {f : Addr} {name qual : Str} {params : Arguments} {body : List Stmt} {scope : Scope} {dV kV doc pm cdv ct oc : Value} {an od : Option Addr}
    {osl : Array (Option Value)} {N ps : List Str} {sp : SpF} (lk : K.lookup f = some ⟨oc, od, .func (PySem.W.fnOf name qual params body scope dV kV doc pm an cdv ct), osl⟩) (hcd : PySem.W.codeIn K cdv qual = true) (S : GScope N ps scope)
    (len : ∀ vs H Yd Qe, sp vs H Yd Qe → vs.length = ps.length)
    (hbody : ∀ (A : Around) (outer : List Env) (s : Shared) (H : Hp) (vs : List V) (Yd : V → Hp → Prop) (Qe : Hp → Prop), Room k (A.deeper (envOfC qual scope s.heap.objs.size f cdv)) → sp vs H Yd Qe →
      ∃ t, GSsz (gcxOf P w K mg base N qual scope f cdv A outer s H (fun _ _ _ => False) []) body t ∧ t { nx := fun ys _ H' => ys = [] → Qe H', rt := fun ys v H' => v = .non ∧ (ys = [] → Qe H'), yd := Yd } [] (start N vs) H) :
    GFnF P w K mg base (k + 1) f (PySem.W.fnOf name qual params body scope dV kV doc pm an cdv ct) ps sp := by
  refine ⟨len, fun A outer s H args us vs Yd Qe hr e0 hb r hsp => ?_⟩
  have hl := len _ _ _ _ hsp
  have KX : K.In s.heap := e0.mod.kin.keeps fun b o e => (e0.bs b o e).1
  have lim : s.heap.NoLimit := e0.mod.nolimit.keeps fun b o e => (e0.bs b o e).1
  have hkind : ∀ y ∈ ps.zip us, scope.names.lookup y.1 = some .local ∨ (scope.names.lookup y.1 = some .cell ∧ ((cellsFrom (s.heap.objs.size + 1) scope.names []).lookup y.1).isSome = true) := fun ⟨n, v⟩ hy => by
    rcases S.par n (List.of_mem_zip hy).1 with q | q
    · exact .inl q
    · exact .inr ⟨q, PySem.W.cellsFrom_some _ _ _ (.inl q)⟩
  refine codeAny_call_generator hr.depth (KX _ _ lk) rfl S.co S.gen rfl (PySem.W.codeRec_of KX hcd) (hb _ _ _ _ ?_)
  refine wpAny_newFunctionEnv_cells S.kind hkind fun env he s1 x => ?_
  subst he
  have lim1 : s1.heap.NoLimit := lim.keeps x.toInCall.keep
  refine ⟨lim1, ?_⟩
  obtain ⟨h1, tk, es1, hk1⟩ := x.done
  have os1 : s1.os = s.os := by rw [es1]
  have gen1 : s1.gens = s.gens := by rw [es1]
  have kp1 : ∀ b o, s.heap.get? b = some o → s1.heap.get? b = some o := x.toInCall.keep
  have main : ∀ (go : Obj) (nm qn : Value) (tk2 : Nat), go.cls = .type "generator" → go.data = .fields #[.int s1.gens.size 0, nm, qn] → go.slots = #[] → (∀ h : Heap, (h.push go).get? h.objs.size = some go) →
      GMadeF P w (k + 1) outer H s Yd Qe (.ref s1.heap.objs.size) { s1 with gens := s1.gens.push (.fresh (.func body (envOfC qual scope s.heap.objs.size f cdv))), toks := tk2, heap := s1.heap.push go } := by
    intro go nm qn tk2 hgc hgd0 hgs hgp
    refine ⟨s1.heap.objs.size, s1.gens.size, _, rfl, ⟨go, nm, qn, hgp _, hgc, hgd0, hgs⟩, Array.getElem?_push_size .., os1, ?_, lim1.keeps fun b o e => Heap.get?_push_of_some _ e, fun b o e => Heap.get?_push_of_some _ (kp1 b o e), ?_⟩
    · exact AllBare.push (by rw [gen1]; exact e0.bare) rfl
    intro Aw s2 hrw hfr hk2 hos hba
    have e0w : Env0 P w K mg base Aw outer s H := ⟨hfr, e0.mod, e0.bs, e0.bsz, e0.funs, e0.frf, e0.hok, e0.bare⟩
    obtain ⟨t, ht, hq⟩ := hbody Aw outer s H vs Yd Qe (hrw.deeper _) hsp
    have I1 : Inv (gcxOf P w K mg base N qual scope f cdv Aw outer s H (fun _ _ _ => False) []) [] (start N vs) H s1 := inv_startG S hrw.hd e0w hl r x
    have kp2 : ∀ b o, s1.heap.get? b = some o → s2.heap.get? b = some o := fun b o e => hk2 b o (Heap.get?_push_of_some _ e)
    have I2 : Inv (gcxOf P w K mg base N qual scope f cdv Aw outer s H (fun _ _ _ => False) []) [] (start N vs) H s2 :=
      I1.call' (ch := []) (hos.trans os1.symm) (Un.kept kp2) (I1.hok.kept kp2) hba fun b z => by simp at z
    refine seg_func ?_
    refine seg_imp (R := RF P w outer H s Qe) (Y := YZ (gcxOf P w K mg base N qual scope f cdv Aw outer s H (fun _ _ _ => False) []) none Yd) (fun n s₀ r s1' hR => hR) (fun n s₀ v s1' kap kap' hkk hY => ?_) sizeLine ?_
    · obtain ⟨xx, ip, σ', H', rv, J, hy⟩ := hY
      exact ⟨xx, H', J.os, J.bare, J.base, J.hok, rv, hy⟩
    · refine ht.run Aw none [] _ sizeLine [] s2 _ [] _ _ id id s2 (start N vs) H { nx := fun ys _ H' => ys = [] → Qe H', rt := fun ys v H' => v = .non ∧ (ys = [] → Qe H'), yd := Yd }
        ⟨?_, ?_, ?_, over_func, rfl, rfl, rfl⟩ (Nat.add_zero _) ⟨fun n ys s₀ s' fl hn hs => ?_, fun n s₀ e s' hx => ?_⟩ ⟨rfl, I2⟩ hq
      · intro S' hS
        cases hS
      · intro S' hS
        cases hS
      · intro S' hS
        cases hS
      · cases fl with
        | next =>
          obtain ⟨σ', H', ⟨ey, J⟩, hQ⟩ := hs
          exact seg_end (.ok (.ret .none)) (.inl ⟨.inl rfl, H', J.os, J.bare, J.base, J.hok, hQ ey⟩)
        | brk => obtain ⟨_, _, _, q⟩ := hs; exact False.elim q
        | cont => obtain ⟨_, _, _, q⟩ := hs; exact False.elim q
        | ret u =>
          obtain ⟨v, σ', H', ⟨ey, J⟩, rv, ev, hQ⟩ := hs
          subst ev
          have eu : u = Value.none := rv
          subst eu
          exact seg_end (.ok (.ret .none)) (.inl ⟨.inl rfl, H', J.os, J.bare, J.base, J.hok, hQ ey⟩)
      · refine seg_wrap ?_
        rw [over_func]
        refine wpAny_mono (show wpAny (model P w) (Aw.deeper (envOfC qual scope s.heap.objs.size f cdv)) (leaving (envOfC qual scope s.heap.objs.size f cdv) e) (fun _ s'' => CX P w outer H s (fun _ _ _ => False) e s'' ∧ ∀ p ∈ ([] : List (Addr × Obj)), s''.heap.get? p.1 = some p.2) (fun _ _ => False) s' from hx) (fun _ s'' q => ?_) fun _ s'' q => q.elim
        obtain ⟨_, _, _, _, _, _, _, _, _, _, _, _, z⟩ := q.1
        exact z.elim
  exact main _ _ _ _ rfl rfl rfl fun h => Heap.get?_push_size _ rfl
/-- an expression whose value is such a generator -/
abbrev TGenF := L2.St → Hp → (V → Hp → Prop) → (Hp → Prop) → Prop
structure PGenF (X : Cx) (k : Nat) (e : Expr) (tg : TGenF) : Prop where
  run : ∀ (pins : List (Addr × Obj)) (s : Shared) (σ : L2.St) (H : Hp) (Yd : V → Hp → Prop) (Qe : Hp → Prop), Inv X pins σ H s → tg σ H Yd Qe → wpAny (model X.prog X.w) X.A (eval e X.env)
    (fun u s' => ∃ H1 sc, Inv X pins σ H1 sc ∧ GMadeF X.prog X.w k X.stack H1 sc Yd Qe u s') X.xe s
section
variable {X : Cx} {k : Nat} {f : Addr} {fd : FuncData} {ps : List Str} {sp : SpF} {x : Str} {p pos' pos : Pos}
def tCallF (sp : SpF) (t : TA) : TGenF := fun σ H Yd Qe => t σ H fun vs H1 => sp vs H1 Yd Qe
theorem pgenF_call {e : Expr} {es : List Expr} {t : TA} (F : GFnF X.prog X.w X.K X.mg X.base k f fd ps sp) (hr : Room k X.A) (hg : Gl X x) (hm : X.mg x = some (.ref f)) (hk : PySem.W.keepIn X.K (.ref f) = true) (hb : Binds X.K fd ps [])
    (ha : PA X (e :: es) t) (hdb : (x == ("__debug__" : Str)) = false := by decide) (he : starEach (e :: es) X.env = (false, eval e X.env) :: starEach es X.env := by rfl) (hpl : (backTo pos' (starEach es X.env)).any (·.1) = false := by rfl) :
    PGenF X k (.Call (.Name x p) (e :: es) [] pos') (tCallF sp t) := by
  refine ⟨fun pins s σ H Yd Qe I h => ?_⟩
  refine wpAny_Call_Name_kw (ld_glob I hg hm ?_ hdb)
  refine PySem.W.callWith_K (h₀ := X.base) I.ok.mod.kin hk (thn (ha.run pos' pins s σ H _ I h) fun us s1 ⟨vs, H1, I1, r, q⟩ => ⟨I1.kIn, ?_⟩) he hpl
  have hl : us.length = ps.length := by rw [← r.length]; exact F.len _ _ _ _ q
  have b := hb s1 us I1.kIn (by rw [List.append_nil]; exact hl)
  rw [List.append_nil] at b
  refine wpAny_call (codeAny_mono (F.run X.A X.stack s1 H1 ⟨us, []⟩ us vs Yd Qe hr I1.env0 b r q) fun r s' hq => ?_)
  cases r with
  | error e => exact False.elim hq
  | ok fl =>
    cases fl with
    | ret u => exact ⟨H1, s1, I1, hq⟩
    | next => exact False.elim hq
    | brk => exact False.elim hq
    | cont => exact False.elim hq
def tFor1 (tg : TGenF) (g : TG) (tb : TS) : TS := fun D σ H => tg σ H (fun x H1 => g x σ H1 fun σ2 H2 => tb { D with nx := fun _ _ => False, ct := fun _ _ => False, bk := D.nx } σ2 H2) fun H1 => D.nx σ H1
theorem ps_for1 {iter target : Expr} {body : List Stmt} {tg : TGenF} {g : TG} {tb : TS} (hp : PassesOwn (model X.prog X.w) X.A X.env X.xe) (hc : X.calm = true) (h : PGenF X k iter tg) (hr : Room (k + 3) X.A) (hg : PG X target g) (hb : PSs X body tb)
    (hs : ∀ x, foldedSetIterable iter X.env x = pure x := by intro _; rfl) (ht : ∀ it v, letOwnedTupleGo target it v = pure () := by intro _ _; rfl) : PS X (.For target iter body [] pos) (tFor1 tg g tb) := by
  refine ⟨fun pins s σ H D I hw => ?_⟩
  refine wpAny_For (thn (h.run pins s σ H _ _ I hw) fun u s1 ⟨H1, sc, I1, hG⟩ => ?_) hs
  obtain ⟨a, g', c, rfl, hgen, hgs, hos, hba, hlim, hkp, wake⟩ := hG
  refine wpAny_pyIter_gen hgen ?_
  refine codeAny_forLoop_any (fun n s' => n = 0 ∧ s' = s1) ?_ 0 ⟨rfl, rfl⟩
  rintro n s3 ⟨rfl, rfl⟩
  have hr1 : Room k X.A.in1 := ⟨hr.hd, by have := hr.dp; show X.A.depth + 3 * k + 5 < _; omega, by have := hr.un; show X.A.units + 1 + 16 * k + 200 < _; omega⟩
  have fin : ∀ (s1 : Shared) (gg : Array GenState) (h' : Heap) (H' : Hp), s1.os = sc.os → AllBare gg → Un (frs X.stack) [] H1 H' sc.heap h' → HOk X.prog X.w H' h' → Inv X pins σ H' { s1 with gens := gg, heap := h' } := fun s1 gg h' H' e1 e2 e3 e4 =>
    I1.call' (ch := []) e1 e3 e4 e2 fun b z => by simp at z
  refine wpAny_passesOwn hp ?_
  refine next_genG (Er := fun _ _ => False) (F := fun _ _ s1 => ∃ H', s1.os = sc.os ∧ AllBare s1.gens ∧ Un (frs X.stack) [] H1 H' sc.heap s1.heap ∧ HOk X.prog X.w H' s1.heap ∧ _) (Y := YF X.prog X.w X.stack H1 sc _) (n := sizeLine) hr.hd hlim (by have := hr.dp; show X.A.depth < _; omega) hgen hgs
    ⟨rfl, wake X.A.in1 (s3.setGen g' .running) hr1 I1.ok.frames (fun _ _ e => e) hos (allBare_setGen hba rfl)⟩ (fun v s4 gs' hbare hv => ?_) (fun s4 hp4 h' hk => ?_) fun e s4 he => he.elim
  · obtain ⟨xx, H', q1, q2, q3, q4, rv, hy⟩ := hv
    have I4 : Inv X pins σ H' (s4.setGen g' gs') := fin s4 _ s4.heap H' q1 (allBare_setGen q2 hbare) q3 q4
    refine wpAny_of_eq (ht _ v) ?_
    refine wpAny_passesOwn hp (thn (hg.run _ _ σ H' xx v _ I4 rv hy) fun _ s6 ⟨σ6, H6, I6, q6⟩ => ?_)
    refine wpAny_passesOwn hp (thn (hb.run _ s6 σ6 H6 _ I6 q6) fun f s7 q7 => ?_)
    cases f with
    | next => obtain ⟨_, _, _, q⟩ := q7; exact False.elim q
    | cont => obtain ⟨_, _, _, q⟩ := q7; exact False.elim q
    | brk => obtain ⟨σ7, H7, I7, q7⟩ := q7; exact ⟨σ7, H7, I7, q7⟩
    | ret v => obtain ⟨x7, σ7, H7, I7, r7, q7⟩ := q7; exact ⟨x7, σ7, H7, I7, r7, q7⟩
  · obtain ⟨H', q1, q2, q3, q4, hq⟩ := hp4
    exact wpAny_execs_nil ⟨σ, H', fin s4 _ h' H' q1 (allBare_setGen q2 rfl) (q3.trans (Un.kept hk)) (q4.kept hk), hq⟩
end
/-! ### by a def of the text -/
section
variable {P : Program} {w : World} {K : PySem.W.Frag} {mg : Str → Option Value} {base : Heap}
theorem okF {x qual : Str} {st : Stmt} {f : Addr} {fd : FuncData} {N ps : List Str} {k : Nat} {sp : SpF} (F : Fun K x qual st f fd) (S : GScope N ps (defScope st)) (len : ∀ vs H Yd Qe, sp vs H Yd Qe → vs.length = ps.length)
    (hbody : ∀ (cdv : Value) (A : Around) (outer : List Env) (s : Shared) (H : Hp) (vs : List V) (Yd : V → Hp → Prop) (Qe : Hp → Prop), Room k (A.deeper (envOfC qual (defScope st) s.heap.objs.size f cdv)) → sp vs H Yd Qe →
      ∃ t, GSsz (gcxOf P w K mg base N qual (defScope st) f cdv A outer s H (fun _ _ _ => False) []) (defBody st) t ∧ t { nx := fun ys _ H' => ys = [] → Qe H', rt := fun ys v H' => v = .non ∧ (ys = [] → Qe H'), yd := Yd } [] (start N vs) H) :
    GFnF P w K mg base (k + 1) f fd ps sp := by
  obtain ⟨oc, od, kV, doc, pm, an, cdv, ct, osl, rfl, lk, hcd⟩ := F.ex
  exact gfnF_of lk hcd S len fun A outer s H vs Yd Qe hr hsp => hbody cdv A outer s H vs Yd Qe hr hsp
theorem okG {x qual : Str} {st : Stmt} {f : Addr} {fd : FuncData} {N ps : List Str} {k : Nat} {sp : SpG} (F : Fun K x qual st f fd) (S : GScope N ps (defScope st)) (len : ∀ vs H Q E, sp vs H Q E → vs.length = ps.length)
    (hbody : ∀ (cdv : Value) (A : Around) (outer : List Env) (s : Shared) (H : Hp) (vs : List V) (Q : List V → Hp → Prop) (E : XK) (pn : List (Addr × Obj)), Room k (A.deeper (envOfC qual (defScope st) s.heap.objs.size f cdv)) → sp vs H Q E →
      ∃ t, GSsz (gcxOf P w K mg base N qual (defScope st) f cdv A outer s H E pn) (defBody st) t ∧ t { nx := fun ys _ H' => Q ys H', rt := fun ys v H' => v = .non ∧ Q ys H' } [] (start N vs) H) :
    GFn P w K mg base (k + 1) f fd ps sp := by
  obtain ⟨oc, od, kV, doc, pm, an, cdv, ct, osl, rfl, lk, hcd⟩ := F.ex
  refine gfn_of lk hcd S len fun A outer s H vs Q E pn hr hsp => ?_
  obtain ⟨t, ht, hq⟩ := hbody cdv A outer s H vs Q E pn hr hsp
  exact ⟨_, gss_of ht, hq⟩
end
/-! ### walks in generators -/
theorem zfor_list {K : PySem.W.Frag} {a : Addr} {xs : List V} {g : TG} {tb : TZn} {D : ZEnds} {ys : List V} {σ : L2.St} {H : Hp} (Pv : Nat → List V → L2.St → Hp → Prop) (h0 : Pv 0 ys σ H) (hl : ∀ i ys σ H, i ≤ xs.length → Pv i ys σ H → SqL K H a xs)
    (hs : ∀ i x ys σ H, xs[i]? = some x → Pv i ys σ H → g x σ H fun σ2 H2 => tb { D with nx := Pv (i + 1), ct := Pv (i + 1), bk := D.nx } ys σ2 H2) (hd : ∀ ys σ H, Pv xs.length ys σ H → D.nx ys σ H) :
    ∃ W : Nat → Nat → List V → L2.St → Hp → Prop, (∃ m, W 0 m ys σ H) ∧ ∀ i m ys σ H, W i m ys σ H →
      ((Itl K a).stop i H ∧ D.nx ys σ H) ∨ ((Itl K a).go i H ∧ ∃ N : List V → L2.St → Hp → Prop, (∀ ys' σ' H', N ys' σ' H' → ∃ m', m' < m ∧ W (i + 1) m' ys' σ' H') ∧ ∀ x H', (Itl K a).yld i H x H' → g x σ H' fun σ2 H2 => tb { D with nx := N, ct := N, bk := D.nx } ys σ2 H2) := by
  refine ⟨fun i m ys σ H => m = xs.length - i ∧ i ≤ xs.length ∧ Pv i ys σ H, ⟨xs.length, by simp, Nat.zero_le _, h0⟩, ?_⟩
  rintro i m ys σ H ⟨rfl, hi, p⟩
  have q := hl i ys σ H hi p
  by_cases hlt : i < xs.length
  · refine .inr ⟨⟨xs, xs[i], q, by simp [hlt]⟩, Pv (i + 1), fun ys' σ' H' p' => ⟨xs.length - (i + 1), by omega, rfl, hlt, p'⟩, fun x H' y => ?_⟩
    obtain ⟨e, y⟩ := y
    subst e
    exact hs i x ys σ _ (y xs q) p
  · have e : i = xs.length := by omega
    subst e
    exact .inl ⟨⟨xs, q, Nat.le_refl _⟩, hd ys σ H p⟩
theorem zfor_vals {d : Addr} {o : Obj} {kvs : List (Key × V)} {g : TG} {tb : TZn} {D : ZEnds} {ys : List V} {σ : L2.St} {H : Hp} (Pv : Nat → List V → L2.St → Hp → Prop) (h0 : Pv 0 ys σ H) (hl : ∀ i ys σ H, i ≤ kvs.length → Pv i ys σ H → H d = some (.frz o (.dK kvs)))
    (hs : ∀ i k x ys σ H, kvs[i]? = some (k, x) → Pv i ys σ H → g x σ H fun σ2 H2 => tb { D with nx := Pv (i + 1), ct := Pv (i + 1), bk := D.nx } ys σ2 H2) (hd : ∀ ys σ H, Pv kvs.length ys σ H → D.nx ys σ H) :
    ∃ W : Nat → Nat → List V → L2.St → Hp → Prop, (∃ m, W 0 m ys σ H) ∧ ∀ i m ys σ H, W i m ys σ H →
      ((Itd d o kvs).stop i H ∧ D.nx ys σ H) ∨ ((Itd d o kvs).go i H ∧ ∃ N : List V → L2.St → Hp → Prop, (∀ ys' σ' H', N ys' σ' H' → ∃ m', m' < m ∧ W (i + 1) m' ys' σ' H') ∧ ∀ x H', (Itd d o kvs).yld i H x H' → g x σ H' fun σ2 H2 => tb { D with nx := N, ct := N, bk := D.nx } ys σ2 H2) := by
  refine ⟨fun i m ys σ H => m = kvs.length - i ∧ i ≤ kvs.length ∧ Pv i ys σ H, ⟨kvs.length, by simp, Nat.zero_le _, h0⟩, ?_⟩
  rintro i m ys σ H ⟨rfl, hi, p⟩
  have q := hl i ys σ H hi p
  by_cases hlt : i < kvs.length
  · refine .inr ⟨⟨q, hlt⟩, Pv (i + 1), fun ys' σ' H' p' => ⟨kvs.length - (i + 1), by omega, rfl, hlt, p'⟩, fun x H' y => ?_⟩
    obtain ⟨e, k, y⟩ := y
    subst e
    exact hs i k x ys σ _ y p
  · have e : i = kvs.length := by omega
    subst e
    exact .inl ⟨⟨q, Nat.le_refl _⟩, hd ys σ H p⟩
/-! ### a op b op c op d, as a test -/
def tChain3 (r r' r'' : R2) (ta tb tc td : TE) : TE := fun σ H Q => ta σ H fun x H1 => tb σ H1 fun y H2 => r x y H2 fun z H3 => ∃ k, z = .bl k ∧
  (if k = true then tc σ H3 fun u H4 => r' y u H4 fun z2 H5 => ∃ k2, z2 = .bl k2 ∧ (if k2 = true then td σ H5 fun v H6 => r'' u v H6 Q else Q (.bl false) H5) else Q (.bl false) H3)
section
variable {X : Cx} {a b c d : Expr} {ta tb tc td : TE} {pos : Pos}
theorem pt_chain3 {op op' op'' : CmpOp} {r r' r'' : R2} (ho : OpR X (compareOp op) r) (ho' : OpR X (compareOp op') r') (ho'' : OpR X (compareOp op'') r'') (ha : PE X a ta) (hb : PE X b tb) (hc : PE X c tc) (hd : PE X d td)
    (hm : lastMarks [op, op', op''] [b, c, d] = false := by with_unfolding_all rfl) : PT X (.Compare a [op, op', op''] [b, c, d] pos) (tTest (tChain3 r r' r'' ta tb tc td)) := by
  refine ⟨fun pins s σ H Q I h => ?_⟩
  refine isTrue_chain (thn (ha.run pins s σ H _ I h) fun v s1 ⟨x, H1, I1, r1, q1⟩ => test_link (thn (hb.run pins s1 σ H1 _ I1 q1) fun u s2 ⟨y, H2, I2, r2, q2⟩ =>
    thn (ho pins s2 σ H2 x y v u _ I2 r1 r2 q2) fun d s3 ⟨z, H3, I3, r3, k, e, q3⟩ => ?_)) hm
  subst e
  cases r3
  refine wpAny_truthy_bool ?_
  cases k with
  | false =>
    obtain ⟨k', e', q'⟩ := q3
    cases e'
    exact ite_ff ⟨H3, I3, q'⟩
  | true =>
    refine ite_tt (test_link (thn (hc.run pins s3 σ H3 _ I3 q3) fun w' s4 ⟨z', H4, I4, r4, q4⟩ => thn (ho' pins s4 σ H4 y z' u w' _ I4 r2 r4 q4) fun d' s5 ⟨z2, H5, I5, r5, k2, e2, q5⟩ => ?_))
    subst e2
    cases r5
    refine wpAny_truthy_bool ?_
    cases k2 with
    | false =>
      obtain ⟨k', e', q'⟩ := q5
      cases e'
      exact ite_ff ⟨H5, I5, q'⟩
    | true =>
      refine ite_tt (test_last (thn (hd.run pins s5 σ H5 _ I5 q5) fun w6 s6 ⟨z6, H6, I6, r6, q6⟩ => thn (ho'' pins s6 σ H6 z' z6 w' w6 _ I6 r4 r6 q6) fun d7 s7 ⟨z7, H7, I7, r7, k7, e7, q7⟩ => ?_))
      subst e7
      cases r7
      exact wpAny_truthy_bool ⟨H7, I7, q7⟩
end
end GZ

/-! ## heaps, tuples, data, sorts -/
namespace My
open PySem PySem.Spec PyProof.Rows L2
--ANN _law_pick | cut if tape[1] < len(tape[0]): | cut
/-! ### heaps -/
theorem same_upd {H : Hp} {p : Addr} {o : HO} (h : H p = none) : Same H (upd H p o) := fun b x e => by
  rw [upd_ne (ne_of_none e h)]
  exact e
/-- all but t stays -/
def Moved (t : Addr) (H H' : Hp) : Prop := ∀ b o, b ≠ t → H b = some o → H' b = some o
theorem Moved.refl {t : Addr} {H : Hp} : Moved t H H := fun _ _ _ h => h
theorem Moved.trans {t : Addr} {H H1 H2 : Hp} (a : Moved t H H1) (b : Moved t H1 H2) : Moved t H H2 := fun c o n h => b c o n (a c o n h)
theorem Moved.upd {t : Addr} {H : Hp} {o : HO} : Moved t H (upd H t o) := fun b x n e => by
  rw [upd_ne n]
  exact e
theorem Moved.same {t : Addr} {H H' : Hp} (h : Same H H') : Moved t H H' := fun b o _ e => h b o e
theorem Moved.free {t : Addr} {H H' : Hp} (h : Moved t H H') {p : Addr} (n : p ≠ t) (e : H' p = none) : H p = none := by
  cases q : H p with
  | none => rfl
  | some o =>
    rw [h p o n q] at e
    cases e
/-! ### the tape: where the draws stand -/
def Tape (H : Hp) (t s : Addr) : Prop := ∃ (ns : List Int) (pos rest mx ct : Int), s ≠ t ∧ H t = some (.lst [.ref s, .int pos, .int rest, .int mx, .int ct]) ∧ H s = some (.lst (ns.map V.int)) ∧ 0 ≤ pos
theorem Tape.keep {t s : Addr} {H H' : Hp} (h : Tape H t s) (e : Same H H') : Tape H' t s := by
  obtain ⟨ns, a, b, c, d, h1, h2, h3, h4⟩ := h
  exact ⟨ns, a, b, c, d, h1, e _ _ h2, e _ _ h3, h4⟩
theorem Tape.ne {t s p : Addr} {H : Hp} (h : Tape H t s) (np : H p = none) : p ≠ t := fun e => by
  obtain ⟨ns, a, b, c, d, h1, h2, h3, h4⟩ := h
  rw [e, h2] at np
  cases np
theorem Tape.ne2 {t s p : Addr} {H : Hp} (h : Tape H t s) (np : H p = none) : p ≠ s := fun e => by
  obtain ⟨ns, a, b, c, d, h1, h2, h3, h4⟩ := h
  rw [e, h3] at np
  cases np
theorem Tape.but {t s r : Addr} {H : Hp} {o : HO} (h : Tape H t s) (n : r ≠ t) (n2 : r ≠ s) : Tape (upd H r o) t s := by
  obtain ⟨ns, a, b, c, d, h1, h2, h3, h4⟩ := h
  refine ⟨ns, a, b, c, d, h1, ?_, ?_, h4⟩
  · rw [upd_ne n.symm]
    exact h2
  · rw [upd_ne n2.symm]
    exact h3
section
variable {K : PySem.W.Frag} {H : Hp}
theorem tyTup {a : Addr} {xs : List V} (h : SqT K H a xs) : TyX K H (.ref a) (.type "tuple") := by
  rcases h with (h | ⟨o, h⟩) | h
  · exact .base (.tup h)
  · exact .fTuple h
  · obtain ⟨o, n, vs, e, c, _⟩ := h
    exact .kTuple e c
theorem sT {H' : Hp} {a : Addr} {xs : List V} (e : Same H H') (h : SqT K H a xs) : SqT K H' a xs := by
  rcases h with (h | ⟨o, h⟩) | h
  · exact .inl (.inl (e _ _ h))
  · exact .inl (.inr ⟨o, e _ _ h⟩)
  · exact .inr h
end
/-! ### new tuples, one for each -/
theorem small2000 {n : Nat} (h : n ≤ 2000) : n < sizeLine := by
  show n < 2 ^ 24
  omega
inductive Tups {α : Type} (f : α → List V) (H : Hp) : List Addr → List α → Prop
  | nil : Tups f H [] []
  | cons {p : Addr} {x : α} {ps : List Addr} {xs : List α} : H p = some (.tup (f x)) → Tups f H ps xs → Tups f H (p :: ps) (x :: xs)
section
variable {α : Type} {f : α → List V} {H H' : Hp}
theorem Tups.keep {ps : List Addr} {xs : List α} (h : Tups f H ps xs) (e : ∀ b ys, H b = some (.tup ys) → H' b = some (.tup ys)) : Tups f H' ps xs := by
  induction h with
  | nil => exact .nil
  | cons a _ ih => exact .cons (e _ _ a) ih
theorem Tups.same {ps : List Addr} {xs : List α} (h : Tups f H ps xs) (e : Same H H') : Tups f H' ps xs := h.keep fun b ys z => e _ _ z
theorem Tups.put {ps : List Addr} {xs : List α} (h : Tups f H ps xs) {L : Addr} {ys : List V} {o : HO} (e : H L = some (.lst ys)) : Tups f (upd H L o) ps xs := h.keep fun b zs z => by
  rw [upd_ne (fun q => by rw [q, e] at z; cases z)]
  exact z
theorem Tups.new {ps : List Addr} {xs : List α} (h : Tups f H ps xs) {p : Addr} {o : HO} (e : H p = none) : Tups f (upd H p o) ps xs := h.same (same_upd e)
theorem Tups.snoc {ps : List Addr} {xs : List α} {p : Addr} {x : α} (h : Tups f H ps xs) (e : H p = some (.tup (f x))) : Tups f H (ps ++ [p]) (xs ++ [x]) := by
  induction h with
  | nil => exact .cons e .nil
  | cons a _ ih => exact .cons a ih
theorem Tups.append {ps qs : List Addr} {xs ys : List α} (h : Tups f H ps xs) (k : Tups f H qs ys) : Tups f H (ps ++ qs) (xs ++ ys) := by
  induction h with
  | nil => exact k
  | cons a _ ih => exact .cons a ih
theorem Tups.length {ps : List Addr} {xs : List α} (h : Tups f H ps xs) : ps.length = xs.length := by
  induction h with
  | nil => rfl
  | cons a _ ih => rw [List.length_cons, List.length_cons, ih]
theorem Tups.get {ps : List Addr} {xs : List α} (h : Tups f H ps xs) : ∀ {i : Nat} {v : V}, (ps.map V.ref)[i]? = some v → ∃ p x, v = .ref p ∧ xs[i]? = some x ∧ H p = some (.tup (f x)) := by
  induction h with
  | nil =>
    intro i v h
    simp at h
  | cons a _ ih =>
    intro i v h
    cases i with
    | zero =>
      simp at h
      exact ⟨_, _, h.symm, rfl, a⟩
    | succ i =>
      simp only [List.map_cons, List.getElem?_cons_succ] at h ⊢
      exact ih h
end
def wv : Option Int → V
  | none => .non
  | some w => .int w
def pv2 (p : Int × Int) : List V := [.int p.1, .int p.2]
/-! ### data that is compared -/
def wd : Option Int → PyData
  | none => .none
  | some w => .int w
def pd2 (p : Int × Int) : PyData := .tuple [.int p.1, .int p.2]
def dInts (ns : List Int) : PyData := .list (ns.map PyData.int)
def dWs (ws : List (Option Int)) : PyData := .list (ws.map wd)
def dPrs (ps : List (Int × Int)) : PyData := .list (ps.map pd2)
section
variable {K : PySem.W.Frag} {H : Hp}
theorem dpa_ints : ∀ ns : List Int, DpAll K H (ns.map V.int) (ns.map PyData.int)
  | [] => .nil
  | n :: ns => .cons (.int n) (dpa_ints ns)
theorem dp_wd : ∀ w : Option Int, Dp K H (wv w) (wd w)
  | none => .non
  | some w => .int w
theorem dpa_ws : ∀ ws : List (Option Int), DpAll K H (ws.map wv) (ws.map wd)
  | [] => .nil
  | w :: ws => .cons (dp_wd w) (dpa_ws ws)
theorem dpa_prs {ps : List Addr} {xs : List (Int × Int)} (h : Tups pv2 H ps xs) : DpAll K H (ps.map V.ref) (xs.map pd2) := by
  induction h with
  | nil => exact .nil
  | cons a _ ih => exact .cons (.tup (SqT.of a) (.cons (.int _) (.cons (.int _) .nil))) ih
end
theorem lay_all {α : Type} {f : α → PyData} (h : ∀ x, (f x).canLay0 = true) : ∀ xs : List α, PyData.canLayAll0 (xs.map f) = true
  | [] => by simp [PyData.canLayAll0]
  | x :: xs => by
    rw [List.map_cons, PyData.canLayAll0, h x, lay_all h xs]
    rfl
theorem dep_all {α : Type} {f : α → PyData} {d : Nat} (h : ∀ x, (f x).depth ≤ d) : ∀ xs : List α, PyData.depthAll (xs.map f) ≤ d
  | [] => by simp [PyData.depthAll]
  | x :: xs => by
    have h1 := h x
    have h2 := dep_all h xs
    rw [List.map_cons, PyData.depthAll]
    omega
/-- can be laid, and is at most d deep -/
def Shp (d : Nat) (x : PyData) : Prop := x.canLay0 = true ∧ x.depth ≤ d
theorem Shp.ok {d : Nat} {x : PyData} (h : Shp d x) (hd : d ≤ 64) : SeqAt.shaped x = true := by
  show (x.canLay0 && decide (x.depth ≤ 64)) = true
  rw [Bool.and_eq_true]
  exact ⟨h.1, decide_eq_true (Nat.le_trans h.2 hd)⟩
theorem Shp.int (i : Int) : Shp 1 (.int i) := ⟨by simp [PyData.canLay0], by simp [PyData.depth]⟩
theorem Shp.wd (w : Option Int) : Shp 1 (wd w) := by
  cases w <;> exact ⟨by simp [My.wd, PyData.canLay0], by simp [My.wd, PyData.depth]⟩
theorem Shp.list {α : Type} {f : α → PyData} {d : Nat} (h : ∀ x, Shp d (f x)) (xs : List α) : Shp (d + 1) (.list (xs.map f)) := by
  have h1 := lay_all (fun x => (h x).1) xs
  have h2 := dep_all (fun x => (h x).2) xs
  exact ⟨by simp only [PyData.canLay0]; exact h1, by simp only [PyData.depth]; omega⟩
theorem Shp.tup0 : Shp 1 (.tuple []) := ⟨by simp [PyData.canLay0, PyData.canLayAll0], by simp [PyData.depth, PyData.depthAll]⟩
theorem Shp.tupC {d : Nat} {x : PyData} {xs : List PyData} (h : Shp d x) (t : Shp (d + 1) (.tuple xs)) : Shp (d + 1) (.tuple (x :: xs)) := by
  obtain ⟨a, b⟩ := h
  obtain ⟨c, e⟩ := t
  simp only [PyData.canLay0] at c
  simp only [PyData.depth] at e
  refine ⟨?_, ?_⟩
  · simp only [PyData.canLay0, PyData.canLayAll0, a, c, Bool.and_self]
  · simp only [PyData.depth, PyData.depthAll]
    omega
theorem Shp.up {d e : Nat} {x : PyData} (h : Shp d x) (le : d ≤ e) : Shp e x := ⟨h.1, Nat.le_trans h.2 le⟩
theorem Shp.pd2 (p : Int × Int) : Shp 2 (pd2 p) := .tupC (.int _) (.tupC (.int _) (Shp.tup0.up (by decide)))
theorem Shp.ints (ns : List Int) : Shp 2 (dInts ns) := .list Shp.int ns
theorem Shp.ws (ws : List (Option Int)) : Shp 2 (dWs ws) := .list Shp.wd ws
theorem Shp.prs (ps : List (Int × Int)) : Shp 3 (dPrs ps) := .list Shp.pd2 ps
theorem eqv_same {d : Nat} {x : PyData} (h : Shp d x) : PyData.eqv x x = true := SeqAt.eqv_refl x h.1
theorem iteNE {b : Bool} {A B : Prop} (hb : b = true) (h : B) : if (!b) = true then A else B := by
  subst hb
  exact iteF h
theorem ne_same {d : Nat} {x : PyData} (h : Shp d x) : V.bl (!PyData.eqv x x) = V.bl false := by
  rw [eqv_same h]
  rfl
theorem eq_same {d : Nat} {x : PyData} (h : Shp d x) : V.bl (PyData.eqv x x) = V.bl true := by
  rw [eqv_same h]

theorem flat_one {α : Type} (n : Nat) (x : α) : (List.replicate n [x]).flatten = List.replicate n x := by
  induction n with
  | zero => rfl
  | succ n ih => rw [List.replicate_succ, List.flatten_cons, ih]; rfl
theorem take_snoc {α : Type} {l : List α} {i : Nat} {x : α} (h : l[i]? = some x) : l.take (i + 1) = l.take i ++ [x] := by
  rw [List.take_add_one, h]
  rfl
theorem same_put {H H' : Hp} {p : Addr} {o : HO} (sm : Same H H') (n : H p = none) : Same H (upd H' p o) := fun b x e => (upd_ne (ne_of_none e n)).trans (sm b x e)
theorem ne_no {a b : Int} (h : a = b) : V.bl (!decide (V.int a = V.int b)) = V.bl false := by
  subst h
  rw [decide_eq_true rfl]
  rfl
theorem ixN_nat {n : Nat} {p : Int} (h0 : 0 ≤ p) (h1 : p < (n : Int)) : ixN n p = some p.toNat := by
  unfold ixN
  rw [if_pos h0, if_pos h1]
theorem atI_of {xs : List V} {p : Int} {v : V} (h0 : 0 ≤ p) (h : xs[p.toNat]? = some v) : atI xs p = some v := by
  have e := atI_nat h
  rw [show ((p.toNat : Nat) : Int) = p by omega] at e
  exact e
theorem ixTK {X : Cx} {K : PySem.W.Frag} (h : X.K = K) : IxR X (rIxT K) := h ▸ ix_tup
theorem ixLK {X : Cx} {K : PySem.W.Frag} (h : X.K = K) : IxR X (rIxL K) := h ▸ ix_list
def rLenS (K : PySem.W.Frag) : List V → Hp → VK → Prop := fun xs H Q => ∃ p ys, xs = [.ref p] ∧ (SqL K H p ys ∨ SqT K H p ys) ∧ Q (.int ys.length) H
theorem lenK {X : Cx} {K : PySem.W.Frag} (h : X.K = K) : CallR X (.builtin "len") (rLenS K) := h ▸ call_len_seq
theorem isiK {X : Cx} {K : PySem.W.Frag} (h : X.K = K) : CallR X (.builtin "isinstance") (rIsi K) := h ▸ call_isi
theorem notInK {X : Cx} {K : PySem.W.Frag} (h : X.K = K) : OpR X (compareOp .NotIn) (rIn K true) := h ▸ op_notIn_seq
theorem inK {X : Cx} {K : PySem.W.Frag} (h : X.K = K) : OpR X (compareOp .In) (rIn K false) := h ▸ op_in_seq
/-! ### tuples of ints as data -/
def fI (r : List Int) : List V := r.map V.int
def dI (r : List Int) : PyData := .tuple (r.map PyData.int)
def dT (rs : List (List Int)) : PyData := .list (rs.map dI)
theorem units65 {k : Nat} {A : Around} (r : Room k A) : A.units + 65 < cLine := by
  have := r.un
  omega
theorem Shp.tuple {α : Type} {f : α → PyData} {d : Nat} (h : ∀ x, Shp d (f x)) (xs : List α) : Shp (d + 1) (.tuple (xs.map f)) := by
  have h1 := lay_all (fun x => (h x).1) xs
  have h2 := dep_all (fun x => (h x).2) xs
  exact ⟨by simp only [PyData.canLay0]; exact h1, by simp only [PyData.depth]; omega⟩
theorem Shp.dI (r : List Int) : Shp 2 (dI r) := .tuple Shp.int r
theorem Shp.dT (rs : List (List Int)) : Shp 3 (dT rs) := .list Shp.dI rs
theorem dp_dI {K : PySem.W.Frag} {H : Hp} {p : Addr} {r : List Int} (h : SqT K H p (r.map V.int)) : Dp K H (.ref p) (My.dI r) := .tup h (dpa_ints r)
theorem dpa_dT {K : PySem.W.Frag} {H : Hp} {ps : List Addr} {rs : List (List Int)} (h : Tups fI H ps rs) : DpAll K H (ps.map V.ref) (rs.map My.dI) := by
  induction h with
  | nil => exact .nil
  | cons a _ ih => exact .cons (dp_dI (SqT.of a)) ih
theorem dp_dT {K : PySem.W.Frag} {H : Hp} {L : Addr} {ps : List Addr} {rs : List (List Int)} (e : H L = some (.lst (ps.map V.ref))) (h : Tups fI H ps rs) : Dp K H (.ref L) (My.dT rs) := .lst (SqL.of e) (dpa_dT h)
theorem eqvA : ∀ a b : List Int, PyData.eqvAll (a.map PyData.int) (b.map PyData.int) = decide (a = b)
  | [], [] => by simp [PyData.eqvAll]
  | [], _ :: _ => by simp [PyData.eqvAll]
  | _ :: _, [] => by simp [PyData.eqvAll]
  | x :: a, y :: b => by
    rw [List.map_cons, List.map_cons, PyData.eqvAll, eqvA a b]
    simp only [PyData.eqv]
    by_cases h : x = y
    · subst h
      simp
    · simp [h]
theorem eqvI (a b : List Int) : PyData.eqv (My.dI a) (My.dI b) = decide (a = b) := by
  unfold My.dI
  rw [PyData.eqv]
  exact eqvA a b
theorem not_any {rs : List (List Int)} {r : List Int} (h : r ∉ rs) : ((rs.map My.dI).any fun z => PyData.eqv z (My.dI r)) = false := by
  rw [List.any_map, List.any_eq_false]
  intro x hx
  show ¬ PyData.eqv (My.dI x) (My.dI r) = true
  rw [eqvI]
  intro z
  exact h (of_decide_eq_true z ▸ hx)
/-! ### a tuple whose object is known: its methods -/
def Frz (H : Hp) (p : Addr) (xs : List V) : Prop := ∃ o : Obj, H p = some (.frz o (.tup xs)) ∧ o.dict = none
theorem Frz.sq {K : PySem.W.Frag} {H : Hp} {p : Addr} {xs : List V} (h : Frz H p xs) : SqT K H p xs := let ⟨o, e, _⟩ := h; .inl (.inr ⟨o, e⟩)
theorem Frz.same {H H' : Hp} {p : Addr} {xs : List V} (h : Frz H p xs) (e : Same H H') : Frz H' p xs := let ⟨o, a, b⟩ := h; ⟨o, e _ _ a, b⟩
theorem Frz.moved {t : Addr} {H H' : Hp} {p : Addr} {xs : List V} (h : Frz H p xs) (n : p ≠ t) (e : Moved t H H') : Frz H' p xs := let ⟨o, a, b⟩ := h; ⟨o, e _ _ n a, b⟩
theorem Frz.of {H H' : Hp} {p : Addr} {xs : List V} (h : Frz H p xs) (e : ∀ o, H p = some o → H' p = some o) : Frz H' p xs := let ⟨o, a, b⟩ := h; ⟨o, e _ a, b⟩
theorem Frz.ne {H : Hp} {p q : Addr} {xs : List V} (h : Frz H p xs) (n : H q = none) : p ≠ q := let ⟨_, a, _⟩ := h; ne_of_none a n
theorem Frz.tape {H : Hp} {p t s : Addr} {xs : List V} (h : Frz H p xs) (tp : Tape H t s) : p ≠ t := fun e => by
  obtain ⟨o, a, _⟩ := h
  obtain ⟨_, _, _, _, _, _, e2, _⟩ := tp
  rw [e, e2] at a
  cases a
theorem call_tupleF {X : Cx} : CallR X (.type "tuple") (fun xs H Q => ∃ p ys, xs = [.ref p] ∧ SqL X.K H p ys ∧ ∀ l H', H l = none → Same H H' → Frz H' l ys → (∀ b, b ≠ l → H' b = H b) → Q (.ref l) H') := by
  intro pins s σ H xs us Q I r h
  obtain ⟨p, ys, rfl, hq, q⟩ := h
  obtain ⟨u, rfl, rx⟩ := vals1 r
  cases rx
  obtain ⟨its, r', pl, hz⟩ := I.list hq
  have hlen := r'.length
  refine call_tuple_list pl.isList (fun h' kp => ?_) (by simp only [List.size_toArray] <;> omega)
  have I1 : Inv X pins σ H { s with heap := h' } := I.kept (t' := s.toks) kp
  have I2 : Inv X pins σ (upd H h'.objs.size (.frz { cls := .type "tuple", data := .seq its.toArray } (.tup ys))) { s with heap := h'.push { cls := .type "tuple", data := .seq its.toArray } } :=
    I1.laid (t' := s.toks) (fun b o e => Heap.get?_push_of_some _ e) (Nat.le_refl _) (show ObjOk X.prog X.w _ _ _ (.frz _ (.tup ys)) from ⟨Heap.get?_push_size _ rfl, hz, its, r', IsTup.new _ _⟩)
  have nl := I1.hok.fresh (Nat.le_refl _)
  exact ⟨.ref h'.objs.size, _, I2, rfl, q _ _ nl (same_upd nl) ⟨_, upd_same, rfl⟩ fun b n => upd_ne n⟩
def tTM (r : V → List V → Hp → VK → Prop) (to : TE) (t : TA) : TE := fun σ H Q => to σ H fun x H1 => (∃ p xs, x = .ref p ∧ Frz H1 p xs) ∧ t σ H1 fun xs H2 => r x xs H2 Q
theorem pe_tm {X : Cx} {o e : Expr} {es : List Expr} {to : TE} {t : TA} {name : Str} {apos cpos : Pos} {id : String} {r : V → List V → Hp → VK → Prop} (pa : PlainAttrs "tuple") (slot : Slot "tuple" name id) (hty : typeOf (.builtin id) = pure (.type "method_descriptor")) (hm : MtR X id r) (ho : PE X o to) (ha : PA X (e :: es) t)
    (hbase : attributeBase o name X.env (eval o X.env) = eval o X.env := by rfl)
    (hfew : ((backTo cpos (starEach (e :: es) X.env)).all (fun x => !x.1) && (backToKw cpos (keywordEach [] X.env)).all (fun x => x.1.isSome)
      && decide ((e :: es).length + ([] : List Keyword).length + (if ([] : List Keyword).isEmpty then 0 else 1) < 30)) = true := by rfl)
    (hline : (apos.endLine == cpos.line) = true := by rfl) (hs : starEach (e :: es) X.env = (false, eval e X.env) :: starEach es X.env := by rfl) (hplain : (backTo cpos (starEach es X.env)).any (·.1) = false := by rfl) :
    PE X (.Call (.Attribute o name apos) (e :: es) [] cpos) (tTM r to t) := by
  refine ⟨fun pins s σ H Q I h => ?_⟩
  refine wpAny_Call_method_late hbase hfew hline rfl (thn (ho.run pins s σ H _ I h) fun v s1 ⟨x, H1, I1, r1, ty, q1⟩ => ?_)
  obtain ⟨p, xs, rfl, ob, hp, hd⟩ := ty
  cases r1
  obtain ⟨hob, _, its, _, ⟨o2, ho2, hc2, _⟩⟩ := I1.hok _ _ hp
  have eo : o2 = ob := Option.some.inj (ho2.symm.trans hob)
  subst eo
  refine ⟨"tuple", id, pa, slot, hty, ⟨_, hob, hc2⟩, fun a ea => ?_, ?_⟩
  · cases ea
    exact ⟨_, hob, hd⟩
  have hA := ha.run cpos pins s1 σ H1 _ I1 q1
  rw [hs] at hA ⊢
  refine Calls.callWith_builtin (by show (false || (backTo cpos (starEach es X.env)).any (·.1)) = false; rw [hplain] <;> rfl) (Calls.evalArgs_plain ?_)
  exact thn hA fun us s2 ⟨vs, H2, I2, r2, q2⟩ => hm pins s2 σ H2 (.ref p) vs _ us Q I2 rfl r2 q2
/-! ### t.index(k), t a tuple of ints -/
theorem flat_ints (ys : List Int) : (ys.map V.int).all flatV = true := by
  rw [List.all_map]
  exact List.all_eq_true.mpr fun _ _ => rfl
def rTIndex (K : PySem.W.Frag) : V → List V → Hp → VK → Prop := fun x xs H Q => ∃ p, ∃ ys : List Int, ∃ z j, x = .ref p ∧ xs = [.int z] ∧ SqT K H p (ys.map V.int) ∧ ys[j]? = some z ∧ (∀ m, m < j → ys[m]? ≠ some z) ∧ Q (.int (j : Nat)) H
theorem mt_tindex {X : Cx} : MtR X "tuple.index" (rTIndex X.K) := by
  intro pins s σ H x xs v us Q I rx rs h
  obtain ⟨p, ys, z, j, rfl, rfl, hq, hy, hno, q⟩ := h
  cases rx
  obtain ⟨u, rfl, t, rfl⟩ := vals1 rs
  obtain ⟨its, r, pl, hz⟩ := I.tuple hq
  obtain ⟨⟨cls, dd, dt, sl⟩, ho, hc, n, hd⟩ := pl
  simp only at hc hd
  subst hc
  subst hd
  have hl : its.toArray.size = ys.length := by rw [List.size_toArray, ← r.length, List.length_map]
  have hj : j < its.toArray.size := by rw [hl]; exact (List.getElem?_eq_some_iff.mp hy).1
  have at' : ∀ (m : Nat) (hm : m < its.toArray.size), ∃ y t', ys[m]? = some y ∧ its.toArray[m] = Value.int y t' := fun m hm => by
    have hm' : m < ys.length := by rw [← hl]; exact hm
    obtain ⟨w, hw, t', hw'⟩ := r.get (i := m) (x := .int ys[m]) (by simp [hm'])
    refine ⟨ys[m], t', List.getElem?_eq_getElem hm', ?_⟩
    have e := (List.getElem?_eq_some_iff.mp hw).2
    rw [← hw', ← e]
    simp
  refine call_meets PySem.F.slot_tuple_index ⟨_, ho, rfl⟩ PySem.F.entry_tuple_index (PySem.F.args_tuple_index_2 _ _) (TI.tuple_indexAt p its.toArray n dd sl (.int z t) (eqU (.int z)) j hj ?_ ?_)
    ⟨ho, fun w hw => mem_eqAt (x := .int z) ⟨t, rfl⟩ rfl r (flat_ints ys) w (by simpa using hw), ⟨.int (j : Nat), H, I.tok _, ⟨_, rfl⟩, q⟩⟩
  · obtain ⟨y, t', h1, h2⟩ := at' j hj
    rw [hy] at h1
    cases h1
    rw [h2]
    show (z == z) = true
    exact beq_self_eq_true z
  · intro m hm hmj
    obtain ⟨y, t', h1, h2⟩ := at' m hm
    rw [h2]
    show (y == z) = false
    exact beq_eq_false_iff_ne.mpr fun e => hno m hmj (e ▸ h1)
/-! ### sorted(xs), xs a list of tuples of d ints from 0 to B, of any length -/
/-- the ints of a tuple that H tracks -/
def intsV (H : Hp) : V → List Int
  | .ref a => match H a with
    | some (.tup xs) => xs.filterMap fun v => match v with
      | .int i => some i
      | _ => none
    | _ => []
  | _ => []
theorem ints_fI (r : List Int) : ((fI r).filterMap fun v => match v with
      | V.int i => some i
      | _ => none) = r := by
  unfold fI
  induction r with
  | nil => rfl
  | cons x r ih => simp [ih]
theorem intsV_of {H : Hp} {a : Addr} {r : List Int} (h : H a = some (.tup (fI r))) : intsV H (.ref a) = r := by
  show (match H a with
    | some (.tup xs) => xs.filterMap fun v => match v with
      | V.int i => some i
      | _ => none
    | _ => []) = r
  rw [h]
  exact ints_fI r
abbrev ltC (B : Int) (k : V → List Int) (x y : V) : Bool := decide (TS.code B (k x) < TS.code B (k y))
theorem swoC {α : Type} (f : α → Int) : SrtO.Swo fun x y => decide (f x < f y) := by
  refine ⟨fun x y h => ?_, fun x y z h1 h2 => ?_⟩
  · have a := of_decide_eq_true h
    exact decide_eq_false (by omega)
  · have a := of_decide_eq_false h1
    have b := of_decide_eq_false h2
    exact decide_eq_false (by omega)
def rSortC (K : PySem.W.Frag) (B : Int) (d : Nat) : List V → Hp → VK → Prop := fun vs H Q => ∃ (a : Addr) (ps : List Addr) (rs : List (List Int)), vs = [V.ref a] ∧ SqL K H a (ps.map V.ref) ∧ Tups fI H ps rs ∧ (∀ r ∈ rs, r.length = d ∧ TS.Bd B r) ∧
  ∀ ps' rs' p, Tups fI H ps' rs' → rs'.Perm rs → rs'.Pairwise (fun x y => TS.code B x ≤ TS.code B y) → H p = none → Q (.ref p) (upd H p (.lst (ps'.map V.ref)))
theorem tups_of {H : Hp} : ∀ {ps : List Addr}, (∀ p ∈ ps, ∃ r, H p = some (.tup (fI r))) → Tups fI H ps (ps.map fun p => intsV H (.ref p))
  | [], _ => .nil
  | p :: ps, h => by
    obtain ⟨r, hr⟩ := h p List.mem_cons_self
    refine .cons ?_ (tups_of fun q hq => h q (List.mem_cons_of_mem _ hq))
    show H p = some (.tup (fI (intsV H (.ref p))))
    rw [intsV_of hr]
    exact hr
theorem Tups.ints {H : Hp} {ps : List Addr} {rs : List (List Int)} (h : Tups fI H ps rs) : rs = ps.map fun p => intsV H (.ref p) := by
  induction h with
  | nil => rfl
  | cons a _ ih => rw [List.map_cons, intsV_of a, ← ih]
theorem Tups.mem {α : Type} {f : α → List V} {H : Hp} {ps : List Addr} {rs : List α} (h : Tups f H ps rs) : ∀ p ∈ ps, ∃ r ∈ rs, H p = some (.tup (f r)) := by
  induction h with
  | nil => exact fun _ h => absurd h (by simp)
  | cons a _ ih =>
    intro p hp
    rcases List.mem_cons.mp hp with rfl | hp
    · exact ⟨_, List.mem_cons_self, a⟩
    · obtain ⟨r, hr, e⟩ := ih p hp
      exact ⟨r, List.mem_cons_of_mem _ hr, e⟩
theorem cr_sortC {X : Cx} {B : Int} {d : Nat} (hd : 1 ≤ d) : CallR X (.builtin "sorted") (rSortC X.K B d) := by
  intro pins s σ H vs us Q I r h
  obtain ⟨a, ps, rs, rfl, hs, tu, hb, q⟩ := h
  obtain ⟨its, rv, hl, hz⟩ := I.list hs
  obtain ⟨u, rfl, ru⟩ := vals1 r
  obtain rfl : u = Value.ref a := ru
  obtain ⟨e1, e2⟩ := refs_back rv fun x m => by
    obtain ⟨t, _, e⟩ := List.mem_map.mp m
    exact ⟨t, e.symm⟩
  have key : ∀ v ∈ its, ∃ p, v = Value.ref p ∧ p ∈ ps := fun v hv => by
    obtain ⟨t, rfl⟩ := e2 v hv
    have hm : V.ref t ∈ ps.map V.ref := by rw [e1]; exact List.mem_map.mpr ⟨_, hv, rfl⟩
    obtain ⟨p, hp, e⟩ := List.mem_map.mp hm
    cases e
    exact ⟨t, rfl, hp⟩
  have tin : ∀ v ∈ its, TS.TupInts s.heap v (intsV H (backV v)) ∧ (intsV H (backV v)).length = d ∧ TS.Bd B (intsV H (backV v)) := fun v hv => by
    obtain ⟨p, rfl, hp⟩ := key v hv
    obtain ⟨r, hr, ep⟩ := tu.mem p hp
    have ei : intsV H (backV (Value.ref p)) = r := intsV_of ep
    rw [ei]
    obtain ⟨its2, r2, pt, _⟩ := I.tuple (SqT.of ep)
    have hb' := hb r hr
    exact ⟨⟨p, its2.toArray, rfl, pt, intsAre_of r2⟩, hb'.1, hb'.2⟩
  refine SrtO.sorted_ord (ltv := fun v u => decide (TS.code B (intsV H (backV v)) < TS.code B (intsV H (backV u)))) (swoC fun v => TS.code B (intsV H (backV v))) hl.isList (by rw [← rv.length]; exact hz) (fun h2 h₁ a' ha' kk => ?_) fun out h1 h2 => ?_
  · intro h' keep
    have keep2 : ∀ b o, s.heap.get? b = some o → o.cls = .type "tuple" → h'.get? b = some o := fun b o e c => keep b o (kk b o e).1 (kk b o e).2
    have tin' : ∀ v ∈ its, TS.TupInts h' v (intsV H (backV v)) ∧ (intsV H (backV v)).length = d ∧ TS.Bd B (intsV H (backV v)) := fun v hv => let ⟨x, y, z⟩ := tin v hv; ⟨x.keeps keep2, y, z⟩
    obtain ⟨fs, k1, k2, k3⟩ := TS.firsts_of (h := h') (d := d) (B := B) hd its fun v hv => ⟨_, tin' v hv⟩
    refine ⟨tuples' true, fun Q E hq => ?_, ?_⟩
    · refine PySem.W.kat_kind (T := .type "int") k1 (by omega) (fun f hm => ?_) (by rfl) ?_
      · obtain ⟨x, t, rfl⟩ := k3 f hm
        exact PySem.W.Looks.now
      · have e : (Value.type "int" != Value.type "tuple") = true := by first | decide +kernel | rfl | decide
        rw [e]
        exact hq
    · intro p q hm hm'
      obtain ⟨⟨a1, xs, x1, ⟨o1, ho1, hc1, n1, hd1⟩, i1⟩, l1, b1⟩ := tin' _ hm
      obtain ⟨⟨a2, ys, x2, ⟨o2, ho2, hc2, n2, hd2⟩, i2⟩, l2, b2⟩ := tin' _ hm'
      show wpAny _ _ (keyLt' _ p.1 q.1) (fun r s' => s' = _ ∧ r = decide (TS.code B (intsV H (backV p.1)) < TS.code B (intsV H (backV q.1)))) (fun _ _ => False) _
      generalize intsV H (backV p.1) = ns at *
      generalize intsV H (backV q.1) = ms at *
      rw [x1, x2]
      refine PySem.W.kat_lt ho1 hd1 ho2 hd2 ?_
      have el : xs.size = ys.size := by
        have z1 := i1.length
        have z2 := i2.length
        simp at z1 z2
        omega
      rw [el, decide_eq_false (Nat.lt_irrefl _)]
      exact TS.lex_ints 0 i1 i2 (by omega) b1 b2 ⟨rfl, rfl⟩
  · obtain ⟨ep, he'⟩ := PyProof.Rows.sortedAll_at s.heap its out.toArray
    have h3 : ∀ u ∈ out, ∃ p, u = Value.ref p ∧ p ∈ ps := fun u hu => key u (h2.perm.mem_iff.mp hu)
    have eo : out.map backV = (out.map fun u => match u with
      | Value.ref a => a
      | _ => 0).map V.ref := by
      rw [List.map_map]
      refine List.map_congr_left fun u hu => ?_
      obtain ⟨p, rfl, _⟩ := h3 u hu
      rfl
    have hp : (out.map backV).Perm (ps.map V.ref) := by
      rw [e1]
      exact h2.perm.map backV
    have hlen : (out.map backV).length ≤ sizeLine := by
      rw [hp.length_eq]
      exact hz
    generalize eps : (out.map fun u => match u with
      | Value.ref a => a
      | _ => 0) = ps' at eo
    have pp : ps'.Perm ps := by
      rw [eo] at hp
      have z := hp.map fun v => match v with
        | V.ref a => a
        | _ => 0
      rw [List.map_map, List.map_map] at z
      have id1 : ∀ l : List Addr, l.map ((fun v => match v with
        | V.ref a => a
        | _ => 0) ∘ V.ref) = l := fun l => by
        induction l with
        | nil => rfl
        | cons x l ih => rw [List.map_cons, ih]; rfl
      rw [id1, id1] at z
      exact z
    have tu' : Tups fI H ps' (ps'.map fun p => intsV H (.ref p)) := tups_of fun p hp => by
      obtain ⟨r, _, e⟩ := tu.mem p (pp.mem_iff.mp hp)
      exact ⟨r, e⟩
    have pw : (ps'.map fun p => intsV H (.ref p)).Pairwise (fun x y => TS.code B x ≤ TS.code B y) := by
      have z : (out.map backV).Pairwise (fun x y => TS.code B (intsV H x) ≤ TS.code B (intsV H y)) := List.pairwise_map.mpr (h1.imp fun {x y} h => Int.not_lt.mp (of_decide_eq_false h))
      rw [eo] at z
      rw [List.pairwise_map] at z ⊢
      exact z
    rw [eo] at hlen
    refine ⟨.ref _, upd H (s.heap.objs.size + 1) (.lst (ps'.map V.ref)), I.laid (t' := s.toks) (fun _ _ => PyProof.Rows.sortedAll_old) (Nat.le_succ _) ⟨hlen, out, ep, ?_, he'⟩, rfl, q ps' _ _ tu' ?_ pw (I.hok.fresh (Nat.le_succ _))⟩
    · rw [← eo]
      exact vals_back fun u hu => by
        obtain ⟨p, e, _⟩ := h3 u hu
        exact ⟨p, e⟩
    · rw [tu.ints]
      exact pp.map _
/-- there is just one such list -/
theorem code_inj {B : Int} : ∀ {d : Nat} {x y : List Int}, x.length = d → y.length = d → TS.Bd B x → TS.Bd B y → TS.code B x = TS.code B y → x = y
  | _, [], [], _, _, _, _, _ => rfl
  | _, [], _ :: _, h1, h2, _, _, _ => by
    subst h1
    cases h2
  | _, _ :: _, [], h1, h2, _, _, _ => by
    subst h2
    cases h1
  | _, a :: x, b :: y, h1, h2, b1, b2, e => by
    have hl : x.length = y.length := by
      rw [List.length_cons] at h1 h2
      omega
    rcases Int.lt_trichotomy a b with z | z | z
    · have := TS.code_lt hl b1.tail b2.tail z
      omega
    · subst z
      have e' : TS.code B x = TS.code B y := by
        have n1 := (TS.code_same (B := B) (d := a) hl).symm
        have n2 := (TS.code_same (B := B) (d := a) hl.symm).symm
        have k1 : ¬ TS.code B x < TS.code B y := fun z => by
          have := n1.mp z
          omega
        have k2 : ¬ TS.code B y < TS.code B x := fun z => by
          have := n2.mp z
          omega
        omega
      rw [code_inj (d := x.length) rfl hl.symm b1.tail b2.tail e']
    · have := TS.code_lt hl.symm b2.tail b1.tail z
      omega
theorem sorted_uniq {B : Int} {d : Nat} : ∀ {l m : List (List Int)}, l.Perm m → (∀ r ∈ m, r.length = d ∧ TS.Bd B r) → l.Pairwise (fun x y => TS.code B x ≤ TS.code B y) → m.Pairwise (fun x y => TS.code B x ≤ TS.code B y) → l = m
  | [], m, p, _, _, _ => (List.nil_perm.mp p).symm
  | x :: l, [], p, _, _, _ => absurd p.length_eq (by simp)
  | x :: l, y :: m, p, hb, a, b => by
    have a' := List.pairwise_cons.mp a
    have b' := List.pairwise_cons.mp b
    have hx : x ∈ y :: m := p.mem_iff.mp List.mem_cons_self
    have hy : y ∈ x :: l := p.mem_iff.mpr List.mem_cons_self
    have e1 : TS.code B x ≤ TS.code B y := by
      rcases List.mem_cons.mp hy with e | h
      · rw [e]
        exact Int.le_refl _
      · exact a'.1 y h
    have e2 : TS.code B y ≤ TS.code B x := by
      rcases List.mem_cons.mp hx with e | h
      · rw [e]
        exact Int.le_refl _
      · exact b'.1 x h
    have e : x = y := code_inj (hb x hx).1 (hb y List.mem_cons_self).1 (hb x hx).2 (hb y List.mem_cons_self).2 (Int.le_antisymm e1 e2)
    subst e
    rw [sorted_uniq (List.Perm.cons_inv p) (fun r hr => hb r (List.mem_cons_of_mem _ hr)) a'.2 b'.2]
end My

/-! ### the mathematics of reach -/
namespace Rch
def ins (x : Int) : List Int → List Int
  | [] => [x]
  | y :: r => if x ≤ y then x :: y :: r else y :: ins x r
def isort : List Int → List Int
  | [] => []
  | x :: r => ins x (isort r)
theorem ins_perm (x : Int) : ∀ l : List Int, (ins x l).Perm (x :: l)
  | [] => .refl _
  | y :: r => by
    unfold ins
    split
    · exact .refl _
    · exact ((ins_perm x r).cons y).trans (.swap x y r)
theorem isort_perm : ∀ l : List Int, (isort l).Perm l
  | [] => .refl _
  | x :: r => (ins_perm x (isort r)).trans ((isort_perm r).cons x)
theorem ins_sorted (x : Int) : ∀ l : List Int, l.Pairwise (· ≤ ·) → (ins x l).Pairwise (· ≤ ·)
  | [], _ => List.pairwise_singleton _ _
  | y :: r, h => by
    unfold ins
    have h' := List.pairwise_cons.mp h
    split
    · next hx =>
      refine List.pairwise_cons.mpr ⟨fun z hz => ?_, h⟩
      rcases List.mem_cons.mp hz with e | hz
      · subst e
        exact hx
      · exact Int.le_trans hx (h'.1 z hz)
    · next hx =>
      refine List.pairwise_cons.mpr ⟨fun z hz => ?_, ins_sorted x r h'.2⟩
      rcases List.mem_cons.mp ((ins_perm x r).mem_iff.mp hz) with e | hz
      · subst e
        omega
      · exact h'.1 z hz
theorem isort_sorted : ∀ l : List Int, (isort l).Pairwise (· ≤ ·)
  | [] => .nil
  | x :: r => ins_sorted x _ (isort_sorted r)
theorem uniq : ∀ {l m : List Int}, l.Perm m → l.Pairwise (· ≤ ·) → m.Pairwise (· ≤ ·) → l = m
  | [], m, p, _, _ => (List.nil_perm.mp p).symm
  | x :: l, [], p, _, _ => absurd p.length_eq (by simp)
  | x :: l, y :: m, p, a, b => by
    have a' := List.pairwise_cons.mp a
    have b' := List.pairwise_cons.mp b
    have e : x = y := by
      have h1 : x ∈ y :: m := p.mem_iff.mp List.mem_cons_self
      have h2 : y ∈ x :: l := p.mem_iff.mpr List.mem_cons_self
      rcases List.mem_cons.mp h1 with e | h1
      · exact e
      · rcases List.mem_cons.mp h2 with e | h2
        · exact e.symm
        · exact Int.le_antisymm (a'.1 y h2) (b'.1 x h1)
    subst e
    rw [uniq (List.Perm.cons_inv p) a'.2 b'.2]
theorem isort_of {l m : List Int} (p : m.Perm l) (h : m.Pairwise (· ≤ ·)) : m = isort l := uniq (p.trans (isort_perm l).symm) h (isort_sorted l)
def greedy : Int → List Int → Int
  | T, [] => T
  | T, l :: r => if l > T + 1 then T else greedy (T + l) r
def reachOf (ns : List Int) : Int := greedy 0 (isort ns)
theorem greedy_ge : ∀ (ls : List Int) (T : Int), (∀ x ∈ ls, 0 ≤ x) → T ≤ greedy T ls
  | [], T, _ => Int.le_refl _
  | l :: r, T, h => by
    unfold greedy
    have h0 := h l List.mem_cons_self
    split
    · exact Int.le_refl _
    · have := greedy_ge r (T + l) fun x hx => h x (List.mem_cons_of_mem _ hx)
      omega
theorem greedy_le : ∀ (ls : List Int) (T : Int), (∀ x ∈ ls, 0 ≤ x ∧ x ≤ 40) → greedy T ls ≤ T + 40 * (ls.length : Int)
  | [], T, _ => by
    show T ≤ T + 40 * ((0 : Nat) : Int)
    omega
  | l :: r, T, h => by
    unfold greedy
    have h0 := h l List.mem_cons_self
    rw [List.length_cons]
    split
    · omega
    · have := greedy_le r (T + l) fun x hx => h x (List.mem_cons_of_mem _ hx)
      omega
def Good (ns : List Int) : Prop := 1 ≤ ns.length ∧ ns.length ≤ 8 ∧ ∀ n ∈ ns, 1 ≤ n ∧ n ≤ 40
theorem Good.perm {l m : List Int} (g : Good l) (p : m.Perm l) : Good m := ⟨by rw [p.length_eq]; exact g.1, by rw [p.length_eq]; exact g.2.1, fun n h => g.2.2 n (p.mem_iff.mp h)⟩
theorem isort_congr {l m : List Int} (p : m.Perm l) : isort m = isort l := uniq (((isort_perm m).trans p).trans (isort_perm l).symm) (isort_sorted m) (isort_sorted l)
theorem reach_perm {l m : List Int} (p : m.Perm l) : reachOf m = reachOf l := by
  unfold reachOf
  rw [isort_congr p]
theorem reach_bd {ns : List Int} (g : Good ns) : 0 ≤ reachOf ns ∧ reachOf ns ≤ 320 := by
  have g' := g.perm (isort_perm ns)
  have h1 := greedy_ge (isort ns) 0 fun x hx => by have := g'.2.2 x hx; omega
  have h2 := greedy_le (isort ns) 0 fun x hx => by have := g'.2.2 x hx; omega
  have h3 := g'.2.1
  refine ⟨h1, ?_⟩
  show greedy 0 (isort ns) ≤ 320
  omega
/-- n is a sum of some of ls, and of a number from 0 to T -/
def reps (T : Int) : List Int → Int → Prop
  | [], n => 0 ≤ n ∧ n ≤ T
  | l :: r, n => reps T r n ∨ reps T r (n - l)
theorem reps_perm {T : Int} {l m : List Int} (p : l.Perm m) : ∀ n, reps T l n ↔ reps T m n := by
  induction p with
  | nil => exact fun _ => Iff.rfl
  | cons x _ ih =>
    intro n
    show (reps T _ n ∨ reps T _ (n - x)) ↔ (reps T _ n ∨ reps T _ (n - x))
    rw [ih n, ih (n - x)]
  | swap x y r =>
    intro n
    show ((reps T r n ∨ reps T r (n - x)) ∨ (reps T r (n - y) ∨ reps T r (n - y - x))) ↔ ((reps T r n ∨ reps T r (n - y)) ∨ (reps T r (n - x) ∨ reps T r (n - x - y)))
    rw [show n - y - x = n - x - y by omega]
    constructor
    · rintro ((a | a) | (a | a))
      · exact .inl (.inl a)
      · exact .inr (.inl a)
      · exact .inl (.inr a)
      · exact .inr (.inr a)
    · rintro ((a | a) | (a | a))
      · exact .inl (.inl a)
      · exact .inr (.inl a)
      · exact .inl (.inr a)
      · exact .inr (.inr a)
  | trans _ _ h1 h2 => exact fun n => (h1 n).trans (h2 n)
theorem reps_up {T l : Int} (h0 : 0 ≤ T) (h1 : 1 ≤ l) (h2 : l ≤ T + 1) : ∀ (r : List Int) (n : Int), reps (T + l) r n ↔ reps T (l :: r) n
  | [], n => by
    show (0 ≤ n ∧ n ≤ T + l) ↔ ((0 ≤ n ∧ n ≤ T) ∨ (0 ≤ n - l ∧ n - l ≤ T))
    omega
  | x :: r, n => by
    show (reps (T + l) r n ∨ reps (T + l) r (n - x)) ↔ _
    rw [reps_up h0 h1 h2 r n, reps_up h0 h1 h2 r (n - x)]
    exact (reps_perm (.swap l x r) n)
theorem reps_low {T : Int} : ∀ (ls : List Int) (n : Int), 0 ≤ n → n ≤ T → reps T ls n
  | [], n, a, b => ⟨a, b⟩
  | _ :: r, n, a, b => .inl (reps_low r n a b)
theorem reps_nonneg {T : Int} : ∀ (ls : List Int) (n : Int), (∀ x ∈ ls, 0 ≤ x) → reps T ls n → 0 ≤ n
  | [], n, _, h => h.1
  | l :: r, n, hp, h => by
    have h0 := hp l List.mem_cons_self
    have hr : ∀ x ∈ r, 0 ≤ x := fun x hx => hp x (List.mem_cons_of_mem _ hx)
    rcases h with h | h
    · exact reps_nonneg r n hr h
    · have := reps_nonneg r _ hr h
      omega
theorem reps_not {T : Int} (h0 : 0 ≤ T) : ∀ (ls : List Int) (n : Int), (∀ x ∈ ls, T + 1 < x) → n ≤ T + 1 → reps T ls n → n ≤ T
  | [], n, _, _, h => h.2
  | l :: r, n, hp, hn, h => by
    have hl := hp l List.mem_cons_self
    have hr : ∀ x ∈ r, T + 1 < x := fun x hx => hp x (List.mem_cons_of_mem _ hx)
    rcases h with h | h
    · exact reps_not h0 r n hr hn h
    · have := reps_nonneg r _ (fun x hx => by have := hr x hx; omega) h
      omega
theorem greedy_is : ∀ (ls : List Int) (T : Int), 0 ≤ T → (∀ x ∈ ls, 1 ≤ x) → ls.Pairwise (· ≤ ·) → (∀ n, 0 ≤ n → n ≤ greedy T ls → reps T ls n) ∧ ¬ reps T ls (greedy T ls + 1)
  | [], T, h0, _, _ => ⟨fun n a b => ⟨a, b⟩, fun h => by
    have := h.2
    unfold greedy at this
    omega⟩
  | l :: r, T, h0, hp, hs => by
    have hl := hp l List.mem_cons_self
    have hr : ∀ x ∈ r, 1 ≤ x := fun x hx => hp x (List.mem_cons_of_mem _ hx)
    have hs' := List.pairwise_cons.mp hs
    unfold greedy
    by_cases hc : l > T + 1
    · rw [if_pos hc]
      refine ⟨fun n a b => reps_low _ n a b, fun h => ?_⟩
      have := reps_not h0 (l :: r) (T + 1) (fun x hx => by
        rcases List.mem_cons.mp hx with e | hx
        · omega
        · have := hs'.1 x hx
          omega) (Int.le_refl _) h
      omega
    · rw [if_neg hc]
      have ih := greedy_is r (T + l) (by omega) hr hs'.2
      have up := reps_up h0 hl (by omega : l ≤ T + 1) r
      exact ⟨fun n a b => (up n).mp (ih.1 n a b), fun h => ih.2 ((up _).mpr h)⟩
theorem reach_is {ns : List Int} (g : Good ns) : (∀ n, 0 ≤ n → n ≤ reachOf ns → reps 0 ns n) ∧ ¬ reps 0 ns (reachOf ns + 1) := by
  have g' := g.perm (isort_perm ns)
  have k := greedy_is (isort ns) 0 (Int.le_refl _) (fun x hx => (g'.2.2 x hx).1) (isort_sorted ns)
  exact ⟨fun n a b => (reps_perm (isort_perm ns) n).mp (k.1 n a b), fun h => k.2 ((reps_perm (isort_perm ns) _).mpr h)⟩
/-! ### sums as bits -/
def sumsF (S : Nat) : List Int → Nat
  | [] => S
  | l :: r => sumsF (S ||| S * 2 ^ l.toNat) r
theorem bits_step {S : Nat} {ls : List Int} {l : Int} (hl : 0 ≤ l) (hp : ∀ x ∈ ls, 0 ≤ x) (h : ∀ n : Nat, S.testBit n = true ↔ reps 0 ls (n : Int)) (n : Nat) : (S ||| S * 2 ^ l.toNat).testBit n = true ↔ reps 0 (l :: ls) (n : Int) := by
  rw [← Nat.shiftLeft_eq, Nat.testBit_or, Nat.testBit_shiftLeft, Bool.or_eq_true, Bool.and_eq_true, decide_eq_true_eq, h n, h (n - l.toNat)]
  show _ ↔ (reps 0 ls (n : Int) ∨ reps 0 ls ((n : Int) - l))
  constructor
  · rintro (a | ⟨a, b⟩)
    · exact .inl a
    · refine .inr ?_
      rw [show (n : Int) - l = ((n - l.toNat : Nat) : Int) by omega]
      exact b
  · rintro (a | a)
    · exact .inl a
    · have := reps_nonneg ls _ hp a
      refine .inr ⟨by omega, ?_⟩
      rw [show ((n - l.toNat : Nat) : Int) = (n : Int) - l by omega]
      exact a
theorem bits_all : ∀ (ls acc : List Int) (S : Nat), (∀ x ∈ ls, 0 ≤ x) → (∀ x ∈ acc, 0 ≤ x) → (∀ n : Nat, S.testBit n = true ↔ reps 0 acc (n : Int)) → ∀ n : Nat, (sumsF S ls).testBit n = true ↔ reps 0 (ls.reverse ++ acc) (n : Int)
  | [], acc, S, _, _, h => h
  | l :: r, acc, S, hl, ha, h => by
    intro n
    rw [List.reverse_cons, List.append_assoc]
    exact bits_all r (l :: acc) _ (fun x hx => hl x (List.mem_cons_of_mem _ hx)) (fun x hx => by
      rcases List.mem_cons.mp hx with e | hx
      · subst e
        exact hl x List.mem_cons_self
      · exact ha x hx) (bits_step (hl l List.mem_cons_self) ha h) n
theorem bit_one (n : Nat) : (1 : Nat).testBit n = true ↔ reps 0 [] (n : Int) := by
  show _ ↔ (0 ≤ (n : Int) ∧ (n : Int) ≤ 0)
  cases n with
  | zero => exact ⟨fun _ => ⟨by decide, by decide⟩, fun _ => by decide⟩
  | succ n =>
    rw [Nat.testBit_succ, show 1 / 2 = 0 from rfl, Nat.zero_testBit]
    exact ⟨fun h => absurd h Bool.false_ne_true, fun h => by omega⟩
theorem sums_is {ns : List Int} (g : Good ns) (n : Nat) : (sumsF 1 ns).testBit n = true ↔ reps 0 ns (n : Int) := by
  rw [bits_all ns [] 1 (fun x hx => by have := g.2.2 x hx; omega) (fun _ h => by simp at h) bit_one n, List.append_nil]
  exact reps_perm (List.reverse_perm ns) n
/-- sums // (1 << n) % 2 -/
theorem bit_of (S n : Nat) : (((S : Nat) : Int) / (1 * 2 ^ ((n : Int).toNat))).fmod 2 = if S.testBit n then 1 else 0 := by
  rw [Int.toNat_natCast, Int.one_mul, Int.fmod_eq_emod_of_nonneg _ (by decide), show ((2 : Int) ^ n) = ((2 ^ n : Nat) : Int) by simp, ← Int.natCast_ediv, show ((2 : Int)) = ((2 : Nat) : Int) from rfl, ← Int.natCast_emod, Nat.testBit_eq_decide_div_mod_eq]
  rcases Nat.mod_two_eq_zero_or_one (S / 2 ^ n) with e | e
  · rw [e]; rfl
  · rw [e]; rfl
end Rch

/-! ### the mathematics of tables -/
namespace Tb
def len1 (ls : List Int) (k : Int) : Int := ls.getD k.toNat 0
def rsum (ls : List Int) (r : List Int) : Int := (r.map (len1 ls)).sum
def InR (ls r : List Int) : Prop := ∀ k ∈ r, 0 ≤ k ∧ k < (ls.length : Int)
def Right (ls : List Int) (rs : List (List Int)) : Prop := Rch.Good ls ∧ 1 ≤ rs.length ∧ rs.length ≤ 60 ∧ ∀ (i : Nat) (r : List Int), rs[i]? = some r → InR ls r ∧ r.length ≤ 60 ∧ rsum ls r = (i : Int) + 1
theorem len_at {ls : List Int} {k : Int} (h0 : 0 ≤ k) (h1 : k < (ls.length : Int)) : ls[k.toNat]? = some (len1 ls k) := by
  have h : k.toNat < ls.length := by omega
  unfold len1
  rw [List.getD_eq_getElem?_getD, List.getElem?_eq_getElem h]
  rfl
theorem len_pos {ls : List Int} (g : Rch.Good ls) {k : Int} (h0 : 0 ≤ k) (h1 : k < (ls.length : Int)) : 1 ≤ len1 ls k ∧ len1 ls k ≤ 40 := g.2.2 _ (List.mem_of_getElem? (len_at h0 h1))
theorem rsum_cons (ls : List Int) (k : Int) (r : List Int) : rsum ls (k :: r) = len1 ls k + rsum ls r := by
  unfold rsum
  rw [List.map_cons, List.sum_cons]
theorem rsum_snoc (ls : List Int) (r : List Int) (k : Int) : rsum ls (r ++ [k]) = rsum ls r + len1 ls k := by
  unfold rsum
  rw [List.map_append, List.sum_append]
  simp
theorem rsum_len {ls : List Int} (g : Rch.Good ls) : ∀ {r : List Int}, InR ls r → (r.length : Int) ≤ rsum ls r
  | [], _ => by simp [rsum]
  | k :: r, h => by
    have h1 := h k List.mem_cons_self
    have := (len_pos g h1.1 h1.2).1
    have ih := rsum_len g (r := r) fun x hx => h x (List.mem_cons_of_mem _ hx)
    rw [rsum_cons, List.length_cons]
    omega
/-- when gone, into which loop -/
def go (ls : List Int) : Int → List Int → List (Int × Int)
  | _, [] => []
  | g, k :: r => (g, k) :: go ls (g + len1 ls k) r
theorem go_len (ls : List Int) : ∀ (r : List Int) (g : Int), (go ls g r).length = r.length
  | [], _ => rfl
  | k :: r, g => by
    show (go ls (g + len1 ls k) r).length + 1 = r.length + 1
    rw [go_len ls r]
theorem go_take (ls : List Int) : ∀ (r : List Int) (g : Int) (j : Nat), (go ls g r)[j]? = (r[j]?).map fun k => (g + rsum ls (r.take j), k)
  | [], g, j => by simp [go]
  | k :: r, g, 0 => by
    show some (g, k) = some (g + rsum ls [], k)
    simp [rsum]
  | k :: r, g, j + 1 => by
    show (go ls (g + len1 ls k) r)[j]? = (r[j]?).map fun x => (g + rsum ls (k :: r.take j), x)
    rw [go_take ls r, rsum_cons]
    congr 1
    funext x
    rw [Int.add_assoc]
theorem go_snd (ls : List Int) : ∀ (r : List Int) (g : Int), (go ls g r).map (·.2) = r
  | [], _ => rfl
  | k :: r, g => by
    show k :: (go ls (g + len1 ls k) r).map (·.2) = k :: r
    rw [go_snd ls r]
theorem go_rng {ls : List Int} (G : Rch.Good ls) : ∀ (r : List Int) (g : Int), InR ls r → ∀ p ∈ go ls g r, g ≤ p.1 ∧ p.1 < g + rsum ls r ∧ 0 ≤ p.2 ∧ p.2 < (ls.length : Int)
  | [], _, _, p, hp => absurd hp (by simp [go])
  | k :: r, g, h, p, hp => by
    have hk := h k List.mem_cons_self
    have l1 := (len_pos G hk.1 hk.2).1
    have hr : InR ls r := fun x hx => h x (List.mem_cons_of_mem _ hx)
    have n0 := rsum_len G hr
    rw [rsum_cons]
    rcases List.mem_cons.mp hp with e | hp
    · rw [e]
      show g ≤ g ∧ g < _ ∧ 0 ≤ k ∧ k < _
      omega
    · have := go_rng G r _ hr p hp
      omega
theorem go_up {ls : List Int} (G : Rch.Good ls) : ∀ (r : List Int) (g : Int), InR ls r → (go ls g r).Pairwise fun p q => p.1 < q.1
  | [], _, _ => .nil
  | k :: r, g, h => by
    have hk := h k List.mem_cons_self
    have l1 := (len_pos G hk.1 hk.2).1
    have hr : InR ls r := fun x hx => h x (List.mem_cons_of_mem _ hx)
    refine List.pairwise_cons.mpr ⟨fun q hq => ?_, go_up G r _ hr⟩
    have := go_rng G r _ hr q hq
    show g < q.1
    omega
/-- loop, gone, left -/
def ent (w : Int) (p : Int × Int) : List Int := [p.2, p.1, w - p.1]
def ents (ls : List Int) (w : Int) (r : List Int) : List (List Int) := (go ls 0 r).map (ent w)
def all (ls : List Int) (rs : List (List Int)) : Nat → List (List Int)
  | 0 => []
  | i + 1 => all ls rs i ++ ents ls ((i : Int) + 1) (rs.getD i [])
theorem ents_len (ls : List Int) (w : Int) (r : List Int) : (ents ls w r).length = r.length := by
  unfold ents
  rw [List.length_map, go_len]
theorem getD_row {rs : List (List Int)} {i : Nat} {r : List Int} (h : rs[i]? = some r) : rs.getD i [] = r := by
  rw [List.getD_eq_getElem?_getD, h]
  rfl
theorem all_wait {ls : List Int} {rs : List (List Int)} : ∀ (i : Nat) (e : List Int), e ∈ all ls rs i → ∃ k g w : Int, e = [k, g, w - g] ∧ 1 ≤ w ∧ w ≤ i
  | 0, e, h => absurd h (by simp [all])
  | i + 1, e, h => by
    rcases List.mem_append.mp h with h | h
    · obtain ⟨k, g, w, e1, h1, h2⟩ := all_wait i e h
      exact ⟨k, g, w, e1, h1, by omega⟩
    · obtain ⟨p, _, rfl⟩ := List.mem_map.mp h
      exact ⟨p.2, p.1, (i : Int) + 1, rfl, by omega, by omega⟩
/-- each new one is new -/
theorem new_one {ls : List Int} {rs : List (List Int)} {r : List Int} (G : Rch.Good ls) (hr : InR ls r) {i j : Nat} {p : Int × Int} (hj : (go ls 0 r)[j]? = some p) : ent ((i : Int) + 1) p ∉ all ls rs i ++ ((go ls 0 r).take j).map (ent ((i : Int) + 1)) := by
  intro h
  rcases List.mem_append.mp h with h | h
  · obtain ⟨k, g, w, e, h1, h2⟩ := all_wait i _ h
    unfold ent at e
    have e1 : p.1 = g := by
      have := congrArg (fun z : List Int => z.getD 1 0) e
      exact this
    have e2 : (i : Int) + 1 - p.1 = w - g := by
      have := congrArg (fun z : List Int => z.getD 2 0) e
      exact this
    omega
  · obtain ⟨q, hq, e⟩ := List.mem_map.mp h
    have e1 : q.1 = p.1 := by
      have := congrArg (fun z : List Int => z.getD 1 0) e
      exact this
    obtain ⟨m, hm⟩ := List.mem_iff_getElem?.mp hq
    rw [List.getElem?_take] at hm
    split at hm
    · next hlt =>
      have pw := List.pairwise_iff_getElem.mp (go_up G r 0 hr)
      obtain ⟨hm', em⟩ := List.getElem?_eq_some_iff.mp hm
      obtain ⟨hj', ej⟩ := List.getElem?_eq_some_iff.mp hj
      have := pw m j hm' hj' hlt
      rw [em, ej] at this
      omega
    · cases hm
theorem ents_bd {ls : List Int} {r : List Int} {w : Int} (G : Rch.Good ls) (hr : InR ls r) (hw : rsum ls r = w) (h60 : w ≤ 60) : ∀ e ∈ ents ls w r, e.length = 3 ∧ TS.Bd 1000 e := by
  intro e he
  obtain ⟨p, hp, rfl⟩ := List.mem_map.mp he
  have h := go_rng G r 0 hr p hp
  have g1 := G.2.1
  refine ⟨rfl, fun m hm => ?_⟩
  unfold ent at hm
  simp only [List.mem_cons, List.not_mem_nil, or_false] at hm
  rcases hm with e | e | e <;> subst e <;> omega
theorem all_bd {ls : List Int} {rs : List (List Int)} (R : Right ls rs) : ∀ i, i ≤ rs.length → ∀ e ∈ all ls rs i, e.length = 3 ∧ TS.Bd 1000 e
  | 0, _, e, he => absurd he (by simp [all])
  | i + 1, hi, e, he => by
    rcases List.mem_append.mp he with he | he
    · exact all_bd R i (by omega) e he
    · have hr : rs[i]? = some rs[i] := List.getElem?_eq_getElem (by omega)
      rw [getD_row hr] at he
      obtain ⟨a, b, c⟩ := R.2.2.2 i _ hr
      have := R.2.2.1
      exact ents_bd R.1 a c (by omega) e he
theorem all_len {ls : List Int} {rs : List (List Int)} (R : Right ls rs) : ∀ i, i ≤ rs.length → (all ls rs i).length ≤ 60 * i
  | 0, _ => Nat.le_refl _
  | i + 1, hi => by
    have ih := all_len R i (by omega)
    have hr : rs[i]? = some rs[i] := List.getElem?_eq_getElem (by omega)
    obtain ⟨a, b, c⟩ := R.2.2.2 i _ hr
    show (all ls rs i ++ ents ls ((i : Int) + 1) (rs.getD i [])).length ≤ _
    rw [List.length_append, ents_len, getD_row hr]
    omega
/-- the entries of one wait, when gone ahead -/
def ofWait (w : Int) (e : List Int) : Bool := (e.getD 1 0 + e.getD 2 0) == w
def swap (e : List Int) : List Int := [e.getD 1 0, e.getD 0 0]
def sel (w : Int) (es : List (List Int)) : List (List Int) := (es.filter (ofWait w)).map swap
theorem sel_append (w : Int) (a b : List (List Int)) : sel w (a ++ b) = sel w a ++ sel w b := by
  unfold sel
  rw [List.filter_append, List.map_append]
def gl (ls r : List Int) : List (List Int) := (go ls 0 r).map fun p => [p.1, p.2]
theorem sel_yes (ls : List Int) (w : Int) (r : List Int) : sel w (ents ls w r) = gl ls r := by
  unfold sel ents gl
  rw [List.filter_eq_self.mpr, List.map_map]
  · rfl
  · intro e he
    obtain ⟨p, _, rfl⟩ := List.mem_map.mp he
    show ((p.1 + (w - p.1)) == w) = true
    rw [beq_iff_eq]
    omega
theorem sel_no {ls : List Int} {w v : Int} (r : List Int) (h : v ≠ w) : sel w (ents ls v r) = [] := by
  unfold sel ents
  rw [List.filter_eq_nil_iff.mpr, List.map_nil]
  intro e he
  obtain ⟨p, _, rfl⟩ := List.mem_map.mp he
  show ¬ ((p.1 + (v - p.1)) == w) = true
  rw [beq_iff_eq]
  omega
theorem sel_all {ls : List Int} {rs : List (List Int)} (m : Nat) : ∀ i, sel ((m : Int) + 1) (all ls rs i) = if m < i then gl ls (rs.getD m []) else []
  | 0 => by
    rw [if_neg (by omega)]
    rfl
  | i + 1 => by
    show sel _ (all ls rs i ++ ents ls ((i : Int) + 1) (rs.getD i [])) = _
    rw [sel_append, sel_all m i]
    by_cases h : m < i
    · rw [if_pos h, if_pos (by omega), sel_no _ (by omega), List.append_nil]
    · rw [if_neg h, List.nil_append]
      by_cases h2 : m = i
      · subst h2
        rw [if_pos (by omega), sel_yes]
      · rw [if_neg (by omega), sel_no _ (by omega)]
theorem gl_bd {ls : List Int} {r : List Int} (G : Rch.Good ls) (hr : InR ls r) (h60 : rsum ls r ≤ 60) : ∀ e ∈ gl ls r, e.length = 2 ∧ TS.Bd 1000 e := by
  intro e he
  obtain ⟨p, hp, rfl⟩ := List.mem_map.mp he
  have h := go_rng G r 0 hr p hp
  have g1 := G.2.1
  refine ⟨rfl, fun m hm => ?_⟩
  simp only [List.mem_cons, List.not_mem_nil, or_false] at hm
  rcases hm with e | e <;> subst e <;> omega
theorem gl_sorted {ls : List Int} {r : List Int} (G : Rch.Good ls) (hr : InR ls r) (h60 : rsum ls r ≤ 60) : (gl ls r).Pairwise fun x y => TS.code 1000 x ≤ TS.code 1000 y := by
  unfold gl
  rw [List.pairwise_map]
  refine (List.pairwise_iff_getElem.mpr fun i j hi hj hij => ?_)
  have pw := List.pairwise_iff_getElem.mp (go_up G r 0 hr) i j hi hj hij
  have b1 := go_rng G r 0 hr _ (List.getElem_mem hi)
  have b2 := go_rng G r 0 hr _ (List.getElem_mem hj)
  have g1 := G.2.1
  show (go ls 0 r)[i].1 * 1000 ^ 1 + ((go ls 0 r)[i].2 * 1000 ^ 0 + 0) ≤ (go ls 0 r)[j].1 * 1000 ^ 1 + ((go ls 0 r)[j].2 * 1000 ^ 0 + 0)
  omega
theorem sel_perm {w : Int} {a b : List (List Int)} (p : a.Perm b) : (sel w a).Perm (sel w b) := (p.filter _).map _
theorem gl_snd (ls r : List Int) : (gl ls r).map (fun e => e.getD 1 0) = r := by
  unfold gl
  rw [List.map_map]
  exact go_snd ls r 0
end Tb

/-! ### the mathematics of the line -/
namespace Ln
/-- tick, turn, wait -/
abbrev Let := Int × Int × Option Int
def step (b τ u : Int) (s : List Let × Int) : List Let × Int := if s.2 > b then (s.1 ++ [(τ, u, none)], s.2) else (s.1 ++ [(τ, u, some s.2)], s.2 + 1)
def turns (b τ : Int) : Nat → List Let × Int → List Let × Int
  | 0, s => s
  | k + 1, s => step b τ (1 + (k : Int)) (turns b τ k s)
def close (c : Int) : Int := if c > 0 then c - 1 else c
def pre (b : Int) (cs : List Int) : Nat → List Let × Int
  | 0 => ([], 0)
  | i + 1 => ((turns b (i : Int) (cs.getD i 0).toNat (pre b cs i)).1, close (turns b (i : Int) (cs.getD i 0).toNat (pre b cs i)).2)
def letts (b : Int) (cs : List Int) : List Let := (pre b cs cs.length).1
def behind (b : Int) (cs : List Int) : Nat → List Int
  | 0 => []
  | i + 1 => behind b cs i ++ [(pre b cs (i + 1)).2]
theorem step_len (b τ u : Int) (s : List Let × Int) : (step b τ u s).1.length = s.1.length + 1 := by
  unfold step
  split <;> simp
theorem turns_len (b τ : Int) : ∀ (k : Nat) (s : List Let × Int), (turns b τ k s).1.length = s.1.length + k
  | 0, _ => rfl
  | k + 1, s => by
    unfold turns
    rw [step_len, turns_len b τ k s, Nat.add_assoc]
theorem turns_rng {b τ : Int} : ∀ (k : Nat) (s : List Let × Int), 0 ≤ s.2 → s.2 ≤ b + 1 → 0 ≤ (turns b τ k s).2 ∧ (turns b τ k s).2 ≤ b + 1
  | 0, s, h0, h1 => ⟨h0, h1⟩
  | k + 1, s, h0, h1 => by
    have ih := turns_rng (τ := τ) k s h0 h1
    unfold turns step
    split
    · exact ih
    · show 0 ≤ (turns b τ k s).2 + 1 ∧ (turns b τ k s).2 + 1 ≤ b + 1
      omega
theorem close_rng {b c : Int} (hb : 0 ≤ b) (h0 : 0 ≤ c) (h1 : c ≤ b + 1) : 0 ≤ close c ∧ close c ≤ b := by
  unfold close
  split <;> omega
theorem pre_rng {b : Int} (hb : 0 ≤ b) (cs : List Int) : ∀ i, 0 ≤ (pre b cs i).2 ∧ (pre b cs i).2 ≤ b
  | 0 => ⟨Int.le_refl _, hb⟩
  | i + 1 => by
    have ih := pre_rng hb cs i
    have t := turns_rng (b := b) (τ := (i : Int)) (cs.getD i 0).toNat (pre b cs i) ih.1 (by omega)
    unfold pre
    exact close_rng hb t.1 t.2
theorem pre_len {b : Int} {cs : List Int} (hc : ∀ c ∈ cs, c ≤ 4) : ∀ i, (pre b cs i).1.length ≤ 4 * i
  | 0 => Nat.le_refl _
  | i + 1 => by
    have ih := pre_len (b := b) hc i
    unfold pre
    rw [turns_len]
    have : cs.getD i 0 ≤ 4 := by
      rw [List.getD_eq_getElem?_getD]
      cases h : cs[i]? with
      | none => decide
      | some c => exact hc c (List.mem_of_getElem? h)
    omega
theorem behind_len (b : Int) (cs : List Int) : ∀ i, (behind b cs i).length = i
  | 0 => rfl
  | i + 1 => by
    unfold behind
    rw [List.length_append, behind_len b cs i]
    rfl
theorem getD_of {cs : List Int} {i : Nat} {c : Int} (h : cs[i]? = some c) : cs.getD i 0 = c := by
  rw [List.getD_eq_getElem?_getD, h]
  rfl
/-! pairs of who goes out when -/
def one (l : Let) (n : Int) : List (Int × Int) := match l.2.2 with
  | none => []
  | some w => [(l.1 + w, n)]
def outsFrom : Int → List Let → List (Int × Int)
  | _, [] => []
  | n, l :: r => one l n ++ outsFrom (n + 1) r
theorem outs_snoc : ∀ (L : List Let) (n : Int) (l : Let), outsFrom n (L ++ [l]) = outsFrom n L ++ one l (n + (L.length : Int))
  | [], n, l => by
    show one l n ++ [] = [] ++ one l (n + ((0 : Nat) : Int))
    rw [List.append_nil, List.nil_append]
    congr 1
    omega
  | x :: L, n, l => by
    show one x n ++ outsFrom (n + 1) (L ++ [l]) = (one x n ++ outsFrom (n + 1) L) ++ one l _
    rw [outs_snoc L (n + 1) l, List.append_assoc]
    congr 3
    rw [List.length_cons]
    omega
theorem one_len (l : Let) (n : Int) : (one l n).length ≤ 1 := by
  unfold one
  split <;> simp
theorem outs_len : ∀ (L : List Let) (n : Int), (outsFrom n L).length ≤ L.length
  | [], _ => Nat.le_refl _
  | l :: r, n => by
    show (one l n ++ outsFrom (n + 1) r).length ≤ r.length + 1
    have := outs_len r (n + 1)
    have := one_len l n
    rw [List.length_append]
    omega
def qp : Int → List Int → List (Int × Int)
  | _, [] => []
  | τ, n :: r => (τ, n) :: qp (τ + 1) r
theorem qp_snoc : ∀ (q : List Int) (τ n : Int), qp τ (q ++ [n]) = qp τ q ++ [(τ + (q.length : Int), n)]
  | [], τ, n => by
    show [(τ, n)] = [(τ + ((0 : Nat) : Int), n)]
    rw [show τ + ((0 : Nat) : Int) = τ by omega]
  | x :: q, τ, n => by
    show (τ, x) :: qp (τ + 1) (q ++ [n]) = (τ, x) :: (qp (τ + 1) q ++ [_])
    rw [qp_snoc q (τ + 1) n, List.length_cons]
    congr 4
    omega
/-- a queue of the law's own line, by the letters that came -/
def Led (τ : Int) (s : List Let × Int) (q : List Int) (prs : List (Int × Int)) : Prop := (q.length : Int) = s.2 ∧ prs ++ qp τ q = outsFrom 0 s.1
theorem Led.no {b τ u : Int} {s : List Let × Int} {q : List Int} {prs} (h : Led τ s q prs) (hb : s.2 > b) : Led τ (step b τ u s) q prs ∧ step b τ u s = (s.1 ++ [(τ, u, none)], s.2) := by
  have e : step b τ u s = (s.1 ++ [(τ, u, none)], s.2) := by
    unfold step
    rw [if_pos hb]
  refine ⟨?_, e⟩
  rw [e]
  refine ⟨h.1, ?_⟩
  rw [outs_snoc, ← h.2]
  show _ = _ ++ []
  rw [List.append_nil]
theorem Led.yes {b τ u : Int} {s : List Let × Int} {q : List Int} {prs} (h : Led τ s q prs) (hb : ¬ s.2 > b) : Led τ (step b τ u s) (q ++ [(s.1.length : Int)]) prs ∧ step b τ u s = (s.1 ++ [(τ, u, some s.2)], s.2 + 1) := by
  have e : step b τ u s = (s.1 ++ [(τ, u, some s.2)], s.2 + 1) := by
    unfold step
    rw [if_neg hb]
  refine ⟨?_, e⟩
  rw [e]
  refine ⟨?_, ?_⟩
  · rw [List.length_append]
    show ((q.length + 1 : Nat) : Int) = s.2 + 1
    have := h.1
    omega
  · show _ = outsFrom 0 (s.1 ++ [(τ, u, some s.2)])
    rw [outs_snoc, ← h.2, qp_snoc, ← List.append_assoc, h.1]
    show _ = _ ++ [(τ + s.2, (0 : Int) + (s.1.length : Int))]
    rw [Int.zero_add]
/-- each one goes out in its time -/
def Due (τ : Int) (L : List Let) (q : List Int) (prs : List (Int × Int)) : Prop := prs ++ qp τ q = outsFrom 0 L
theorem Due.pop {τ : Int} {L : List Let} {x : Int} {q : List Int} {prs} (h : Due τ L (x :: q) prs) : Due (τ + 1) L q (prs ++ [(τ, x)]) := by
  unfold Due at *
  rw [← h, List.append_assoc]
  rfl
theorem Due.nil {τ τ' : Int} {L : List Let} {prs} (h : Due τ L [] prs) : Due τ' L [] prs := h
theorem ticks_turns (b τ : Int) : ∀ (k : Nat) (s : List Let × Int), (turns b τ k s).1.map (·.1) = s.1.map (·.1) ++ List.replicate k τ
  | 0, s => by simp [turns]
  | k + 1, s => by
    have ih := ticks_turns b τ k s
    have e : (step b τ (1 + (k : Int)) (turns b τ k s)).1.map (·.1) = (turns b τ k s).1.map (·.1) ++ [τ] := by
      unfold step
      split <;> simp
    unfold turns
    rw [e, ih, List.append_assoc, List.replicate_succ']
def ticksOf (cs : List Int) : Nat → List Int
  | 0 => []
  | i + 1 => ticksOf cs i ++ List.replicate (cs.getD i 0).toNat (i : Int)
theorem ticks_are (b : Int) (cs : List Int) : ∀ i, (pre b cs i).1.map (·.1) = ticksOf cs i
  | 0 => rfl
  | i + 1 => by
    show (turns b (i : Int) (cs.getD i 0).toNat (pre b cs i)).1.map (·.1) = ticksOf cs i ++ _
    rw [ticks_turns, ticks_are b cs i]
theorem ticks_len {cs : List Int} (hc : ∀ c ∈ cs, c ≤ 4) (i : Nat) : (ticksOf cs i).length ≤ 4 * i := by
  rw [← ticks_are 0 cs i, List.length_map]
  exact pre_len hc i
theorem getD_past {cs : List Int} {i : Nat} (h : cs.length ≤ i) : cs.getD i 0 = 0 := by
  rw [List.getD_eq_getElem?_getD, List.getElem?_eq_none h]
  rfl
theorem pre_past {b : Int} (hb : 0 ≤ b) (cs : List Int) : ∀ d : Nat, (pre b cs (cs.length + d)).1 = letts b cs ∧ ((pre b cs (cs.length + d)).2 ≤ b - d ∨ (pre b cs (cs.length + d)).2 ≤ 0)
  | 0 => ⟨rfl, .inl (by
    have := (pre_rng hb cs cs.length).2
    show (pre b cs cs.length).2 ≤ b - ((0 : Nat) : Int)
    omega)⟩
  | d + 1 => by
    have ih := pre_past hb cs d
    have e : turns b ((cs.length + d : Nat) : Int) (cs.getD (cs.length + d) 0).toNat (pre b cs (cs.length + d)) = pre b cs (cs.length + d) := by
      rw [getD_past (by omega)]
      rfl
    have e1 : (pre b cs (cs.length + (d + 1))).1 = (turns b ((cs.length + d : Nat) : Int) (cs.getD (cs.length + d) 0).toNat (pre b cs (cs.length + d))).1 := rfl
    have e2 : (pre b cs (cs.length + (d + 1))).2 = close (turns b ((cs.length + d : Nat) : Int) (cs.getD (cs.length + d) 0).toNat (pre b cs (cs.length + d))).2 := rfl
    rw [e] at e1 e2
    refine ⟨e1.trans ih.1, ?_⟩
    rw [e2]
    unfold close
    have := ih.2
    split <;> omega
end Ln

/-! ## sum(t), t a tuple of ints -/
namespace My
open PySem PySem.Spec PyProof.Rows L2
section
variable {prog : Program} {w : World} {A : Around} {E : Value → Shared → Prop} {s : Shared} {l : Addr} {xs : Array (Int × Tok)}
theorem sum_tupG {Q : Value → Shared → Prop} (hh : A.handled = none) (hl : s.heap.IsTuple l (intItems xs))
    (h : ∀ h' tk t', (∀ b o, s.heap.get? b = some o → h'.get? b = some o) → Q (.int (preSum (numAt xs) xs.size) t') { s with heap := h', toks := tk }) :
    wpAny (model prog w) A (call (.builtin "sum") [.ref l]) Q E s := by
  have hll : l < s.heap.objs.size := by obtain ⟨_, q, _⟩ := hl; exact Heap.lt_size q
  refine call_sum_walkG (wpAny_pyIter_tuple hl ?_)
  refine ⟨_, _, _, _, _, _, numAt xs, rfl, Walks.tuple (A := A.in1) hh s.heap.objs.size l (Nat.ne_of_lt hll) (intItems xs), ⟨⟨_, Heap.get?_push_size _ rfl, rfl, rfl⟩, hl.push _⟩, fun b hb => ?_, (fun _ _ => intItems_at), fun h' tk t' hk => ?_⟩
  · show b < (s.heap.push _).objs.size
    rw [Heap.size_push]
    rcases List.mem_cons.mp hb with rfl | hb
    · exact Nat.lt_succ_self _
    · rw [List.mem_singleton.mp hb]
      exact Nat.lt_succ_of_lt hll
  · have := h h' tk t' fun b o e => hk b o (fun hm => by
      rw [List.mem_singleton.mp hm] at e
      exact absurd (Heap.lt_size e) (Nat.lt_irrefl _)) (Heap.get?_push_of_some _ e)
    simpa [intItems] using this
end
def rSumT (K : PySem.W.Frag) : List V → Hp → VK → Prop := fun vs H Q => ∃ (a : Addr) (ns : List Int), vs = [V.ref a] ∧ SqT K H a (ns.map V.int) ∧ Q (.int ns.sum) H
theorem cr_sumT {X : Cx} (hc : X.calm = true) : CallR X (.builtin "sum") (rSumT X.K) := by
  intro pins s σ H vs us Q I r h
  obtain ⟨a, ns, rfl, hs, q⟩ := h
  obtain ⟨its, rv, hl, _⟩ := I.tuple hs
  rw [Vals.ref1 r]
  have hi := rv.ints
  obtain ⟨xs, e⟩ := hi.allInts.items
  have hn : numsOf (intItems xs).toList = ns := by rw [← e]; exact hi.numsOf
  rw [nums_intItems] at hn
  have hl' : s.heap.IsTuple a (intItems xs) := by
    rw [← e]
    exact hl
  refine sum_tupG (I.ok.hd hc) hl' fun h' tk t' hk => ?_
  rw [preSum_eq, List.take_of_length_le (by simp), hn]
  exact ⟨.int _, H, I.kept hk, ⟨_, rfl⟩, q⟩
/-! ### t + u, both tracked, t not empty -/
def rCatP : R2 := fun x y H Q => ∃ a b xs ys, x = .ref a ∧ y = .ref b ∧ H a = some (.tup xs) ∧ H b = some (.tup ys) ∧ xs ≠ [] ∧ xs.length + ys.length ≤ sizeLine ∧ ∀ p H', Same H H' → H' p = some (.tup (xs ++ ys)) → Q (.ref p) H'
theorem op_catP {X : Cx} : OpR X (binaryOp .Add) rCatP := by
  intro pins s σ H x y v u Q I rx ry h
  obtain ⟨a, b, xs, ys, rfl, rfl, ha, hb, hne, hz, q⟩ := h
  refine op_catA pins s σ H _ _ v u Q I rx ry ⟨a, b, xs, ys, rfl, rfl, SqT.of ha, SqT.of hb, hz, fun e => absurd e hne, fun _ e => ?_, fun _ _ p np => ?_⟩
  · subst e
    refine q a H (fun _ _ h => h) ?_
    rw [List.append_nil]
    exact ha
  · exact q p _ (same_upd np) upd_same
/-! ### xs[i] read where it is changed -/
theorem pgetL {X : Cx} : PGet X (rIxL X.K) := by
  intro pins s σ H o i ov iv Q I r1 r2 h
  obtain ⟨p, xs, k, z, rfl, rfl, hq, he, q⟩ := h
  cases r1
  obtain ⟨t, rfl⟩ := r2
  obtain ⟨its, r, pl, hz⟩ := I.list hq
  obtain ⟨j, h1, h2, h3, h4, h5⟩ := atI_get he
  obtain ⟨w, ew, rw'⟩ := r.get h2
  have hl := r.length
  have hn := line63
  have fin : EP X pins σ Q w s := ⟨z, H, I, rw', q⟩
  by_cases h0 : 0 ≤ k
  · have hj : k.toNat = j := by
      rw [PySem.seqIndex_of h0 h5] at h1
      exact Option.some.inj h1
    exact wpAny_getItem_list pl.isList h0 (by omega) (by rw [hj]; simpa using ew) fin
  · have hj : (k + (its.toArray.size : Int)).toNat = j := by
      rw [PySem.seqIndex_neg (by omega) h4] at h1
      rw [List.size_toArray, ← hl]
      exact Option.some.inj h1
    exact wpAny_mono (wpAny_getItem_list_neg (Q := fun r s' => r = w ∧ EP X pins σ Q r s') pl.isList (by omega) (by rw [List.size_toArray] <;> omega) (by omega) (by rw [hj]; simpa using ew) ⟨rfl, fin⟩) (fun _ _ h => h.2) fun _ _ h => h
/-! ### zip of two lists, the second one not longer -/
theorem for_zipS {K : PySem.W.Frag} {a b : Addr} {xs ys : List V} {g : TG} {tb : TS} {D : Ends} {σ : L2.St} {H : Hp} (hl : ys.length ≤ xs.length) (Pv : Nat → L2.St → Hp → Prop) (h0 : Pv 0 σ H) (hq : ∀ i σ H, Pv i σ H → SqL K H a xs ∧ SqL K H b ys)
    (hs : ∀ (i : Nat) (x y : V) (T : Addr) (σ : L2.St) (H : Hp), xs[i]? = some x → ys[i]? = some y → Pv i σ H → H T = none → g (.ref T) σ (upd H T (.tup [x, y])) fun σ2 H2 => tb { D with nx := Pv (i + 1), ct := Pv (i + 1), bk := D.nx } σ2 H2) (hd : ∀ σ H, Pv ys.length σ H → D.nx σ H) :
    ∃ W : Nat → Nat → L2.St → Hp → Prop, (∃ m, W 0 m σ H) ∧ ∀ i m σ H, W i m σ H →
      ((Itz K a b).stop i H ∧ D.nx σ H) ∨ ((Itz K a b).go i H ∧ ∃ N : L2.St → Hp → Prop, (∀ σ' H', N σ' H' → ∃ m', m' < m ∧ W (i + 1) m' σ' H') ∧ ∀ v H', (Itz K a b).yld i H v H' → g v σ H' fun σ2 H2 => tb { D with nx := N, ct := N, bk := D.nx } σ2 H2) := by
  refine ⟨fun i m σ H => m = ys.length - i ∧ i ≤ ys.length ∧ Pv i σ H, ⟨ys.length, rfl, Nat.zero_le _, h0⟩, ?_⟩
  rintro i m σ H ⟨rfl, hi, p⟩
  obtain ⟨qx, qy⟩ := hq i σ H p
  by_cases h : i < ys.length
  · have hx : xs[i]? = some xs[i] := List.getElem?_eq_getElem (by omega)
    have hy : ys[i]? = some ys[i] := List.getElem?_eq_getElem h
    refine .inr ⟨⟨xs, ys, _, _, qx, qy, hx, hy⟩, Pv (i + 1), fun σ' H' n => ⟨ys.length - (i + 1), by omega, rfl, by omega, n⟩, ?_⟩
    rintro v H' ⟨T, x, y, rfl, nT, rfl, ex, ey⟩
    exact hs i x y T σ H (ex xs qx) (ey ys qy) p nT
  · have e : i = ys.length := by omega
    subst e
    exact .inl ⟨⟨xs, ys, qx, qy, .inr (Nat.le_refl _)⟩, hd σ H p⟩
/-! ### what stays while the tape moves -/
theorem Moved.sq {K : PySem.W.Frag} {t s : Addr} {H H' : Hp} {a : Addr} {xs : List V} (mv : Moved t H H') (tp : Tape H t s) (h : SqT K H a xs) : SqT K H' a xs := by
  obtain ⟨_, _, _, _, _, _, e2, _⟩ := tp
  rcases h with (h | ⟨o, h⟩) | h
  · exact .inl (.inl (mv _ _ (fun z => by rw [z, e2] at h; cases h) h))
  · exact .inl (.inr ⟨o, mv _ _ (fun z => by rw [z, e2] at h; cases h) h⟩)
  · exact .inr h
theorem Moved.tups {α : Type} {f : α → List V} {t s : Addr} {H H' : Hp} {ps : List Addr} {xs : List α} (mv : Moved t H H') (tp : Tape H t s) (h : Tups f H ps xs) : Tups f H' ps xs := h.keep fun b ys e => by
  obtain ⟨_, _, _, _, _, _, e2, _⟩ := tp
  exact mv _ _ (fun z => by rw [z, e2] at e; cases e) e
end My

/-! ### the mathematics of digits and days -/
namespace Dy
open Ln (Let)
/-! doubling -/
def Grd : Int → List Int → Prop
  | _, [] => True
  | T, l :: r => l ≤ T + 1 ∧ Grd (T + l) r
theorem grd_snoc : ∀ (r : List Int) (T l : Int), Grd T r → l ≤ T + r.sum + 1 → Grd T (r ++ [l])
  | [], T, l, _, h => by
    refine ⟨?_, trivial⟩
    simpa using h
  | x :: r, T, l, hg, h => by
    refine ⟨hg.1, grd_snoc r (T + x) l hg.2 ?_⟩
    rw [List.sum_cons] at h
    omega
/-- from the greatest on: each at most one more than the sum of those behind it -/
def GR : List Int → Prop
  | [] => True
  | l :: r => l ≤ r.sum + 1 ∧ GR r
theorem gr_of : ∀ (r : List Int) (T : Int) (acc : List Int), Grd T r → acc.sum = T → GR acc → GR (r.reverse ++ acc)
  | [], _, acc, _, _, h => h
  | x :: r, T, acc, hg, hs, h => by
    rw [List.reverse_cons, List.append_assoc]
    exact gr_of r (T + x) (x :: acc) hg.2 (by rw [List.sum_cons]; omega) ⟨by rw [hs]; exact hg.1, h⟩
/-- digits: the row so far, and what is left -/
def dig (ls : List Int) : List Int → List Int × Int → List Int × Int
  | [], s => s
  | k :: r, s => dig ls r (if Tb.len1 ls k ≤ s.2 then (k :: s.1, s.2 - Tb.len1 ls k) else s)
theorem dig_ok {ls : List Int} : ∀ (ks : List Int) (row : List Int) (w : Int), GR (ks.map (Tb.len1 ls)) → 0 ≤ w → w ≤ (ks.map (Tb.len1 ls)).sum → Tb.InR ls ks → Tb.InR ls row →
    (dig ls ks (row, w)).2 = 0 ∧ Tb.rsum ls (dig ls ks (row, w)).1 = Tb.rsum ls row + w ∧ Tb.InR ls (dig ls ks (row, w)).1
  | [], row, w, _, h0, h1, _, hr => by
    have : w = 0 := by
      simp at h1
      omega
    subst this
    exact ⟨rfl, by show Tb.rsum ls row = Tb.rsum ls row + 0; omega, hr⟩
  | k :: r, row, w, hg, h0, h1, hk, hr => by
    rw [List.map_cons, List.sum_cons] at h1
    have hk' : Tb.InR ls r := fun x hx => hk x (List.mem_cons_of_mem _ hx)
    unfold dig
    by_cases c : Tb.len1 ls k ≤ w
    · rw [if_pos c]
      obtain ⟨a, b, d⟩ := dig_ok r (k :: row) (w - Tb.len1 ls k) hg.2 (by omega) (by omega) hk' (fun x hx => by
        rcases List.mem_cons.mp hx with e | hx
        · rw [e]
          exact hk k List.mem_cons_self
        · exact hr x hx)
      refine ⟨a, ?_, d⟩
      rw [b, Tb.rsum_cons]
      omega
    · rw [if_neg c]
      have := hg.1
      exact dig_ok r row w hg.2 h0 (by omega) hk' hr
/-! layings -/
def rowOf (rs : List (List Int)) (w : Int) : List Int := if w ≤ 0 then [] else rs.getD (w - 1).toNat []
def lay1 (ls : List Int) (rs : List (List Int)) (n : Int) (l : Let) : List (List Int) := match l.2.2 with
  | none => []
  | some w => (Tb.go ls 0 (rowOf rs w)).map fun p => [l.1 + p.1, n, p.2]
def lays (ls : List Int) (rs : List (List Int)) : Int → List Let → List (List Int)
  | _, [] => []
  | n, l :: r => lay1 ls rs n l ++ lays ls rs (n + 1) r
theorem lays_snoc (ls : List Int) (rs : List (List Int)) : ∀ (L : List Let) (n : Int) (l : Let), lays ls rs n (L ++ [l]) = lays ls rs n L ++ lay1 ls rs (n + (L.length : Int)) l
  | [], n, l => by
    show lay1 ls rs n l ++ [] = [] ++ lay1 ls rs (n + ((0 : Nat) : Int)) l
    rw [List.append_nil, List.nil_append]
    congr 1
    omega
  | x :: L, n, l => by
    show lay1 ls rs n x ++ lays ls rs (n + 1) (L ++ [l]) = (lay1 ls rs n x ++ lays ls rs (n + 1) L) ++ lay1 ls rs _ l
    rw [lays_snoc ls rs L (n + 1) l, List.append_assoc]
    congr 3
    rw [List.length_cons]
    omega
/-- who is inside behind a tick, of one laying -/
def ins1 (ls : List Int) (τ : Int) (e : List Int) : Option (List Int) :=
  if e.getD 0 0 ≤ τ ∧ e.getD 0 0 + Tb.len1 ls (e.getD 2 0) - τ > 0 then some [e.getD 2 0, e.getD 1 0, e.getD 0 0 + Tb.len1 ls (e.getD 2 0) - τ] else none
/-- where a letter is, by its age -/
def whr (ls : List Int) : List Int → Int → Option (Int × Int)
  | [], _ => none
  | k :: r, age => if age < Tb.len1 ls k then some (k, Tb.len1 ls k - age) else whr ls r (age - Tb.len1 ls k)
def in1 (ls : List Int) (rs : List (List Int)) (τ n : Int) (l : Let) : List (List Int) := match l.2.2 with
  | none => []
  | some w => if 0 < w ∧ l.1 ≤ τ then (match whr ls (rowOf rs w) (τ - l.1) with
    | none => []
    | some p => [[p.1, n, p.2]]) else []
def inAll (ls : List Int) (rs : List (List Int)) (τ : Int) : Int → List Let → List (List Int)
  | _, [] => []
  | n, l :: r => in1 ls rs τ n l ++ inAll ls rs τ (n + 1) r
theorem inAll_append (ls : List Int) (rs : List (List Int)) (τ : Int) : ∀ (L M : List Let) (n : Int), inAll ls rs τ n (L ++ M) = inAll ls rs τ n L ++ inAll ls rs τ (n + (L.length : Int)) M
  | [], M, n => by
    show inAll ls rs τ n M = inAll ls rs τ (n + ((0 : Nat) : Int)) M
    congr 1
    omega
  | x :: L, M, n => by
    show in1 ls rs τ n x ++ inAll ls rs τ (n + 1) (L ++ M) = (in1 ls rs τ n x ++ inAll ls rs τ (n + 1) L) ++ _
    rw [inAll_append ls rs τ L M (n + 1), List.append_assoc, List.length_cons]
    congr 3
    omega
theorem go_none {ls : List Int} (G : Rch.Good ls) {β n τ : Int} : ∀ (r : List Int) (g : Int), Tb.InR ls r → τ - β < g → ((Tb.go ls g r).map fun p => [β + p.1, n, p.2]).filterMap (ins1 ls τ) = []
  | [], _, _, _ => rfl
  | k :: r, g, h, hg => by
    have hk := h k List.mem_cons_self
    have l1 := (Tb.len_pos G hk.1 hk.2).1
    have hr : Tb.InR ls r := fun x hx => h x (List.mem_cons_of_mem _ hx)
    show List.filterMap (ins1 ls τ) ([β + g, n, k] :: (Tb.go ls (g + Tb.len1 ls k) r).map fun p => [β + p.1, n, p.2]) = []
    have e : ins1 ls τ [β + g, n, k] = none := if_neg (fun z => by
      have : β + g ≤ τ := z.1
      omega)
    rw [List.filterMap_cons_none e]
    exact go_none G r _ hr (by omega)
theorem go_whr {ls : List Int} (G : Rch.Good ls) {β n τ : Int} : ∀ (r : List Int) (g : Int), Tb.InR ls r → g ≤ τ - β → ((Tb.go ls g r).map fun p => [β + p.1, n, p.2]).filterMap (ins1 ls τ) = match whr ls r (τ - β - g) with
    | none => []
    | some p => [[p.1, n, p.2]]
  | [], _, _, _ => rfl
  | k :: r, g, h, hg => by
    have hk := h k List.mem_cons_self
    have l1 := (Tb.len_pos G hk.1 hk.2).1
    have hr : Tb.InR ls r := fun x hx => h x (List.mem_cons_of_mem _ hx)
    show List.filterMap (ins1 ls τ) ([β + g, n, k] :: (Tb.go ls (g + Tb.len1 ls k) r).map fun p => [β + p.1, n, p.2]) = _
    unfold whr
    by_cases c : τ - β - g < Tb.len1 ls k
    · rw [if_pos c]
      have e : ins1 ls τ [β + g, n, k] = some [k, n, β + g + Tb.len1 ls k - τ] := if_pos ⟨by show β + g ≤ τ; omega, by show β + g + Tb.len1 ls k - τ > 0; omega⟩
      rw [List.filterMap_cons_some e, go_none G r _ hr (by omega)]
      show [[k, n, β + g + Tb.len1 ls k - τ]] = [[k, n, Tb.len1 ls k - (τ - β - g)]]
      rw [show β + g + Tb.len1 ls k - τ = Tb.len1 ls k - (τ - β - g) by omega]
    · rw [if_neg c]
      have e : ins1 ls τ [β + g, n, k] = none := if_neg (fun z => by
        have : β + g + Tb.len1 ls k - τ > 0 := z.2
        omega)
      rw [List.filterMap_cons_none e, go_whr G r _ hr (by omega), show τ - β - (g + Tb.len1 ls k) = τ - β - g - Tb.len1 ls k by omega]
theorem rowOf_at {ls : List Int} {rs : List (List Int)} (R : Tb.Right ls rs) {w : Int} (h0 : 0 < w) (h1 : w ≤ (rs.length : Int)) : rs[(w - 1).toNat]? = some (rowOf rs w) ∧ Tb.InR ls (rowOf rs w) ∧ (rowOf rs w).length ≤ 60 ∧ Tb.rsum ls (rowOf rs w) = w := by
  have hl : (w - 1).toNat < rs.length := by omega
  have e : rs[(w - 1).toNat]? = some (rowOf rs w) := by
    unfold rowOf
    rw [if_neg (by omega), List.getD_eq_getElem?_getD, List.getElem?_eq_getElem hl]
    rfl
  obtain ⟨a, b, c⟩ := R.2.2.2 _ _ e
  exact ⟨e, a, b, by rw [c]; omega⟩
/-- waits that are right for a table -/
def Wt (rs : List (List Int)) (L : List Let) : Prop := ∀ l ∈ L, ∀ w, l.2.2 = some w → 0 ≤ w ∧ w ≤ (rs.length : Int)
theorem lay_in {ls : List Int} {rs : List (List Int)} (R : Tb.Right ls rs) {τ n : Int} {l : Let} (h : ∀ w, l.2.2 = some w → 0 ≤ w ∧ w ≤ (rs.length : Int)) : (lay1 ls rs n l).filterMap (ins1 ls τ) = in1 ls rs τ n l := by
  obtain ⟨t, u, wt⟩ := l
  cases wt with
  | none => rfl
  | some w =>
    have hw := h w rfl
    show ((Tb.go ls 0 (rowOf rs w)).map fun p => [t + p.1, n, p.2]).filterMap (ins1 ls τ) = if 0 < w ∧ t ≤ τ then _ else []
    by_cases c0 : 0 < w
    · obtain ⟨_, hin, _, _⟩ := rowOf_at R c0 hw.2
      by_cases c1 : t ≤ τ
      · rw [if_pos ⟨c0, c1⟩, go_whr R.1 _ 0 hin (by omega), show τ - t - 0 = τ - t by omega]
      · rw [if_neg (fun z => c1 z.2), go_none R.1 _ 0 hin (by omega)]
    · rw [if_neg (fun z => c0 z.1)]
      have : rowOf rs w = [] := if_pos (by omega)
      rw [this]
      rfl
theorem lays_in {ls : List Int} {rs : List (List Int)} (R : Tb.Right ls rs) {τ : Int} : ∀ (L : List Let) (n : Int), Wt rs L → (lays ls rs n L).filterMap (ins1 ls τ) = inAll ls rs τ n L
  | [], _, _ => rfl
  | l :: r, n, h => by
    show (lay1 ls rs n l ++ lays ls rs (n + 1) r).filterMap _ = _
    rw [List.filterMap_append, lay_in R (h l List.mem_cons_self), lays_in R r (n + 1) fun x hx => h x (List.mem_cons_of_mem _ hx)]
    rfl
/-! how many -/
theorem whr_iff {ls : List Int} (G : Rch.Good ls) : ∀ (r : List Int) (age : Int), Tb.InR ls r → 0 ≤ age → (whr ls r age).isSome = decide (age < Tb.rsum ls r)
  | [], age, _, h => by
    show false = decide (age < Tb.rsum ls [])
    rw [decide_eq_false]
    simp [Tb.rsum]
    omega
  | k :: r, age, hin, h => by
    have hk := hin k List.mem_cons_self
    have hr : Tb.InR ls r := fun x hx => hin x (List.mem_cons_of_mem _ hx)
    have := Tb.rsum_len G hr
    rw [Tb.rsum_cons]
    unfold whr
    by_cases c : age < Tb.len1 ls k
    · rw [if_pos c, decide_eq_true (by omega)]
      rfl
    · rw [if_neg c, whr_iff G r _ hr (by omega)]
      exact decide_eq_decide.mpr (by omega)
def alive (τ : Int) (l : Let) : Bool := match l.2.2 with
  | none => false
  | some w => decide (l.1 ≤ τ) && decide (τ < l.1 + w)
theorem in1_len {ls : List Int} {rs : List (List Int)} (R : Tb.Right ls rs) {τ n : Int} {l : Let} (h : ∀ w, l.2.2 = some w → 0 ≤ w ∧ w ≤ (rs.length : Int)) : (in1 ls rs τ n l).length = if alive τ l then 1 else 0 := by
  obtain ⟨t, u, wt⟩ := l
  cases wt with
  | none => rfl
  | some w =>
    have hw := h w rfl
    show (if 0 < w ∧ t ≤ τ then _ else []).length = if (decide (t ≤ τ) && decide (τ < t + w)) = true then 1 else 0
    by_cases c0 : 0 < w
    · obtain ⟨_, hin, _, hs⟩ := rowOf_at R c0 hw.2
      by_cases c1 : t ≤ τ
      · rw [if_pos ⟨c0, c1⟩, decide_eq_true c1, Bool.true_and]
        have z := whr_iff R.1 (rowOf rs w) (τ - t) hin (by omega)
        rw [hs] at z
        cases e : whr ls (rowOf rs w) (τ - t) with
        | none =>
          rw [e] at z
          have : ¬ τ < t + w := fun y => by
            rw [decide_eq_true (by omega)] at z
            cases z
          rw [decide_eq_false this]
          rfl
        | some p =>
          rw [e] at z
          have : τ < t + w := by
            have := of_decide_eq_true z.symm
            omega
          rw [decide_eq_true this]
          rfl
      · rw [if_neg (fun z => c1 z.2), decide_eq_false c1]
        rfl
    · rw [if_neg (fun z => c0 z.1)]
      by_cases c1 : t ≤ τ
      · rw [decide_eq_false (by omega : ¬ τ < t + w), Bool.and_false]
        rfl
      · rw [decide_eq_false c1]
        rfl
theorem count_outs {ls : List Int} {rs : List (List Int)} (R : Tb.Right ls rs) {τ : Int} : ∀ (L : List Let) (n : Int), Wt rs L → (∀ l ∈ L, l.1 ≤ τ) → (inAll ls rs τ n L).length = ((Ln.outsFrom n L).filter fun p => decide (τ < p.1)).length
  | [], _, _, _ => rfl
  | l :: r, n, h, ht => by
    show (in1 ls rs τ n l ++ inAll ls rs τ (n + 1) r).length = ((Ln.one l n ++ Ln.outsFrom (n + 1) r).filter _).length
    rw [List.length_append, List.filter_append, List.length_append, in1_len R (h l List.mem_cons_self), count_outs R r (n + 1) (fun x hx => h x (List.mem_cons_of_mem _ hx)) (fun x hx => ht x (List.mem_cons_of_mem _ hx))]
    congr 1
    have hl := ht l List.mem_cons_self
    obtain ⟨t, u, wt⟩ := l
    cases wt with
    | none => rfl
    | some w =>
      show (if (decide (t ≤ τ) && decide (τ < t + w)) = true then 1 else 0) = ([(t + w, n)].filter fun p => decide (τ < p.1)).length
      rw [decide_eq_true (show t ≤ τ from hl), Bool.true_and]
      by_cases c : τ < t + w
      · rw [decide_eq_true c, List.filter_cons_of_pos (by exact decide_eq_true c)]
        rfl
      · rw [decide_eq_false c, List.filter_cons_of_neg (by
          show ¬ decide (τ < t + w) = true
          rw [decide_eq_false c]
          exact Bool.false_ne_true)]
        rfl
theorem qp_ge : ∀ (q : List Int) (τ : Int), ∀ p ∈ Ln.qp τ q, τ ≤ p.1
  | [], _, p, h => absurd h (by simp [Ln.qp])
  | x :: q, τ, p, h => by
    rcases List.mem_cons.mp h with e | h
    · rw [e]
      exact Int.le_refl _
    · have := qp_ge q (τ + 1) p h
      omega
theorem qp_len : ∀ (q : List Int) (τ : Int), (Ln.qp τ q).length = q.length
  | [], _ => rfl
  | x :: q, τ => by
    show (Ln.qp (τ + 1) q).length + 1 = q.length + 1
    rw [qp_len q]
theorem led_turns {b τ : Int} : ∀ (k : Nat) (s : List Let × Int), (∃ q prs, Ln.Led τ s q prs ∧ ∀ p ∈ prs, p.1 < τ) → ∃ q prs, Ln.Led τ (Ln.turns b τ k s) q prs ∧ ∀ p ∈ prs, p.1 < τ
  | 0, _, h => h
  | k + 1, s, h => by
    obtain ⟨q, prs, le, hp⟩ := led_turns (b := b) k s h
    show ∃ q prs, Ln.Led τ (Ln.step b τ (1 + (k : Int)) (Ln.turns b τ k s)) q prs ∧ _
    by_cases c : (Ln.turns b τ k s).2 > b
    · exact ⟨q, prs, (le.no c).1, hp⟩
    · exact ⟨_, prs, (le.yes c).1, hp⟩
theorem led_pre (b : Int) (cs : List Int) : ∀ i : Nat, ∃ q prs, Ln.Led (i : Int) (Ln.pre b cs i) q prs ∧ ∀ p ∈ prs, p.1 < (i : Int)
  | 0 => ⟨[], [], ⟨rfl, rfl⟩, fun p h => by simp at h⟩
  | i + 1 => by
    obtain ⟨q, prs, le, hp⟩ := led_turns (b := b) (cs.getD i 0).toNat _ (led_pre b cs i)
    have ei : ((i + 1 : Nat) : Int) = (i : Int) + 1 := by omega
    rw [ei]
    have le1 := le.1
    cases q with
    | nil =>
      refine ⟨[], prs, ⟨?_, le.2⟩, fun p h => by have := hp p h; omega⟩
      show ((0 : Nat) : Int) = Ln.close (Ln.turns b (i : Int) (cs.getD i 0).toNat (Ln.pre b cs i)).2
      rw [← le1]
      rfl
    | cons x r =>
      refine ⟨r, prs ++ [((i : Int), x)], ⟨?_, Ln.Due.pop le.2⟩, fun p h => ?_⟩
      · show (r.length : Int) = Ln.close (Ln.turns b (i : Int) (cs.getD i 0).toNat (Ln.pre b cs i)).2
        rw [List.length_cons] at le1
        unfold Ln.close
        rw [if_pos (by omega)]
        omega
      · rcases List.mem_append.mp h with h | h
        · have := hp p h
          omega
        · rw [List.mem_singleton.mp h]
          show (i : Int) < _
          omega
theorem turns_new {b τ : Int} : ∀ (k : Nat) (s : List Let × Int), 0 ≤ s.2 → s.2 ≤ b + 1 → ∃ new, (Ln.turns b τ k s).1 = s.1 ++ new ∧ ∀ l ∈ new, l.1 = τ ∧ ∀ w, l.2.2 = some w → 0 ≤ w ∧ w ≤ b
  | 0, s, _, _ => ⟨[], by show s.1 = s.1 ++ []; rw [List.append_nil], fun l h => by simp at h⟩
  | k + 1, s, h0, h1 => by
    obtain ⟨new, e, hn⟩ := turns_new (b := b) (τ := τ) k s h0 h1
    have rg := Ln.turns_rng (b := b) (τ := τ) k s h0 h1
    show ∃ new, (Ln.step b τ (1 + (k : Int)) (Ln.turns b τ k s)).1 = s.1 ++ new ∧ _
    unfold Ln.step
    by_cases c : (Ln.turns b τ k s).2 > b
    · rw [if_pos c]
      refine ⟨new ++ [(τ, 1 + (k : Int), none)], by show (Ln.turns b τ k s).1 ++ [_] = _; rw [e, List.append_assoc], fun l h => ?_⟩
      rcases List.mem_append.mp h with h | h
      · exact hn l h
      · rw [List.mem_singleton.mp h]
        exact ⟨rfl, fun w z => by cases z⟩
    · rw [if_neg c]
      refine ⟨new ++ [(τ, 1 + (k : Int), some (Ln.turns b τ k s).2)], by show (Ln.turns b τ k s).1 ++ [_] = _; rw [e, List.append_assoc], fun l h => ?_⟩
      rcases List.mem_append.mp h with h | h
      · exact hn l h
      · rw [List.mem_singleton.mp h]
        refine ⟨rfl, fun w z => ?_⟩
        have z' := Option.some.inj z
        omega
theorem pre_in {b : Int} (hb : 0 ≤ b) (cs : List Int) : ∀ (i : Nat), ∀ l ∈ (Ln.pre b cs i).1, 0 ≤ l.1 ∧ l.1 < (i : Int) ∧ ∀ w, l.2.2 = some w → 0 ≤ w ∧ w ≤ b
  | 0, l, h => absurd h (by simp [Ln.pre])
  | i + 1, l, h => by
    have rg := Ln.pre_rng hb cs i
    obtain ⟨new, e, hn⟩ := turns_new (b := b) (τ := (i : Int)) (cs.getD i 0).toNat (Ln.pre b cs i) rg.1 (by omega)
    have h' : l ∈ (Ln.pre b cs i).1 ++ new := e ▸ h
    rcases List.mem_append.mp h' with h | h
    · obtain ⟨x, y, z⟩ := pre_in hb cs i l h
      exact ⟨x, by omega, z⟩
    · obtain ⟨x, z⟩ := hn l h
      exact ⟨by omega, by omega, z⟩
theorem pre_app {b : Int} (hb : 0 ≤ b) (cs : List Int) (i : Nat) : ∀ d : Nat, ∃ rest, (Ln.pre b cs (i + d)).1 = (Ln.pre b cs i).1 ++ rest ∧ ∀ l ∈ rest, (i : Int) ≤ l.1
  | 0 => ⟨[], by rw [List.append_nil]; rfl, fun l h => by simp at h⟩
  | d + 1 => by
    obtain ⟨rest, e, hr⟩ := pre_app hb cs i d
    have rg := Ln.pre_rng hb cs (i + d)
    obtain ⟨new, e2, hn⟩ := turns_new (b := b) (τ := ((i + d : Nat) : Int)) (cs.getD (i + d) 0).toNat (Ln.pre b cs (i + d)) rg.1 (by omega)
    refine ⟨rest ++ new, ?_, fun l h => ?_⟩
    · show (Ln.turns b ((i + d : Nat) : Int) (cs.getD (i + d) 0).toNat (Ln.pre b cs (i + d))).1 = _
      rw [e2, e, List.append_assoc]
    · rcases List.mem_append.mp h with h | h
      · exact hr l h
      · have := (hn l h).1
        omega
theorem late_none {ls : List Int} {rs : List (List Int)} {τ : Int} : ∀ (L : List Let) (n : Int), (∀ l ∈ L, τ < l.1) → inAll ls rs τ n L = []
  | [], _, _ => rfl
  | l :: r, n, h => by
    show in1 ls rs τ n l ++ inAll ls rs τ (n + 1) r = []
    rw [late_none r (n + 1) fun x hx => h x (List.mem_cons_of_mem _ hx), List.append_nil]
    have hl := h l List.mem_cons_self
    unfold in1
    split
    · rfl
    · rw [if_neg (fun z => by omega)]
theorem letts_wt {rs : List (List Int)} (cs : List Int) : Wt rs (Ln.letts (rs.length : Int) cs) := fun l hl w hw => (pre_in (by omega) cs cs.length l hl).2.2 w hw
theorem count_in {ls : List Int} {rs : List (List Int)} (R : Tb.Right ls rs) (cs : List Int) {i : Nat} (hi : i < cs.length) : ((inAll ls rs (i : Int) 0 (Ln.letts (rs.length : Int) cs)).length : Int) = (Ln.pre (rs.length : Int) cs (i + 1)).2 := by
  have hb : (0 : Int) ≤ (rs.length : Int) := by omega
  obtain ⟨rest, e, hr⟩ := pre_app hb cs (i + 1) (cs.length - (i + 1))
  rw [show i + 1 + (cs.length - (i + 1)) = cs.length by omega] at e
  have el : Ln.letts (rs.length : Int) cs = (Ln.pre (rs.length : Int) cs (i + 1)).1 ++ rest := e
  rw [el, inAll_append, late_none rest _ (fun l h => by have := hr l h; omega), List.append_nil]
  rw [count_outs R _ 0 (fun l hl w hw => (pre_in hb cs (i + 1) l hl).2.2 w hw) (fun l hl => by have := (pre_in hb cs (i + 1) l hl).2.1; omega)]
  obtain ⟨q, prs, le, hp⟩ := led_pre (rs.length : Int) cs (i + 1)
  rw [← le.2, List.filter_append, List.filter_eq_nil_iff.mpr (fun p h => by
    have := hp p h
    show ¬ decide ((i : Int) < p.1) = true
    rw [decide_eq_false (by omega)]
    exact Bool.false_ne_true), List.nil_append, List.filter_eq_self.mpr (fun p h => by
    have := qp_ge q _ p h
    exact decide_eq_true (by omega)), qp_len]
  exact le.1
theorem none_in {ls : List Int} {rs : List (List Int)} (R : Tb.Right ls rs) (cs : List Int) {τ : Int} (h : (cs.length : Int) + (rs.length : Int) < τ) : inAll ls rs τ 0 (Ln.letts (rs.length : Int) cs) = [] := by
  have hb : (0 : Int) ≤ (rs.length : Int) := by omega
  have key : ∀ (L : List Let) (n : Int), (∀ l ∈ L, l.1 < (cs.length : Int) ∧ ∀ w, l.2.2 = some w → 0 ≤ w ∧ w ≤ (rs.length : Int)) → inAll ls rs τ n L = [] := by
    intro L
    induction L with
    | nil => exact fun _ _ => rfl
    | cons l r ih =>
      intro n hl
      show in1 ls rs τ n l ++ inAll ls rs τ (n + 1) r = []
      rw [ih (n + 1) fun x hx => hl x (List.mem_cons_of_mem _ hx), List.append_nil]
      obtain ⟨h1, h2⟩ := hl l List.mem_cons_self
      have z := in1_len R (τ := τ) (n := n) h2
      have : alive τ l = false := by
        obtain ⟨t, u, wt⟩ := l
        cases wt with
        | none => rfl
        | some w =>
          have := h2 w rfl
          show (decide (t ≤ τ) && decide (τ < t + w)) = false
          have h1' : t < (cs.length : Int) := h1
          rw [decide_eq_false (by omega : ¬ τ < t + w), Bool.and_false]
      rw [this] at z
      exact List.length_eq_zero_iff.mp z
  exact key _ 0 fun l hl => (pre_in hb cs cs.length l hl).2
theorem behind_at (b : Int) (cs : List Int) : ∀ (n i : Nat), i < n → (Ln.behind b cs n)[i]? = some (Ln.pre b cs (i + 1)).2
  | 0, i, h => absurd h (Nat.not_lt_zero _)
  | n + 1, i, h => by
    show (Ln.behind b cs n ++ [(Ln.pre b cs (n + 1)).2])[i]? = _
    rcases Nat.lt_or_ge i n with c | c
    · rw [List.getElem?_append_left (by rw [Ln.behind_len]; exact c)]
      exact behind_at b cs n i c
    · have : i = n := by omega
      subst this
      rw [List.getElem?_append_right (by rw [Ln.behind_len]; exact Nat.le_refl _), Ln.behind_len, Nat.sub_self]
      rfl
/-! bounds for sorting -/
theorem lays_bd {ls : List Int} {rs : List (List Int)} (R : Tb.Right ls rs) (m : Int) : ∀ (L : List Let) (n : Int), 0 ≤ n → n + (L.length : Int) ≤ 2000 → Wt rs L → (∀ l ∈ L, 0 ≤ l.1 ∧ l.1 < 500) → ∀ e ∈ lays ls rs n L, e.length = 3 ∧ TS.Bd 10000 e ∧ 0 ≤ e.getD 2 0 ∧ e.getD 2 0 < (ls.length : Int)
  | [], _, _, _, _, _, e, h => absurd h (by simp [lays])
  | l :: r, n, h0, h1, hw, ht, e, h => by
    rw [List.length_cons] at h1
    rcases List.mem_append.mp (show e ∈ lay1 ls rs n l ++ lays ls rs (n + 1) r from h) with h | h
    · have hl := ht l List.mem_cons_self
      obtain ⟨t, u, wt⟩ := l
      cases wt with
      | none => exact absurd h (by simp [lay1])
      | some w =>
        have hww := hw _ List.mem_cons_self w rfl
        obtain ⟨p, hp, rfl⟩ := List.mem_map.mp (show e ∈ (Tb.go ls 0 (rowOf rs w)).map fun p => [t + p.1, n, p.2] from h)
        by_cases c : 0 < w
        · obtain ⟨_, hin, _, hs⟩ := rowOf_at R c hww.2
          have b := Tb.go_rng R.1 _ 0 hin p hp
          have g1 := R.1.2.1
          have r60 := R.2.2.1
          have hl0 : 0 ≤ t ∧ t < 500 := hl
          refine ⟨rfl, fun x hx => ?_, b.2.2.1, b.2.2.2⟩
          simp only [List.mem_cons, List.not_mem_nil, or_false] at hx
          rcases hx with e | e | e <;> subst e <;> omega
        · have : rowOf rs w = [] := if_pos (by omega)
          rw [this] at hp
          exact absurd hp (by simp [Tb.go])
    · exact lays_bd R m r (n + 1) (by omega) (by omega) (fun x hx => hw x (List.mem_cons_of_mem _ hx)) (fun x hx => ht x (List.mem_cons_of_mem _ hx)) e h
theorem ins_bd {ls : List Int} (G : Rch.Good ls) {τ : Int} {es : List (List Int)} (h : ∀ e ∈ es, e.length = 3 ∧ TS.Bd 10000 e ∧ 0 ≤ e.getD 2 0 ∧ e.getD 2 0 < (ls.length : Int)) (h1 : 0 ≤ τ) : ∀ e ∈ es.filterMap (ins1 ls τ), e.length = 3 ∧ TS.Bd 20000 e := by
  intro e he
  obtain ⟨x, hx, ex⟩ := List.mem_filterMap.mp he
  obtain ⟨hl, hb, h2, h3⟩ := h x hx
  unfold ins1 at ex
  split at ex
  · next c =>
    have ex' := (Option.some.inj ex).symm
    subst ex'
    have lp := Tb.len_pos G h2 h3
    have b0 : 0 ≤ x.getD 0 0 ∧ x.getD 0 0 < 10000 := by
      match x, hl with
      | [a, b, c], _ => exact hb a List.mem_cons_self
    have b1 : 0 ≤ x.getD 1 0 ∧ x.getD 1 0 < 10000 := by
      match x, hl with
      | [a, b, c], _ => exact hb b (List.mem_cons_of_mem _ List.mem_cons_self)
    have g1 := G.2.1
    refine ⟨rfl, fun y hy => ?_⟩
    simp only [List.mem_cons, List.not_mem_nil, or_false] at hy
    rcases hy with e | e | e <;> subst e <;> omega
  · cases ex
end Dy

/-! ### the mathematics of walks -/
namespace Wk
open Ln (Let)
abbrev Spt := Int × Int
def Spot (k b : Int) (s : Spt) : Prop := 0 ≤ s.1 ∧ s.1 ≤ b ∧ 1 ≤ s.2 ∧ s.2 ≤ k ∧ s.2 - 1 ≤ s.1
def Nx (k b : Int) (s o : Spt) : Prop := Spot k b o ∧ (o = (s.1 + 1, s.2 + 1) ∨ (o.2 = 1 ∧ o.1 ≤ s.1))
/-- each one is next to the one ahead of it -/
def Chain (k b : Int) : Spt → List Spt → Prop
  | _, [] => True
  | s, o :: r => Nx k b s o ∧ Chain k b o r
def Walk (k b : Int) : List Spt → Prop
  | [] => False
  | s :: r => Spot k b s ∧ s.2 = 1 ∧ Chain k b s r
def incL : List Int → List Int
  | [] => []
  | [x] => [x + 1]
  | x :: y :: r => x :: incL (y :: r)
def grow (cs : List Int) (s o : Spt) : List Int := if o.2 > 1 then incL cs else cs ++ (List.replicate (s.1 - o.1).toNat 0 ++ [1])
def cfGo : List Int → Spt → List Spt → List Int
  | cs, _, [] => cs
  | cs, s, o :: r => cfGo (grow cs s o) o r
def start (w : Int) : List Int := List.replicate w.toNat 2 ++ [1]
def cf : List Spt → List Int
  | [] => []
  | s :: r => cfGo (start s.1) s r
theorem incL_snoc (cs : List Int) (x : Int) : incL (cs ++ [x]) = cs ++ [x + 1] := by
  induction cs with
  | nil => rfl
  | cons a cs ih =>
    cases cs with
    | nil => rfl
    | cons b cs => exact congrArg (a :: ·) ih
theorem pre_congr {b : Int} {cs ds : List Int} : ∀ i : Nat, (∀ j, j < i → cs.getD j 0 = ds.getD j 0) → Ln.pre b cs i = Ln.pre b ds i
  | 0, _ => rfl
  | i + 1, h => by
    have ih := pre_congr (b := b) i fun j hj => h j (by omega)
    unfold Ln.pre
    rw [ih, h i (by omega)]
theorem getD_left {cs : List Int} (ds : List Int) {j : Nat} (h : j < cs.length) : (cs ++ ds).getD j 0 = cs.getD j 0 := by
  rw [List.getD_eq_getElem?_getD, List.getD_eq_getElem?_getD, List.getElem?_append_left h]
/-- the line while the last tick's letters have come -/
structure Now (b : Int) (cs : List Int) (row : List Spt) (w : Int) (n : Nat) (s : Spt) : Prop where
  ex : ∃ (ds : List Int) (L0 : List Let), cs = ds ++ [(n : Int)] ∧ (Ln.turns b (ds.length : Int) n (Ln.pre b ds ds.length)).1 = L0 ∧ (Ln.turns b (ds.length : Int) n (Ln.pre b ds ds.length)).2 = s.1 + 1 ∧
    L0.length = 2 * w.toNat + row.length ∧ (L0.drop (2 * w.toNat)).map (fun l => (l.2.2, l.2.1)) = row.map (fun p => (some p.1, p.2)) ∧ ∀ l ∈ L0, l.2.2 ≠ none
  nn : (n : Int) = s.2
theorem drop_snoc {α : Type} {l : List α} {n : Nat} (x : α) (h : n ≤ l.length) : (l ++ [x]).drop n = l.drop n ++ [x] := by
  rw [List.drop_append_of_le_length h]
theorem twos {b : Int} : ∀ (m : Nat) (ds : List Int), (m : Int) ≤ b → ds = List.replicate m 2 → (Ln.pre b ds m).2 = (m : Int) ∧ (Ln.pre b ds m).1.length = 2 * m ∧ ∀ l ∈ (Ln.pre b ds m).1, l.2.2 ≠ none
  | 0, ds, _, _ => ⟨rfl, rfl, fun l h => by simp [Ln.pre] at h⟩
  | m + 1, ds, hm, hd => by
    have hg : ds.getD m 0 = 2 := by
      rw [hd, List.getD_eq_getElem?_getD, List.getElem?_replicate, if_pos (by omega)]
      rfl
    have ec : Ln.pre b ds m = Ln.pre b (List.replicate m 2) m := pre_congr m fun j hj => by
      rw [hd, List.getD_eq_getElem?_getD, List.getD_eq_getElem?_getD, List.getElem?_replicate, List.getElem?_replicate, if_pos (by omega), if_pos (by omega)]
    obtain ⟨a, c, d⟩ := twos (b := b) m (List.replicate m 2) (by omega) rfl
    rw [← ec] at a c d
    have e2 : (2 : Int).toNat = 2 := rfl
    have t : Ln.turns b (m : Int) 2 (Ln.pre b ds m) = ((Ln.pre b ds m).1 ++ [((m : Int), 1 + ((0 : Nat) : Int), some (m : Int))] ++ [((m : Int), 1 + ((1 : Nat) : Int), some ((m : Int) + 1))], (m : Int) + 1 + 1) := by
      show Ln.step b (m : Int) (1 + ((1 : Nat) : Int)) (Ln.step b (m : Int) (1 + ((0 : Nat) : Int)) (Ln.pre b ds m)) = _
      have s1 : Ln.step b (m : Int) (1 + ((0 : Nat) : Int)) (Ln.pre b ds m) = ((Ln.pre b ds m).1 ++ [((m : Int), 1 + ((0 : Nat) : Int), some (m : Int))], (m : Int) + 1) := by
        unfold Ln.step
        rw [if_neg (by omega), a]
      rw [s1]
      unfold Ln.step
      rw [if_neg (by show ¬ (m : Int) + 1 > b; omega)]
    have e : Ln.pre b ds (m + 1) = ((Ln.turns b (m : Int) (ds.getD m 0).toNat (Ln.pre b ds m)).1, Ln.close (Ln.turns b (m : Int) (ds.getD m 0).toNat (Ln.pre b ds m)).2) := rfl
    rw [hg, e2, t] at e
    rw [e]
    refine ⟨?_, ?_, fun l hl => ?_⟩
    · show Ln.close ((m : Int) + 1 + 1) = _
      unfold Ln.close
      rw [if_pos (by omega)]
      omega
    · show ((Ln.pre b ds m).1 ++ [_] ++ [_]).length = _
      rw [List.length_append, List.length_append, c]
      show 2 * m + 1 + 1 = _
      omega
    · rcases List.mem_append.mp hl with hl | hl
      · rcases List.mem_append.mp hl with hl | hl
        · exact d l hl
        · rw [List.mem_singleton.mp hl]
          exact fun z => by cases z
      · rw [List.mem_singleton.mp hl]
        exact fun z => by cases z
theorem now_start {b k : Int} {s : Spt} (hs : Spot k b s) (h1 : s.2 = 1) : Now b (start s.1) [s] s.1 1 s := by
  have hw : ((s.1.toNat : Nat) : Int) = s.1 := by have := hs.1; omega
  have hl : (List.replicate s.1.toNat (2 : Int)).length = s.1.toNat := List.length_replicate
  obtain ⟨a, c, d⟩ := twos (b := b) s.1.toNat (List.replicate s.1.toNat 2) (by rw [hw]; exact hs.2.1) rfl
  have t : Ln.turns b (s.1.toNat : Int) 1 (Ln.pre b (List.replicate s.1.toNat 2) s.1.toNat) = ((Ln.pre b (List.replicate s.1.toNat 2) s.1.toNat).1 ++ [((s.1.toNat : Int), 1 + ((0 : Nat) : Int), some s.1)], s.1 + 1) := by
    show Ln.step b _ (1 + ((0 : Nat) : Int)) (Ln.pre b (List.replicate s.1.toNat 2) s.1.toNat) = _
    unfold Ln.step
    rw [if_neg (by rw [a, hw]; have := hs.2.1; omega), a, hw]
  refine ⟨⟨List.replicate s.1.toNat 2, _, rfl, rfl, ?_, ?_, ?_, ?_⟩, by rw [h1]; rfl⟩
  all_goals rw [hl, t]
  · rw [List.length_append, c]
    rfl
  · show (((Ln.pre b (List.replicate s.1.toNat 2) s.1.toNat).1 ++ [_]).drop (2 * s.1.toNat)).map _ = _
    rw [drop_snoc _ (by rw [c]; exact Nat.le_refl _), List.drop_of_length_le (by rw [c]; exact Nat.le_refl _)]
    show [(some s.1, 1 + ((0 : Nat) : Int))] = [(some s.1, s.2)]
    rw [h1]
    rfl
  · intro l hl'
    rcases List.mem_append.mp hl' with hl' | hl'
    · exact d l hl'
    · rw [List.mem_singleton.mp hl']
      exact fun z => by cases z
/-- ticks at which nobody comes -/
theorem zeros {b : Int} (ds : List Int) : ∀ (m : Nat) (es : List Int), es = ds ++ List.replicate m 0 → (m : Int) ≤ (Ln.pre b ds ds.length).2 → (Ln.pre b es (ds.length + m)).1 = (Ln.pre b ds ds.length).1 ∧ (Ln.pre b es (ds.length + m)).2 = (Ln.pre b ds ds.length).2 - m
  | 0, es, he, _ => by
    have : Ln.pre b es ds.length = Ln.pre b ds ds.length := pre_congr _ fun j hj => by
      rw [he]
      exact getD_left _ hj
    rw [Nat.add_zero, this]
    exact ⟨rfl, by omega⟩
  | m + 1, es, he, hm => by
    obtain ⟨x, y⟩ := zeros (b := b) ds m (ds ++ List.replicate m 0) rfl (by omega)
    have ec : Ln.pre b es (ds.length + m) = Ln.pre b (ds ++ List.replicate m 0) (ds.length + m) := pre_congr _ fun j hj => by
      have e1 : es = (ds ++ List.replicate m 0) ++ [0] := by
        rw [he, List.append_assoc, List.replicate_succ']
      rw [e1]
      exact getD_left _ (by rw [List.length_append, List.length_replicate]; exact hj)
    have hg : es.getD (ds.length + m) 0 = 0 := by
      rw [he, List.getD_eq_getElem?_getD, List.getElem?_append_right (by omega), Nat.add_sub_cancel_left, List.getElem?_replicate, if_pos (by omega)]
      rfl
    have e : Ln.pre b es (ds.length + (m + 1)) = ((Ln.turns b ((ds.length + m : Nat) : Int) (es.getD (ds.length + m) 0).toNat (Ln.pre b es (ds.length + m))).1, Ln.close (Ln.turns b ((ds.length + m : Nat) : Int) (es.getD (ds.length + m) 0).toNat (Ln.pre b es (ds.length + m))).2) := rfl
    rw [hg] at e
    have e' : Ln.pre b es (ds.length + (m + 1)) = ((Ln.pre b es (ds.length + m)).1, Ln.close (Ln.pre b es (ds.length + m)).2) := e
    rw [e', ec]
    refine ⟨x, ?_⟩
    show Ln.close (Ln.pre b (ds ++ List.replicate m 0) (ds.length + m)).2 = _
    rw [y]
    unfold Ln.close
    rw [if_pos (by omega)]
    omega
theorem now_grow {b k : Int} {cs : List Int} {row : List Spt} {w : Int} {n : Nat} {s o : Spt} (h : Now b cs row w n s) (hs : Spot k b s) (hn : Nx k b s o) : ∃ n', Now b (grow cs s o) (row ++ [o]) w n' o := by
  obtain ⟨⟨ds, L0, hcs, hL, hl, hlen, hmap, hnone⟩, nn⟩ := h
  have hs0 := hs.1
  have ho := hn.1
  have hdrop : 2 * w.toNat ≤ L0.length := by omega
  unfold grow
  rcases hn.2 with e | ⟨e1, e2⟩
  · have o1 : o.1 = s.1 + 1 := by rw [e]
    have o2 : o.2 = s.2 + 1 := by rw [e]
    have ob := ho.2.1
    rw [if_pos (by have := hs.2.2.1; omega)]
    have t : Ln.turns b (ds.length : Int) (n + 1) (Ln.pre b ds ds.length) = (L0 ++ [((ds.length : Int), 1 + (n : Int), some (s.1 + 1))], s.1 + 1 + 1) := by
      show Ln.step b _ (1 + (n : Int)) (Ln.turns b (ds.length : Int) n (Ln.pre b ds ds.length)) = _
      unfold Ln.step
      rw [if_neg (by omega), hL, hl]
    refine ⟨n + 1, ⟨ds, _, ?_, rfl, ?_, ?_, ?_, ?_⟩, by omega⟩
    · rw [hcs, incL_snoc]
      rfl
    all_goals rw [t]
    · show s.1 + 1 + 1 = o.1 + 1
      omega
    · rw [List.length_append, List.length_append, hlen]
      rfl
    · rw [drop_snoc _ hdrop, List.map_append, hmap, List.map_append]
      show _ ++ [(some (s.1 + 1), 1 + (n : Int))] = _ ++ [(some o.1, o.2)]
      rw [o1, o2, nn, Int.add_comm 1 s.2]
    · intro l h
      rcases List.mem_append.mp h with h | h
      · exact hnone l h
      · rw [List.mem_singleton.mp h]
        exact fun z => by cases z
  · have ob := ho.2.1
    have oz := ho.1
    rw [if_neg (by omega)]
    obtain ⟨m, hm⟩ : ∃ m : Nat, (s.1 - o.1).toNat = m := ⟨_, rfl⟩
    have hm' : (m : Int) = s.1 - o.1 := by omega
    rw [hm]
    -- behind the last tick
    have hcl : cs.length = ds.length + 1 := by rw [hcs, List.length_append]; rfl
    have hg : cs.getD ds.length 0 = (n : Int) := by
      rw [hcs, List.getD_eq_getElem?_getD, List.getElem?_append_right (Nat.le_refl _), Nat.sub_self]
      rfl
    have ec : Ln.pre b cs ds.length = Ln.pre b ds ds.length := pre_congr _ fun j hj => by
      rw [hcs]
      exact getD_left _ hj
    have ep : Ln.pre b cs cs.length = (L0, s.1) := by
      rw [hcl]
      show ((Ln.turns b (ds.length : Int) (cs.getD ds.length 0).toNat (Ln.pre b cs ds.length)).1, Ln.close (Ln.turns b (ds.length : Int) (cs.getD ds.length 0).toNat (Ln.pre b cs ds.length)).2) = _
      rw [hg, ec, Int.toNat_natCast, hL, hl]
      unfold Ln.close
      rw [if_pos (by omega), show s.1 + 1 - 1 = s.1 by omega]
    obtain ⟨z1, z2⟩ := zeros (b := b) cs m (cs ++ List.replicate m 0) rfl (by rw [ep]; show (m : Int) ≤ s.1; omega)
    rw [ep] at z1 z2
    have el : (cs ++ List.replicate m 0).length = cs.length + m := by rw [List.length_append, List.length_replicate]
    have t : Ln.turns b ((cs ++ List.replicate m (0 : Int)).length : Int) 1 (Ln.pre b (cs ++ List.replicate m 0) (cs ++ List.replicate m (0 : Int)).length) = (L0 ++ [(((cs ++ List.replicate m (0 : Int)).length : Int), 1 + ((0 : Nat) : Int), some o.1)], o.1 + 1) := by
      show Ln.step b _ (1 + ((0 : Nat) : Int)) (Ln.pre b (cs ++ List.replicate m 0) (cs ++ List.replicate m (0 : Int)).length) = _
      rw [el]
      unfold Ln.step
      have zz : (Ln.pre b (cs ++ List.replicate m 0) (cs.length + m)).2 = o.1 := by
        rw [z2]
        show s.1 - (m : Int) = o.1
        omega
      rw [if_neg (by rw [zz]; omega), zz, z1]
    refine ⟨1, ⟨cs ++ List.replicate m 0, _, by rw [List.append_assoc]; rfl, rfl, ?_, ?_, ?_, ?_⟩, by rw [e1]; rfl⟩
    all_goals rw [t]
    · have e9 : ∀ x : Let, (L0 ++ [x]).length = L0.length + 1 := fun x => List.length_append
      rw [e9, hlen, List.length_append]
      rfl
    · rw [drop_snoc _ hdrop, List.map_append, hmap, List.map_append]
      show _ ++ [(some o.1, 1 + ((0 : Nat) : Int))] = _ ++ [(some o.1, o.2)]
      rw [e1]
      rfl
    · intro l h
      rcases List.mem_append.mp h with h | h
      · exact hnone l h
      · rw [List.mem_singleton.mp h]
        exact fun z => by cases z
theorem now_all {b k : Int} : ∀ (r : List Spt) (cs : List Int) (row : List Spt) (w : Int) (n : Nat) (s : Spt), Now b cs row w n s → Spot k b s → Chain k b s r → ∃ n' s', Now b (cfGo cs s r) (row ++ r) w n' s'
  | [], cs, row, w, n, s, h, _, _ => by
    rw [List.append_nil]
    exact ⟨n, s, h⟩
  | o :: r, cs, row, w, n, s, h, hs, hc => by
    obtain ⟨n', h'⟩ := now_grow h hs hc.1
    have := now_all r _ _ w n' o h' hc.1.1 hc.2
    rw [List.append_assoc] at this
    exact this
theorem cf_is {b k : Int} {row : List Spt} (h : Walk k b row) : (Ln.letts b (cf row)).length = 2 * (row.headD (0, 0)).1.toNat + row.length ∧ ((Ln.letts b (cf row)).drop (2 * (row.headD (0, 0)).1.toNat)).map (fun l => (l.2.2, l.2.1)) = row.map (fun p => (some p.1, p.2)) ∧ ∀ l ∈ Ln.letts b (cf row), l.2.2 ≠ none := by
  cases row with
  | nil => exact False.elim h
  | cons s r =>
    obtain ⟨hs, h1, hc⟩ := h
    obtain ⟨n', s', ⟨⟨ds, L0, hcs, hL, hl, hlen, hmap, hnone⟩, nn⟩⟩ := now_all r _ _ _ 1 s (now_start hs h1) hs hc
    have hcl : (cf (s :: r)).length = ds.length + 1 := by
      show (cfGo (start s.1) s r).length = _
      rw [hcs, List.length_append]
      rfl
    have el : Ln.letts b (cf (s :: r)) = L0 := by
      unfold Ln.letts
      rw [hcl]
      show (Ln.turns b (ds.length : Int) ((cf (s :: r)).getD ds.length 0).toNat (Ln.pre b (cf (s :: r)) ds.length)).1 = L0
      have e0 : cf (s :: r) = ds ++ [(n' : Int)] := hcs
      have hg : (cf (s :: r)).getD ds.length 0 = (n' : Int) := by
        rw [e0, List.getD_eq_getElem?_getD, List.getElem?_append_right (Nat.le_refl _), Nat.sub_self]
        rfl
      have ec : Ln.pre b (cf (s :: r)) ds.length = Ln.pre b ds ds.length := pre_congr _ fun j hj => by
        rw [e0]
        exact getD_left _ hj
      rw [hg, ec, Int.toNat_natCast, hL]
    rw [el]
    exact ⟨hlen, hmap, hnone⟩
end Wk

/-! ### what stands twice in a sorted list -/
namespace Mt
def prs (es : List (List Int)) : List (List Int) := es.map fun e => [e.getD 0 0, e.getD 2 0]
def Ok2 (rs : List (List Int)) : Prop := ∀ r ∈ rs, r.length = 2 ∧ TS.Bd 10000 r
abbrev Up (rs : List (List Int)) : Prop := rs.Pairwise fun x y => TS.code 10000 x ≤ TS.code 10000 y
theorem strict_count : ∀ {rs : List (List Int)}, Ok2 rs → Up rs → (∀ (i : Nat) x y, rs[i]? = some x → rs[i + 1]? = some y → x ≠ y) → ∀ r, rs.count r ≤ 1
  | [], _, _, _, r => by simp
  | [x], _, _, _, r => by
    rw [List.count_cons]
    split <;> simp
  | x :: y :: rs, hb, hu, ha, r => by
    have hb' : Ok2 (y :: rs) := fun z hz => hb z (List.mem_cons_of_mem _ hz)
    obtain ⟨h1, h2⟩ := List.pairwise_cons.mp hu
    have ih := strict_count hb' h2 (fun i a b h h' => ha (i + 1) a b (by simpa using h) (by simpa using h')) r
    have hxy : x ≠ y := ha 0 x y rfl rfl
    by_cases e : x = r
    · subst e
      have hn : x ∉ y :: rs := fun hm => by
        rcases List.mem_cons.mp hm with z | hm
        · exact hxy z
        · have c1 := h1 y List.mem_cons_self
          have c2 := (List.pairwise_cons.mp h2).1 x hm
          have bx := hb x List.mem_cons_self
          have bY := hb y (List.mem_cons_of_mem _ List.mem_cons_self)
          exact hxy (My.code_inj bx.1 bY.1 bx.2 bY.2 (Int.le_antisymm c1 c2))
      rw [List.count_cons_self, List.count_eq_zero_of_not_mem hn]
      exact Nat.le_refl _
    · rw [List.count_cons_of_ne e]
      exact ih
theorem twice_least {rs : List (List Int)} (hb : Ok2 rs) (hu : Up rs) {i : Nat} {x : List Int} (h1 : rs[i]? = some x) (h2 : rs[i + 1]? = some x) (ha : ∀ (j : Nat) a b, j < i → rs[j]? = some a → rs[j + 1]? = some b → a ≠ b) :
    2 ≤ rs.count x ∧ ∀ r, 2 ≤ rs.count r → TS.code 10000 x ≤ TS.code 10000 r := by
  have hi : i + 1 < rs.length := (List.getElem?_eq_some_iff.mp h2).1
  have e : rs = rs.take (i + 1) ++ rs.drop (i + 1) := (List.take_append_drop _ _).symm
  have ec : ∀ r, rs.count r = (rs.take (i + 1)).count r + (rs.drop (i + 1)).count r := fun r => by
    rw [← List.count_append, ← e]
  have et : rs.take (i + 1) = rs.take i ++ [x] := by
    rw [List.take_add_one, h1]
    rfl
  have ed : rs.drop (i + 1) = x :: rs.drop (i + 1 + 1) := by
    rw [List.drop_eq_getElem_cons hi]
    congr 1
    rw [List.getElem?_eq_getElem hi] at h2
    exact Option.some.inj h2
  have m1 : x ∈ rs.take (i + 1) := by
    rw [et]
    simp
  have m2 : x ∈ rs.drop (i + 1) := by
    rw [ed]
    exact List.mem_cons_self
  refine ⟨?_, fun r hr => ?_⟩
  · have a := List.count_pos_iff.mpr m1
    have b := List.count_pos_iff.mpr m2
    rw [ec]
    omega
  · have ht : (rs.take (i + 1)).count r ≤ 1 := by
      refine strict_count (fun z hz => hb z (List.mem_of_mem_take hz)) (hu.sublist (List.take_sublist _ _)) (fun j a b ja jb => ?_) r
      have hj : j + 1 < (rs.take (i + 1)).length := (List.getElem?_eq_some_iff.mp jb).1
      rw [List.length_take] at hj
      rw [List.getElem?_take_of_lt (by omega)] at ja jb
      exact ha j a b (by omega) ja jb
    rw [ec] at hr
    have hm : r ∈ rs.drop (i + 1) := List.count_pos_iff.mp (by omega)
    rw [ed] at hm
    have hd : Up (x :: rs.drop (i + 1 + 1)) := by
      rw [← ed]
      exact hu.sublist (List.drop_sublist _ _)
    rcases List.mem_cons.mp hm with z | hm
    · rw [z]
      exact Int.le_refl _
    · exact (List.pairwise_cons.mp hd).1 r hm
/-- the first that stands twice -/
def Least (rs : List (List Int)) (x : List Int) : Prop := 2 ≤ rs.count x ∧ ∀ r, 2 ≤ rs.count r → TS.code 10000 x ≤ TS.code 10000 r
theorem Least.perm {rs rs' : List (List Int)} {x : List Int} (h : Least rs x) (p : rs.Perm rs') : Least rs' x := ⟨by rw [← p.count_eq]; exact h.1, fun r hr => h.2 r (by rw [p.count_eq]; exact hr)⟩
end Mt
namespace Mt
theorem code2 {a b c d : Int} (h1 : TS.Bd 10000 [a, b]) (h2 : TS.Bd 10000 [c, d]) (h : HT.lexLt [a, b] [c, d] = true) : TS.code 10000 [a, b] ≤ TS.code 10000 [c, d] := by
  have hb : TS.Bd 10000 [b] := fun m hm => h1 m (List.mem_cons_of_mem _ hm)
  have hd : TS.Bd 10000 [d] := fun m hm => h2 m (List.mem_cons_of_mem _ hm)
  rw [HT.lexLt_cons] at h
  by_cases e : a = c
  · rw [if_pos e, HT.lexLt_cons] at h
    by_cases e2 : b = d
    · rw [e, e2]
      exact Int.le_refl _
    · rw [if_neg e2] at h
      have lt := of_decide_eq_true h
      rw [e]
      exact Int.le_of_lt ((TS.code_same (B := 10000) (d := c) (r := [b]) (q := [d]) rfl).mpr (TS.code_lt (B := 10000) (d := b) (e := d) (r := []) (q := []) rfl (fun m hm => by cases hm) (fun m hm => by cases hm) lt))
  · rw [if_neg e] at h
    exact Int.le_of_lt (TS.code_lt rfl hb hd (of_decide_eq_true h))
theorem code2' {a b c d : Int} (h1 : TS.Bd 10000 [a, b]) (h2 : TS.Bd 10000 [c, d]) (h : HT.lexLt [a, b] [c, d] = false) : TS.code 10000 [c, d] ≤ TS.code 10000 [a, b] := by
  by_cases e : a = c
  · by_cases e2 : b = d
    · rw [e, e2]
      exact Int.le_refl _
    · refine code2 h2 h1 ?_
      rw [HT.lexLt_cons, if_pos e.symm, HT.lexLt_cons, if_neg (Ne.symm e2)]
      rw [HT.lexLt_cons, if_pos e, HT.lexLt_cons, if_neg e2] at h
      have := of_decide_eq_false h
      exact decide_eq_true (by omega)
  · refine code2 h2 h1 ?_
    rw [HT.lexLt_cons, if_neg (Ne.symm e)]
    rw [HT.lexLt_cons, if_neg e] at h
    have := of_decide_eq_false h
    exact decide_eq_true (by omega)
/-- what the law has seen, and the best so far -/
def Best (P : List (List Int)) : Option (List Int) → Prop
  | none => ∀ r, P.count r ≤ 1
  | some b => b ∈ P ∧ Least P b
theorem cnt (P : List (List Int)) (k r : List Int) : (P ++ [k]).count r = P.count r + if k = r then 1 else 0 := by
  rw [List.count_append, List.count_cons, List.count_nil]
  by_cases e : k = r
  · rw [if_pos e, if_pos (by rw [e]; exact beq_self_eq_true r)]
  · rw [if_neg e, if_neg (by simpa using e)]
theorem best_new {P : List (List Int)} {k : List Int} {o : Option (List Int)} (h : Best P o) (hk : k ∉ P) : Best (P ++ [k]) o := by
  have c0 : P.count k = 0 := List.count_eq_zero_of_not_mem hk
  cases o with
  | none =>
    intro r
    have := h r
    rw [cnt]
    by_cases e : k = r
    · rw [if_pos e, ← e, c0]
      exact Nat.le_refl _
    · rw [if_neg e]
      exact this
  | some b =>
    obtain ⟨hm, h1, h2⟩ := h
    refine ⟨List.mem_append_left _ hm, ?_, fun r hr => h2 r ?_⟩
    · rw [cnt]
      omega
    · rw [cnt] at hr
      by_cases e : k = r
      · rw [if_pos e, ← e, c0] at hr
        omega
      · rw [if_neg e] at hr
        exact hr
theorem best_first {P : List (List Int)} {k : List Int} (h : Best P none) (hk : k ∈ P) : Best (P ++ [k]) (some k) := by
  have c0 := List.count_pos_iff.mpr hk
  refine ⟨List.mem_append_left _ hk, ?_, fun r hr => ?_⟩
  · rw [cnt, if_pos rfl]
    omega
  · by_cases e : k = r
    · rw [e]
      exact Int.le_refl _
    · have := h r
      rw [cnt, if_neg e] at hr
      omega
theorem best_less {P : List (List Int)} {k b : List Int} (h : Best P (some b)) (hk : k ∈ P) (hc : TS.code 10000 k ≤ TS.code 10000 b) : Best (P ++ [k]) (some k) := by
  have c0 := List.count_pos_iff.mpr hk
  obtain ⟨hm, h1, h2⟩ := h
  refine ⟨List.mem_append_left _ hk, ?_, fun r hr => ?_⟩
  · rw [cnt, if_pos rfl]
    omega
  · by_cases e : k = r
    · rw [e]
      exact Int.le_refl _
    · rw [cnt, if_neg e] at hr
      exact Int.le_trans hc (h2 r hr)
theorem best_more {P : List (List Int)} {k b : List Int} (h : Best P (some b)) (hc : TS.code 10000 b ≤ TS.code 10000 k) : Best (P ++ [k]) (some b) := by
  obtain ⟨hm, h1, h2⟩ := h
  refine ⟨List.mem_append_left _ hm, ?_, fun r hr => ?_⟩
  · rw [cnt]
    omega
  · by_cases e : k = r
    · rw [← e]
      exact hc
    · rw [cnt, if_neg e] at hr
      exact h2 r hr
end Mt

/-! ### entries that clash -/
namespace Cl
def hd (e : List Int) : Int := e.getD 0 0
def grp (k : Int) (es : List (List Int)) : List (List Int) := es.filter fun e => decide (hd e = k)
def step (acc : List Int) (e : List Int) : List Int := if hd e ∈ acc then acc else acc ++ [hd e]
/-- the loops of the entries, as they come first -/
def heads (es : List (List Int)) : List Int := es.foldl step []
theorem heads_snoc (es : List (List Int)) (e : List Int) : heads (es ++ [e]) = step (heads es) e := by
  unfold heads
  rw [List.foldl_append]
  rfl
theorem mem_step {acc : List Int} {e : List Int} {k : Int} : k ∈ step acc e ↔ k ∈ acc ∨ hd e = k := by
  unfold step
  split
  · next h =>
    constructor
    · exact .inl
    · rintro (h1 | h1)
      · exact h1
      · rw [← h1]
        exact h
  · rw [List.mem_append, List.mem_singleton]
    constructor
    · rintro (h1 | h1)
      · exact .inl h1
      · exact .inr h1.symm
    · rintro (h1 | h1)
      · exact .inl h1
      · exact .inr h1.symm
theorem mem_fold {es : List (List Int)} : ∀ {acc : List Int} {k : Int}, k ∈ es.foldl step acc ↔ k ∈ acc ∨ ∃ e ∈ es, hd e = k := by
  induction es with
  | nil => simp
  | cons e es ih =>
    intro acc k
    rw [List.foldl_cons, ih, mem_step]
    simp only [List.mem_cons]
    constructor
    · rintro ((h | h) | ⟨x, hx, h⟩)
      · exact .inl h
      · exact .inr ⟨e, .inl rfl, h⟩
      · exact .inr ⟨x, .inr hx, h⟩
    · rintro (h | ⟨x, (rfl | hx), h⟩)
      · exact .inl (.inl h)
      · exact .inl (.inr h)
      · exact .inr ⟨x, hx, h⟩
theorem mem_heads {es : List (List Int)} {k : Int} : k ∈ heads es ↔ ∃ e ∈ es, hd e = k := by
  unfold heads
  rw [mem_fold]
  simp
theorem mem_grp {k : Int} {es : List (List Int)} {e : List Int} : e ∈ grp k es ↔ e ∈ es ∧ hd e = k := by
  unfold grp
  rw [List.mem_filter, decide_eq_true_iff]
theorem grp_snoc (k : Int) (es : List (List Int)) (e : List Int) : grp k (es ++ [e]) = if hd e = k then grp k es ++ [e] else grp k es := by
  unfold grp
  rw [List.filter_append]
  by_cases h : hd e = k
  · rw [if_pos h, List.filter_cons_of_pos (by simpa using h)]
    rfl
  · rw [if_neg h, List.filter_cons_of_neg (by simpa using h)]
    simp
def apart (one other : List Int) : Int := other.getD 2 0 - one.getD 2 0
def cond (c : Int) (one other : List Int) : Bool := decide (apart one other > 0) && (decide (one.getD 1 0 ≥ other.getD 1 0) && decide (apart one other ≤ c * (one.getD 1 0 - other.getD 1 0) + c - 1))
def byOne (c : Int) (g : List (List Int)) (one : List Int) (m : Nat) : List (List Int × List Int) := ((g.take m).filter (cond c one)).map fun other => (one, other)
def byGrp (c : Int) (g : List (List Int)) (j : Nat) : List (List Int × List Int) := (g.take j).flatMap fun one => byOne c g one g.length
def byHeads (c : Int) (es : List (List Int)) (ks : List Int) : List (List Int × List Int) := ks.flatMap fun k => byGrp c (grp k es) (grp k es).length
def cl (c : Int) (es : List (List Int)) : List (List Int × List Int) := byHeads c es (heads es)
theorem byOne_next {c : Int} {g : List (List Int)} {one other : List Int} {m : Nat} (h : g[m]? = some other) : byOne c g one (m + 1) = if cond c one other = true then byOne c g one m ++ [(one, other)] else byOne c g one m := by
  unfold byOne
  rw [My.take_snoc h, List.filter_append]
  by_cases e : cond c one other = true
  · rw [if_pos e, List.filter_cons_of_pos e, List.map_append]
    rfl
  · rw [if_neg e, List.filter_cons_of_neg e]
    simp
theorem byGrp_next {c : Int} {g : List (List Int)} {one : List Int} {j : Nat} (h : g[j]? = some one) : byGrp c g (j + 1) = byGrp c g j ++ byOne c g one g.length := by
  unfold byGrp
  rw [My.take_snoc h, List.flatMap_append]
  simp
theorem byHeads_next {c : Int} {es : List (List Int)} {ks : List Int} {i : Nat} {k : Int} (h : ks[i]? = some k) : byHeads c es (ks.take (i + 1)) = byHeads c es (ks.take i) ++ byGrp c (grp k es) (grp k es).length := by
  unfold byHeads
  rw [My.take_snoc h, List.flatMap_append]
  simp
theorem mem_byOne {c : Int} {g : List (List Int)} {one : List Int} {x y : List Int} : (x, y) ∈ byOne c g one g.length ↔ x = one ∧ y ∈ g ∧ cond c one y = true := by
  unfold byOne
  rw [List.take_of_length_le (Nat.le_refl _), List.mem_map]
  constructor
  · rintro ⟨z, hz, e⟩
    injection e with e1 e2
    subst e1 e2
    obtain ⟨a, b⟩ := List.mem_filter.mp hz
    exact ⟨rfl, a, b⟩
  · rintro ⟨rfl, a, b⟩
    exact ⟨y, List.mem_filter.mpr ⟨a, b⟩, rfl⟩
theorem mem_byGrp {c : Int} {g : List (List Int)} {x y : List Int} : (x, y) ∈ byGrp c g g.length ↔ x ∈ g ∧ y ∈ g ∧ cond c x y = true := by
  unfold byGrp
  rw [List.take_of_length_le (Nat.le_refl _), List.mem_flatMap]
  constructor
  · rintro ⟨o, ho, h⟩
    obtain ⟨rfl, a, b⟩ := mem_byOne.mp h
    exact ⟨ho, a, b⟩
  · rintro ⟨a, b, d⟩
    exact ⟨x, a, mem_byOne.mpr ⟨rfl, b, d⟩⟩
theorem mem_cl {c : Int} {es : List (List Int)} {x y : List Int} : (x, y) ∈ cl c es ↔ x ∈ es ∧ y ∈ es ∧ hd x = hd y ∧ cond c x y = true := by
  unfold cl byHeads
  rw [List.mem_flatMap]
  constructor
  · rintro ⟨k, _, h⟩
    obtain ⟨a, b, d⟩ := mem_byGrp.mp h
    obtain ⟨a1, a2⟩ := mem_grp.mp a
    obtain ⟨b1, b2⟩ := mem_grp.mp b
    exact ⟨a1, b1, by rw [a2, b2], d⟩
  · rintro ⟨a, b, e, d⟩
    exact ⟨hd x, mem_heads.mpr ⟨x, a, rfl⟩, mem_byGrp.mpr ⟨mem_grp.mpr ⟨a, rfl⟩, mem_grp.mpr ⟨b, e.symm⟩, d⟩⟩
/-- a clash of a table for so many comers -/
def Clash (c : Int) (ls : List Int) (rs : List (List Int)) (x y : List Int) : Prop := x ∈ Tb.all ls rs rs.length ∧ y ∈ Tb.all ls rs rs.length ∧ hd x = hd y ∧ cond c x y = true
def Safe (c : Int) (ls : List Int) (rs : List (List Int)) : Prop := ∀ x y, ¬ Clash c ls rs x y
theorem clash_of {c : Int} {ls : List Int} {rs : List (List Int)} {es : List (List Int)} (pm : es.Perm (Tb.all ls rs rs.length)) {x y : List Int} : (x, y) ∈ cl c es ↔ Clash c ls rs x y := by
  rw [mem_cl, pm.mem_iff, pm.mem_iff]
  rfl
theorem safe_of {c : Int} {ls : List Int} {rs : List (List Int)} {es : List (List Int)} (pm : es.Perm (Tb.all ls rs rs.length)) : cl c es = [] ↔ Safe c ls rs := by
  constructor
  · intro e x y h
    have := (clash_of pm).mpr h
    rw [e] at this
    cases this
  · intro h
    cases e : cl c es with
    | nil => rfl
    | cons p r =>
      obtain ⟨x, y⟩ := p
      exact absurd ((clash_of pm).mp (by rw [e]; exact List.mem_cons_self)) (h x y)
theorem byOne_len (c : Int) (g : List (List Int)) (one : List Int) (m : Nat) : (byOne c g one m).length ≤ g.length := by
  unfold byOne
  rw [List.length_map]
  exact Nat.le_trans (List.length_filter_le _ _) (by rw [List.length_take]; omega)
theorem flat_len {α β : Type} {n : Nat} {f : α → List β} (h : ∀ x, (f x).length ≤ n) : ∀ l : List α, (l.flatMap f).length ≤ l.length * n
  | [] => by simp
  | x :: l => by
    rw [List.flatMap_cons, List.length_append, List.length_cons, Nat.succ_mul]
    have := h x
    have := flat_len h l
    omega
theorem byGrp_len (c : Int) (g : List (List Int)) (j : Nat) : (byGrp c g j).length ≤ g.length * g.length := by
  unfold byGrp
  refine Nat.le_trans (flat_len (n := g.length) (fun one => byOne_len c g one _) _) ?_
  exact Nat.mul_le_mul_right _ (by rw [List.length_take]; omega)
theorem fold_len : ∀ (es : List (List Int)) (acc : List Int), (es.foldl step acc).length ≤ acc.length + es.length
  | [], acc => by simp
  | e :: es, acc => by
    rw [List.foldl_cons]
    refine Nat.le_trans (fold_len es _) ?_
    have : (step acc e).length ≤ acc.length + 1 := by
      unfold step
      split
      · omega
      · simp
    simp only [List.length_cons]
    omega
theorem heads_len (es : List (List Int)) : (heads es).length ≤ es.length := by
  have := fold_len es []
  unfold heads
  simpa using this
theorem nodup_step {acc : List Int} {e : List Int} (h : acc.Nodup) : (step acc e).Nodup := by
  unfold step
  split
  · exact h
  · next hn =>
    rw [List.nodup_append]
    exact ⟨h, by simp, fun a ha b hb => by rw [List.mem_singleton.mp hb]; exact fun z => hn (z ▸ ha)⟩
theorem nodup_fold : ∀ (es : List (List Int)) (acc : List Int), acc.Nodup → (es.foldl step acc).Nodup
  | [], _, h => h
  | _ :: es, _, h => nodup_fold es _ (nodup_step h)
theorem heads_nodup (es : List (List Int)) : (heads es).Nodup := nodup_fold es [] .nil
theorem ones_le (v : Int) : ∀ {ks : List Int}, ks.Nodup → (ks.map fun k => if v = k then 1 else 0).sum ≤ 1
  | [], _ => by simp
  | k :: ks, h => by
    obtain ⟨h1, h2⟩ := List.nodup_cons.mp h
    rw [List.map_cons, List.sum_cons]
    by_cases e : v = k
    · have z : (ks.map fun k => if v = k then 1 else 0).sum = 0 := by
        have : ∀ {ks : List Int}, v ∉ ks → (ks.map fun k => if v = k then 1 else 0).sum = 0 := by
          intro ks
          induction ks with
          | nil => simp
          | cons a ks ih =>
            intro hn
            rw [List.map_cons, List.sum_cons, if_neg (fun z => hn (by rw [z]; exact List.mem_cons_self)), ih fun z => hn (List.mem_cons_of_mem _ z)]
        exact this (e ▸ h1)
      rw [if_pos e, z]
      exact Nat.le_refl _
    · have := ones_le v h2
      rw [if_neg e]
      omega
theorem grp_cons_len (k : Int) (e : List Int) (es : List (List Int)) : (grp k (e :: es)).length = (if hd e = k then 1 else 0) + (grp k es).length := by
  unfold grp
  by_cases h : hd e = k
  · rw [List.filter_cons_of_pos (by simpa using h), if_pos h, List.length_cons]
    omega
  · rw [List.filter_cons_of_neg (by simpa using h), if_neg h]
    omega
theorem sum_add {α : Type} (f g : α → Nat) : ∀ l : List α, (l.map fun x => f x + g x).sum = (l.map f).sum + (l.map g).sum
  | [] => rfl
  | x :: l => by
    rw [List.map_cons, List.sum_cons, sum_add f g l, List.map_cons, List.map_cons, List.sum_cons, List.sum_cons]
    omega
theorem gs_le {ks : List Int} (h : ks.Nodup) : ∀ es : List (List Int), (ks.map fun k => (grp k es).length).sum ≤ es.length
  | [] => by
    have : ∀ ks : List Int, (ks.map fun k => (grp k []).length).sum = 0 := by
      intro ks
      induction ks with
      | nil => rfl
      | cons a ks ih =>
        rw [List.map_cons, List.sum_cons, ih]
        rfl
    rw [this]
    exact Nat.le_refl _
  | e :: es => by
    have e1 : (ks.map fun k => (grp k (e :: es)).length) = ks.map fun k => (if hd e = k then 1 else 0) + (grp k es).length := List.map_congr_left fun k _ => grp_cons_len k e es
    rw [e1, sum_add, List.length_cons]
    have := ones_le (hd e) h
    have := gs_le h es
    omega
def sq (es : List (List Int)) (ks : List Int) : Nat := (ks.map fun k => (grp k es).length * (grp k es).length).sum
theorem sq_le {ks : List Int} (h : ks.Nodup) (es : List (List Int)) : sq es ks ≤ es.length * es.length := by
  have : ∀ ks : List Int, sq es ks ≤ (ks.map fun k => (grp k es).length).sum * es.length := by
    intro ks
    induction ks with
    | nil => exact Nat.zero_le _
    | cons k ks ih =>
      unfold sq at ih ⊢
      rw [List.map_cons, List.sum_cons, List.map_cons, List.sum_cons, Nat.add_mul]
      refine Nat.add_le_add (Nat.mul_le_mul_left _ ?_) ih
      exact List.length_filter_le _ _
  exact Nat.le_trans (this ks) (Nat.mul_le_mul_right _ (gs_le h es))
theorem sq_mono {es : List (List Int)} {ks : List Int} {i : Nat} {k : Int} (h : ks[i]? = some k) : sq es (ks.take i) + (grp k es).length * (grp k es).length ≤ sq es ks := by
  have e : ks = ks.take (i + 1) ++ ks.drop (i + 1) := (List.take_append_drop _ _).symm
  have e2 : sq es ks = sq es (ks.take (i + 1)) + sq es (ks.drop (i + 1)) := by
    conv => lhs; rw [e]
    unfold sq
    rw [List.map_append, List.sum_append]
  have e3 : sq es (ks.take (i + 1)) = sq es (ks.take i) + (grp k es).length * (grp k es).length := by
    rw [My.take_snoc h]
    unfold sq
    rw [List.map_append, List.sum_append]
    simp
  omega
theorem byHeads_len (c : Int) (es : List (List Int)) : ∀ ks : List Int, (byHeads c es ks).length ≤ sq es ks
  | [] => Nat.zero_le _
  | k :: ks => by
    have ih := byHeads_len c es ks
    have h1 := byGrp_len c (grp k es) (grp k es).length
    unfold byHeads sq at ih ⊢
    rw [List.flatMap_cons, List.length_append, List.map_cons, List.sum_cons]
    omega
theorem byGrp_len2 (c : Int) (g : List (List Int)) (j : Nat) : (byGrp c g j).length ≤ j * g.length := by
  unfold byGrp
  refine Nat.le_trans (flat_len (n := g.length) (fun one => byOne_len c g one _) _) ?_
  exact Nat.mul_le_mul_right _ (by rw [List.length_take]; omega)
/-- what is out so far is not too long -/
theorem out_len {c : Int} {es : List (List Int)} {i : Nat} {k : Int} (h : (heads es)[i]? = some k) {j : Nat} (hj : j < (grp k es).length) (one : List Int) (m : Nat) :
    (byHeads c es ((heads es).take i)).length + (byGrp c (grp k es) j).length + (byOne c (grp k es) one m).length ≤ es.length * es.length := by
  have h1 := byHeads_len c es ((heads es).take i)
  have h2 := byGrp_len2 c (grp k es) j
  have h3 := byOne_len c (grp k es) one m
  have h4 := sq_mono (es := es) h
  have h5 := sq_le (heads_nodup es) es
  have h6 : (j + 1) * (grp k es).length ≤ (grp k es).length * (grp k es).length := Nat.mul_le_mul_right _ hj
  rw [Nat.succ_mul] at h6
  omega
theorem cl_len (c : Int) (es : List (List Int)) : (cl c es).length ≤ es.length * es.length := Nat.le_trans (byHeads_len c es _) (sq_le (heads_nodup es) es)
end Cl

/-! ### safe tables have no meetings -/
namespace Sf
open Ln
/-- of two letters, the first one ahead -/
def Rel (k : Int) (l m : Let) : Prop := l.1 ≤ m.1 ∧ 1 ≤ l.2.1 ∧ m.2.1 ≤ k ∧ ∀ w v, l.2.2 = some w → m.2.2 = some v → l.1 + w < m.1 + v ∧ (m.1 ≤ l.1 + w → m.1 + v - (l.1 + w) ≤ k * (m.1 - l.1) + m.2.1 - l.2.1)
/-- a letter behind which the line stands so, at the turn j of tick i -/
def Bhd (k i j line : Int) (l : Let) : Prop := l.1 ≤ i ∧ 1 ≤ l.2.1 ∧ ∀ w, l.2.2 = some w → l.1 + w < i + line ∧ (i ≤ l.1 + w → i + line - (l.1 + w) ≤ k * (i - l.1) + j - l.2.1 + 1)
structure St (k i j : Int) (s : List Let × Int) : Prop where
  bh : ∀ l ∈ s.1, Bhd k i j s.2 l
  pw : s.1.Pairwise (Rel k)
  ln : 0 ≤ s.2
theorem St.turn {k b i : Int} {j : Nat} {s : List Let × Int} (h : St k i j s) (hj : (j : Int) < k) : St k i ((j + 1 : Nat) : Int) (step b i (1 + (j : Int)) s) := by
  obtain ⟨bh, pw, ln⟩ := h
  have rel : ∀ l ∈ s.1, ∀ o : Option Int, (o = none ∨ o = some s.2) → Rel k l (i, 1 + (j : Int), o) := fun l hl o ho => by
    obtain ⟨h1, h2, h3⟩ := bh l hl
    refine ⟨h1, h2, by show 1 + (j : Int) ≤ k; omega, fun w v hw hv => ?_⟩
    obtain ⟨a, c⟩ := h3 w hw
    rcases ho with rfl | rfl
    · cases hv
    · obtain rfl : s.2 = v := Option.some.inj hv
      refine ⟨a, fun z => ?_⟩
      have := c z
      show i + s.2 - (l.1 + w) ≤ k * (i - l.1) + (1 + (j : Int)) - l.2.1
      omega
  have pwn : ∀ o : Option Int, (o = none ∨ o = some s.2) → (s.1 ++ [(i, 1 + (j : Int), o)]).Pairwise (Rel k) := fun o ho =>
    List.pairwise_append.mpr ⟨pw, List.pairwise_singleton _ _, fun l hl m hm => by rw [List.mem_singleton.mp hm]; exact rel l hl o ho⟩
  unfold step
  split
  · refine ⟨fun l hl => ?_, pwn none (.inl rfl), ln⟩
    rcases List.mem_append.mp hl with hl | hl
    · obtain ⟨h1, h2, h3⟩ := bh l hl
      refine ⟨h1, h2, fun w hw => ?_⟩
      obtain ⟨a, c⟩ := h3 w hw
      refine ⟨a, fun z => ?_⟩
      have := c z
      show i + s.2 - (l.1 + w) ≤ k * (i - l.1) + ((j + 1 : Nat) : Int) - l.2.1 + 1
      omega
    · rw [List.mem_singleton.mp hl]
      exact ⟨Int.le_refl _, by show 1 ≤ 1 + (j : Int); omega, fun w hw => by cases hw⟩
  · refine ⟨fun l hl => ?_, pwn (some s.2) (.inr rfl), by show 0 ≤ s.2 + 1; omega⟩
    rcases List.mem_append.mp hl with hl | hl
    · obtain ⟨h1, h2, h3⟩ := bh l hl
      refine ⟨h1, h2, fun w hw => ?_⟩
      obtain ⟨a, c⟩ := h3 w hw
      refine ⟨by show l.1 + w < i + (s.2 + 1); omega, fun z => ?_⟩
      have := c z
      show i + (s.2 + 1) - (l.1 + w) ≤ k * (i - l.1) + ((j + 1 : Nat) : Int) - l.2.1 + 1
      omega
    · rw [List.mem_singleton.mp hl]
      refine ⟨Int.le_refl _, by show 1 ≤ 1 + (j : Int); omega, fun w hw => ?_⟩
      obtain rfl : s.2 = w := Option.some.inj hw
      refine ⟨by show i + s.2 < i + (s.2 + 1); omega, fun _ => ?_⟩
      show i + (s.2 + 1) - (i + s.2) ≤ k * (i - i) + ((j + 1 : Nat) : Int) - (1 + (j : Int)) + 1
      rw [Int.sub_self, Int.mul_zero]
      omega
theorem St.turns {k b i : Int} {s : List Let × Int} (h : St k i 0 s) : ∀ j : Nat, (j : Int) ≤ k → St k i j (turns b i j s)
  | 0, _ => h
  | j + 1, hj => (St.turns h j (by omega)).turn (by omega)
theorem St.close {k i j : Int} {s : List Let × Int} (h : St k i j s) (hj : j ≤ k) : St k (i + 1) 0 (s.1, close s.2) := by
  obtain ⟨bh, pw, ln⟩ := h
  refine ⟨fun l hl => ?_, pw, ?_⟩
  · obtain ⟨h1, h2, h3⟩ := bh l hl
    refine ⟨by omega, h2, fun w hw => ?_⟩
    obtain ⟨a, c⟩ := h3 w hw
    have ek : k * (i + 1 - l.1) = k * (i - l.1) + k := by
      rw [show i + 1 - l.1 = (i - l.1) + 1 by omega, Int.mul_add, Int.mul_one]
    show l.1 + w < i + 1 + Ln.close s.2 ∧ (i + 1 ≤ l.1 + w → i + 1 + Ln.close s.2 - (l.1 + w) ≤ k * (i + 1 - l.1) + 0 - l.2.1 + 1)
    rw [ek]
    unfold Ln.close
    split
    · refine ⟨by omega, fun z => ?_⟩
      have := c (by omega)
      omega
    · refine ⟨by omega, fun z => ?_⟩
      omega
  · show 0 ≤ Ln.close s.2
    unfold Ln.close
    split <;> omega
theorem st_pre {k b : Int} {cs : List Int} (hk : 0 ≤ k) (hc : ∀ c ∈ cs, c ≤ k) : ∀ i : Nat, St k i 0 (pre b cs i)
  | 0 => ⟨fun l hl => by simp [pre] at hl, .nil, Int.le_refl _⟩
  | i + 1 => by
    have hb : ((cs.getD i 0).toNat : Int) ≤ k := by
      rw [List.getD_eq_getElem?_getD]
      cases h : cs[i]? with
      | none => show ((0 : Int).toNat : Int) ≤ k; omega
      | some c =>
        have := hc c (List.mem_of_getElem? h)
        show (c.toNat : Int) ≤ k
        omega
    have e := ((st_pre (b := b) hk hc i).turns (b := b) _ hb).close hb
    exact e
theorem letts_pw {k b : Int} {cs : List Int} (hk : 0 ≤ k) (hc : ∀ c ∈ cs, c ≤ k) : (letts b cs).Pairwise (Rel k) := (st_pre hk hc cs.length).pw
theorem mem_all {ls : List Int} {rs : List (List Int)} {i : Nat} {r : List Int} (h : rs[i]? = some r) {p : Int × Int} (hp : p ∈ Tb.go ls 0 r) : ∀ n, i < n → Tb.ent ((i : Int) + 1) p ∈ Tb.all ls rs n
  | 0, hn => absurd hn (Nat.not_lt_zero _)
  | n + 1, hn => by
    show _ ∈ Tb.all ls rs n ++ Tb.ents ls ((n : Int) + 1) (rs.getD n [])
    by_cases e : i = n
    · subst e
      rw [Tb.getD_row h]
      exact List.mem_append_right _ (List.mem_map.mpr ⟨p, hp, rfl⟩)
    · exact List.mem_append_left _ (mem_all h hp n (by omega))
/-- an entry of the wait w -/
theorem mem_wait {ls : List Int} {rs : List (List Int)} (R : Tb.Right ls rs) {w : Int} (h1 : w ≤ (rs.length : Int)) {p : Int × Int} (hp : p ∈ Tb.go ls 0 (Dy.rowOf rs w)) :
    Tb.ent w p ∈ Tb.all ls rs rs.length ∧ 0 ≤ p.1 ∧ p.1 < w := by
  have h0 : 0 < w := by
    rcases Int.lt_or_le 0 w with z | z
    · exact z
    · rw [show Dy.rowOf rs w = [] from if_pos (by omega)] at hp
      cases hp
  obtain ⟨a, b, c, d⟩ := Dy.rowOf_at R h0 h1
  have e := mem_all a hp rs.length (by omega)
  rw [show (((w - 1).toNat : Nat) : Int) + 1 = w by omega] at e
  have rng := Tb.go_rng R.1 _ 0 b p hp
  rw [d] at rng
  exact ⟨e, rng.1, by omega⟩
theorem clash_at {ls : List Int} {rs : List (List Int)} (R : Tb.Right ls rs) {k : Int} {l m : Let} (rl : Rel k l m) {w v : Int} (hw : l.2.2 = some w) (hv : m.2.2 = some v) (w1 : w ≤ (rs.length : Int)) (v1 : v ≤ (rs.length : Int))
    {p q : Int × Int} (hp : p ∈ Tb.go ls 0 (Dy.rowOf rs w)) (hq : q ∈ Tb.go ls 0 (Dy.rowOf rs v)) (e1 : l.1 + p.1 = m.1 + q.1) (e2 : p.2 = q.2) : Cl.Clash k ls rs (Tb.ent w p) (Tb.ent v q) := by
  obtain ⟨a1, a2, a3⟩ := mem_wait R w1 hp
  obtain ⟨b1, b2, b3⟩ := mem_wait R v1 hq
  obtain ⟨r1, r2, r3, r4⟩ := rl
  obtain ⟨s1, s2⟩ := r4 w v hw hv
  have s3 := s2 (by omega)
  refine ⟨a1, b1, e2, ?_⟩
  have ed : m.1 - l.1 = p.1 - q.1 := by omega
  rw [ed] at s3
  show (decide ((v - q.1) - (w - p.1) > 0) && (decide (p.1 ≥ q.1) && decide ((v - q.1) - (w - p.1) ≤ k * (p.1 - q.1) + k - 1))) = true
  rw [decide_eq_true (by omega), decide_eq_true (by omega), decide_eq_true (by omega)]
  rfl
theorem prs_append (a b : List (List Int)) : Mt.prs (a ++ b) = Mt.prs a ++ Mt.prs b := List.map_append
theorem prs_lay (ls : List Int) (rs : List (List Int)) (n : Int) (l : Let) : Mt.prs (Dy.lay1 ls rs n l) = match l.2.2 with
    | none => []
    | some w => (Tb.go ls 0 (Dy.rowOf rs w)).map fun p => [l.1 + p.1, p.2] := by
  unfold Dy.lay1 Mt.prs
  cases l.2.2 with
  | none => rfl
  | some w =>
    show List.map _ (List.map _ _) = _
    rw [List.map_map]
    rfl
theorem lay_mem {ls : List Int} {rs : List (List Int)} : ∀ {L : List Let} {n : Int} {r : List Int}, r ∈ Mt.prs (Dy.lays ls rs n L) → ∃ l ∈ L, ∃ w p, l.2.2 = some w ∧ p ∈ Tb.go ls 0 (Dy.rowOf rs w) ∧ r = [l.1 + p.1, p.2]
  | [], _, _, h => by cases h
  | l :: L, n, r, h => by
    rw [show Dy.lays ls rs n (l :: L) = Dy.lay1 ls rs n l ++ Dy.lays ls rs (n + 1) L from rfl, prs_append] at h
    rcases List.mem_append.mp h with h | h
    · rw [prs_lay] at h
      cases hw : l.2.2 with
      | none =>
        rw [hw] at h
        cases h
      | some w =>
        rw [hw] at h
        obtain ⟨p, hp, e⟩ := List.mem_map.mp h
        exact ⟨l, List.mem_cons_self, w, p, hw, hp, e.symm⟩
    · obtain ⟨m, hm, rest⟩ := lay_mem h
      exact ⟨m, List.mem_cons_of_mem _ hm, rest⟩
theorem mem_lay {ls : List Int} {rs : List (List Int)} : ∀ {L : List Let} {n : Int} {i : Nat} {l : Let} {w : Int} {p : Int × Int}, L[i]? = some l → l.2.2 = some w → p ∈ Tb.go ls 0 (Dy.rowOf rs w) → [l.1 + p.1, p.2] ∈ Mt.prs (Dy.lays ls rs n L)
  | [], _, _, _, _, _, h, _, _ => by simp at h
  | m :: L, n, 0, l, w, p, h, hw, hp => by
    obtain rfl : m = l := by simpa using h
    rw [show Dy.lays ls rs n (m :: L) = Dy.lay1 ls rs n m ++ Dy.lays ls rs (n + 1) L from rfl, prs_append, prs_lay, hw]
    exact List.mem_append_left _ (List.mem_map.mpr ⟨p, hp, rfl⟩)
  | m :: L, n, i + 1, l, w, p, h, hw, hp => by
    rw [show Dy.lays ls rs n (m :: L) = Dy.lay1 ls rs n m ++ Dy.lays ls rs (n + 1) L from rfl, prs_append]
    exact List.mem_append_right _ (mem_lay (i := i) (by simpa using h) hw hp)
theorem nodup_lay {ls : List Int} {rs : List (List Int)} (R : Tb.Right ls rs) {n : Int} {l : Let} (h : ∀ w, l.2.2 = some w → w ≤ (rs.length : Int)) : (Mt.prs (Dy.lay1 ls rs n l)).Nodup := by
  rw [prs_lay]
  cases hw : l.2.2 with
  | none => exact .nil
  | some w =>
    show (List.map _ _).Nodup
    unfold List.Nodup
    rw [List.pairwise_map]
    rcases Int.lt_or_le 0 w with z | z
    · obtain ⟨_, b, _, _⟩ := Dy.rowOf_at R z (h w hw)
      refine (Tb.go_up R.1 _ 0 b).imp fun {p q} hpq e => ?_
      injection e with e1 _
      omega
    · rw [show Dy.rowOf rs w = [] from if_pos (by omega)]
      exact .nil
/-- no two letters enter one loop at one tick -/
theorem nodup_of_safe {ls : List Int} {rs : List (List Int)} (R : Tb.Right ls rs) {k : Int} (sf : Cl.Safe k ls rs) : ∀ {L : List Let} (n : Int), L.Pairwise (Rel k) → (∀ l ∈ L, ∀ w, l.2.2 = some w → w ≤ (rs.length : Int)) → (Mt.prs (Dy.lays ls rs n L)).Nodup
  | [], _, _, _ => .nil
  | l :: L, n, pw, hw => by
    obtain ⟨p1, p2⟩ := List.pairwise_cons.mp pw
    rw [show Dy.lays ls rs n (l :: L) = Dy.lay1 ls rs n l ++ Dy.lays ls rs (n + 1) L from rfl, prs_append]
    refine List.nodup_append.mpr ⟨nodup_lay R (hw l List.mem_cons_self), nodup_of_safe R sf (n + 1) p2 fun m hm => hw m (List.mem_cons_of_mem _ hm), fun a ha b hb e => ?_⟩
    subst e
    rw [prs_lay] at ha
    cases ew : l.2.2 with
    | none =>
      rw [ew] at ha
      cases ha
    | some w =>
      rw [ew] at ha
      obtain ⟨p, hp, e1⟩ := List.mem_map.mp ha
      obtain ⟨m, hm, v, q, ev, hq, e2⟩ := lay_mem hb
      rw [e2] at e1
      injection e1 with e3 e4
      injection e4 with e5 _
      exact sf _ _ (clash_at R (p1 m hm) ew ev (hw l List.mem_cons_self w ew) (hw m (List.mem_cons_of_mem _ hm) v ev) hp hq e3 e5)
theorem count_one : ∀ {P : List (List Int)}, P.Nodup → ∀ r, P.count r ≤ 1
  | [], _, r => by simp
  | x :: P, h, r => by
    obtain ⟨h1, h2⟩ := List.nodup_cons.mp h
    by_cases e : x = r
    · subst e
      rw [List.count_cons_self, List.count_eq_zero_of_not_mem h1]
      exact Nat.le_refl _
    · rw [List.count_cons_of_ne e]
      exact count_one h2 r
theorem nom_of_safe {ls : List Int} {rs : List (List Int)} (R : Tb.Right ls rs) {k : Int} (hk : 0 ≤ k) (sf : Cl.Safe k ls rs) {cs : List Int} (hc : ∀ c ∈ cs, c ≤ k) (r : List Int) : (Mt.prs (Dy.lays ls rs 0 (letts (rs.length : Int) cs))).count r ≤ 1 :=
  count_one (nodup_of_safe R sf 0 (letts_pw hk hc) fun l hl w hw => (Dy.letts_wt (rs := rs) cs l hl w hw).2) r
/-- more comers have all clashes of fewer -/
theorem safe_less {ls : List Int} {rs : List (List Int)} {k k' : Int} (hk : k' ≤ k) (R : Tb.Right ls rs) (h : Cl.Safe k ls rs) : Cl.Safe k' ls rs := fun x y hc => by
  obtain ⟨a, b, c, d⟩ := hc
  refine h x y ⟨a, b, c, ?_⟩
  unfold Cl.cond at d ⊢
  rw [Bool.and_eq_true, Bool.and_eq_true, decide_eq_true_iff, decide_eq_true_iff, decide_eq_true_iff] at d ⊢
  obtain ⟨d1, d2, d3⟩ := d
  have : k' * (x.getD 1 0 - y.getD 1 0) ≤ k * (x.getD 1 0 - y.getD 1 0) := Int.mul_le_mul_of_nonneg_right hk (by omega)
  exact ⟨d1, d2, by omega⟩
theorem all_take {ls : List Int} {rs : List (List Int)} : ∀ (m n : Nat), n ≤ m → Tb.all ls (rs.take m) n = Tb.all ls rs n
  | _, 0, _ => rfl
  | m, n + 1, h => by
    show Tb.all ls (rs.take m) n ++ Tb.ents ls _ ((rs.take m).getD n []) = Tb.all ls rs n ++ Tb.ents ls _ (rs.getD n [])
    rw [all_take m n (by omega), List.getD_eq_getElem?_getD, List.getD_eq_getElem?_getD, List.getElem?_take_of_lt (by omega)]
theorem all_mono {ls : List Int} {rs : List (List Int)} {e : List Int} : ∀ {n m : Nat}, n ≤ m → e ∈ Tb.all ls rs n → e ∈ Tb.all ls rs m
  | n, 0, h, he => by rwa [Nat.le_zero.mp h] at he
  | n, m + 1, h, he => by
    by_cases z : n = m + 1
    · rwa [z] at he
    · exact List.mem_append_left _ (all_mono (m := m) (by omega) he)
theorem clash_take {ls : List Int} {rs : List (List Int)} {k : Int} (m : Nat) {x y : List Int} (h : Cl.Clash k ls (rs.take m) x y) : Cl.Clash k ls rs x y := by
  obtain ⟨a, b, c, d⟩ := h
  have e : (rs.take m).length ≤ rs.length := by
    rw [List.length_take]
    omega
  have e2 : (rs.take m).length ≤ m := by
    rw [List.length_take]
    omega
  rw [all_take m _ e2] at a b
  exact ⟨all_mono e a, all_mono e b, c, d⟩
theorem safe_take {ls : List Int} {rs : List (List Int)} {k : Int} (m : Nat) (h : Cl.Safe k ls rs) : Cl.Safe k ls (rs.take m) := fun x y hc => h x y (clash_take m hc)
/-! ### the comings of a meeting -/
/-- what is left, i ticks from the end -/
def rr (c R : Int) (i : Nat) : Int := if R - c * (i : Int) > 0 then R - c * (i : Int) else 0
theorem rr_zero {c R : Int} (h : 0 < R) : rr c R 0 = R := by
  unfold rr
  rw [show ((0 : Nat) : Int) = 0 from rfl, Int.mul_zero]
  split <;> omega
theorem rr_step {c R : Int} (hc : 0 ≤ c) (i : Nat) : rr c R (i + 1) = rr c R i - (if c < rr c R i then c else rr c R i) ∧ 0 ≤ rr c R i ∧ rr c R (i + 1) ≤ rr c R i ∧ rr c R i - rr c R (i + 1) ≤ c := by
  unfold rr
  have e : c * ((i + 1 : Nat) : Int) = c * (i : Int) + c := by
    rw [show ((i + 1 : Nat) : Int) = (i : Int) + 1 by omega, Int.mul_add, Int.mul_one]
  rw [e]
  generalize c * (i : Int) = z
  split <;> split <;> (try split) <;> omega
theorem rr_nn {c R : Int} (i : Nat) : 0 ≤ rr c R i := by
  unfold rr
  split <;> omega
theorem rr_le {c R : Int} (h1 : 1 ≤ c) (h0 : 0 ≤ R) (i : Nat) : rr c R i ≤ (if R - (i : Int) > 0 then R - (i : Int) else 0) := by
  unfold rr
  have : (i : Int) ≤ c * (i : Int) := by
    have := Int.mul_le_mul_of_nonneg_right h1 (show (0 : Int) ≤ (i : Int) by omega)
    omega
  split <;> split <;> omega
/-- the numbers from the last tick on -/
def lf (c R : Int) : Nat → List Int
  | 0 => []
  | i + 1 => lf c R i ++ [rr c R i - rr c R (i + 1)]
theorem lf_len (c R : Int) : ∀ i, (lf c R i).length = i
  | 0 => rfl
  | i + 1 => by
    show (lf c R i ++ [_]).length = i + 1
    rw [List.length_append, lf_len c R i]
    rfl
theorem lf_at (c R : Int) : ∀ (n i : Nat), i < n → (lf c R n)[i]? = some (rr c R i - rr c R (i + 1))
  | n + 1, i, h => by
    show (lf c R n ++ [_])[i]? = _
    by_cases e : i < n
    · rw [List.getElem?_append_left (by rw [lf_len]; exact e), lf_at c R n i e]
    · obtain rfl : i = n := by omega
      rw [List.getElem?_append_right (by rw [lf_len]; exact Nat.le_refl _), lf_len, Nat.sub_self]
      rfl
/-- comings by which a letter with the wait w, and one R letters behind it that comes d ticks later, come -/
def mc (c w R : Int) (d : Nat) : List Int := List.replicate w.toNat 2 ++ [1 + rr c R d] ++ (lf c R d).reverse
/-- how many have come, from the first one on, ahead of the tick j -/
def am (c R : Int) (d : Nat) : Nat → Int
  | 0 => 0
  | j + 1 => 1 + rr c R (d - j)
theorem am_mono {c R : Int} (hc : 0 ≤ c) (d : Nat) : ∀ j, j ≤ d → am c R d j ≤ am c R d (j + 1)
  | 0, _ => by
    have := rr_nn (c := c) (R := R) (d - 0)
    show (0 : Int) ≤ 1 + rr c R (d - 0)
    omega
  | j + 1, h => by
    have := (rr_step (R := R) hc (d - (j + 1))).2.2.1
    rw [show d - (j + 1) + 1 = d - j by omega] at this
    show 1 + rr c R (d - j) ≤ 1 + rr c R (d - (j + 1))
    omega
theorem mc_len (c w R : Int) (d : Nat) : (mc c w R d).length = w.toNat + 1 + d := by
  unfold mc
  rw [List.length_append, List.length_append, List.length_replicate, List.length_reverse, lf_len]
  rfl
theorem mc_at {c w R : Int} {d : Nat} : ∀ j, j ≤ d → (mc c w R d).getD (w.toNat + j) 0 = am c R d (j + 1) - am c R d j
  | 0, _ => by
    unfold mc
    rw [List.getD_eq_getElem?_getD, List.append_assoc, List.getElem?_append_right (by rw [List.length_replicate]; omega), List.length_replicate, show w.toNat + 0 - w.toNat = 0 by omega]
    show 1 + rr c R d = 1 + rr c R (d - 0) - 0
    rw [Nat.sub_zero]
    omega
  | j + 1, h => by
    unfold mc
    have hl : (List.replicate w.toNat (2 : Int) ++ [1 + rr c R d]).length = w.toNat + 1 := by
      rw [List.length_append, List.length_replicate]
      rfl
    rw [List.getD_eq_getElem?_getD, List.getElem?_append_right (by rw [hl]; omega), hl, show w.toNat + (j + 1) - (w.toNat + 1) = j by omega, List.getElem?_reverse (by rw [lf_len]; omega), lf_len, lf_at c R d _ (by omega)]
    show rr c R (d - 1 - j) - rr c R (d - 1 - j + 1) = 1 + rr c R (d - (j + 1)) - (1 + rr c R (d - j))
    rw [show d - 1 - j = d - (j + 1) by omega, show d - (j + 1) + 1 = d - j by omega]
    omega
theorem mc_two {c w R : Int} {d : Nat} {j : Nat} (h : j < w.toNat) : (mc c w R d).getD j 0 = (List.replicate w.toNat 2).getD j 0 := by
  unfold mc
  rw [List.getD_eq_getElem?_getD, List.getD_eq_getElem?_getD, List.append_assoc, List.getElem?_append_left (by rw [List.length_replicate]; exact h)]
theorem mc_right {c w R : Int} {d : Nat} (hc : 2 ≤ c) (h0 : 0 < R) (h1 : R ≤ c * (d : Int) + c - 1) : ∀ x ∈ mc c w R d, 0 ≤ x ∧ x ≤ c := fun x hx => by
  unfold mc at hx
  rcases List.mem_append.mp hx with hx | hx
  · rcases List.mem_append.mp hx with hx | hx
    · rw [(List.mem_replicate.mp hx).2]
      omega
    · rw [List.mem_singleton.mp hx]
      unfold rr
      generalize c * (d : Int) = z at h1
      split <;> omega
  · rw [List.mem_reverse] at hx
    obtain ⟨i, hi⟩ := List.mem_iff_getElem?.mp hx
    have hl := (List.getElem?_eq_some_iff.mp hi).1
    rw [lf_len] at hl
    rw [lf_at c R d i hl] at hi
    have := rr_step (c := c) (R := R) (by omega) i
    rw [← Option.some.inj hi]
    omega
/-- all fit -/
theorem turns_fit {b τ : Int} {s : List Let × Int} : ∀ n : Nat, s.2 + (n : Int) ≤ b + 1 → (turns b τ n s).2 = s.2 + (n : Int) ∧ (turns b τ n s).1.length = s.1.length + n ∧
    (∃ rest, (turns b τ n s).1 = s.1 ++ rest) ∧ (0 < n → (turns b τ n s).1[s.1.length]? = some (τ, 1, some s.2)) ∧ (0 < n → (turns b τ n s).1[s.1.length + n - 1]? = some (τ, (n : Int), some (s.2 + (n : Int) - 1)))
  | 0, _ => ⟨by show s.2 = _; omega, rfl, ⟨[], (List.append_nil _).symm⟩, fun h => absurd h (Nat.lt_irrefl _), fun h => absurd h (Nat.lt_irrefl _)⟩
  | n + 1, h => by
    obtain ⟨a, l, ⟨rest, e⟩, f, _⟩ := turns_fit (b := b) (τ := τ) (s := s) n (by omega)
    have es : turns b τ (n + 1) s = ((turns b τ n s).1 ++ [(τ, 1 + (n : Int), some (turns b τ n s).2)], (turns b τ n s).2 + 1) := by
      show step b τ (1 + (n : Int)) (turns b τ n s) = _
      unfold step
      rw [if_neg (by omega)]
    rw [es]
    refine ⟨by show (turns b τ n s).2 + 1 = _; omega, ?_, ⟨rest ++ [(τ, 1 + (n : Int), some (turns b τ n s).2)], ?_⟩, fun _ => ?_, fun _ => ?_⟩
    · show (_ ++ [_]).length = _
      rw [List.length_append, l]
      rfl
    · show (turns b τ n s).1 ++ [_] = _
      rw [e, List.append_assoc]
    · show ((turns b τ n s).1 ++ [_])[s.1.length]? = _
      by_cases z : 0 < n
      · rw [List.getElem?_append_left (by omega), f z]
      · obtain rfl : n = 0 := by omega
        rw [List.getElem?_append_right (by omega), l, show s.1.length - (s.1.length + 0) = 0 by omega]
        show some (τ, 1 + ((0 : Nat) : Int), some (turns b τ 0 s).2) = some (τ, 1, some s.2)
        rfl
    · show ((turns b τ n s).1 ++ [_])[s.1.length + (n + 1) - 1]? = _
      rw [List.getElem?_append_right (by omega), l, show s.1.length + (n + 1) - 1 - (s.1.length + n) = 0 by omega]
      show some (τ, 1 + (n : Int), some (turns b τ n s).2) = some (τ, ((n + 1 : Nat) : Int), some (s.2 + ((n + 1 : Nat) : Int) - 1))
      rw [a, show ((n + 1 : Nat) : Int) = 1 + (n : Int) by omega, show s.2 + (1 + (n : Int)) - 1 = s.2 + (n : Int) by omega]
section
variable {b c w R : Int} {d : Nat}
theorem mc_state (hc : 2 ≤ c) (hR : 0 < R) (h1 : R ≤ c * (d : Int) + c - 1) (w0 : 0 ≤ w) (wb : w ≤ b) (hd : (d : Int) < w) (hv : w + R - (d : Int) ≤ b) : ∀ j : Nat, j ≤ d + 1 →
    (pre b (mc c w R d) (w.toNat + j)).2 = w + am c R d j - (j : Int) ∧ ((pre b (mc c w R d) (w.toNat + j)).1.length : Int) = 2 * w + am c R d j
  | 0, _ => by
    have ec : pre b (mc c w R d) w.toNat = pre b (List.replicate w.toNat 2) w.toNat := Wk.pre_congr _ fun j hj => mc_two hj
    obtain ⟨a, l, _⟩ := Wk.twos (b := b) w.toNat (List.replicate w.toNat 2) (by omega) rfl
    rw [Nat.add_zero, ec, a, l]
    show ((w.toNat : Nat) : Int) = w + 0 - ((0 : Nat) : Int) ∧ ((2 * w.toNat : Nat) : Int) = 2 * w + 0
    omega
  | j + 1, hj => by
    obtain ⟨a, l⟩ := mc_state hc hR h1 w0 wb hd hv j (by omega)
    have hm := am_mono (c := c) (R := R) (by omega) d j (by omega)
    have hg := mc_at (c := c) (w := w) (R := R) (d := d) j (by omega)
    have le := rr_le (c := c) (R := R) (by omega) (by omega) (d - j)
    have e1 : am c R d (j + 1) = 1 + rr c R (d - j) := rfl
    have nn := rr_nn (c := c) (R := R) (d - j)
    have ed : ((d - j : Nat) : Int) = (d : Int) - (j : Int) := by omega
    rw [ed] at le
    have fit : (pre b (mc c w R d) (w.toNat + j)).2 + (((am c R d (j + 1) - am c R d j).toNat : Nat) : Int) ≤ b + 1 := by
      rw [a, e1]
      rw [e1] at hm
      split at le <;> omega
    obtain ⟨t1, t2, _, _, _⟩ := turns_fit (b := b) (τ := ((w.toNat + j : Nat) : Int)) _ fit
    have ep : pre b (mc c w R d) (w.toNat + (j + 1)) = ((turns b ((w.toNat + j : Nat) : Int) (am c R d (j + 1) - am c R d j).toNat (pre b (mc c w R d) (w.toNat + j))).1, close (turns b ((w.toNat + j : Nat) : Int) (am c R d (j + 1) - am c R d j).toNat (pre b (mc c w R d) (w.toNat + j))).2) := by
      rw [← hg]
      rfl
    rw [ep]
    refine ⟨?_, ?_⟩
    · show close _ = _
      rw [t1, a]
      unfold close
      rw [e1] at hm ⊢
      rw [if_pos (by omega)]
      omega
    · show ((_ : List Let).length : Int) = _
      rw [t2]
      omega
theorem mc_letts (hc : 2 ≤ c) (hR : 0 < R) (h1 : R ≤ c * (d : Int) + c - 1) (w0 : 0 ≤ w) (wb : w ≤ b) (hd : (d : Int) < w) (hv : w + R - (d : Int) ≤ b) :
    ((letts b (mc c w R d)).length : Int) = 2 * w + R + 1 ∧ (letts b (mc c w R d))[(2 * w).toNat]? = some (w, 1, some w) ∧ ∃ u, (letts b (mc c w R d))[(2 * w + R).toNat]? = some (w + (d : Int), u, some (w + R - (d : Int))) := by
  have b0 : 0 ≤ b := by omega
  have len : (mc c w R d).length = w.toNat + (d + 1) := by
    rw [mc_len]
    omega
  have stp : ∀ j : Nat, j ≤ d → ∃ n : Nat, (n : Int) = am c R d (j + 1) - am c R d j ∧ 
      (pre b (mc c w R d) (w.toNat + (j + 1))).1 = (turns b ((w.toNat + j : Nat) : Int) n (pre b (mc c w R d) (w.toNat + j))).1 ∧ (pre b (mc c w R d) (w.toNat + j)).2 + (n : Int) ≤ b + 1 := fun j hj => by
    obtain ⟨a, l⟩ := mc_state hc hR h1 w0 wb hd hv j (by omega)
    have hm := am_mono (c := c) (R := R) (by omega) d j hj
    have hg := mc_at (c := c) (w := w) (R := R) (d := d) j hj
    have le := rr_le (c := c) (R := R) (by omega) (by omega) (d - j)
    have e1 : am c R d (j + 1) = 1 + rr c R (d - j) := rfl
    have nn := rr_nn (c := c) (R := R) (d - j)
    have ed : ((d - j : Nat) : Int) = (d : Int) - (j : Int) := by omega
    rw [ed] at le
    refine ⟨(am c R d (j + 1) - am c R d j).toNat, by omega, ?_, ?_⟩
    · rw [← hg]
      rfl
    · rw [a, e1]
      rw [e1] at hm
      split at le <;> omega
  have rz := rr_zero (c := c) hR
  have ad : am c R d (d + 1) = 1 + R := by
    show 1 + rr c R (d - d) = 1 + R
    rw [Nat.sub_self, rz]
  have el : letts b (mc c w R d) = (pre b (mc c w R d) (w.toNat + (d + 1))).1 := by
    unfold letts
    rw [len]
  refine ⟨?_, ?_, ?_⟩
  · obtain ⟨_, l⟩ := mc_state hc hR h1 w0 wb hd hv (d + 1) (Nat.le_refl _)
    rw [el, l, ad]
    omega
  · obtain ⟨n, hn, e, fit⟩ := stp 0 (Nat.zero_le _)
    obtain ⟨a, l⟩ := mc_state hc hR h1 w0 wb hd hv 0 (by omega)
    have n0 : 0 < n := by
      have : am c R d (0 + 1) = 1 + rr c R (d - 0) := rfl
      have : am c R d 0 = 0 := rfl
      have := rr_nn (c := c) (R := R) (d - 0)
      omega
    obtain ⟨_, t2, _, t4, _⟩ := turns_fit (b := b) (τ := ((w.toNat + 0 : Nat) : Int)) n fit
    have t4 := t4 n0
    rw [← e] at t4
    have l0 : (pre b (mc c w R d) (w.toNat + 0)).1.length = (2 * w).toNat := by
      have : am c R d 0 = 0 := rfl
      omega
    have a0 : (pre b (mc c w R d) (w.toNat + 0)).2 = w := by
      have : am c R d 0 = 0 := rfl
      omega
    rw [l0, a0, show (((w.toNat + 0 : Nat)) : Int) = w by omega] at t4
    obtain ⟨rest, er, _⟩ := Dy.pre_app b0 (mc c w R d) (w.toNat + 1) d
    rw [el, show w.toNat + (d + 1) = w.toNat + 1 + d by omega, er, List.getElem?_append_left ((List.getElem?_eq_some_iff.mp t4).1)]
    exact t4
  · obtain ⟨n, hn, e, fit⟩ := stp d (Nat.le_refl _)
    obtain ⟨a, l⟩ := mc_state hc hR h1 w0 wb hd hv d (by omega)
    have n0 : 0 < n := by
      rw [ad] at hn
      cases d with
      | zero =>
        have : am c R 0 0 = 0 := rfl
        omega
      | succ d =>
        have e2 : am c R (d + 1) (d + 1) = 1 + rr c R (d + 1 - d) := rfl
        rw [show d + 1 - d = 0 + 1 by omega, (rr_step (c := c) (R := R) (by omega) 0).1, rz] at e2
        split at e2 <;> omega
    obtain ⟨_, t2, _, _, t5⟩ := turns_fit (b := b) (τ := ((w.toNat + d : Nat) : Int)) n fit
    have t5 := t5 n0
    rw [← e, ← el] at t5
    refine ⟨(n : Int), ?_⟩
    rw [show (pre b (mc c w R d) (w.toNat + d)).1.length + n - 1 = (2 * w + R).toNat by omega, show (((w.toNat + d : Nat)) : Int) = w + (d : Int) by omega, show (pre b (mc c w R d) (w.toNat + d)).2 + (n : Int) - 1 = w + R - (d : Int) by omega] at t5
    exact t5
end
/-! ### who meets -/
theorem all_inv {ls : List Int} {rs : List (List Int)} : ∀ {n : Nat} {e : List Int}, n ≤ rs.length → e ∈ Tb.all ls rs n → ∃ w p, 1 ≤ w ∧ w ≤ (n : Int) ∧ p ∈ Tb.go ls 0 (Dy.rowOf rs w) ∧ e = Tb.ent w p
  | 0, e, _, h => by cases h
  | n + 1, e, hn, h => by
    rcases List.mem_append.mp h with h | h
    · obtain ⟨w, p, a, b, c, d⟩ := all_inv (by omega) h
      exact ⟨w, p, a, by omega, c, d⟩
    · obtain ⟨p, hp, rfl⟩ := List.mem_map.mp h
      refine ⟨(n : Int) + 1, p, by omega, by omega, ?_, rfl⟩
      rw [show Dy.rowOf rs ((n : Int) + 1) = rs.getD n [] by
        unfold Dy.rowOf
        rw [if_neg (by omega), show ((n : Int) + 1 - 1).toNat = n by omega]]
      exact hp
/-- the places of a letter: when it enters which loop -/
def pl (ls : List Int) (rs : List (List Int)) (l : Let) : List (List Int) := match l.2.2 with
  | none => []
  | some w => (Tb.go ls 0 (Dy.rowOf rs w)).map fun p => [l.1 + p.1, p.2]
/-- the letters i and j enter one loop at one tick -/
def Mts (ls : List Int) (rs : List (List Int)) (cs : List Int) (i j : Nat) : Prop := ∃ l m r, (letts (rs.length : Int) cs)[i]? = some l ∧ (letts (rs.length : Int) cs)[j]? = some m ∧ r ∈ pl ls rs l ∧ r ∈ pl ls rs m
theorem mem_pl {ls : List Int} {rs : List (List Int)} {L : List Let} {n : Int} {i : Nat} {l : Let} {r : List Int} (h : L[i]? = some l) (hr : r ∈ pl ls rs l) : r ∈ Mt.prs (Dy.lays ls rs n L) := by
  unfold pl at hr
  cases e : l.2.2 with
  | none =>
    rw [e] at hr
    cases hr
  | some w =>
    rw [e] at hr
    obtain ⟨p, hp, rfl⟩ := List.mem_map.mp hr
    exact mem_lay h e hp
theorem lays_append (ls : List Int) (rs : List (List Int)) : ∀ (A B : List Let) (n : Int), Dy.lays ls rs n (A ++ B) = Dy.lays ls rs n A ++ Dy.lays ls rs (n + (A.length : Int)) B
  | [], B, n => by
    show _ = [] ++ Dy.lays ls rs (n + ((0 : Nat) : Int)) B
    rw [List.nil_append, show n + ((0 : Nat) : Int) = n by omega]
    rfl
  | a :: A, B, n => by
    show Dy.lay1 ls rs n a ++ Dy.lays ls rs (n + 1) (A ++ B) = (Dy.lay1 ls rs n a ++ Dy.lays ls rs (n + 1) A) ++ Dy.lays ls rs (n + ((A.length + 1 : Nat) : Int)) B
    rw [lays_append ls rs A B (n + 1), List.append_assoc, show n + 1 + (A.length : Int) = n + ((A.length + 1 : Nat) : Int) by omega]
theorem mts_two {ls : List Int} {rs : List (List Int)} {cs : List Int} {i j : Nat} (h : Mts ls rs cs i j) (hij : i < j) : ∃ r, 2 ≤ (Mt.prs (Dy.lays ls rs 0 (letts (rs.length : Int) cs))).count r := by
  obtain ⟨l, m, r, h1, h2, r1, r2⟩ := h
  refine ⟨r, ?_⟩
  have e : letts (rs.length : Int) cs = (letts (rs.length : Int) cs).take j ++ (letts (rs.length : Int) cs).drop j := (List.take_append_drop _ _).symm
  rw [e, lays_append, prs_append, List.count_append]
  have m1 : r ∈ Mt.prs (Dy.lays ls rs 0 ((letts (rs.length : Int) cs).take j)) := mem_pl (i := i) (by rw [List.getElem?_take_of_lt hij]; exact h1) r1
  have m2 : r ∈ Mt.prs (Dy.lays ls rs (0 + (((letts (rs.length : Int) cs).take j).length : Int)) ((letts (rs.length : Int) cs).drop j)) := mem_pl (i := 0) (by rw [List.getElem?_drop]; exact h2) r2
  have := List.count_pos_iff.mpr m1
  have := List.count_pos_iff.mpr m2
  omega
/-- a clash has its meeting -/
theorem clash_mts {c : Int} {ls : List Int} {rs : List (List Int)} (R : Tb.Right ls rs) (c2 : 2 ≤ c) {x y : List Int} (h : Cl.Clash c ls rs x y) {w Rr : Int} {d : Nat} (ew : w = x.getD 1 0 + x.getD 2 0) (eR : Rr = y.getD 2 0 - x.getD 2 0) (ed : d = (x.getD 1 0 - y.getD 1 0).toNat) :
    (∀ v ∈ mc c w Rr d, 0 ≤ v ∧ v ≤ c) ∧ (mc c w Rr d).length ≤ 400 ∧ 0 < Rr ∧ 0 ≤ w ∧ ((letts (rs.length : Int) (mc c w Rr d)).length : Int) = 2 * w + Rr + 1 ∧ Mts ls rs (mc c w Rr d) (2 * w).toNat (2 * w + Rr).toNat := by
  obtain ⟨a, b, hh, cd⟩ := h
  obtain ⟨wx, p, x1, x2, hp, rfl⟩ := all_inv (Nat.le_refl _) a
  obtain ⟨wy, q, y1, y2, hq, rfl⟩ := all_inv (Nat.le_refl _) b
  obtain ⟨_, p0, p1⟩ := mem_wait R x2 hp
  obtain ⟨_, q0, q1⟩ := mem_wait R y2 hq
  have r60 := R.2.2.1
  have cd' : (decide ((wy - q.1) - (wx - p.1) > 0) && (decide (p.1 ≥ q.1) && decide ((wy - q.1) - (wx - p.1) ≤ c * (p.1 - q.1) + c - 1))) = true := cd
  rw [Bool.and_eq_true, Bool.and_eq_true, decide_eq_true_iff, decide_eq_true_iff, decide_eq_true_iff] at cd'
  obtain ⟨d1, d2, d3⟩ := cd'
  have ew' : w = wx := by
    rw [ew]
    show p.1 + (wx - p.1) = wx
    omega
  have eR' : Rr = (wy - q.1) - (wx - p.1) := eR
  have ed' : (d : Int) = p.1 - q.1 := by
    rw [ed]
    show (((p.1 - q.1).toNat : Nat) : Int) = p.1 - q.1
    omega
  rw [← ed', ← eR'] at d3
  have hk : p.2 = q.2 := hh
  obtain ⟨len, l1, u, l2⟩ := mc_letts (b := (rs.length : Int)) (w := w) (d := d) c2 (show 0 < Rr by omega) (by omega) (by omega) (by omega) (by omega) (by omega)
  refine ⟨mc_right c2 (by omega) (by omega), by rw [mc_len]; omega, by omega, by omega, len, _, _, [w + p.1, p.2], l1, l2, ?_, ?_⟩
  · show _ ∈ (Tb.go ls 0 (Dy.rowOf rs w)).map _
    rw [ew']
    exact List.mem_map.mpr ⟨p, hp, rfl⟩
  · show _ ∈ (Tb.go ls 0 (Dy.rowOf rs (w + Rr - (d : Int)))).map _
    rw [show w + Rr - (d : Int) = wy by omega]
    refine List.mem_map.mpr ⟨q, hq, ?_⟩
    show [w + (d : Int) + q.1, q.2] = [w + p.1, p.2]
    rw [hk, show w + (d : Int) + q.1 = w + p.1 by omega]
/-! ### a letter a tick -/
theorem pre_succ {b : Int} {cs : List Int} {i n : Nat} (h : (cs.getD i 0).toNat = n) : pre b cs (i + 1) = ((turns b (i : Int) n (pre b cs i)).1, close (turns b (i : Int) n (pre b cs i)).2) := by
  subst h
  rfl
def oc (w : Nat) : List Int := List.replicate w 2 ++ List.replicate (w + 1) 1
theorem oc_len (w : Nat) : (oc w).length = w + (w + 1) := by
  unfold oc
  rw [List.length_append, List.length_replicate, List.length_replicate]
theorem oc_state {b : Int} {w : Nat} (hb : (w : Int) ≤ b) : ∀ m : Nat, m ≤ w + 1 → (pre b (oc w) (w + m)).2 = (w : Int) ∧ (pre b (oc w) (w + m)).1.length = 2 * w + m
  | 0, _ => by
    have ec : pre b (oc w) w = pre b (List.replicate w 2) w := Wk.pre_congr _ fun j hj => by
      unfold oc
      rw [List.getD_eq_getElem?_getD, List.getD_eq_getElem?_getD, List.getElem?_append_left (by rw [List.length_replicate]; exact hj)]
    obtain ⟨a, l, _⟩ := Wk.twos (b := b) w (List.replicate w 2) hb rfl
    rw [Nat.add_zero, ec]
    exact ⟨a, l⟩
  | m + 1, hm => by
    obtain ⟨a, l⟩ := oc_state hb m (by omega)
    have hg : (oc w).getD (w + m) 0 = 1 := by
      unfold oc
      rw [List.getD_eq_getElem?_getD, List.getElem?_append_right (by rw [List.length_replicate]; omega), List.length_replicate, List.getElem?_replicate, if_pos (by omega)]
      rfl
    have fit : (pre b (oc w) (w + m)).2 + ((1 : Nat) : Int) ≤ b + 1 := by omega
    obtain ⟨t1, t2, _⟩ := turns_fit (b := b) (τ := ((w + m : Nat) : Int)) 1 fit
    have ep : pre b (oc w) (w + (m + 1)) = ((turns b ((w + m : Nat) : Int) 1 (pre b (oc w) (w + m))).1, close (turns b ((w + m : Nat) : Int) 1 (pre b (oc w) (w + m))).2) := pre_succ (i := w + m) (congrArg Int.toNat hg)
    rw [ep]
    refine ⟨?_, ?_⟩
    · show close _ = _
      rw [t1, a]
      unfold close
      rw [if_pos (by omega)]
      omega
    · show (_ : List Let).length = _
      rw [t2, l]
      omega
theorem oc_at {b : Int} {w : Nat} (hb : (w : Int) ≤ b) {m : Nat} (hm : m ≤ w) : (letts b (oc w))[2 * w + m]? = some (((w + m : Nat) : Int), 1, some (w : Int)) := by
  obtain ⟨a, l⟩ := oc_state hb m (by omega)
  have hg : (oc w).getD (w + m) 0 = 1 := by
    unfold oc
    rw [List.getD_eq_getElem?_getD, List.getElem?_append_right (by rw [List.length_replicate]; omega), List.length_replicate, List.getElem?_replicate, if_pos (by omega)]
    rfl
  have fit : (pre b (oc w) (w + m)).2 + ((1 : Nat) : Int) ≤ b + 1 := by omega
  obtain ⟨_, _, _, t4, _⟩ := turns_fit (b := b) (τ := ((w + m : Nat) : Int)) 1 fit
  have t4 := t4 (by decide)
  rw [l, a] at t4
  have ep : (pre b (oc w) (w + m + 1)).1 = (turns b ((w + m : Nat) : Int) 1 (pre b (oc w) (w + m))).1 := by
    rw [pre_succ (n := 1) (by rw [hg]; rfl)]
  rw [← ep] at t4
  obtain ⟨rest, er, _⟩ := Dy.pre_app (b := b) (by omega) (oc w) (w + m + 1) (w - m)
  have el : letts b (oc w) = (pre b (oc w) (w + m + 1 + (w - m))).1 := by
    unfold letts
    rw [oc_len, show w + (w + 1) = w + m + 1 + (w - m) by omega]
  rw [el, er, List.getElem?_append_left ((List.getElem?_eq_some_iff.mp t4).1)]
  exact t4
/-- what the letters with this wait enter -/
def ofW (ls : List Int) (rs : List (List Int)) (w : Int) (L : List Let) : List (List Int) := (L.filter fun l => decide (l.2.2 = some w)).flatMap (pl ls rs)
theorem ofW_snoc (ls : List Int) (rs : List (List Int)) (w : Int) (L : List Let) (l : Let) : ofW ls rs w (L ++ [l]) = if l.2.2 = some w then ofW ls rs w L ++ pl ls rs l else ofW ls rs w L := by
  unfold ofW
  rw [List.filter_append]
  by_cases h : l.2.2 = some w
  · rw [if_pos h, List.filter_cons_of_pos (by simpa using h), List.flatMap_append]
    simp
  · rw [if_neg h, List.filter_cons_of_neg (by simpa using h)]
    simp
theorem ofW_mem {ls : List Int} {rs : List (List Int)} {w : Int} {L : List Let} {l : Let} (h : l ∈ L) (hw : l.2.2 = some w) {r : List Int} (hr : r ∈ pl ls rs l) : r ∈ ofW ls rs w L :=
  List.mem_flatMap.mpr ⟨l, List.mem_filter.mpr ⟨h, by simpa using hw⟩, hr⟩
theorem ofW_append (ls : List Int) (rs : List (List Int)) (w : Int) (A B : List Let) : ofW ls rs w (A ++ B) = ofW ls rs w A ++ ofW ls rs w B := by
  unfold ofW
  rw [List.filter_append, List.flatMap_append]
/-- two of them enter one loop at one tick -/
theorem oc_dup {ls : List Int} {rs : List (List Int)} {w : Nat} (hw : (w : Int) ≤ (rs.length : Int)) {p q : Int × Int} (hp : p ∈ Tb.go ls 0 (Dy.rowOf rs (w : Int))) (hq : q ∈ Tb.go ls 0 (Dy.rowOf rs (w : Int))) (e : p.2 = q.2) (lt : p.1 < q.1) (p0 : 0 ≤ p.1) (qw : q.1 < (w : Int)) :
    ∃ j r, (ofW ls rs (w : Int) (letts (rs.length : Int) (oc w)))[j]? = some r ∧ r ∈ (ofW ls rs (w : Int) (letts (rs.length : Int) (oc w))).take j := by
  have h0 := oc_at hw (m := 0) (by omega)
  obtain ⟨m, hm⟩ : ∃ m : Nat, (m : Int) = q.1 - p.1 := ⟨(q.1 - p.1).toNat, by omega⟩
  have h1 := oc_at hw (m := m) (by omega)
  generalize letts (rs.length : Int) (oc w) = L at h0 h1
  have eL : L = L.take (2 * w + m) ++ L.drop (2 * w + m) := (List.take_append_drop _ _).symm
  have r0 : [(w : Int) + q.1, q.2] ∈ ofW ls rs (w : Int) (L.take (2 * w + m)) := by
    refine ofW_mem (l := (((w + 0 : Nat) : Int), 1, some (w : Int))) (List.mem_iff_getElem?.mpr ⟨2 * w + 0, ?_⟩) rfl ?_
    · rw [List.getElem?_take_of_lt (by omega)]
      exact h0
    · exact List.mem_map.mpr ⟨q, hq, rfl⟩
  have r1 : [(w : Int) + q.1, q.2] ∈ ofW ls rs (w : Int) (L.drop (2 * w + m)) := by
    refine ofW_mem (l := (((w + m : Nat) : Int), 1, some (w : Int))) (List.mem_iff_getElem?.mpr ⟨0, ?_⟩) rfl ?_
    · rw [List.getElem?_drop]
      exact h1
    · refine List.mem_map.mpr ⟨p, hp, ?_⟩
      show [((w + m : Nat) : Int) + p.1, p.2] = [(w : Int) + q.1, q.2]
      rw [e, show ((w + m : Nat) : Int) + p.1 = (w : Int) + q.1 by omega]
  have eE : ofW ls rs (w : Int) L = ofW ls rs (w : Int) (L.take (2 * w + m)) ++ ofW ls rs (w : Int) (L.drop (2 * w + m)) := by
    rw [← ofW_append, ← eL]
  obtain ⟨i, hi⟩ := List.mem_iff_getElem?.mp r1
  rw [eE]
  refine ⟨(ofW ls rs (w : Int) (L.take (2 * w + m))).length + i, [(w : Int) + q.1, q.2], ?_, ?_⟩
  · rw [List.getElem?_append_right (by omega), Nat.add_sub_cancel_left]
    exact hi
  · rw [List.take_append]
    refine List.mem_append_left _ ?_
    rw [List.take_of_length_le (by omega)]
    exact r0
/-! ### a loop twice in a row -/
theorem go_filter_len (ls : List Int) (k : Int) : ∀ (r : List Int) (g : Int), ((Tb.go ls g r).filter fun p => decide (p.2 = k)).length = (r.filter fun x => decide (x = k)).length
  | [], _ => rfl
  | x :: r, g => by
    show (((g, x) :: Tb.go ls (g + Tb.len1 ls x) r).filter _).length = _
    by_cases e : x = k
    · rw [List.filter_cons_of_pos (by simpa using e), List.filter_cons_of_pos (by simpa using e), List.length_cons, List.length_cons, go_filter_len]
    · rw [List.filter_cons_of_neg (by simpa using e), List.filter_cons_of_neg (by simpa using e), go_filter_len]
theorem twice {ls : List Int} (G : Rch.Good ls) {k : Int} {rot row : List Int} {n : Nat} (h : rot = (k :: k :: row).drop n ++ (k :: k :: row).take n) (hin : Tb.InR ls rot) :
    ∃ p q rest, (Tb.go ls 0 rot).filter (fun p => decide (p.2 = k)) = p :: q :: rest ∧ p.1 < q.1 ∧ p.2 = k ∧ q.2 = k ∧ p ∈ Tb.go ls 0 rot ∧ q ∈ Tb.go ls 0 rot := by
  have hl : 2 ≤ ((Tb.go ls 0 rot).filter fun p => decide (p.2 = k)).length := by
    rw [go_filter_len, h]
    have pm : ((k :: k :: row).drop n ++ (k :: k :: row).take n).Perm (k :: k :: row) := by
      refine List.perm_append_comm.trans ?_
      rw [List.take_append_drop]
    rw [(pm.filter _).length_eq, List.filter_cons_of_pos (by simp), List.filter_cons_of_pos (by simp), List.length_cons, List.length_cons]
    omega
  have pw := (Tb.go_up G rot 0 hin).sublist (List.filter_sublist (l := Tb.go ls 0 rot) (p := fun p => decide (p.2 = k)))
  cases e : (Tb.go ls 0 rot).filter fun p => decide (p.2 = k) with
  | nil =>
    rw [e] at hl
    exact absurd hl (by decide)
  | cons p r =>
    cases r with
    | nil =>
      rw [e] at hl
      exact absurd hl (by simp)
    | cons q rest =>
      rw [e] at pw
      have hp : p ∈ (Tb.go ls 0 rot).filter fun p => decide (p.2 = k) := by
        rw [e]
        exact List.mem_cons_self
      have hq : q ∈ (Tb.go ls 0 rot).filter fun p => decide (p.2 = k) := by
        rw [e]
        exact List.mem_cons_of_mem _ List.mem_cons_self
      obtain ⟨p1, p2⟩ := List.mem_filter.mp hp
      obtain ⟨q1, q2⟩ := List.mem_filter.mp hq
      exact ⟨p, q, rest, rfl, (List.pairwise_cons.mp pw).1 q List.mem_cons_self, of_decide_eq_true p2, of_decide_eq_true q2, p1, q1⟩
theorem ents_filter (ls : List Int) (w k : Int) (r : List Int) : (Tb.ents ls w r).filter (fun e => decide (Cl.hd e = k)) = ((Tb.go ls 0 r).filter fun p => decide (p.2 = k)).map (Tb.ent w) := by
  unfold Tb.ents
  rw [List.filter_map]
  rfl
theorem twice_clash {ls : List Int} {rs : List (List Int)} (R : Tb.Right ls rs) {c w : Int} (c1 : 0 ≤ c) (hw : w ≤ (rs.length : Int)) {p q : Int × Int} (hp : p ∈ Tb.go ls 0 (Dy.rowOf rs w)) (hq : q ∈ Tb.go ls 0 (Dy.rowOf rs w)) (lt : p.1 < q.1) (e : p.2 = q.2) (c2 : 1 ≤ c) : Cl.Clash c ls rs (Tb.ent w q) (Tb.ent w p) := by
  obtain ⟨a1, _, _⟩ := mem_wait R hw hp
  obtain ⟨b1, _, _⟩ := mem_wait R hw hq
  refine ⟨b1, a1, e.symm, ?_⟩
  have hm : q.1 - p.1 ≤ c * (q.1 - p.1) := by
    have := Int.mul_le_mul_of_nonneg_right c2 (show 0 ≤ q.1 - p.1 by omega)
    omega
  show (decide ((w - p.1) - (w - q.1) > 0) && (decide (q.1 ≥ p.1) && decide ((w - p.1) - (w - q.1) ≤ c * (q.1 - p.1) + c - 1))) = true
  rw [decide_eq_true (by omega), decide_eq_true (by omega), decide_eq_true (by omega)]
  rfl
end Sf

/-! ## pairs of tuples of ints; sorted(xs) of them -/
namespace My
open PySem PySem.Spec PyProof.Rows L2
/-- the pairs that are told, each a new tuple of two -/
inductive PT2 (H : Hp) : List Addr → List (List Int × List Int) → Prop
  | nil : PT2 H [] []
  | cons {q a b : Addr} {x y : List Int} {qs : List Addr} {ps : List (List Int × List Int)} : H q = some (.tup [.ref a, .ref b]) → H a = some (.tup (fI x)) → H b = some (.tup (fI y)) → PT2 H qs ps → PT2 H (q :: qs) ((x, y) :: ps)
theorem PT2.keep {H H' : Hp} {qs : List Addr} {ps : List (List Int × List Int)} (h : PT2 H qs ps) (e : ∀ b ys, H b = some (.tup ys) → H' b = some (.tup ys)) : PT2 H' qs ps := by
  induction h with
  | nil => exact .nil
  | cons a b c _ ih => exact .cons (e _ _ a) (e _ _ b) (e _ _ c) ih
theorem PT2.same {H H' : Hp} {qs : List Addr} {ps : List (List Int × List Int)} (h : PT2 H qs ps) (e : Same H H') : PT2 H' qs ps := h.keep fun _ _ z => e _ _ z
theorem PT2.snoc {H : Hp} {q a b : Addr} {x y : List Int} {qs : List Addr} {ps : List (List Int × List Int)} (h : PT2 H qs ps) (h1 : H q = some (.tup [.ref a, .ref b])) (h2 : H a = some (.tup (fI x))) (h3 : H b = some (.tup (fI y))) : PT2 H (qs ++ [q]) (ps ++ [(x, y)]) := by
  induction h with
  | nil => exact .cons h1 h2 h3 .nil
  | cons a b c _ ih => exact .cons a b c ih
theorem PT2.length {H : Hp} {qs : List Addr} {ps : List (List Int × List Int)} (h : PT2 H qs ps) : qs.length = ps.length := by
  induction h with
  | nil => rfl
  | cons a b c _ ih => rw [List.length_cons, List.length_cons, ih]
theorem PT2.get {H : Hp} {qs : List Addr} {ps : List (List Int × List Int)} (h : PT2 H qs ps) : ∀ {i : Nat} {v : V}, (qs.map V.ref)[i]? = some v → ∃ q a b x y, v = .ref q ∧ ps[i]? = some (x, y) ∧ H q = some (.tup [.ref a, .ref b]) ∧ H a = some (.tup (fI x)) ∧ H b = some (.tup (fI y)) := by
  induction h with
  | nil =>
    intro i v h
    simp at h
  | cons a b c _ ih =>
    intro i v h
    cases i with
    | zero =>
      simp at h
      exact ⟨_, _, _, _, _, h.symm, rfl, a, b, c⟩
    | succ i =>
      simp only [List.map_cons, List.getElem?_cons_succ] at h ⊢
      exact ih h
/-! ### the order of tuples of ints, as a number -/
theorem lex_code {B : Int} : ∀ {x y : List Int}, x.length = y.length → TS.Bd B x → TS.Bd B y → HT.lexLt x y = decide (TS.code B x < TS.code B y)
  | [], [], _, _, _ => by
    rw [decide_eq_false (Int.lt_irrefl _)]
    rfl
  | [], _ :: _, h, _, _ => by cases h
  | _ :: _, [], h, _, _ => by cases h
  | a :: x, b :: y, h, h1, h2 => by
    have hl : x.length = y.length := by simpa using h
    rw [HT.lexLt_cons]
    by_cases e : a = b
    · subst e
      rw [if_pos rfl, lex_code hl h1.tail h2.tail]
      exact decide_eq_decide.mpr (TS.code_same hl).symm
    · rw [if_neg e]
      refine decide_eq_decide.mpr ⟨fun z => TS.code_lt hl h1.tail h2.tail z, fun z => ?_⟩
      rcases Int.lt_trichotomy a b with y1 | y1 | y1
      · exact y1
      · exact absurd y1 e
      · have := TS.code_lt hl.symm h2.tail h1.tail y1
        omega
theorem code_app {B : Int} : ∀ (x u : List Int), TS.code B (x ++ u) = TS.code B x * B ^ u.length + TS.code B u
  | [], u => by
    show TS.code B u = 0 * B ^ u.length + TS.code B u
    rw [Int.zero_mul, Int.zero_add]
  | a :: x, u => by
    show a * B ^ (x ++ u).length + TS.code B (x ++ u) = (a * B ^ x.length + TS.code B x) * B ^ u.length + TS.code B u
    rw [code_app x u, List.length_append, Int.pow_add, Int.add_mul, ← Int.mul_assoc]
    omega
theorem bd_app {B : Int} {x u : List Int} (h1 : TS.Bd B x) (h2 : TS.Bd B u) : TS.Bd B (x ++ u) := fun m hm => (List.mem_append.mp hm).elim (h1 m) (h2 m)
/-- a pair as one list -/
def cat2 (p : List Int × List Int) : List Int := p.1 ++ p.2
def Ok33 (B : Int) (p : List Int × List Int) : Prop := (p.1.length = 3 ∧ TS.Bd B p.1) ∧ p.2.length = 3 ∧ TS.Bd B p.2
theorem Ok33.cat {B : Int} {p : List Int × List Int} (h : Ok33 B p) : (cat2 p).length = 6 ∧ TS.Bd B (cat2 p) := ⟨by
  unfold cat2
  rw [List.length_append, h.1.1, h.2.1], bd_app h.1.2 h.2.2⟩
theorem cat2_inj {B : Int} {p q : List Int × List Int} (h1 : Ok33 B p) (h2 : Ok33 B q) (e : cat2 p = cat2 q) : p = q := by
  have e' := List.append_inj e (by rw [h1.1.1, h2.1.1])
  exact Prod.ext e'.1 e'.2
theorem itemsInt {P : Program} {w : World} : ∀ {vs : List Value} {ns : List Int}, IntsAre vs ns → ItemsAre (PySem.intKind P w) ns vs := fun {vs ns} h => by
  induction h with
  | nil => exact .nil
  | cons p t _ ih => exact .cons (by show Value.isInt p (.int p t) = true; first | rfl | simp [Value.isInt] | decide) ih
theorem isT_of {P : Program} {w : World} {h : Heap} {a : Addr} {items : Array Value} {ns : List Int} (t : IsTup h a items) (i : IntsAre items.toList ns) : IsTupleKey (PySem.intKind P w) h ns a := by
  obtain ⟨o, ho, hc, n, hd⟩ := t
  exact ⟨o, items, n, ho, hc, hd, itemsInt i⟩
/-- v is a pair of tuples of ints -/
def PairT (h : Heap) (v : Value) (p : List Int × List Int) : Prop := ∃ q a b : Addr, v = .ref q ∧ IsTup h q #[.ref a, .ref b] ∧ TS.TupInts h (.ref a) p.1 ∧ TS.TupInts h (.ref b) p.2
theorem PairT.keeps {h h' : Heap} {v : Value} {p : List Int × List Int} (x : PairT h v p) (k : ∀ b o, h.get? b = some o → o.cls = .type "tuple" → h'.get? b = some o) : PairT h' v p := by
  obtain ⟨q, a, b, e, ⟨o, ho, hc, n⟩, h1, h2⟩ := x
  exact ⟨q, a, b, e, ⟨o, k _ _ ho hc, hc, n⟩, h1.keeps k, h2.keeps k⟩
theorem firstsP {h : Heap} {k : Value → List Int × List Int} : ∀ vs : List Value, (∀ v ∈ vs, PairT h v (k v)) → ∃ fs : List Value, PySem.W.KatTups h vs fs ∧ fs.length = vs.length ∧ ∀ f ∈ fs, ∃ (q : Addr) (o : Obj), f = Value.ref q ∧ h.get? q = some o ∧ o.cls = .type "tuple"
  | [], _ => ⟨[], PySem.W.KatTups.nil, rfl, fun f hf => by simp at hf⟩
  | v :: vs, x => by
    obtain ⟨fs, kk, hl, hi⟩ := firstsP vs fun u hu => x u (List.mem_cons_of_mem _ hu)
    obtain ⟨q, a, b, rfl, ⟨o, ho, hc, n, hd⟩, ⟨a2, xs2, e2, ⟨o2, ho2, hc2, _⟩, _⟩, _⟩ := x v (List.mem_cons_self ..)
    cases e2
    refine ⟨.ref a :: fs, PySem.W.KatTups.cons ho hc hd rfl kk, by rw [List.length_cons, List.length_cons, hl], fun f hf => ?_⟩
    rcases List.mem_cons.mp hf with rfl | hf
    · exact ⟨a, o2, rfl, ho2, hc2⟩
    · exact hi f hf
/-- which of two pairs is less, by the code of both lists in a row -/
def codeP (B : Int) (p : List Int × List Int) : Int := TS.code B (cat2 p)
theorem codeP_eq {B : Int} {p : List Int × List Int} (hp : Ok33 B p) : codeP B p = TS.code B p.1 * B ^ 3 + TS.code B p.2 := by
  unfold codeP cat2
  rw [code_app, hp.2.1]
theorem cat_lt {B : Int} {p q : List Int × List Int} (hp : Ok33 B p) (hq : Ok33 B q) (h : TS.code B p.1 < TS.code B q.1) : codeP B p < codeP B q := by
  rw [codeP_eq hp, codeP_eq hq]
  obtain ⟨c0, c1⟩ := TS.code_bd p.2 hp.2.2
  obtain ⟨g0, g1⟩ := TS.code_bd q.2 hq.2.2
  rw [hp.2.1] at c1
  exact TS.num2 c0 c1 g0 h
theorem codeP_lt1 {B : Int} {p q : List Int × List Int} (hp : Ok33 B p) (hq : Ok33 B q) (e : p.1 ≠ q.1) : HT.lexLt p.1 q.1 = decide (codeP B p < codeP B q) := by
  rw [lex_code (by rw [hp.1.1, hq.1.1]) hp.1.2 hq.1.2]
  rcases Int.lt_trichotomy (TS.code B p.1) (TS.code B q.1) with h | h | h
  · rw [decide_eq_true h, decide_eq_true (cat_lt hp hq h)]
  · exact absurd (code_inj hp.1.1 hq.1.1 hp.1.2 hq.1.2 h) e
  · have h' := cat_lt hq hp h
    rw [decide_eq_false (by omega), decide_eq_false (by omega)]
theorem codeP_lt2 {B : Int} {p q : List Int × List Int} (hp : Ok33 B p) (hq : Ok33 B q) (e : p.1 = q.1) : HT.lexLt p.2 q.2 = decide (codeP B p < codeP B q) := by
  rw [lex_code (by rw [hp.2.1, hq.2.1]) hp.2.2 hq.2.2, codeP_eq hp, codeP_eq hq, e]
  exact decide_eq_decide.mpr ⟨fun h => by omega, fun h => by omega⟩
theorem codeP_inj {B : Int} {p q : List Int × List Int} (hp : Ok33 B p) (hq : Ok33 B q) (e : codeP B p = codeP B q) : p = q := cat2_inj hp hq (code_inj hp.cat.1 hq.cat.1 hp.cat.2 hq.cat.2 e)
/-- a pair, read off the heap -/
def pairV (H : Hp) (v : V) : List Int × List Int := match v with
  | .ref q => match H q with
    | some (.tup [a, b]) => (intsV H a, intsV H b)
    | _ => ([], [])
  | _ => ([], [])
theorem pairV_of {H : Hp} {q a b : Addr} {x y : List Int} (h : H q = some (.tup [.ref a, .ref b])) (h1 : H a = some (.tup (fI x))) (h2 : H b = some (.tup (fI y))) : pairV H (.ref q) = (x, y) := by
  show (match H q with
    | some (.tup [a, b]) => (intsV H a, intsV H b)
    | _ => ([], [])) = (x, y)
  rw [h]
  show (intsV H (.ref a), intsV H (.ref b)) = (x, y)
  rw [intsV_of h1, intsV_of h2]
theorem PT2.mem {H : Hp} {qs : List Addr} {ps : List (List Int × List Int)} (h : PT2 H qs ps) : ∀ q ∈ qs, ∃ p ∈ ps, ∃ a b, H q = some (.tup [.ref a, .ref b]) ∧ H a = some (.tup (fI p.1)) ∧ H b = some (.tup (fI p.2)) := by
  induction h with
  | nil => exact fun _ h => absurd h (by simp)
  | cons h1 h2 h3 _ ih =>
    intro q hq
    rcases List.mem_cons.mp hq with rfl | hq
    · exact ⟨_, List.mem_cons_self, _, _, h1, h2, h3⟩
    · obtain ⟨p, hp, r⟩ := ih q hq
      exact ⟨p, List.mem_cons_of_mem _ hp, r⟩
theorem PT2.vals {H : Hp} {qs : List Addr} {ps : List (List Int × List Int)} (h : PT2 H qs ps) : ps = qs.map fun q => pairV H (.ref q) := by
  induction h with
  | nil => rfl
  | cons h1 h2 h3 _ ih => rw [List.map_cons, pairV_of h1 h2 h3, ← ih]
theorem pt2_of {H : Hp} : ∀ {qs : List Addr}, (∀ q ∈ qs, ∃ (p : List Int × List Int) (a b : Addr), H q = some (.tup [.ref a, .ref b]) ∧ H a = some (.tup (fI p.1)) ∧ H b = some (.tup (fI p.2))) → PT2 H qs (qs.map fun q => pairV H (.ref q))
  | [], _ => .nil
  | q :: qs, h => by
    obtain ⟨p, a, b, h1, h2, h3⟩ := h q List.mem_cons_self
    rw [List.map_cons, pairV_of h1 h2 h3]
    exact .cons h1 h2 h3 (pt2_of fun u hu => h u (List.mem_cons_of_mem _ hu))
def rSortP (K : PySem.W.Frag) (B : Int) : List V → Hp → VK → Prop := fun vs H Q => ∃ (a : Addr) (qs : List Addr) (ps : List (List Int × List Int)), vs = [V.ref a] ∧ SqL K H a (qs.map V.ref) ∧ PT2 H qs ps ∧ (∀ p ∈ ps, Ok33 B p) ∧
  ∀ qs' ps' z, PT2 H qs' ps' → ps'.Perm ps → ps'.Pairwise (fun x y => codeP B x ≤ codeP B y) → H z = none → Q (.ref z) (upd H z (.lst (qs'.map V.ref)))
theorem cr_sortP {X : Cx} {B : Int} (hu : X.A.units + 64 < cLine) : CallR X (.builtin "sorted") (rSortP X.K B) := by
  intro pins s σ H vs us Q I r h
  obtain ⟨a, qs, ps, rfl, hs, tu, hb, q⟩ := h
  obtain ⟨its, rv, hl, hz⟩ := I.list hs
  obtain ⟨u, rfl, ru⟩ := vals1 r
  obtain rfl : u = Value.ref a := ru
  obtain ⟨e1, e2⟩ := refs_back rv fun x m => by
    obtain ⟨t, _, e⟩ := List.mem_map.mp m
    exact ⟨t, e.symm⟩
  have key : ∀ v ∈ its, ∃ p, v = Value.ref p ∧ p ∈ qs := fun v hv => by
    obtain ⟨t, rfl⟩ := e2 v hv
    have hm : V.ref t ∈ qs.map V.ref := by rw [e1]; exact List.mem_map.mpr ⟨_, hv, rfl⟩
    obtain ⟨p, hp, e⟩ := List.mem_map.mp hm
    cases e
    exact ⟨t, rfl, hp⟩
  have ti : ∀ {b : Addr} {x : List Int}, H b = some (.tup (fI x)) → TS.TupInts s.heap (.ref b) x := fun {b x} hb' => by
    obtain ⟨its2, r2, pt, _⟩ := I.tuple (SqT.of hb')
    exact ⟨b, its2.toArray, rfl, pt, intsAre_of r2⟩
  have tin : ∀ v ∈ its, PairT s.heap v (pairV H (backV v)) ∧ Ok33 B (pairV H (backV v)) := fun v hv => by
    obtain ⟨p, rfl, hp⟩ := key v hv
    obtain ⟨xy, hm, a, b, h1, h2, h3⟩ := tu.mem p hp
    have ei : pairV H (backV (Value.ref p)) = xy := pairV_of h1 h2 h3
    rw [ei]
    obtain ⟨its2, r2, pt, _⟩ := I.tuple (SqT.of h1)
    obtain ⟨u1, u2, rfl, r1, r3⟩ := vals2 r2
    obtain rfl : u1 = Value.ref a := r1
    obtain rfl : u2 = Value.ref b := r3
    exact ⟨⟨p, a, b, rfl, pt, ti h2, ti h3⟩, hb _ hm⟩
  refine SrtO.sorted_ord (ltv := fun v u => decide (codeP B (pairV H (backV v)) < codeP B (pairV H (backV u)))) (swoC fun v => codeP B (pairV H (backV v))) hl.isList (by rw [← rv.length]; exact hz) (fun h2 h₁ a' ha' kk => ?_) fun out h1 h2 => ?_
  · intro h' keep
    have keep2 : ∀ b o, s.heap.get? b = some o → o.cls = .type "tuple" → h'.get? b = some o := fun b o e c => keep b o (kk b o e).1 (kk b o e).2
    have tin' : ∀ v ∈ its, PairT h' v (pairV H (backV v)) ∧ Ok33 B (pairV H (backV v)) := fun v hv => let ⟨x, y⟩ := tin v hv; ⟨x.keeps keep2, y⟩
    obtain ⟨fs, k1, k2, k3⟩ := firstsP (h := h') (k := fun v => pairV H (backV v)) its fun v hv => (tin' v hv).1
    refine ⟨tuples' false, fun Q E hq => ?_, ?_⟩
    · refine PySem.W.kat_kind (T := .type "tuple") k1 (by omega) (fun f hm => ?_) (by rfl) ?_
      · obtain ⟨q, o, rfl, ho, hc⟩ := k3 f hm
        have z : PySem.W.Looks (model X.prog X.w) h' (typeOf (.ref q)) o.cls := (PySem.W.Looks.ld ho).andThen .now
        rw [hc] at z
        exact z
      · have e : (Value.type "tuple" != Value.type "tuple") = false := by first | decide +kernel | rfl | decide
        rw [e]
        exact hq
    · intro p q hm hm'
      obtain ⟨⟨q1, a1, b1, x1, ⟨o1, ho1, hc1, n1, hd1⟩, ⟨a1', xs, x1', t1, i1⟩, ⟨b1', xs', x1'', t1', i1'⟩⟩, k1⟩ := tin' _ hm
      obtain ⟨⟨q2, a2, b2, x2, ⟨o2, ho2, hc2, n2, hd2⟩, ⟨a2', ys, x2', t2, i2⟩, ⟨b2', ys', x2'', t2', i2'⟩⟩, k2⟩ := tin' _ hm'
      cases x1'
      cases x1''
      cases x2'
      cases x2''
      show wpAny _ _ (keyLt' _ p.1 q.1) (fun r s' => s' = _ ∧ r = decide (codeP B (pairV H (backV p.1)) < codeP B (pairV H (backV q.1)))) (fun _ _ => False) _
      generalize pairV H (backV p.1) = P at *
      generalize pairV H (backV q.1) = R at *
      rw [x1, x2]
      refine PySem.W.kat_lt ho1 hd1 ho2 hd2 ?_
      have hu1 : X.A.in1.in1.units < cLine := by
        show X.A.units + 1 + 1 < cLine
        omega
      show PySem.W.KatLex X.prog X.w X.A.in1.in1 false false _ [(Value.ref a1, Value.ref a2), (Value.ref b1, Value.ref b2)] 0 _
      refine PySem.W.kat_cons (wpAny_eqBool_tuple hu1 (isT_of t1 i1) (isT_of t2 i2) ?_)
      refine PySem.W.kat_go (fun e0 => ?_) (fun e0 => ?_)
      · have e := of_decide_eq_true e0
        refine PySem.W.kat_yes (PySem.W.kat_cons (wpAny_eqBool_tuple hu1 (isT_of t1' i1') (isT_of t2' i2') ?_))
        refine PySem.W.kat_go (fun e1 => ?_) (fun e1 => ?_)
        · have e' := of_decide_eq_true e1
          refine PySem.W.kat_yes (PySem.W.kat_nil ⟨rfl, ?_⟩)
          have : P = R := Prod.ext e e'
          rw [this]
          exact (decide_eq_false (Int.lt_irrefl _)).symm
        · refine PySem.W.kat_no ?_
          show wpAny _ _ (oneLt' false _ _) _ _ _
          exact PySem.W.kat_one _ _ (HT.lt_tupInts t1' t2' i1' i2' hu1 ⟨rfl, codeP_lt2 k1 k2 e⟩)
      · have e := of_decide_eq_false e0
        refine PySem.W.kat_no ?_
        show wpAny _ _ (oneLt' false _ _) _ _ _
        exact PySem.W.kat_one _ _ (HT.lt_tupInts t1 t2 i1 i2 hu1 ⟨rfl, codeP_lt1 k1 k2 e⟩)
  · obtain ⟨ep, he'⟩ := PyProof.Rows.sortedAll_at s.heap its out.toArray
    have h3 : ∀ u ∈ out, ∃ p, u = Value.ref p ∧ p ∈ qs := fun u hu => key u (h2.perm.mem_iff.mp hu)
    have eo : out.map backV = (out.map fun u => match u with
      | Value.ref a => a
      | _ => 0).map V.ref := by
      rw [List.map_map]
      refine List.map_congr_left fun u hu => ?_
      obtain ⟨p, rfl, _⟩ := h3 u hu
      rfl
    have hp : (out.map backV).Perm (qs.map V.ref) := by
      rw [e1]
      exact h2.perm.map backV
    have hlen : (out.map backV).length ≤ sizeLine := by
      rw [hp.length_eq]
      exact hz
    generalize eps : (out.map fun u => match u with
      | Value.ref a => a
      | _ => 0) = qs' at eo
    have pp : qs'.Perm qs := by
      rw [eo] at hp
      have z := hp.map fun v => match v with
        | V.ref a => a
        | _ => 0
      rw [List.map_map, List.map_map] at z
      have id1 : ∀ l : List Addr, l.map ((fun v => match v with
        | V.ref a => a
        | _ => 0) ∘ V.ref) = l := fun l => by
        induction l with
        | nil => rfl
        | cons x l ih => rw [List.map_cons, ih]; rfl
      rw [id1, id1] at z
      exact z
    have tu' : PT2 H qs' (qs'.map fun p => pairV H (.ref p)) := pt2_of fun p hp => by
      obtain ⟨r, _, e⟩ := tu.mem p (pp.mem_iff.mp hp)
      exact ⟨r, e⟩
    have pw : (qs'.map fun p => pairV H (.ref p)).Pairwise (fun x y => codeP B x ≤ codeP B y) := by
      have z : (out.map backV).Pairwise (fun x y => codeP B (pairV H x) ≤ codeP B (pairV H y)) := List.pairwise_map.mpr (h1.imp fun {x y} h => Int.not_lt.mp (of_decide_eq_false h))
      rw [eo] at z
      rw [List.pairwise_map] at z ⊢
      exact z
    rw [eo] at hlen
    refine ⟨.ref _, upd H (s.heap.objs.size + 1) (.lst (qs'.map V.ref)), I.laid (t' := s.toks) (fun _ _ => PyProof.Rows.sortedAll_old) (Nat.le_succ _) ⟨hlen, out, ep, ?_, he'⟩, rfl, q qs' _ _ tu' ?_ pw (I.hok.fresh (Nat.le_succ _))⟩
    · rw [← eo]
      exact vals_back fun u hu => by
        obtain ⟨p, e, _⟩ := h3 u hu
        exact ⟨p, e⟩
    · rw [tu.vals]
      exact pp.map _
/-- of the pairs in a row by their codes and none twice there is just one list -/
theorem codeP_uniq {B : Int} {ps rs : List (List Int × List Int)} (hp : ∀ p ∈ ps, Ok33 B p) (h : ps.Perm rs) (h1 : ps.Pairwise fun x y => codeP B x ≤ codeP B y) (h2 : rs.Pairwise fun x y => codeP B x ≤ codeP B y) : ps = rs :=
  h.eq_of_pairwise (fun x y hx hy a b => codeP_inj (hp x hx) (hp y (h.mem_iff.mpr hy)) (Int.le_antisymm a b)) h1 h2
end My

/-! ### the clashes of a table in a row: just one list -/
namespace Pr
open My
theorem nodup_by {α : Type} {L : List α} (hL : L.Nodup) : ∀ {M : List α}, (∀ (j : Nat) (x : α), M[j]? = some x → x ∉ L ++ M.take j) → (L ++ M).Nodup := fun {M} h => by
  have key : ∀ n, n ≤ M.length → (L ++ M.take n).Nodup := fun n => by
    induction n with
    | zero => intro _; rw [List.take_zero, List.append_nil]; exact hL
    | succ n ih =>
      intro hn
      have hx : M[n]? = some M[n] := List.getElem?_eq_getElem (by omega)
      rw [My.take_snoc hx, ← List.append_assoc]
      refine List.nodup_append.mpr ⟨ih (by omega), List.nodup_cons.mpr ⟨by simp, .nil⟩, fun a ha b hb e => ?_⟩
      rw [List.mem_singleton] at hb
      subst hb
      subst e
      exact h n _ hx ha
  have := key M.length (Nat.le_refl _)
  rw [List.take_of_length_le (Nat.le_refl _)] at this
  exact this
theorem all_nodup {ls : List Int} {rs : List (List Int)} (R : Tb.Right ls rs) : ∀ n, n ≤ rs.length → (Tb.all ls rs n).Nodup
  | 0, _ => .nil
  | n + 1, hn => by
    have hr : rs[n]? = some rs[n] := List.getElem?_eq_getElem (by omega)
    obtain ⟨h1, _, _⟩ := R.2.2.2 n _ hr
    show (Tb.all ls rs n ++ Tb.ents ls ((n : Int) + 1) (rs.getD n [])).Nodup
    rw [Tb.getD_row hr]
    refine nodup_by (all_nodup R n (by omega)) fun j x hx => ?_
    unfold Tb.ents at hx ⊢
    rw [List.getElem?_map] at hx
    obtain ⟨p, hp, rfl⟩ := Option.map_eq_some_iff.mp hx
    rw [← List.map_take]
    exact Tb.new_one R.1 h1 hp
/-- in a row, none twice: each less than the next -/
theorem strict {α : Type} {f : α → Int} : ∀ {l : List α}, (∀ x ∈ l, ∀ y ∈ l, f x = f y → x = y) → l.Nodup → l.Pairwise (fun x y => f x ≤ f y) → l.Pairwise (fun x y => f x < f y)
  | [], _, _, _ => .nil
  | a :: l, hi, hn, hp => by
    obtain ⟨n1, n2⟩ := List.nodup_cons.mp hn
    obtain ⟨p1, p2⟩ := List.pairwise_cons.mp hp
    refine List.pairwise_cons.mpr ⟨fun y hy => ?_, strict (fun x hx y hy => hi x (List.mem_cons_of_mem _ hx) y (List.mem_cons_of_mem _ hy)) n2 p2⟩
    rcases Int.lt_or_eq_of_le (p1 y hy) with h | h
    · exact h
    · have := hi a List.mem_cons_self y (List.mem_cons_of_mem _ hy) h
      subst this
      exact absurd hy n1
theorem nodup_lt {α : Type} {f : α → Int} : ∀ {l : List α}, l.Pairwise (fun x y => f x < f y) → l.Nodup
  | [], _ => .nil
  | a :: l, hp => by
    obtain ⟨p1, p2⟩ := List.pairwise_cons.mp hp
    exact List.nodup_cons.mpr ⟨fun h => absurd (p1 a h) (Int.lt_irrefl _), nodup_lt p2⟩
def E3 (e : List Int) : Prop := e.length = 3 ∧ TS.Bd 1000 e
theorem hd_le {x y : List Int} (hx : E3 x) (hy : E3 y) (h : TS.code 1000 x < TS.code 1000 y) : Cl.hd x ≤ Cl.hd y := by
  obtain ⟨lx, bx⟩ := hx
  obtain ⟨ly, byy⟩ := hy
  match x, y, lx, ly, bx, byy, h with
  | [a, b, c], [d, e, f], _, _, bx, byy, h =>
    show a ≤ d
    apply Classical.byContradiction
    intro z
    have := TS.code_lt (d := d) (e := a) (r := [e, f]) (q := [b, c]) rfl byy.tail bx.tail (by omega)
    omega
theorem heads_up {es : List (List Int)} (hE : ∀ e ∈ es, E3 e) (hp : es.Pairwise fun x y => TS.code 1000 x < TS.code 1000 y) : (Cl.heads es).Pairwise (fun a b => a < b) := by
  have key : ∀ n, n ≤ es.length → (Cl.heads (es.take n)).Pairwise (fun a b => a < b) := fun n => by
    induction n with
    | zero => intro _; rw [List.take_zero]; exact .nil
    | succ n ih =>
      intro hn
      have hx : es[n]? = some es[n] := List.getElem?_eq_getElem (by omega)
      have hp' : (es.take n ++ [es[n]]).Pairwise fun x y => TS.code 1000 x < TS.code 1000 y := by
        rw [← My.take_snoc hx]
        exact hp.sublist (List.take_sublist _ _)
      rw [My.take_snoc hx, Cl.heads_snoc]
      unfold Cl.step
      split
      · exact ih (by omega)
      · next hno =>
        refine List.pairwise_append.mpr ⟨ih (by omega), List.pairwise_cons.mpr ⟨fun _ h => absurd h (by simp), .nil⟩, fun a ha b hb => ?_⟩
        rw [List.mem_singleton] at hb
        subst hb
        obtain ⟨e, he, rfl⟩ := Cl.mem_heads.mp ha
        have h1 := (List.pairwise_append.mp hp').2.2 e he es[n] (by simp)
        have h2 := hd_le (hE e (List.mem_of_mem_take he)) (hE _ (List.getElem_mem _)) h1
        rcases Int.lt_or_eq_of_le h2 with h | h
        · exact h
        · exact absurd (h ▸ ha) hno
  have := key es.length (Nat.le_refl _)
  rw [List.take_of_length_le (Nat.le_refl _)] at this
  exact this
theorem e33 {x y : List Int} (hx : E3 x) (hy : E3 y) : Ok33 1000 (x, y) := ⟨hx, hy⟩
theorem byOne_up {c : Int} {g : List (List Int)} {one : List Int} (h1 : E3 one) (hg : ∀ e ∈ g, E3 e) (hp : g.Pairwise fun x y => TS.code 1000 x < TS.code 1000 y) : (Cl.byOne c g one g.length).Pairwise fun p q => codeP 1000 p < codeP 1000 q := by
  unfold Cl.byOne
  rw [List.take_of_length_le (Nat.le_refl _), List.pairwise_map]
  have hp2 := hp.sublist (List.filter_sublist (p := Cl.cond c one))
  refine hp2.imp_of_mem fun {x y} hx hy h => ?_
  have ex := hg x (List.mem_filter.mp hx).1
  have ey := hg y (List.mem_filter.mp hy).1
  rw [codeP_eq (e33 h1 ex), codeP_eq (e33 h1 ey)]
  show _ + TS.code 1000 x < _ + TS.code 1000 y
  exact Int.add_lt_add_left h _
theorem code_of_hd {x y : List Int} (hx : E3 x) (hy : E3 y) (h : Cl.hd x < Cl.hd y) : TS.code 1000 x < TS.code 1000 y := by
  obtain ⟨lx, bx⟩ := hx
  obtain ⟨ly, byy⟩ := hy
  match x, y, lx, ly, bx, byy, h with
  | [a, b, c], [d, e, f], _, _, bx, byy, h => exact TS.code_lt (d := a) (e := d) (r := [b, c]) (q := [e, f]) rfl bx.tail byy.tail h
theorem cl_up {c : Int} {es : List (List Int)} (hE : ∀ e ∈ es, E3 e) (hp : es.Pairwise fun x y => TS.code 1000 x < TS.code 1000 y) : (Cl.cl c es).Pairwise fun p q => codeP 1000 p < codeP 1000 q := by
  unfold Cl.cl Cl.byHeads
  have hg : ∀ k, ∀ e ∈ Cl.grp k es, E3 e := fun k e he => hE e (Cl.mem_grp.mp he).1
  refine List.pairwise_flatMap.mpr ⟨fun k _ => ?_, (heads_up hE hp).imp fun {a b} hab x hx y hy => ?_⟩
  · have hpk : (Cl.grp k es).Pairwise fun x y => TS.code 1000 x < TS.code 1000 y := hp.sublist (List.filter_sublist)
    unfold Cl.byGrp
    rw [List.take_of_length_le (Nat.le_refl _)]
    refine List.pairwise_flatMap.mpr ⟨fun one ho => byOne_up (hg k one ho) (hg k) hpk, hpk.imp_of_mem fun {a b} ha hb hab p hp' q hq => ?_⟩
    obtain ⟨p1, p2⟩ := p
    obtain ⟨q1, q2⟩ := q
    obtain ⟨rfl, m1, _⟩ := Cl.mem_byOne.mp hp'
    obtain ⟨rfl, m2, _⟩ := Cl.mem_byOne.mp hq
    exact cat_lt (e33 (hg k _ ha) (hg k _ m1)) (e33 (hg k _ hb) (hg k _ m2)) hab
  · obtain ⟨x1, x2⟩ := x
    obtain ⟨y1, y2⟩ := y
    obtain ⟨a1, a2, _⟩ := Cl.mem_byGrp.mp hx
    obtain ⟨b1, b2, _⟩ := Cl.mem_byGrp.mp hy
    refine cat_lt (e33 (hg _ _ a1) (hg _ _ a2)) (e33 (hg _ _ b1) (hg _ _ b2)) (code_of_hd (hg _ _ a1) (hg _ _ b1) ?_)
    show Cl.hd x1 < Cl.hd y1
    rw [(Cl.mem_grp.mp a1).2, (Cl.mem_grp.mp b1).2]
    exact hab
/-- the clashes of a table, in a row, none twice -/
def Due (c : Int) (ls : List Int) (rs : List (List Int)) (ps : List (List Int × List Int)) : Prop := ps.Nodup ∧ ps.Pairwise (fun x y => codeP 1000 x ≤ codeP 1000 y) ∧ ∀ x y, (x, y) ∈ ps ↔ Cl.Clash c ls rs x y
theorem clash_ok {c : Int} {ls : List Int} {rs : List (List Int)} (R : Tb.Right ls rs) {x y : List Int} (h : Cl.Clash c ls rs x y) : Ok33 1000 (x, y) := ⟨Tb.all_bd R _ (Nat.le_refl _) _ h.1, Tb.all_bd R _ (Nat.le_refl _) _ h.2.1⟩
theorem due_cl {c : Int} {ls : List Int} {rs : List (List Int)} (R : Tb.Right ls rs) {es : List (List Int)} (pm : es.Perm (Tb.all ls rs rs.length)) (pw : es.Pairwise fun x y => TS.code 1000 x ≤ TS.code 1000 y) : Due c ls rs (Cl.cl c es) := by
  have hE : ∀ e ∈ es, E3 e := fun e he => Tb.all_bd R _ (Nat.le_refl _) _ (pm.mem_iff.mp he)
  have hs := strict (f := TS.code 1000) (fun x hx y hy e => code_inj (hE x hx).1 (hE y hy).1 (hE x hx).2 (hE y hy).2 e) (pm.nodup_iff.mpr (all_nodup R _ (Nat.le_refl _))) pw
  have hu := cl_up (c := c) hE hs
  exact ⟨nodup_lt (f := codeP 1000) hu, hu.imp fun h => Int.le_of_lt h, fun x y => Cl.clash_of pm⟩
theorem due_one {c : Int} {ls : List Int} {rs : List (List Int)} (R : Tb.Right ls rs) {ps qs : List (List Int × List Int)} (h1 : Due c ls rs ps) (h2 : Due c ls rs qs) : ps = qs := by
  obtain ⟨n1, p1, m1⟩ := h1
  obtain ⟨n2, p2, m2⟩ := h2
  refine codeP_uniq (B := 1000) (fun p hp => clash_ok R ((m1 p.1 p.2).mp hp)) ((List.perm_ext_iff_of_nodup n1 n2).mpr fun p => ?_) p1 p2
  obtain ⟨x, y⟩ := p
  rw [m1, m2]
theorem due_nil {c : Int} {ls : List Int} {rs : List (List Int)} {ps : List (List Int × List Int)} (h : Due c ls rs ps) : ps = [] ↔ Cl.Safe c ls rs := by
  constructor
  · intro e x y hc
    have := (h.2.2 x y).mpr hc
    rw [e] at this
    exact absurd this (by simp)
  · intro sf
    match ps, h with
    | [], _ => rfl
    | (x, y) :: _, h => exact absurd ((h.2.2 x y).mp List.mem_cons_self) (sf x y)
/-! ### a look at all pairs, one after another -/
def Cd (c : Int) (x y : List Int) : Bool := decide (Cl.hd x = Cl.hd y) && Cl.cond c x y
def FInv (c : Int) (es : List (List Int)) (i j : Nat) (ds : List (List Int × List Int)) : Prop := ds.Nodup ∧ ds.length ≤ i * es.length + j ∧ ∀ x y, (x, y) ∈ ds ↔ Cd c x y = true ∧ ((x ∈ es.take i ∧ y ∈ es) ∨ (es[i]? = some x ∧ y ∈ es.take j))
theorem mem_take_succ {α : Type} {es : List α} {j : Nat} {o y : α} (h : es[j]? = some o) : y ∈ es.take (j + 1) ↔ y ∈ es.take j ∨ y = o := by
  rw [My.take_snoc h, List.mem_append, List.mem_singleton]
theorem finv_zero (c : Int) (es : List (List Int)) : FInv c es 0 0 [] := ⟨.nil, Nat.zero_le _, fun x y => by simp⟩
theorem finv_old {c : Int} {es : List (List Int)} {i j : Nat} {ds : List (List Int × List Int)} {one o : List Int} (h : FInv c es i j ds) (h1 : es[i]? = some one) (h2 : es[j]? = some o) (h3 : Cd c one o = true → (one, o) ∈ ds) : FInv c es i (j + 1) ds := by
  obtain ⟨n, l, m⟩ := h
  refine ⟨n, by omega, fun x y => ?_⟩
  rw [m]
  constructor
  · rintro ⟨a, b | ⟨b, d⟩⟩
    · exact ⟨a, .inl b⟩
    · exact ⟨a, .inr ⟨b, (mem_take_succ h2).mpr (.inl d)⟩⟩
  · rintro ⟨a, b | ⟨b, d⟩⟩
    · exact ⟨a, .inl b⟩
    · rcases (mem_take_succ h2).mp d with d | d
      · exact ⟨a, .inr ⟨b, d⟩⟩
      · subst d
        obtain rfl : one = x := Option.some.inj (h1.symm.trans b)
        exact (m _ _).mp (h3 a)
theorem finv_new {c : Int} {es : List (List Int)} {i j : Nat} {ds : List (List Int × List Int)} {one o : List Int} (h : FInv c es i j ds) (h1 : es[i]? = some one) (h2 : es[j]? = some o) (h3 : Cd c one o = true) (h4 : (one, o) ∉ ds) : FInv c es i (j + 1) (ds ++ [(one, o)]) := by
  obtain ⟨n, l, m⟩ := h
  refine ⟨List.nodup_append.mpr ⟨n, List.nodup_cons.mpr ⟨by simp, .nil⟩, fun a ha b hb e => ?_⟩, by rw [List.length_append]; show _ + 1 ≤ _; omega, fun x y => ?_⟩
  · rw [List.mem_singleton] at hb
    subst hb
    subst e
    exact h4 ha
  · rw [List.mem_append, List.mem_singleton, m]
    constructor
    · rintro (⟨a, b | ⟨b, d⟩⟩ | e)
      · exact ⟨a, .inl b⟩
      · exact ⟨a, .inr ⟨b, (mem_take_succ h2).mpr (.inl d)⟩⟩
      · injection e with e1 e2
        subst e1 e2
        exact ⟨h3, .inr ⟨h1, (mem_take_succ h2).mpr (.inr rfl)⟩⟩
    · rintro ⟨a, b | ⟨b, d⟩⟩
      · exact .inl ⟨a, .inl b⟩
      · rcases (mem_take_succ h2).mp d with d | d
        · exact .inl ⟨a, .inr ⟨b, d⟩⟩
        · subst d
          obtain rfl : one = x := Option.some.inj (h1.symm.trans b)
          exact .inr rfl
theorem finv_next {c : Int} {es : List (List Int)} {i : Nat} {ds : List (List Int × List Int)} {one : List Int} (h : FInv c es i es.length ds) (h1 : es[i]? = some one) : FInv c es (i + 1) 0 ds := by
  obtain ⟨n, l, m⟩ := h
  refine ⟨n, by rw [Nat.add_mul]; omega, fun x y => ?_⟩
  rw [m, List.take_of_length_le (Nat.le_refl _), mem_take_succ h1]
  constructor
  · rintro ⟨a, ⟨b, d⟩ | ⟨b, d⟩⟩
    · exact ⟨a, .inl ⟨.inl b, d⟩⟩
    · exact ⟨a, .inl ⟨.inr (Option.some.inj (b.symm.trans h1)), d⟩⟩
  · rintro ⟨a, ⟨b | b, d⟩ | ⟨_, d⟩⟩
    · exact ⟨a, .inl ⟨b, d⟩⟩
    · subst b
      exact ⟨a, .inr ⟨h1, d⟩⟩
    · exact absurd d (by simp)
theorem finv_end {c : Int} {ls : List Int} {rs : List (List Int)} {ds ps : List (List Int × List Int)} (h : FInv c (Tb.all ls rs rs.length) (Tb.all ls rs rs.length).length 0 ds) (pm : ps.Perm ds) (pw : ps.Pairwise fun x y => codeP 1000 x ≤ codeP 1000 y) : Due c ls rs ps := by
  obtain ⟨n, _, m⟩ := h
  refine ⟨pm.nodup_iff.mpr n, pw, fun x y => ?_⟩
  rw [pm.mem_iff, m, List.take_of_length_le (Nat.le_refl _)]
  unfold Cl.Clash Cd
  rw [Bool.and_eq_true, decide_eq_true_iff]
  constructor
  · rintro ⟨⟨a, b⟩, ⟨d, e⟩ | ⟨_, d⟩⟩
    · exact ⟨d, e, a, b⟩
    · exact absurd d (by simp)
  · rintro ⟨d, e, a, b⟩
    exact ⟨⟨a, b⟩, .inl ⟨d, e⟩⟩
theorem finv_ok {c : Int} {es : List (List Int)} {i j : Nat} {ds : List (List Int × List Int)} (h : FInv c es i j ds) (hE : ∀ e ∈ es, E3 e) : ∀ p ∈ ds, Ok33 1000 p := fun p hp => by
  obtain ⟨x, y⟩ := p
  obtain ⟨_, a | a⟩ := (h.2.2 x y).mp hp
  · exact e33 (hE x (List.mem_of_mem_take a.1)) (hE y a.2)
  · exact e33 (hE x (List.mem_of_getElem? a.1)) (hE y (List.mem_of_mem_take a.2))
/-- more comers have all clashes of fewer -/
theorem cond_more {k k' : Int} (hk : k' ≤ k) {x y : List Int} (h : Cl.cond k' x y = true) : Cl.cond k x y = true := by
  unfold Cl.cond at h ⊢
  rw [Bool.and_eq_true, Bool.and_eq_true, decide_eq_true_iff, decide_eq_true_iff, decide_eq_true_iff] at h ⊢
  obtain ⟨a, b, d⟩ := h
  refine ⟨a, b, ?_⟩
  have : k' * (x.getD 1 0 - y.getD 1 0) ≤ k * (x.getD 1 0 - y.getD 1 0) := Int.mul_le_mul_of_nonneg_right hk (by omega)
  omega
theorem clash_more {k k' : Int} (hk : k' ≤ k) {ls : List Int} {rs : List (List Int)} {x y : List Int} (h : Cl.Clash k' ls rs x y) : Cl.Clash k ls rs x y := ⟨h.1, h.2.1, h.2.2.1, cond_more hk h.2.2.2⟩
/-! ### the first clash -/
theorem flat_head {α β : Type} {f : α → List β} {l : List α} {i : Nat} {a : α} (h : l[i]? = some a) (h0 : (l.take i).flatMap f = []) : l.flatMap f = f a ++ (l.drop (i + 1)).flatMap f := by
  obtain ⟨hi, ha⟩ := List.getElem?_eq_some_iff.mp h
  have e : l = l.take i ++ a :: l.drop (i + 1) := by
    rw [← ha, ← List.drop_eq_getElem_cons hi, List.take_append_drop]
  have e2 : l.flatMap f = (l.take i).flatMap f ++ (f a ++ (l.drop (i + 1)).flatMap f) := by
    conv => lhs; rw [e]
    rw [List.flatMap_append, List.flatMap_cons]
  rw [e2, h0, List.nil_append]
theorem filter_head {α : Type} {f : α → Bool} {l : List α} {i : Nat} {a : α} (h : l[i]? = some a) (ha : f a = true) (h0 : (l.take i).filter f = []) : l.filter f = a :: (l.drop (i + 1)).filter f := by
  obtain ⟨hi, e1⟩ := List.getElem?_eq_some_iff.mp h
  have e : l = l.take i ++ a :: l.drop (i + 1) := by
    rw [← e1, ← List.drop_eq_getElem_cons hi, List.take_append_drop]
  have e2 : l.filter f = (l.take i).filter f ++ (a :: (l.drop (i + 1)).filter f) := by
    conv => lhs; rw [e]
    rw [List.filter_append, List.filter_cons_of_pos ha]
  rw [e2, h0, List.nil_append]
theorem cl_head {c : Int} {es g : List (List Int)} {i j m : Nat} {k : Int} {x y : List Int} (hk : (Cl.heads es)[i]? = some k) (hg : Cl.grp k es = g) (h1 : g[j]? = some x) (h2 : g[m]? = some y) (hc : Cl.cond c x y = true)
    (h0 : Cl.byHeads c es ((Cl.heads es).take i) ++ Cl.byGrp c g j ++ Cl.byOne c g x m = []) : (Cl.cl c es).head? = some (x, y) := by
  obtain ⟨h0, h3⟩ := List.append_eq_nil_iff.mp h0
  obtain ⟨h4, h5⟩ := List.append_eq_nil_iff.mp h0
  have e1 : Cl.cl c es = Cl.byGrp c g g.length ++ ((Cl.heads es).drop (i + 1)).flatMap fun k => Cl.byGrp c (Cl.grp k es) (Cl.grp k es).length := by
    unfold Cl.cl Cl.byHeads
    rw [flat_head hk h4, hg]
  have e2 : Cl.byGrp c g g.length = Cl.byOne c g x g.length ++ (g.drop (j + 1)).flatMap fun one => Cl.byOne c g one g.length := by
    unfold Cl.byGrp
    rw [List.take_of_length_le (Nat.le_refl _)]
    exact flat_head h1 h5
  have h6 : (g.take m).filter (Cl.cond c x) = [] := by
    unfold Cl.byOne at h3
    exact List.map_eq_nil_iff.mp h3
  have e3 : Cl.byOne c g x g.length = (x, y) :: ((g.drop (m + 1)).filter (Cl.cond c x)).map fun other => (x, other) := by
    unfold Cl.byOne
    rw [List.take_of_length_le (Nat.le_refl _), filter_head h2 hc h6]
    rfl
  rw [e1, e2, e3]
  rfl
/-- the first of the clashes in a row -/
def First (c : Int) (ls : List Int) (rs : List (List Int)) (x y : List Int) : Prop := ∃ ds, Due c ls rs ds ∧ ds.head? = some (x, y)
theorem First.clash {c : Int} {ls : List Int} {rs : List (List Int)} {x y : List Int} (h : First c ls rs x y) : Cl.Clash c ls rs x y := by
  obtain ⟨ds, hd, hh⟩ := h
  exact (hd.2.2 x y).mp (List.mem_of_mem_head? hh)
theorem First.one {c : Int} {ls : List Int} {rs : List (List Int)} (R : Tb.Right ls rs) {x y x' y' : List Int} (h : First c ls rs x y) (h' : First c ls rs x' y') : x' = x ∧ y' = y := by
  obtain ⟨ds, hd, hh⟩ := h
  obtain ⟨ds', hd', hh'⟩ := h'
  rw [due_one R hd' hd, hh] at hh'
  injection hh' with e
  injection e with e1 e2
  exact ⟨e1.symm, e2.symm⟩
end Pr

/-! ### spots, nexts, the walk of a line, the size of comings -/
namespace Wk
open Ln (Let)
def rowN (i : Int) : Nat → List Spt
  | 0 => []
  | j + 1 => rowN i j ++ [(i, 1 + (j : Int))]
def spN (k : Nat) : Nat → List Spt
  | 0 => []
  | i + 1 => spN k i ++ rowN (i : Int) (min k (i + 1))
theorem rowN_len (i : Int) : ∀ j, (rowN i j).length = j
  | 0 => rfl
  | j + 1 => by
    show (rowN i j ++ [_]).length = _
    rw [List.length_append, rowN_len i j]
    rfl
theorem spN_len (k : Nat) : ∀ i, (spN k i).length ≤ k * i
  | 0 => Nat.zero_le _
  | i + 1 => by
    have ih := spN_len k i
    show (spN k i ++ rowN _ _).length ≤ _
    rw [List.length_append, rowN_len, Nat.mul_succ]
    have := Nat.min_le_left k (i + 1)
    omega
theorem rowN_mem {i : Int} : ∀ {j : Nat} {s : Spt}, s ∈ rowN i j → s.1 = i ∧ 1 ≤ s.2 ∧ s.2 ≤ j
  | 0, s, h => by simp [rowN] at h
  | j + 1, s, h => by
    rcases List.mem_append.mp (h : s ∈ rowN i j ++ [(i, 1 + (j : Int))]) with h | h
    · have := rowN_mem h
      omega
    · rw [List.mem_singleton.mp h]
      show i = i ∧ 1 ≤ 1 + (j : Int) ∧ 1 + (j : Int) ≤ ((j + 1 : Nat) : Int)
      omega
theorem spN_spot {k b : Nat} : ∀ {n : Nat} {s : Spt}, n ≤ b + 1 → s ∈ spN k n → Spot k b s
  | 0, s, _, h => by simp [spN] at h
  | i + 1, s, hn, h => by
    rcases List.mem_append.mp (h : s ∈ spN k i ++ rowN (i : Int) (min k (i + 1))) with h | h
    · exact spN_spot (by omega) h
    · obtain ⟨a, b1, c⟩ := rowN_mem h
      have m1 := Nat.min_le_left k (i + 1)
      have m2 := Nat.min_le_right k (i + 1)
      unfold Spot
      omega
def nxP (s o : Spt) : Bool := decide (o = (s.1 + 1, s.2 + 1)) || (decide (o.2 = 1) && decide (o.1 ≤ s.1))
def onesN : Nat → List Spt
  | 0 => []
  | i + 1 => onesN i ++ [((i : Int), 1)]
def nxL (k b : Int) (s : Spt) : List Spt := onesN (s.1 + 1).toNat ++ if s.1 + 1 ≤ b ∧ s.2 + 1 ≤ k then [(s.1 + 1, s.2 + 1)] else []
theorem onesN_len : ∀ i, (onesN i).length = i
  | 0 => rfl
  | i + 1 => by
    show (onesN i ++ [_]).length = _
    rw [List.length_append, onesN_len i]
    rfl
theorem onesN_mem : ∀ {n : Nat} {i : Nat}, i < n → ((i : Int), (1 : Int)) ∈ onesN n
  | 0, i, h => absurd h (Nat.not_lt_zero _)
  | n + 1, i, h => by
    show _ ∈ onesN n ++ [_]
    by_cases e : i = n
    · subst e
      exact List.mem_append_right _ (List.mem_singleton.mpr rfl)
    · exact List.mem_append_left _ (onesN_mem (by omega))
theorem nxL_mem {k b : Int} {s o : Spt} (h : Nx k b s o) : o ∈ nxL k b s := by
  obtain ⟨sp, h | ⟨h1, h2⟩⟩ := h
  · refine List.mem_append_right _ ?_
    unfold Spot at sp
    have e1 : o.1 = s.1 + 1 := by rw [h]
    have e2 : o.2 = s.2 + 1 := by rw [h]
    rw [if_pos (by omega), h]
    exact List.mem_singleton.mpr rfl
  · refine List.mem_append_left _ ?_
    unfold Spot at sp
    have := onesN_mem (n := (s.1 + 1).toNat) (i := o.1.toNat) (by omega)
    have e : o = ((o.1.toNat : Int), (1 : Int)) := Prod.ext (by show o.1 = ((o.1.toNat : Nat) : Int); omega) h1
    rw [e]
    exact this
theorem filt_low {s : Spt} {i : Int} (hs : 1 ≤ s.2) (h : i ≤ s.1) : ∀ j, (rowN i (j + 1)).filter (nxP s) = [(i, 1)]
  | 0 => by
    show [(i, 1 + ((0 : Nat) : Int))].filter _ = _
    have e : nxP s (i, 1 + ((0 : Nat) : Int)) = true := by
      unfold nxP
      rw [Bool.or_eq_true, Bool.and_eq_true, decide_eq_true_eq, decide_eq_true_eq, decide_eq_true_eq]
      exact .inr ⟨rfl, h⟩
    rw [List.filter_cons, e]
    rfl
  | j + 1 => by
    show (rowN i (j + 1) ++ [(i, 1 + ((j + 1 : Nat) : Int))]).filter _ = _
    have e : nxP s (i, 1 + ((j + 1 : Nat) : Int)) = false := by
      unfold nxP
      rw [Bool.or_eq_false_iff, Bool.and_eq_false_iff, decide_eq_false_iff_not, decide_eq_false_iff_not, decide_eq_false_iff_not]
      refine ⟨fun z => ?_, .inl fun z => ?_⟩
      · have := congrArg Prod.fst z
        simp only at this
        omega
      · simp only at z
        omega
    rw [List.filter_append, filt_low hs h j, List.filter_cons, e]
    rfl
theorem filt_at {s : Spt} (hs : 1 ≤ s.2) : ∀ j : Nat, (rowN (s.1 + 1) j).filter (nxP s) = if s.2 + 1 ≤ (j : Int) then [(s.1 + 1, s.2 + 1)] else []
  | 0 => by
    rw [if_neg (by omega)]
    rfl
  | j + 1 => by
    show (rowN (s.1 + 1) j ++ [(s.1 + 1, 1 + (j : Int))]).filter _ = _
    by_cases h : s.2 = (j : Int)
    · have e : nxP s (s.1 + 1, 1 + (j : Int)) = true := by
        unfold nxP
        rw [Bool.or_eq_true, decide_eq_true_eq]
        exact .inl (Prod.ext rfl (by show 1 + (j : Int) = s.2 + 1; omega))
      have e0 : [(s.1 + 1, 1 + (j : Int))].filter (nxP s) = [(s.1 + 1, s.2 + 1)] := by
        rw [List.filter_cons, e, if_pos rfl, h, Int.add_comm 1]
        rfl
      rw [List.filter_append, filt_at hs j, e0, if_neg (by omega), if_pos (by omega)]
      rfl
    · have e : nxP s (s.1 + 1, 1 + (j : Int)) = false := by
        unfold nxP
        rw [Bool.or_eq_false_iff, Bool.and_eq_false_iff, decide_eq_false_iff_not, decide_eq_false_iff_not, decide_eq_false_iff_not]
        refine ⟨fun z => ?_, .inr fun z => ?_⟩
        · have := congrArg Prod.snd z
          simp only at this
          omega
        · simp only at z
          omega
      have e0 : [(s.1 + 1, 1 + (j : Int))].filter (nxP s) = [] := by
        rw [List.filter_cons, e]
        rfl
      rw [List.filter_append, filt_at hs j, e0, List.append_nil]
      by_cases h2 : s.2 + 1 ≤ (j : Int)
      · rw [if_pos h2, if_pos (by omega)]
      · rw [if_neg h2, if_neg (by omega)]
theorem filt_high {s : Spt} {i : Int} (h : s.1 + 1 < i) : ∀ j, (rowN i j).filter (nxP s) = []
  | 0 => rfl
  | j + 1 => by
    show (rowN i j ++ [(i, 1 + (j : Int))]).filter _ = _
    have e : nxP s (i, 1 + (j : Int)) = false := by
      unfold nxP
      rw [Bool.or_eq_false_iff, Bool.and_eq_false_iff, decide_eq_false_iff_not, decide_eq_false_iff_not, decide_eq_false_iff_not]
      refine ⟨fun z => ?_, .inr fun z => ?_⟩
      · have := congrArg Prod.fst z
        simp only at this
        omega
      · simp only at z
        omega
    rw [List.filter_append, filt_high h j, List.filter_cons, e]
    rfl
theorem filt_spN {k : Nat} {s : Spt} (hk : 1 ≤ k) (h0 : 0 ≤ s.1) (h1 : 1 ≤ s.2) (h2 : s.2 - 1 ≤ s.1) : ∀ n : Nat, (spN k n).filter (nxP s) = onesN (min n (s.1 + 1).toNat) ++ if s.1 + 1 < (n : Int) ∧ s.2 + 1 ≤ (k : Int) then [(s.1 + 1, s.2 + 1)] else []
  | 0 => by
    rw [Nat.zero_min, if_neg (by omega)]
    rfl
  | n + 1 => by
    show (spN k n ++ rowN (n : Int) (min k (n + 1))).filter _ = _
    rw [List.filter_append, filt_spN hk h0 h1 h2 n]
    by_cases c1 : (n : Int) ≤ s.1
    · obtain ⟨j, hj⟩ : ∃ j, min k (n + 1) = j + 1 := ⟨min k (n + 1) - 1, by omega⟩
      rw [hj, filt_low h1 c1 j, if_neg (by omega), if_neg (by omega), List.append_nil, List.append_nil]
      have e1 : min n (s.1 + 1).toNat = n := by omega
      have e2 : min (n + 1) (s.1 + 1).toNat = n + 1 := by omega
      rw [e1, e2]
      rfl
    · have e1 : min n (s.1 + 1).toNat = (s.1 + 1).toNat := by omega
      have e2 : min (n + 1) (s.1 + 1).toNat = (s.1 + 1).toNat := by omega
      rw [e1, e2]
      by_cases c2 : (n : Int) = s.1 + 1
      · rw [c2, filt_at h1, if_neg (by omega), List.append_nil]
        have ha : s.2 + 1 ≤ ((n + 1 : Nat) : Int) := by omega
        by_cases c3 : s.2 + 1 ≤ (k : Int)
        · rw [if_pos (by omega), if_pos (by omega)]
        · rw [if_neg (by omega), if_neg (by omega)]
      · rw [filt_high (by omega), List.append_nil]
        by_cases c3 : s.2 + 1 ≤ (k : Int)
        · rw [if_pos (by omega), if_pos (by omega)]
        · rw [if_neg (by omega), if_neg (by omega)]
theorem filt_nx {k b : Nat} {s : Spt} (hs : Spot k b s) : (spN k (b + 1)).filter (nxP s) = nxL k b s := by
  unfold Spot at hs
  rw [filt_spN (by omega) hs.1 hs.2.2.1 hs.2.2.2.2]
  unfold nxL
  have e : min (b + 1) (s.1 + 1).toNat = (s.1 + 1).toNat := by omega
  rw [e]
  by_cases c : s.1 + 1 ≤ (b : Int) ∧ s.2 + 1 ≤ (k : Int)
  · rw [if_pos c, if_pos (by omega)]
  · rw [if_neg c, if_neg (by omega)]
/-! the spots of the letters that are not turned away -/
def wk1 (l : Let) : List Spt := match l.2.2 with
  | none => []
  | some w => [(w, l.2.1)]
def wkL (L : List Let) : List Spt := (L.map wk1).flatten
theorem wkL_snoc (L : List Let) (l : Let) : wkL (L ++ [l]) = wkL L ++ wk1 l := by
  unfold wkL
  rw [List.map_append, List.flatten_append]
  simp
theorem wkL_len : ∀ L : List Let, (wkL L).length ≤ L.length
  | [] => Nat.le_refl _
  | l :: L => by
    show (wk1 l ++ wkL L).length ≤ L.length + 1
    have := wkL_len L
    have : (wk1 l).length ≤ 1 := by
      unfold wk1
      split <;> simp
    rw [List.length_append]
    omega
theorem wkL_all : ∀ {L : List Let} {row : List Spt}, L.map (fun l => (l.2.2, l.2.1)) = row.map (fun p => (some p.1, p.2)) → wkL L = row
  | [], [], _ => rfl
  | [], _ :: _, h => by simp at h
  | _ :: _, [], h => by simp at h
  | l :: L, p :: row, h => by
    rw [List.map_cons, List.map_cons] at h
    obtain ⟨h1, h2⟩ := List.cons.inj h
    show wk1 l ++ wkL L = _
    rw [wkL_all h2]
    have e1 : l.2.2 = some p.1 := congrArg Prod.fst h1
    have e2 : l.2.1 = p.2 := congrArg Prod.snd h1
    unfold wk1
    rw [e1, e2]
    rfl
/-- where letters are: each spot next to the one ahead -/
structure Wl (k b : Int) (W : List Spt) : Prop where
  sp : ∀ x ∈ W, Spot k b x
  hd : ∀ x, W[0]? = some x → x = (0, 1)
  nx : ∀ (i : Nat) x y, W[i]? = some x → W[i + 1]? = some y → Nx k b x y
theorem Wl.nil {k b : Int} : Wl k b [] := ⟨fun x h => by simp at h, fun x h => by simp at h, fun i x y h => by simp at h⟩
theorem Wl.snoc {k b : Int} {W : List Spt} {o : Spt} (h : Wl k b W) (so : Spot k b o) (h0 : W = [] → o = (0, 1)) (hn : ∀ x, W.getLast? = some x → Nx k b x o) : Wl k b (W ++ [o]) := by
  refine ⟨fun x hx => ?_, fun x hx => ?_, fun i x y hx hy => ?_⟩
  · rcases List.mem_append.mp hx with hx | hx
    · exact h.sp x hx
    · rw [List.mem_singleton.mp hx]
      exact so
  · cases W with
    | nil =>
      simp at hx
      rw [← hx]
      exact h0 rfl
    | cons w W =>
      refine h.hd x ?_
      rw [List.getElem?_append_left (by simp)] at hx
      exact hx
  · have hl : i + 1 < (W ++ [o]).length := (List.getElem?_eq_some_iff.mp hy).1
    rw [List.length_append] at hl
    have hl' : i + 1 ≤ W.length := Nat.le_of_lt_succ hl
    rw [List.getElem?_append_left (by omega)] at hx
    by_cases c : i + 1 < W.length
    · rw [List.getElem?_append_left c] at hy
      exact h.nx i x y hx hy
    · have e : i + 1 = W.length := by omega
      rw [List.getElem?_append_right (by omega), e, Nat.sub_self] at hy
      have ey : o = y := by simpa using hy
      rw [← ey]
      refine hn x ?_
      rw [List.getLast?_eq_getElem?]
      rw [show W.length - 1 = i by omega]
      exact hx
/-- while letters come at a tick -/
structure Wi (k b : Int) (W : List Spt) (line : Int) (j : Nat) : Prop where
  wl : Wl k b W
  lo : 0 ≤ line
  hi : line ≤ b + 1
  zz : j = 0 → line ≤ b ∧ (W = [] → line = 0) ∧ ∀ x, W.getLast? = some x → line ≤ x.1
  ss : j ≠ 0 → W ≠ [] ∧ ∀ x, W.getLast? = some x → line ≤ x.1 + 1 ∧ (line ≤ b → x = (line - 1, (j : Int)))
theorem last_some {W : List Spt} (h : W ≠ []) : ∃ x, W.getLast? = some x := ⟨W.getLast h, List.getLast?_eq_some_getLast h⟩
theorem last_mem {W : List Spt} {x : Spt} (h : W.getLast? = some x) : x ∈ W := by
  rw [List.getLast?_eq_getElem?] at h
  exact List.mem_of_getElem? h
theorem Wi.step {k b τ : Int} {s : List Let × Int} {j : Nat} (hb : 0 ≤ b) (hj : (j : Int) < k) (h : Wi k b (wkL s.1) s.2 j) : Wi k b (wkL (Ln.step b τ (1 + (j : Int)) s).1) (Ln.step b τ (1 + (j : Int)) s).2 (j + 1) := by
  unfold Ln.step
  by_cases c : s.2 > b
  · rw [if_pos c]
    have e : wkL (s.1 ++ [(τ, 1 + (j : Int), none)]) = wkL s.1 := by
      rw [wkL_snoc]
      exact List.append_nil _
    have hj0 : j ≠ 0 := fun z => by
      have := (h.zz z).1
      omega
    obtain ⟨h1, h2⟩ := h.ss hj0
    refine ⟨?_, h.lo, h.hi, fun z => absurd z (Nat.succ_ne_zero _), fun _ => ?_⟩
    · show Wl k b (wkL (s.1 ++ [(τ, 1 + (j : Int), none)]))
      rw [e]
      exact h.wl
    · show wkL (s.1 ++ [(τ, 1 + (j : Int), none)]) ≠ [] ∧ ∀ x, (wkL (s.1 ++ [(τ, 1 + (j : Int), none)])).getLast? = some x → _
      rw [e]
      refine ⟨h1, fun x hx => ⟨(h2 x hx).1, fun z => ?_⟩⟩
      have z' : s.2 ≤ b := z
      omega
  · rw [if_neg c]
    have e : wkL (s.1 ++ [(τ, 1 + (j : Int), some s.2)]) = wkL s.1 ++ [(s.2, 1 + (j : Int))] := wkL_snoc _ _
    have ej : j ≠ 0 → ∀ x, (wkL s.1).getLast? = some x → x = (s.2 - 1, (j : Int)) := fun z x hx => ((h.ss z).2 x hx).2 (by omega)
    have hjl : (j : Int) ≤ s.2 := by
      by_cases z : j = 0
      · have := h.lo
        omega
      · obtain ⟨x, hx⟩ := last_some (h.ss z).1
        have sx := h.wl.sp x (last_mem hx)
        have := ej z x hx
        unfold Spot at sx
        rw [this] at sx
        simp only at sx
        omega
    have so : Spot k b (s.2, 1 + (j : Int)) := by
      have := h.lo
      unfold Spot
      simp only
      omega
    refine ⟨?_, ?_, ?_, fun z => absurd z (Nat.succ_ne_zero _), fun _ => ?_⟩
    · show Wl k b (wkL (s.1 ++ [(τ, 1 + (j : Int), some s.2)]))
      rw [e]
      refine h.wl.snoc so (fun z => ?_) (fun x hx => ⟨so, ?_⟩)
      · by_cases z0 : j = 0
        · rw [(h.zz z0).2.1 z, z0]
          rfl
        · exact absurd z (h.ss z0).1
      · by_cases z0 : j = 0
        · right
          refine ⟨by rw [z0]; rfl, (h.zz z0).2.2 x hx⟩
        · left
          rw [ej z0 x hx]
          show (s.2, 1 + (j : Int)) = (s.2 - 1 + 1, (j : Int) + 1)
          rw [Int.sub_add_cancel, Int.add_comm]
    · show 0 ≤ s.2 + 1
      have := h.lo
      omega
    · show s.2 + 1 ≤ b + 1
      omega
    · show wkL (s.1 ++ [(τ, 1 + (j : Int), some s.2)]) ≠ [] ∧ ∀ x, (wkL (s.1 ++ [(τ, 1 + (j : Int), some s.2)])).getLast? = some x → s.2 + 1 ≤ x.1 + 1 ∧ (s.2 + 1 ≤ b → x = (s.2 + 1 - 1, ((j + 1 : Nat) : Int)))
      rw [e]
      refine ⟨by simp, fun x hx => ?_⟩
      rw [List.getLast?_append] at hx
      have ex : x = (s.2, 1 + (j : Int)) := by simpa using hx.symm
      rw [ex]
      refine ⟨Int.le_refl _, fun _ => ?_⟩
      refine Prod.ext ?_ ?_
      · show s.2 = s.2 + 1 - 1
        omega
      · show 1 + (j : Int) = ((j + 1 : Nat) : Int)
        omega
theorem Wi.turns {k b τ : Int} {s : List Let × Int} (hb : 0 ≤ b) (h : Wi k b (wkL s.1) s.2 0) : ∀ j : Nat, (j : Int) ≤ k → Wi k b (wkL (Ln.turns b τ j s).1) (Ln.turns b τ j s).2 j
  | 0, _ => h
  | j + 1, hj => Wi.step hb (by omega) (Wi.turns hb h j (by omega))
theorem Wi.close {k b : Int} {W : List Spt} {line : Int} {j : Nat} (hb : 0 ≤ b) (h : Wi k b W line j) : Wi k b W (Ln.close line) 0 := by
  have r := Ln.close_rng hb h.lo h.hi
  refine ⟨h.wl, r.1, by omega, fun _ => ⟨r.2, fun z => ?_, fun x hx => ?_⟩, fun z => absurd rfl z⟩
  · by_cases c : j = 0
    · rw [(h.zz c).2.1 z]
      rfl
    · exact absurd z (h.ss c).1
  · have sx := h.wl.sp x (last_mem hx)
    unfold Spot at sx
    by_cases c : j = 0
    · have := (h.zz c).2.2 x hx
      unfold Ln.close
      split <;> omega
    · have := ((h.ss c).2 x hx).1
      unfold Ln.close
      split <;> omega
theorem wi_pre {k b : Int} {cs : List Int} (hb : 0 ≤ b) (hk : 0 ≤ k) (hc : ∀ c ∈ cs, c ≤ k) : ∀ i, Wi k b (wkL (Ln.pre b cs i).1) (Ln.pre b cs i).2 0
  | 0 => ⟨.nil, Int.le_refl _, by show (0 : Int) ≤ b + 1; omega, fun _ => ⟨hb, fun _ => rfl, fun x hx => by simp [Ln.pre, wkL] at hx⟩, fun z => absurd rfl z⟩
  | i + 1 => by
    have ih := wi_pre hb hk hc i
    have hg : cs.getD i 0 ≤ k := by
      rw [List.getD_eq_getElem?_getD]
      cases h : cs[i]? with
      | none => exact hk
      | some c => exact hc c (List.mem_of_getElem? h)
    unfold Ln.pre
    exact (Wi.turns (τ := (i : Int)) hb ih (cs.getD i 0).toNat (by omega)).close hb
theorem wl_letts {k b : Int} {cs : List Int} (hb : 0 ≤ b) (hk : 0 ≤ k) (hc : ∀ c ∈ cs, c ≤ k) : Wl k b (wkL (Ln.letts b cs)) := (wi_pre hb hk hc cs.length).wl
/-! the size of the comings of a walk -/
theorem incL_len : ∀ l : List Int, (incL l).length = l.length
  | [] => rfl
  | [_] => rfl
  | x :: y :: r => by
    show (incL (y :: r)).length + 1 = _
    rw [incL_len (y :: r)]
    rfl
structure Cs (k : Int) (cs : List Int) (n : Int) (s : Spt) : Prop where
  ex : ∃ ds, cs = ds ++ [s.2] ∧ ∀ c ∈ ds, 0 ≤ c ∧ c ≤ k
  ln : (cs.length : Int) + s.1 ≤ n
theorem cs_start {k b : Int} {s : Spt} (hk : 2 ≤ k) (hs : Spot k b s) (h1 : s.2 = 1) : Cs k (start s.1) (2 * b + 1) s := by
  unfold Spot at hs
  refine ⟨⟨List.replicate s.1.toNat 2, by rw [h1]; rfl, fun c hc => by rw [(List.mem_replicate.mp hc).2]; omega⟩, ?_⟩
  unfold start
  rw [List.length_append, List.length_replicate]
  show ((s.1.toNat + 1 : Nat) : Int) + s.1 ≤ _
  omega
theorem cs_grow {k b : Int} {cs : List Int} {n : Int} {s o : Spt} (h : Cs k cs n s) (hs : Spot k b s) (hn : Nx k b s o) : Cs k (grow cs s o) (n + 1) o := by
  obtain ⟨⟨ds, hd, hc⟩, hl⟩ := h
  have ho := hn.1
  unfold Spot at hs ho
  unfold grow
  rcases hn.2 with e | ⟨e1, e2⟩
  · have o1 : o.1 = s.1 + 1 := by rw [e]
    have o2 : o.2 = s.2 + 1 := by rw [e]
    rw [if_pos (by omega)]
    refine ⟨⟨ds, by rw [hd, incL_snoc, o2], hc⟩, ?_⟩
    rw [incL_len, o1]
    omega
  · rw [if_neg (by omega)]
    refine ⟨⟨cs ++ List.replicate (s.1 - o.1).toNat 0, by rw [List.append_assoc, e1], fun c hc' => ?_⟩, ?_⟩
    · rcases List.mem_append.mp hc' with hc' | hc'
      · rw [hd] at hc'
        rcases List.mem_append.mp hc' with hc' | hc'
        · exact hc c hc'
        · rw [List.mem_singleton.mp hc']
          omega
      · rw [(List.mem_replicate.mp hc').2]
        omega
    · rw [List.length_append, List.length_append, List.length_replicate]
      show ((cs.length + ((s.1 - o.1).toNat + 1) : Nat) : Int) + o.1 ≤ _
      omega
theorem cs_all {k b : Int} : ∀ (r : List Spt) (cs : List Int) (n : Int) (s : Spt), Cs k cs n s → Spot k b s → Chain k b s r → ∃ o, Spot k b o ∧ Cs k (cfGo cs s r) (n + (r.length : Int)) o
  | [], cs, n, s, h, hs, _ => ⟨s, hs, by simpa [cfGo] using h⟩
  | o :: r, cs, n, s, h, hs, hc => by
    obtain ⟨o', h1, h2⟩ := cs_all r _ _ o (cs_grow h hs hc.1) hc.1.1 hc.2
    refine ⟨o', h1, ?_⟩
    rw [List.length_cons, show n + ((r.length + 1 : Nat) : Int) = n + 1 + (r.length : Int) by omega]
    exact h2
theorem cf_right {k b : Int} {row : List Spt} (hk : 2 ≤ k) (h : Walk k b row) : ((cf row).length : Int) ≤ 2 * b + (row.length : Int) ∧ ∀ c ∈ cf row, 0 ≤ c ∧ c ≤ k := by
  cases row with
  | nil => exact False.elim h
  | cons s r =>
    obtain ⟨hs, h1, hc⟩ := h
    obtain ⟨o, ho, ⟨ds, hd, hin⟩, hl⟩ := cs_all r _ _ s (cs_start hk hs h1) hs hc
    unfold Spot at ho
    refine ⟨?_, fun c hc' => ?_⟩
    · show ((cfGo (start s.1) s r).length : Int) ≤ _
      rw [List.length_cons]
      omega
    · have hc' : c ∈ cfGo (start s.1) s r := hc'
      rw [hd] at hc'
      rcases List.mem_append.mp hc' with hc' | hc'
      · exact hin c hc'
      · rw [List.mem_singleton.mp hc']
        omega
theorem chain_snoc {k b : Int} {o : Spt} : ∀ (r : List Spt) (s : Spt), Chain k b s r → (∀ x, (s :: r).getLast? = some x → Nx k b x o) → Chain k b s (r ++ [o])
  | [], s, _, h => ⟨h s rfl, trivial⟩
  | x :: r, s, hc, h => ⟨hc.1, chain_snoc r x hc.2 fun y hy => h y (by rw [List.getLast?_cons_cons]; exact hy)⟩
theorem walk_snoc {k b : Int} {row : List Spt} {o : Spt} (h : Walk k b row) (hn : ∀ x, row.getLast? = some x → Nx k b x o) : Walk k b (row ++ [o]) := by
  cases row with
  | nil => exact False.elim h
  | cons s r => exact ⟨h.1, h.2.1, chain_snoc r s h.2.2 hn⟩
end Wk

/-! ### comings, number by number -/
namespace Wk
theorem snoc_getD (cs : List Int) (x : Int) (n : Nat) : (cs ++ [x]).getD n 0 = if n = cs.length then x else cs.getD n 0 := by
  rw [List.getD_eq_getElem?_getD, List.getD_eq_getElem?_getD]
  by_cases h : n < cs.length
  · rw [List.getElem?_append_left h, if_neg (by omega)]
  · rw [List.getElem?_append_right (by omega)]
    by_cases e : n = cs.length
    · rw [if_pos e, e, Nat.sub_self]
      rfl
    · rw [if_neg e, List.getElem?_eq_none (by show 1 ≤ _; omega), List.getElem?_eq_none (by omega)]
theorem past_getD {cs : List Int} {n : Nat} (h : cs.length ≤ n) : cs.getD n 0 = 0 := by
  rw [List.getD_eq_getElem?_getD, List.getElem?_eq_none h]
  rfl
theorem zeros_getD (cs : List Int) (m n : Nat) : (cs ++ List.replicate m 0).getD n 0 = cs.getD n 0 := by
  induction m with
  | zero =>
    rw [List.replicate_zero, List.append_nil]
  | succ m ih =>
    rw [List.replicate_succ', ← List.append_assoc, snoc_getD, ih]
    split
    · next e =>
      rw [past_getD (by rw [e, List.length_append]; omega)]
    · rfl
theorem rep_getD (i n : Nat) : (List.replicate (i + 1) (2 : Int)).getD n 0 = if n = i then 2 else (List.replicate i (2 : Int)).getD n 0 := by
  rw [List.replicate_succ', snoc_getD, List.length_replicate]
/-- one number more at the last tick, or at a later one -/
theorem grow_getD {k b : Int} {cs : List Int} {s o : Spt} (hne : cs ≠ []) (hs : Spot k b s) (hn : Nx k b s o) : (grow cs s o) ≠ [] ∧
    ((grow cs s o).length : Int) = (if o.2 = 1 then (cs.length : Int) + s.1 + 1 - o.1 else (cs.length : Int)) ∧ ∀ n : Nat, (grow cs s o).getD n 0 = if n = (grow cs s o).length - 1 then cs.getD ((grow cs s o).length - 1) 0 + 1 else cs.getD n 0 := by
  have ho := hn.1
  unfold Spot at hs ho
  unfold grow
  by_cases c : o.2 > 1
  · rw [if_pos c, if_neg (by omega)]
    obtain ⟨ds, x, rfl⟩ : ∃ ds x, cs = ds ++ [x] := ⟨cs.dropLast, cs.getLast hne, (List.dropLast_concat_getLast hne).symm⟩
    rw [incL_snoc]
    have el : (ds ++ [x + 1]).length - 1 = ds.length := by
      rw [List.length_append]
      rfl
    refine ⟨by simp, by rw [List.length_append, List.length_append]; rfl, fun n => ?_⟩
    rw [el, snoc_getD, snoc_getD, snoc_getD, if_pos rfl]
    by_cases e : n = ds.length
    · rw [if_pos e, if_pos e]
    · rw [if_neg e, if_neg e, if_neg e]
  · have o1 : o.2 = 1 := by omega
    have le : o.1 ≤ s.1 := by
      rcases hn.2 with e | e
      · have : o.2 = s.2 + 1 := by rw [e]
        omega
      · exact e.2
    rw [if_neg c, if_pos o1, ← List.append_assoc]
    have el : (cs ++ List.replicate (s.1 - o.1).toNat 0 ++ [1]).length - 1 = (cs ++ List.replicate (s.1 - o.1).toNat (0 : Int)).length := by
      rw [List.length_append]
      rfl
    refine ⟨by simp, ?_, fun n => ?_⟩
    · rw [List.length_append, List.length_append, List.length_replicate]
      show ((cs.length + (s.1 - o.1).toNat + 1 : Nat) : Int) = _
      omega
    · have e0 : cs.getD (cs ++ List.replicate (s.1 - o.1).toNat (0 : Int)).length 0 = 0 := past_getD (by rw [List.length_append]; omega)
      rw [el, snoc_getD, zeros_getD, e0]
      by_cases e : n = (cs ++ List.replicate (s.1 - o.1).toNat (0 : Int)).length
      · rw [if_pos e, if_pos e]
        rfl
      · rw [if_neg e, if_neg e]
theorem start_getD (w n : Nat) : (start (w : Int)).getD n 0 = if n = w then 1 else (List.replicate w (2 : Int)).getD n 0 := by
  unfold start
  rw [snoc_getD, List.length_replicate, Int.toNat_natCast]
theorem chain_drop {k b : Int} : ∀ (r : List Spt) (s : Spt) (i : Nat) (x : Spt) (ys : List Spt), Chain k b s r → r.drop i = x :: ys → Spot k b x ∧ Chain k b x ys
  | [], s, i, x, ys, _, h => by simp at h
  | o :: r, s, 0, x, ys, hc, h => by
    obtain ⟨h1, h2⟩ := List.cons.inj (h : o :: r = x :: ys)
    rw [← h1, ← h2]
    exact ⟨hc.1.1, hc.2⟩
  | o :: r, s, i + 1, x, ys, hc, h => chain_drop r o i x ys hc.2 h
theorem walk_drop {k b : Int} {row : List Spt} (h : Walk k b row) {i : Nat} {x : Spt} (hx : row[i]? = some x) (h1 : x.2 = 1) : Walk k b (row.drop i) := by
  cases row with
  | nil => exact False.elim h
  | cons s r =>
    cases i with
    | zero => exact h
    | succ i =>
      have hi : i < r.length := by
        have := (List.getElem?_eq_some_iff.mp hx).1
        simpa using this
      show Walk k b (r.drop i)
      have e : r.drop i = r[i] :: r.drop (i + 1) := List.drop_eq_getElem_cons hi
      have ex : r[i] = x := by
        rw [List.getElem?_cons_succ, List.getElem?_eq_getElem hi] at hx
        exact Option.some.inj hx
      obtain ⟨a, c⟩ := chain_drop r s i _ _ h.2.2 e
      rw [e]
      rw [ex] at a c ⊢
      exact ⟨a, h1, c⟩
theorem cf_last {k b : Int} {row : List Spt} (hk : 2 ≤ k) (h : Walk k b row) : ∃ ds x, cf row = ds ++ [x] ∧ 1 ≤ x := by
  cases row with
  | nil => exact False.elim h
  | cons s r =>
    obtain ⟨hs, h1, hc⟩ := h
    obtain ⟨o, ho, ⟨ds, hd, hin⟩, hl⟩ := cs_all r _ _ s (cs_start hk hs h1) hs hc
    unfold Spot at ho
    exact ⟨ds, o.2, hd, ho.2.2.1⟩
end Wk

/-! ### when the letters of a walk's comings come: tick and wait together are the letter's number -/
namespace Tk
open Wk Ln
/-- how many have come by the first i ticks -/
def A (cs : List Int) (i : Nat) : Int := (cs.take i).sum
theorem A_all (cs : List Int) : A cs cs.length = cs.sum := by
  unfold A
  rw [List.take_length]
theorem A_succ {cs : List Int} {i : Nat} (h : i < cs.length) : A cs (i + 1) = A cs i + cs.getD i 0 := by
  unfold A
  rw [List.take_add_one, List.getElem?_eq_getElem h, List.sum_append, List.getD_eq_getElem?_getD, List.getElem?_eq_getElem h]
  simp
theorem A_left {cs : List Int} (ds : List Int) {i : Nat} (h : i ≤ cs.length) : A (cs ++ ds) i = A cs i := by
  unfold A
  rw [List.take_append_of_le_length h]
theorem A_right {cs : List Int} (ds : List Int) (j : Nat) : A (cs ++ ds) (cs.length + j) = cs.sum + A ds j := by
  unfold A
  rw [List.take_length_add_append, List.sum_append]
structure Bal (b : Int) (cs : List Int) : Prop where
  nn : ∀ c ∈ cs, 0 ≤ c
  lo : ∀ i, i ≤ cs.length → (i : Int) ≤ A cs i
  hi : ∀ i, i < cs.length → A cs (i + 1) ≤ (i : Int) + b + 1
theorem turns_nums {b τ : Int} {s : List Let × Int} (hs : s.2 = (s.1.length : Int) - τ) (hw : ∀ (j : Nat) (l : Let), s.1[j]? = some l → ∃ w, l.2.2 = some w ∧ l.1 + w = (j : Int)) : ∀ n : Nat, s.2 + (n : Int) ≤ b + 1 →
    ((turns b τ n s).1.length = s.1.length + n ∧ (turns b τ n s).2 = s.2 + (n : Int)) ∧ ∀ (j : Nat) (l : Let), (turns b τ n s).1[j]? = some l → ∃ w, l.2.2 = some w ∧ l.1 + w = (j : Int)
  | 0, _ => ⟨⟨rfl, by show s.2 = _; omega⟩, hw⟩
  | n + 1, h => by
    obtain ⟨⟨hl, h2⟩, hi⟩ := turns_nums (b := b) (τ := τ) (s := s) hs hw n (by omega)
    have es : turns b τ (n + 1) s = ((turns b τ n s).1 ++ [(τ, 1 + (n : Int), some (turns b τ n s).2)], (turns b τ n s).2 + 1) := by
      show step b τ (1 + (n : Int)) (turns b τ n s) = _
      unfold step
      rw [if_neg (by omega)]
    rw [es]
    refine ⟨⟨by rw [List.length_append, hl]; rfl, by show (turns b τ n s).2 + 1 = _; omega⟩, fun j l hj => ?_⟩
    by_cases c : j < (turns b τ n s).1.length
    · rw [List.getElem?_append_left c] at hj
      exact hi j l hj
    · rw [List.getElem?_append_right (by omega)] at hj
      have hj0 : j - (turns b τ n s).1.length = 0 := by
        have := (List.getElem?_eq_some_iff.mp hj).1
        simp at this
        omega
      rw [hj0] at hj
      obtain rfl := Option.some.inj hj
      refine ⟨_, rfl, ?_⟩
      show τ + (turns b τ n s).2 = _
      omega
theorem pre_bal {b : Int} {cs : List Int} (h : Bal b cs) : ∀ i : Nat, i ≤ cs.length → ((pre b cs i).2 = A cs i - (i : Int) ∧ ((pre b cs i).1.length : Int) = A cs i) ∧ ∀ (j : Nat) (l : Let), (pre b cs i).1[j]? = some l → ∃ w, l.2.2 = some w ∧ l.1 + w = (j : Int)
  | 0, _ => ⟨⟨rfl, rfl⟩, fun j l hj => by simp [pre] at hj⟩
  | i + 1, hi => by
    obtain ⟨⟨h1, h2⟩, h3⟩ := pre_bal h i (by omega)
    have hlo := h.lo (i + 1) hi
    have hhi := h.hi i hi
    have hs := A_succ (cs := cs) (i := i) hi
    have hc : 0 ≤ cs.getD i 0 := by
      rw [List.getD_eq_getElem?_getD, List.getElem?_eq_getElem hi]
      exact h.nn _ (List.getElem_mem hi)
    obtain ⟨⟨g1, g2⟩, g3⟩ := turns_nums (b := b) (τ := (i : Int)) (s := pre b cs i) (by omega) h3 (cs.getD i 0).toNat (by omega)
    refine ⟨⟨?_, ?_⟩, g3⟩
    · show close (turns b (i : Int) (cs.getD i 0).toNat (pre b cs i)).2 = _
      rw [g2]
      unfold close
      rw [if_pos (by omega)]
      omega
    · show (((turns b (i : Int) (cs.getD i 0).toNat (pre b cs i)).1.length : Nat) : Int) = _
      omega
/-- balanced, and behind them the line is as long as the last spot's wait -/
structure B2 (b : Int) (cs : List Int) (s : Spt) : Prop where
  bal : Bal b cs
  ne : ∃ ds x, cs = ds ++ [x]
  su : cs.sum = (cs.length : Int) + s.1
theorem A_rep2 : ∀ (n i : Nat), i ≤ n → A (List.replicate n 2) i = 2 * (i : Int)
  | n, i, h => by
    unfold A
    rw [List.take_replicate, Nat.min_eq_left h]
    have : ∀ k : Nat, (List.replicate k (2 : Int)).sum = 2 * (k : Int) := fun k => by
      induction k with
      | zero => rfl
      | succ k ih =>
        rw [List.replicate_succ, List.sum_cons, ih]
        omega
    exact this i
theorem A_rep0 (n i : Nat) : A (List.replicate n 0) i = 0 := by
  unfold A
  rw [List.take_replicate]
  have : ∀ k : Nat, (List.replicate k (0 : Int)).sum = 0 := fun k => by
    induction k with
    | zero => rfl
    | succ k ih =>
      rw [List.replicate_succ, List.sum_cons, ih]
      rfl
  exact this _
theorem b2_start {b : Int} {s : Spt} (h0 : 0 ≤ s.1) (h1 : s.1 ≤ b) : B2 b (start s.1) s := by
  unfold start
  have hl : (List.replicate s.1.toNat (2 : Int)).length = s.1.toNat := List.length_replicate
  have hsum : (List.replicate s.1.toNat (2 : Int)).sum = 2 * s.1 := by
    have := A_rep2 s.1.toNat s.1.toNat (Nat.le_refl _)
    unfold A at this
    rw [List.take_of_length_le (by omega)] at this
    omega
  have at_ : ∀ i, i ≤ s.1.toNat → A (List.replicate s.1.toNat 2 ++ [1]) i = 2 * (i : Int) := fun i hi => by
    rw [A_left _ (by omega), A_rep2 _ _ hi]
  have all_ : A (List.replicate s.1.toNat 2 ++ [1]) (s.1.toNat + 1) = 2 * s.1 + 1 := by
    have := A_right (cs := List.replicate s.1.toNat 2) [1] 1
    rw [hl, hsum] at this
    exact this
  refine ⟨⟨fun c hc => ?_, fun i hi => ?_, fun i hi => ?_⟩, ⟨_, _, rfl⟩, ?_⟩
  · rcases List.mem_append.mp hc with hc | hc
    · rw [(List.mem_replicate.mp hc).2]
      decide
    · rw [List.mem_singleton.mp hc]
      decide
  · rw [List.length_append, hl] at hi
    have hi : i ≤ s.1.toNat + 1 := hi
    by_cases e : i = s.1.toNat + 1
    · rw [e, all_]
      omega
    · rw [at_ i (by omega)]
      omega
  · rw [List.length_append, hl] at hi
    have hi : i < s.1.toNat + 1 := hi
    by_cases e : i = s.1.toNat
    · rw [e, all_]
      omega
    · rw [at_ (i + 1) (by omega)]
      omega
  · rw [List.sum_append, hsum, List.length_append, hl]
    show 2 * s.1 + 1 = ((s.1.toNat + 1 : Nat) : Int) + s.1
    omega
theorem b2_grow {k b : Int} {cs : List Int} {s o : Spt} (h : B2 b cs s) (hs : Spot k b s) (hn : Nx k b s o) : B2 b (grow cs s o) o := by
  obtain ⟨⟨nn, lo, hi⟩, ⟨ds, x, rfl⟩, su⟩ := h
  obtain ⟨hso, hn⟩ := hn
  unfold Spot at hs hso
  unfold grow
  have hl : (ds ++ [x]).length = ds.length + 1 := by simp
  rw [hl] at lo hi su
  have hsum : (ds ++ [x]).sum = ds.sum + x := by simp
  rw [hsum] at su
  by_cases c : o.2 > 1
  · rw [if_pos c, incL_snoc]
    have eo : o.1 = s.1 + 1 := by
      rcases hn with e | e
      · rw [e]
      · omega
    have hl2 : (ds ++ [x + 1]).length = ds.length + 1 := by simp
    have at_ : ∀ i, i ≤ ds.length → A (ds ++ [x + 1]) i = A (ds ++ [x]) i := fun i hi => by rw [A_left _ hi, A_left _ hi]
    have all_ : A (ds ++ [x + 1]) (ds.length + 1) = ds.sum + (x + 1) := by
      have := A_all (ds ++ [x + 1])
      rw [hl2] at this
      rw [this]
      simp
    refine ⟨⟨fun d hd => ?_, fun i hi' => ?_, fun i hi' => ?_⟩, ⟨_, _, rfl⟩, ?_⟩
    · rcases List.mem_append.mp hd with hd | hd
      · exact nn d (List.mem_append.mpr (.inl hd))
      · rw [List.mem_singleton.mp hd]
        have := nn x (by simp)
        omega
    · rw [hl2] at hi'
      by_cases e : i = ds.length + 1
      · rw [e, all_]
        omega
      · rw [at_ i (by omega)]
        exact lo i (by omega)
    · rw [hl2] at hi'
      by_cases e : i = ds.length
      · rw [e, all_]
        omega
      · rw [at_ (i + 1) (by omega)]
        exact hi i (by omega)
    · rw [hl2]
      have : (ds ++ [x + 1]).sum = ds.sum + (x + 1) := by simp
      rw [this, eo]
      omega
  · rw [if_neg c]
    obtain ⟨o1, o2⟩ : o.2 = 1 ∧ o.1 ≤ s.1 := by
      rcases hn with e | e
      · rw [e] at c
        simp only at c
        omega
      · exact e
    generalize hm : (s.1 - o.1).toNat = m
    have hlz : (List.replicate m (0 : Int) ++ [1]).length = m + 1 := by simp
    have hl3 : (ds ++ [x] ++ (List.replicate m 0 ++ [1])).length = ds.length + 1 + (m + 1) := by
      rw [List.length_append, hl, hlz]
    have lowA : ∀ i, i ≤ ds.length + 1 → A (ds ++ [x] ++ (List.replicate m 0 ++ [1])) i = A (ds ++ [x]) i := fun i hi => A_left _ (by rw [hl]; exact hi)
    have highA : ∀ j, A (ds ++ [x] ++ (List.replicate m 0 ++ [1])) (ds.length + 1 + j) = ds.sum + x + A (List.replicate m 0 ++ [1]) j := fun j => by
      have := A_right (cs := ds ++ [x]) (List.replicate m 0 ++ [1]) j
      rw [hl, hsum] at this
      exact this
    have z0 : ∀ j, j ≤ m → A (List.replicate m 0 ++ [1]) j = 0 := fun j hj => by
      rw [A_left _ (by rw [List.length_replicate]; exact hj), A_rep0]
    have zs : (List.replicate m (0 : Int)).sum = 0 := by
      have := A_rep0 m m
      unfold A at this
      rw [List.take_of_length_le (by rw [List.length_replicate]; exact Nat.le_refl _)] at this
      exact this
    have z1 : A (List.replicate m 0 ++ [1]) (m + 1) = 1 := by
      have := A_all (List.replicate m 0 ++ [1])
      rw [hlz] at this
      rw [this, List.sum_append, zs]
      rfl
    refine ⟨⟨fun d hd => ?_, fun i hi' => ?_, fun i hi' => ?_⟩, ⟨ds ++ [x] ++ List.replicate m 0, 1, by rw [List.append_assoc (ds ++ [x])]⟩, ?_⟩
    · rcases List.mem_append.mp hd with hd | hd
      · exact nn d hd
      · rcases List.mem_append.mp hd with hd | hd
        · rw [(List.mem_replicate.mp hd).2]
          decide
        · rw [List.mem_singleton.mp hd]
          decide
    · rw [hl3] at hi'
      by_cases e : i ≤ ds.length + 1
      · rw [lowA i e]
        exact lo i e
      · obtain ⟨j, rfl⟩ : ∃ j, i = ds.length + 1 + j := ⟨i - (ds.length + 1), by omega⟩
        rw [highA]
        by_cases e2 : j = m + 1
        · rw [e2, z1]
          omega
        · rw [z0 j (by omega)]
          omega
    · rw [hl3] at hi'
      by_cases e : i < ds.length + 1
      · rw [lowA (i + 1) (by omega)]
        exact hi i e
      · obtain ⟨j, rfl⟩ : ∃ j, i = ds.length + 1 + j := ⟨i - (ds.length + 1), by omega⟩
        rw [show ds.length + 1 + j + 1 = ds.length + 1 + (j + 1) by omega, highA]
        by_cases e2 : j = m
        · rw [e2, z1]
          omega
        · rw [z0 (j + 1) (by omega)]
          omega
    · rw [List.sum_append, hsum, hl3, List.sum_append, zs]
      show ds.sum + x + (0 + 1) = _
      omega
theorem b2_all {k b : Int} : ∀ (r : List Spt) (cs : List Int) (s : Spt), B2 b cs s → Spot k b s → Chain k b s r → ∃ o, B2 b (cfGo cs s r) o
  | [], cs, s, h, _, _ => ⟨s, h⟩
  | o :: r, cs, s, h, hs, hc => b2_all r (grow cs s o) o (b2_grow h hs hc.1) hc.1.1 hc.2
/-- tick and wait together are the letter's number -/
theorem cf_num {k b : Int} {row : List Spt} (h : Walk k b row) : ∀ (j : Nat) (l : Let), (letts b (cf row))[j]? = some l → ∃ w, l.2.2 = some w ∧ l.1 + w = (j : Int) := by
  cases row with
  | nil => exact False.elim h
  | cons s r =>
    obtain ⟨hs, h1, hc⟩ := h
    obtain ⟨o, hb⟩ := b2_all r (start s.1) s (b2_start hs.1 hs.2.1) hs hc
    exact (pre_bal hb.bal _ (Nat.le_refl _)).2
end Tk

set_option Elab.async false
set_option linter.all false
set_option maxRecDepth 100000
set_option maxHeartbeats 4000000
namespace My
open PySem PySem.Spec PyProof.Rows L2
def topS (i : Nat) : Stmt := PySem.Challenge.pw_loopstore_k15_whole_walks_that_meet.main.body.getD i (.Pass ⟨0, 0, 0, 0⟩)
abbrev s_is_integer : Stmt := topS 14
theorem sc_is_integer : FnScope ["thing"] ["thing"] (defScope s_is_integer) := ⟨rfl, rfl, rfl, by decide +kernel, rfl, by decide +kernel, by decide +kernel⟩
abbrev s_is_number : Stmt := topS 15
theorem sc_is_number : FnScope ["thing", "least", "most"] ["thing", "least", "most"] (defScope s_is_number) := ⟨rfl, rfl, rfl, by decide +kernel, rfl, by decide +kernel, by decide +kernel⟩
abbrev s_are_numbers : Stmt := topS 16
theorem sc_are_numbers : FnScope ["things", "least", "most", "thing"] ["things", "least", "most"] (defScope s_are_numbers) := ⟨rfl, rfl, rfl, by decide +kernel, rfl, by decide +kernel, by decide +kernel⟩
abbrev s_are_integers : Stmt := topS 17
theorem sc_are_integers : FnScope ["thing", "many", "item"] ["thing", "many"] (defScope s_are_integers) := ⟨rfl, rfl, rfl, by decide +kernel, rfl, by decide +kernel, by decide +kernel⟩
abbrev s_is_comings : Stmt := topS 18
theorem sc_is_comings : FnScope ["comers", "thing"] ["comers", "thing"] (defScope s_is_comings) := ⟨rfl, rfl, rfl, by decide +kernel, rfl, by decide +kernel, by decide +kernel⟩
abbrev s_is_loops : Stmt := topS 19
theorem sc_is_loops : FnScope ["thing"] ["thing"] (defScope s_is_loops) := ⟨rfl, rfl, rfl, by decide +kernel, rfl, by decide +kernel, by decide +kernel⟩
abbrev s_is_row : Stmt := topS 20
theorem sc_is_row : FnScope ["loops", "thing"] ["loops", "thing"] (defScope s_is_row) := ⟨rfl, rfl, rfl, by decide +kernel, rfl, by decide +kernel, by decide +kernel⟩
abbrev s_check_comers : Stmt := topS 21
theorem sc_check_comers : FnScope ["thing"] ["thing"] (defScope s_check_comers) := ⟨rfl, rfl, rfl, by decide +kernel, rfl, by decide +kernel, by decide +kernel⟩
abbrev s_check_bound : Stmt := topS 22
theorem sc_check_bound : FnScope ["thing"] ["thing"] (defScope s_check_bound) := ⟨rfl, rfl, rfl, by decide +kernel, rfl, by decide +kernel, by decide +kernel⟩
abbrev s_check_comings : Stmt := topS 23
theorem sc_check_comings : FnScope ["comers", "thing"] ["comers", "thing"] (defScope s_check_comings) := ⟨rfl, rfl, rfl, by decide +kernel, rfl, by decide +kernel, by decide +kernel⟩
abbrev s_row_sum : Stmt := topS 25
theorem sc_row_sum : FnScope ["loops", "row", "loop"] ["loops", "row"] (defScope s_row_sum) := ⟨rfl, rfl, rfl, by decide +kernel, rfl, by decide +kernel, by decide +kernel⟩
abbrev s_row_entries : Stmt := topS 27
theorem sc_row_entries : FnScope ["loops", "row", "found", "gone", "left", "loop"] ["loops", "row"] (defScope s_row_entries) := ⟨rfl, rfl, rfl, by decide +kernel, rfl, by decide +kernel, by decide +kernel⟩
abbrev s_wait_row : Stmt := topS 28
theorem sc_wait_row : FnScope ["table", "wait"] ["table", "wait"] (defScope s_wait_row) := ⟨rfl, rfl, rfl, by decide +kernel, rfl, by decide +kernel, by decide +kernel⟩
abbrev s_wait_entries : Stmt := topS 29
theorem sc_wait_entries : FnScope ["table", "wait"] ["table", "wait"] (defScope s_wait_entries) := ⟨rfl, rfl, rfl, by decide +kernel, rfl, by decide +kernel, by decide +kernel⟩
abbrev s_follow_line : Stmt := topS 32
theorem sc_follow_line : FnScope ["bound", "line", "comings", "letters", "behind", "tick", "number", "turn"] ["bound", "line", "comings"] (defScope s_follow_line) := ⟨rfl, rfl, rfl, by decide +kernel, rfl, by decide +kernel, by decide +kernel⟩
abbrev s_letters_of : Stmt := topS 33
theorem sc_letters_of : FnScope ["bound", "comings", "letters", "_"] ["bound", "comings"] (defScope s_letters_of) := ⟨rfl, rfl, rfl, by decide +kernel, rfl, by decide +kernel, by decide +kernel⟩
abbrev s_waits : Stmt := topS 34
theorem sc_waits : FnScope ["comers", "bound", "comings", "tick", "turn", "wait"] ["comers", "bound", "comings"] (defScope s_waits) := ⟨rfl, rfl, rfl, by decide +kernel, rfl, by decide +kernel, by decide +kernel⟩
abbrev s_is_spot : Stmt := topS 35
theorem sc_is_spot : FnScope ["comers", "bound", "thing", "wait", "turn"] ["comers", "bound", "thing"] (defScope s_is_spot) := ⟨rfl, rfl, rfl, by decide +kernel, rfl, by decide +kernel, by decide +kernel⟩
abbrev s_is_next : Stmt := topS 36
theorem sc_is_next : FnScope ["comers", "bound", "spot", "other", "wait", "turn"] ["comers", "bound", "spot", "other"] (defScope s_is_next) := ⟨rfl, rfl, rfl, by decide +kernel, rfl, by decide +kernel, by decide +kernel⟩
abbrev s_is_walk : Stmt := topS 37
theorem sc_is_walk : FnScope ["comers", "bound", "thing", "first", "at"] ["comers", "bound", "thing"] (defScope s_is_walk) := ⟨rfl, rfl, rfl, by decide +kernel, rfl, by decide +kernel, by decide +kernel⟩
abbrev s_comings_for : Stmt := topS 38
theorem sc_comings_for : FnScope ["comers", "bound", "row", "start", "comings", "wait", "_", "other", "turn"] ["comers", "bound", "row"] (defScope s_comings_for) := ⟨rfl, rfl, rfl, by decide +kernel, rfl, by decide +kernel, by decide +kernel⟩
abbrev s_layings_of : Stmt := topS 40
theorem sc_layings_of : FnScope ["table", "tick", "letter", "wait", "loop", "gone", "left"] ["table", "tick", "letter", "wait"] (defScope s_layings_of) := ⟨rfl, rfl, rfl, by decide +kernel, rfl, by decide +kernel, by decide +kernel⟩
abbrev s_places_of : Stmt := topS 42
theorem sc_places_of : FnScope ["table", "letters", "letter", "tick", "_", "wait", "entered", "same", "loop"] ["table", "letters", "letter"] (defScope s_places_of) := ⟨rfl, rfl, rfl, by decide +kernel, rfl, by decide +kernel, by decide +kernel⟩
abbrev s_is_meeting : Stmt := topS 43
theorem sc_is_meeting : FnScope ["table", "comers", "thing", "comings", "one", "other", "letters", "places", "place"] ["table", "comers", "thing"] (defScope s_is_meeting) := ⟨rfl, rfl, rfl, by decide +kernel, rfl, by decide +kernel, by decide +kernel⟩
abbrev s__law_tape : Stmt := topS 45
theorem sc__law_tape : FnScope ["script"] ["script"] (defScope s__law_tape) := ⟨rfl, rfl, rfl, by decide +kernel, rfl, by decide +kernel, by decide +kernel⟩
abbrev s__law_pick : Stmt := topS 46
theorem sc__law_pick : FnScope ["tape", "size", "digit", "cell", "mixed"] ["tape", "size"] (defScope s__law_pick) := ⟨rfl, rfl, rfl, by decide +kernel, rfl, by decide +kernel, by decide +kernel⟩
abbrev s__law_loops : Stmt := topS 47
theorem sc__law_loops : FnScope ["tape", "most", "longest", "many", "found", "k"] ["tape", "most", "longest"] (defScope s__law_loops) := ⟨rfl, rfl, rfl, by decide +kernel, rfl, by decide +kernel, by decide +kernel⟩
abbrev s__law_row : Stmt := topS 48
theorem sc__law_row : FnScope ["tape", "loops", "wait", "row", "left", "again", "turn", "fitting", "k"] ["tape", "loops", "wait"] (defScope s__law_row) := ⟨rfl, rfl, rfl, by decide +kernel, rfl, by decide +kernel, by decide +kernel⟩
abbrev s__law_rows : Stmt := topS 49
theorem sc__law_rows : FnScope ["tape", "loops", "bound", "wait"] ["tape", "loops", "bound"] (defScope s__law_rows) := ⟨rfl, rfl, rfl, by decide +kernel, rfl, by decide +kernel, by decide +kernel⟩
abbrev s__law_line : Stmt := topS 51
theorem sc__law_line : FnScope ["bound", "comings", "found", "line", "tick", "turn"] ["bound", "comings"] (defScope s__law_line) := ⟨rfl, rfl, rfl, by decide +kernel, rfl, by decide +kernel, by decide +kernel⟩
abbrev s__law_entries : Stmt := topS 52
theorem sc__law_entries : FnScope ["loops", "row", "total", "found", "gone", "k"] ["loops", "row"] (defScope s__law_entries) := ⟨rfl, rfl, rfl, by decide +kernel, rfl, by decide +kernel, by decide +kernel⟩
abbrev s__law_clash : Stmt := topS 53
theorem sc__law_clash : FnScope ["comers", "one", "other"] ["comers", "one", "other"] (defScope s__law_clash) := ⟨rfl, rfl, rfl, by decide +kernel, rfl, by decide +kernel, by decide +kernel⟩
abbrev s__law_table_clashes : Stmt := topS 54
theorem sc__law_table_clashes : FnScope ["loops", "rows", "comers", "every", "row", "found", "one", "other"] ["loops", "rows", "comers"] (defScope s__law_table_clashes) := ⟨rfl, rfl, rfl, by decide +kernel, rfl, by decide +kernel, by decide +kernel⟩
abbrev s__law_spread : Stmt := topS 55
theorem sc__law_spread : FnScope ["tape", "comers", "ticks", "number", "rows", "left", "late", "turn", "room", "at", "k"] ["tape", "comers", "ticks", "number"] (defScope s__law_spread) := ⟨rfl, rfl, rfl, by decide +kernel, rfl, by decide +kernel, by decide +kernel⟩
abbrev s__law_walk : Stmt := topS 56
theorem sc__law_walk : FnScope ["wait", "rows", "found", "line", "k", "turn", "letter"] ["wait", "rows"] (defScope s__law_walk) := ⟨rfl, rfl, rfl, by decide +kernel, rfl, by decide +kernel, by decide +kernel⟩
abbrev s_law : Stmt := topS 57
theorem sc_law : FnScope ["script", "tape", "loops", "bound", "rows", "comers", "table", "pairs", "k", "one", "other", "spread", "walk", "comings", "letter", "last", "wait", "turn", "tick"] ["script"] (defScope s_law) := ⟨rfl, rfl, rfl, by decide +kernel, rfl, by decide +kernel, by decide +kernel⟩
abbrev s_Table___init__ : Stmt := inClass (topS 26) 0
theorem sc_Table___init__ : FnScope ["self", "loops", "rows", "at", "row"] ["self", "loops", "rows"] (defScope s_Table___init__) := ⟨rfl, rfl, rfl, by decide +kernel, rfl, by decide +kernel, by decide +kernel⟩
structure Tx (K : PySem.W.Frag) (mg : Str → Option Value) where
  a_is_integer : Addr
  d_is_integer : FuncData
  F_is_integer : Fun K "is_integer" "is_integer" s_is_integer a_is_integer d_is_integer
  b_is_integer : Binds K d_is_integer ["thing"] []
  g_is_integer : mg "is_integer" = some (.ref a_is_integer)
  a_is_number : Addr
  d_is_number : FuncData
  F_is_number : Fun K "is_number" "is_number" s_is_number a_is_number d_is_number
  b_is_number : Binds K d_is_number ["thing", "least", "most"] []
  g_is_number : mg "is_number" = some (.ref a_is_number)
  a_are_numbers : Addr
  d_are_numbers : FuncData
  F_are_numbers : Fun K "are_numbers" "are_numbers" s_are_numbers a_are_numbers d_are_numbers
  b_are_numbers : Binds K d_are_numbers ["things", "least", "most"] []
  g_are_numbers : mg "are_numbers" = some (.ref a_are_numbers)
  a_are_integers : Addr
  d_are_integers : FuncData
  F_are_integers : Fun K "are_integers" "are_integers" s_are_integers a_are_integers d_are_integers
  b_are_integers : Binds K d_are_integers ["thing", "many"] []
  g_are_integers : mg "are_integers" = some (.ref a_are_integers)
  a_is_comings : Addr
  d_is_comings : FuncData
  F_is_comings : Fun K "is_comings" "is_comings" s_is_comings a_is_comings d_is_comings
  b_is_comings : Binds K d_is_comings ["comers", "thing"] []
  g_is_comings : mg "is_comings" = some (.ref a_is_comings)
  a_is_loops : Addr
  d_is_loops : FuncData
  F_is_loops : Fun K "is_loops" "is_loops" s_is_loops a_is_loops d_is_loops
  b_is_loops : Binds K d_is_loops ["thing"] []
  g_is_loops : mg "is_loops" = some (.ref a_is_loops)
  a_is_row : Addr
  d_is_row : FuncData
  F_is_row : Fun K "is_row" "is_row" s_is_row a_is_row d_is_row
  b_is_row : Binds K d_is_row ["loops", "thing"] []
  g_is_row : mg "is_row" = some (.ref a_is_row)
  a_check_comers : Addr
  d_check_comers : FuncData
  F_check_comers : Fun K "check_comers" "check_comers" s_check_comers a_check_comers d_check_comers
  b_check_comers : Binds K d_check_comers ["thing"] []
  g_check_comers : mg "check_comers" = some (.ref a_check_comers)
  a_check_bound : Addr
  d_check_bound : FuncData
  F_check_bound : Fun K "check_bound" "check_bound" s_check_bound a_check_bound d_check_bound
  b_check_bound : Binds K d_check_bound ["thing"] []
  g_check_bound : mg "check_bound" = some (.ref a_check_bound)
  a_check_comings : Addr
  d_check_comings : FuncData
  F_check_comings : Fun K "check_comings" "check_comings" s_check_comings a_check_comings d_check_comings
  b_check_comings : Binds K d_check_comings ["comers", "thing"] []
  g_check_comings : mg "check_comings" = some (.ref a_check_comings)
  a_row_sum : Addr
  d_row_sum : FuncData
  F_row_sum : Fun K "row_sum" "row_sum" s_row_sum a_row_sum d_row_sum
  b_row_sum : Binds K d_row_sum ["loops", "row"] []
  g_row_sum : mg "row_sum" = some (.ref a_row_sum)
  a_row_entries : Addr
  d_row_entries : FuncData
  F_row_entries : Fun K "row_entries" "row_entries" s_row_entries a_row_entries d_row_entries
  b_row_entries : Binds K d_row_entries ["loops", "row"] []
  g_row_entries : mg "row_entries" = some (.ref a_row_entries)
  a_wait_row : Addr
  d_wait_row : FuncData
  F_wait_row : Fun K "wait_row" "wait_row" s_wait_row a_wait_row d_wait_row
  b_wait_row : Binds K d_wait_row ["table", "wait"] []
  g_wait_row : mg "wait_row" = some (.ref a_wait_row)
  a_wait_entries : Addr
  d_wait_entries : FuncData
  F_wait_entries : Fun K "wait_entries" "wait_entries" s_wait_entries a_wait_entries d_wait_entries
  b_wait_entries : Binds K d_wait_entries ["table", "wait"] []
  g_wait_entries : mg "wait_entries" = some (.ref a_wait_entries)
  a_follow_line : Addr
  d_follow_line : FuncData
  F_follow_line : Fun K "follow_line" "follow_line" s_follow_line a_follow_line d_follow_line
  b_follow_line : Binds K d_follow_line ["bound", "line", "comings"] []
  g_follow_line : mg "follow_line" = some (.ref a_follow_line)
  a_letters_of : Addr
  d_letters_of : FuncData
  F_letters_of : Fun K "letters_of" "letters_of" s_letters_of a_letters_of d_letters_of
  b_letters_of : Binds K d_letters_of ["bound", "comings"] []
  g_letters_of : mg "letters_of" = some (.ref a_letters_of)
  a_waits : Addr
  d_waits : FuncData
  F_waits : Fun K "waits" "waits" s_waits a_waits d_waits
  b_waits : Binds K d_waits ["comers", "bound", "comings"] []
  g_waits : mg "waits" = some (.ref a_waits)
  a_is_spot : Addr
  d_is_spot : FuncData
  F_is_spot : Fun K "is_spot" "is_spot" s_is_spot a_is_spot d_is_spot
  b_is_spot : Binds K d_is_spot ["comers", "bound", "thing"] []
  g_is_spot : mg "is_spot" = some (.ref a_is_spot)
  a_is_next : Addr
  d_is_next : FuncData
  F_is_next : Fun K "is_next" "is_next" s_is_next a_is_next d_is_next
  b_is_next : Binds K d_is_next ["comers", "bound", "spot", "other"] []
  g_is_next : mg "is_next" = some (.ref a_is_next)
  a_is_walk : Addr
  d_is_walk : FuncData
  F_is_walk : Fun K "is_walk" "is_walk" s_is_walk a_is_walk d_is_walk
  b_is_walk : Binds K d_is_walk ["comers", "bound", "thing"] []
  g_is_walk : mg "is_walk" = some (.ref a_is_walk)
  a_comings_for : Addr
  d_comings_for : FuncData
  F_comings_for : Fun K "comings_for" "comings_for" s_comings_for a_comings_for d_comings_for
  b_comings_for : Binds K d_comings_for ["comers", "bound", "row"] []
  g_comings_for : mg "comings_for" = some (.ref a_comings_for)
  a_layings_of : Addr
  d_layings_of : FuncData
  F_layings_of : Fun K "layings_of" "layings_of" s_layings_of a_layings_of d_layings_of
  b_layings_of : Binds K d_layings_of ["table", "tick", "letter", "wait"] []
  g_layings_of : mg "layings_of" = some (.ref a_layings_of)
  a_places_of : Addr
  d_places_of : FuncData
  F_places_of : Fun K "places_of" "places_of" s_places_of a_places_of d_places_of
  b_places_of : Binds K d_places_of ["table", "letters", "letter"] []
  g_places_of : mg "places_of" = some (.ref a_places_of)
  a_is_meeting : Addr
  d_is_meeting : FuncData
  F_is_meeting : Fun K "is_meeting" "is_meeting" s_is_meeting a_is_meeting d_is_meeting
  b_is_meeting : Binds K d_is_meeting ["table", "comers", "thing"] []
  g_is_meeting : mg "is_meeting" = some (.ref a_is_meeting)
  a__law_tape : Addr
  d__law_tape : FuncData
  F__law_tape : Fun K "_law_tape" "_law_tape" s__law_tape a__law_tape d__law_tape
  b__law_tape : Binds K d__law_tape ["script"] []
  g__law_tape : mg "_law_tape" = some (.ref a__law_tape)
  a__law_pick : Addr
  d__law_pick : FuncData
  F__law_pick : Fun K "_law_pick" "_law_pick" s__law_pick a__law_pick d__law_pick
  b__law_pick : Binds K d__law_pick ["tape", "size"] []
  g__law_pick : mg "_law_pick" = some (.ref a__law_pick)
  a__law_loops : Addr
  d__law_loops : FuncData
  F__law_loops : Fun K "_law_loops" "_law_loops" s__law_loops a__law_loops d__law_loops
  b__law_loops : Binds K d__law_loops ["tape", "most", "longest"] []
  g__law_loops : mg "_law_loops" = some (.ref a__law_loops)
  a__law_row : Addr
  d__law_row : FuncData
  F__law_row : Fun K "_law_row" "_law_row" s__law_row a__law_row d__law_row
  b__law_row : Binds K d__law_row ["tape", "loops", "wait"] []
  g__law_row : mg "_law_row" = some (.ref a__law_row)
  a__law_rows : Addr
  d__law_rows : FuncData
  F__law_rows : Fun K "_law_rows" "_law_rows" s__law_rows a__law_rows d__law_rows
  b__law_rows : Binds K d__law_rows ["tape", "loops", "bound"] []
  g__law_rows : mg "_law_rows" = some (.ref a__law_rows)
  a__law_line : Addr
  d__law_line : FuncData
  F__law_line : Fun K "_law_line" "_law_line" s__law_line a__law_line d__law_line
  b__law_line : Binds K d__law_line ["bound", "comings"] []
  g__law_line : mg "_law_line" = some (.ref a__law_line)
  a__law_entries : Addr
  d__law_entries : FuncData
  F__law_entries : Fun K "_law_entries" "_law_entries" s__law_entries a__law_entries d__law_entries
  b__law_entries : Binds K d__law_entries ["loops", "row"] []
  g__law_entries : mg "_law_entries" = some (.ref a__law_entries)
  a__law_clash : Addr
  d__law_clash : FuncData
  F__law_clash : Fun K "_law_clash" "_law_clash" s__law_clash a__law_clash d__law_clash
  b__law_clash : Binds K d__law_clash ["comers", "one", "other"] []
  g__law_clash : mg "_law_clash" = some (.ref a__law_clash)
  a__law_table_clashes : Addr
  d__law_table_clashes : FuncData
  F__law_table_clashes : Fun K "_law_table_clashes" "_law_table_clashes" s__law_table_clashes a__law_table_clashes d__law_table_clashes
  b__law_table_clashes : Binds K d__law_table_clashes ["loops", "rows", "comers"] []
  g__law_table_clashes : mg "_law_table_clashes" = some (.ref a__law_table_clashes)
  a__law_spread : Addr
  d__law_spread : FuncData
  F__law_spread : Fun K "_law_spread" "_law_spread" s__law_spread a__law_spread d__law_spread
  b__law_spread : Binds K d__law_spread ["tape", "comers", "ticks", "number"] []
  g__law_spread : mg "_law_spread" = some (.ref a__law_spread)
  a__law_walk : Addr
  d__law_walk : FuncData
  F__law_walk : Fun K "_law_walk" "_law_walk" s__law_walk a__law_walk d__law_walk
  b__law_walk : Binds K d__law_walk ["wait", "rows"] []
  g__law_walk : mg "_law_walk" = some (.ref a__law_walk)
  a_law : Addr
  d_law : FuncData
  F_law : Fun K "law" "law" s_law a_law d_law
  b_law : Binds K d_law ["script"] []
  g_law : mg "law" = some (.ref a_law)
  m_all : mg "all" = none
  m_any : mg "any" = none
  m_bool : mg "bool" = none
  m_enumerate : mg "enumerate" = none
  m_int : mg "int" = none
  m_isinstance : mg "isinstance" = none
  m_len : mg "len" = none
  m_list : mg "list" = none
  m_max : mg "max" = none
  m_min : mg "min" = none
  m_range : mg "range" = none
  m_sorted : mg "sorted" = none
  m_sum : mg "sum" = none
  m_tuple : mg "tuple" = none
  m_zip : mg "zip" = none
  t_MOST_BOUND : Tok
  g_MOST_BOUND : mg "MOST_BOUND" = some (.int 60 t_MOST_BOUND)
  t_MOST_COMERS : Tok
  g_MOST_COMERS : mg "MOST_COMERS" = some (.int 4 t_MOST_COMERS)
  t_MOST_ITEMS : Tok
  g_MOST_ITEMS : mg "MOST_ITEMS" = some (.int 60 t_MOST_ITEMS)
  t_MOST_LENGTH : Tok
  g_MOST_LENGTH : mg "MOST_LENGTH" = some (.int 40 t_MOST_LENGTH)
  t_MOST_LOOPS : Tok
  g_MOST_LOOPS : mg "MOST_LOOPS" = some (.int 8 t_MOST_LOOPS)
  t_MOST_SPOTS : Tok
  g_MOST_SPOTS : mg "MOST_SPOTS" = some (.int 60 t_MOST_SPOTS)
  t_MOST_TICKS : Tok
  g_MOST_TICKS : mg "MOST_TICKS" = some (.int 400 t_MOST_TICKS)
  c_Table : Addr
  g_Table : mg "Table" = some (.ref c_Table)
  a_Table___init__ : Addr
  d_Table___init__ : FuncData
  F_Table___init__ : Fun K "__init__" "Table.__init__" s_Table___init__ a_Table___init__ d_Table___init__
  b_Table___init__ : Binds K d_Table___init__ ["self", "loops", "rows"] []
  mk_Table : Mk K c_Table a_Table___init__
  cl_Table : Cls K c_Table
  n_Table_loops : NoAttr K c_Table "loops"
  n_Table_rows : NoAttr K c_Table "rows"
  n_Table_bound : NoAttr K c_Table "bound"
def tv (l : Ln.Let) : List V := [.int l.1, .int l.2.1, wv l.2.2]
/-- comings that are right -/
def Rt (k : Int) (cs : List Int) : Prop := cs.length ≤ 400 ∧ ∀ c ∈ cs, 0 ≤ c ∧ c ≤ k
theorem Rt.four {k : Int} {cs : List Int} (h : Rt k cs) (hk : k ≤ 4) : ∀ c ∈ cs, c ≤ 4 := fun c hc => by
  have := h.2 c hc
  omega
theorem Rt.all {k : Int} {cs : List Int} (h : Rt k cs) : (cs.all fun n => decide (0 ≤ n) && decide (n ≤ k)) = true := by
  rw [List.all_eq_true]
  intro n hn
  have := h.2 n hn
  rw [Bool.and_eq_true]
  exact ⟨decide_eq_true this.1, decide_eq_true this.2⟩

section
variable {P : Program} {w : World} {K : PySem.W.Frag} {mg : Str → Option Value} {base : Heap}
def spTape (K : PySem.W.Frag) : Sp := fun vs H Q _ => ∃ (a : Addr) (ns : List Int), vs = [.ref a] ∧ SqL K H a (ns.map V.int) ∧ ∀ t s H', H t = none → H s = none → Same H H' → Tape H' t s → Q (.ref t) H'
theorem ok__law_tape (T : Tx K mg) : FnOk P w K mg base CX0 1 T.a__law_tape T.d__law_tape ["script"] (spTape K) := by
  refine T.F__law_tape.ok sc__law_tape (fun vs H Q E h => ?_) (fun cdv A outer s H vs Q E hr h => ?_)
  · obtain ⟨a, ns, rfl, _⟩ := h
    rfl
  · obtain ⟨a, ns, rfl, hS, q⟩ := h
    refine ⟨_, ((pss_one (ps_ret (pe_lst (pa_cons (pe_callTy call_list_of (by rfl) T.m_list (by decide +kernel) (pa_cons (pv 0) pa_nil)) (pa_cons pe_int (pa_cons pe_int (pa_cons pe_int (pa_cons pe_int pa_nil))))))))), ?_⟩
    refine ⟨.ref a, rfl, a, _, rfl, .inl hS, fun l nl => ?_⟩
    refine ⟨by show 5 ≤ sizeLine; decide, fun t nt => ?_⟩
    have nlt : l ≠ t := fun e => by
      rw [← e, upd_same] at nt
      cases nt
    have s1 : Same H (upd H l (.lst (ns.map V.int))) := same_upd nl
    refine q t l _ (Same.free s1 nt) nl (s1.trans (same_upd nt)) ⟨ns, 0, 0, 1, 0, nlt, upd_same, ?_, by decide⟩
    rw [upd_ne nlt, upd_same]
def spPick (K : PySem.W.Frag) : Sp := fun vs H Q _ => ∃ (t s : Addr) (n : Int), vs = [.ref t, .int n] ∧ (0 < n ∧ n < 2 ^ 60) ∧ Tape H t s ∧ ∀ r H', 0 ≤ r → r < n → Moved t H H' → Tape H' t s → Q (.int r) H'
theorem fm_of {a b : Int} (h : 0 < b) : 0 ≤ a.fmod b ∧ a.fmod b < b := by
  rw [Int.fmod_eq_emod_of_nonneg a (Int.le_of_lt h)]
  exact ⟨Int.emod_nonneg a (by omega), Int.emod_lt_of_pos a h⟩
theorem ok__law_pick (T : Tx K mg) : FnOk P w K mg base CX0 1 T.a__law_pick T.d__law_pick ["tape", "size"] (spPick K) := by
  refine T.F__law_pick.ok sc__law_pick (fun vs H Q E h => ?_) (fun cdv A outer s H vs Q E hr h => ?_)
  · obtain ⟨t, l, n, rfl, _⟩ := h
    rfl
  · obtain ⟨t, l, n, rfl, ⟨hn, hn2⟩, ⟨ns, pos, rest, mx, ct, hlt, ht, hl, hp⟩, q⟩ := h
    have wd : ∀ i : Int, CDivW i n := fun i => wide_div hn (b := 60) (by omega) (by decide) (by decide)
    refine ⟨_, ((pss_cons (ps_if (pt_cmpR op_gt (pe_ix ix_list (pv 0) pe_int (fun _ _ => rfl)) pe_int (nomark _)) (pss_cons (ps_set (i := 2) sc__law_pick.nd rfl (.inl rfl) (pe_op op_modN (pe_callTy call_int1 (by rfl) T.m_int (by decide +kernel) (pa_cons (pe_ix ix_list (pv 0) pe_int (fun _ _ => rfl)) pa_nil)) (pv 1)))
  (pss_cons (ps_asg (pe_op op_fdivW (pe_ix ix_list (pv 0) pe_int (fun _ _ => rfl)) (pv 1)) (pg_sub (pv 0) pe_int set_list))
  (pss_one (ps_ret (pv 2))))) pss_nil)
  (pss_cons (ps_asg (pe_op op_add (pe_ix ix_list (pv 0) pe_int (fun _ _ => rfl)) pe_int) (pg_sub (pv 0) pe_int set_list))
  (pss_cons (ps_set (i := 3) sc__law_pick.nd rfl (.inl rfl) pe_int)
  (Evl.pss_cut (ps_if (pt_cmpR op_lt (pe_ix ix_list (pv 0) pe_int (fun _ _ => rfl)) (pe_callB call_len_seq (by rfl) T.m_len PySem.boot_len (pa_cons (pe_ix ix_list (pv 0) pe_int (fun _ _ => rfl)) pa_nil)) (nomark _)) (pss_cons (ps_set (i := 3) sc__law_pick.nd rfl (.inl rfl) (pe_ix ix_list (pe_ix ix_list (pv 0) pe_int (fun _ _ => rfl)) (pe_ix ix_list (pv 0) pe_int (fun _ _ => rfl)) (fun _ _ => rfl)))
  (pss_one (ps_asg (pe_op op_add (pe_ix ix_list (pv 0) pe_int (fun _ _ => rfl)) pe_int) (pg_sub (pv 0) pe_int set_list)))) pss_nil)
  (pss_cons (ps_if (pt_cmpR op_ge (pv 3) (pe_op op_pow pe_int pe_int) (nomark _)) (pss_cons (ps_asg (pe_op op_fdivW (pv 3) (pv 1)) (pg_sub (pv 0) pe_int set_list))
  (pss_one (ps_ret (pe_op op_modN (pe_callTy call_int1 (by rfl) T.m_int (by decide +kernel) (pa_cons (pv 3) pa_nil)) (pv 1))))) pss_nil)
  (pss_cons (ps_set (i := 4) sc__law_pick.nd rfl (.inl rfl) (pe_op op_modN (pe_callTy call_int1 (by rfl) T.m_int (by decide +kernel) (pa_cons (pe_op op_add (pe_op op_add (pe_op op_mul (pe_ix ix_list (pv 0) pe_int (fun _ _ => rfl)) pe_int) (pe_op op_modN (pe_callTy call_int1 (by rfl) T.m_int (by decide +kernel) (pa_cons (pv 3) pa_nil)) pe_int)) (pe_op op_mul (pe_ix ix_list (pv 0) pe_int (fun _ _ => rfl)) pe_int)) pa_nil)) pe_int))
  (pss_cons (ps_set (i := 4) sc__law_pick.nd rfl (.inl rfl) (pe_op op_modN (pe_callTy call_int1 (by rfl) T.m_int (by decide +kernel) (pa_cons (pe_op op_mul (pv 4) (pe_op op_add (pe_op op_fdivW (pv 4) pe_int) pe_int)) pa_nil)) pe_int))
  (pss_cons (ps_asg (pv 4) (pg_sub (pv 0) pe_int set_list))
  (pss_one (ps_ret (pe_op op_modN (pe_callTy call_int1 (by rfl) T.m_int (by decide +kernel) (pa_cons (pe_op op_fdivW (pv 4) pe_int) pa_nil)) (pv 1))))))))))))), ?_⟩
    -- tape[2] > 1
    refine ⟨.ref t, rfl, t, _, 2, _, rfl, rfl, SqL.of ht, atI_nat (j := 2) rfl, _, _, rfl, rfl, _, rfl, ite2 (fun h1 => ?_) (fun h1 => ?_)⟩
    · -- digit
      refine ⟨.ref t, rfl, t, _, 2, _, rfl, rfl, SqL.of ht, atI_nat (j := 2) rfl, .inl ⟨_, rfl, ?_⟩⟩
      refine ⟨.int n, rfl, _, _, rfl, rfl, by omega, ?_⟩
      -- tape[2] = tape[2] // size
      refine ⟨.ref t, rfl, t, _, 2, _, rfl, rfl, SqL.of ht, atI_nat (j := 2) rfl, .int n, rfl, _, _, rfl, rfl, wd _, ?_⟩
      refine ⟨.ref t, rfl, t, _, 2, 2, rfl, rfl, ht, rfl, ?_⟩
      -- return digit
      refine ⟨_, rfl, ?_⟩
      refine q _ _ (fm_of hn).1 (fm_of hn).2 Moved.upd ⟨ns, pos, _, mx, ct, hlt, upd_same, ?_, hp⟩
      rw [upd_ne hlt]
      exact hl
    · -- tape[4] = tape[4] + 1
      refine ⟨.ref t, rfl, t, _, 4, _, rfl, rfl, SqL.of ht, atI_nat (j := 4) rfl, _, _, rfl, rfl, ?_⟩
      refine ⟨.ref t, rfl, t, _, 4, 4, rfl, rfl, ht, rfl, ?_⟩
      -- cell = 0; the first cut
      refine ⟨fun σ' H1 => ∃ (cell p2 : Int) (σ3 σ4 : Option V), σ' = [some (.ref t), some (.int n), σ3, some (.int cell), σ4] ∧ 0 ≤ p2 ∧ H1 t = some (.lst [.ref l, .int p2, .int rest, .int mx, .int (ct + 1)]) ∧ H1 l = some (.lst (ns.map V.int)) ∧ Moved t H H1, ?_, fun σ' H1 hm => ?_⟩
      · have hl1 : (upd H t (.lst [.ref l, .int pos, .int rest, .int mx, .int (ct + 1)])) l = some (.lst (ns.map V.int)) := by
          rw [upd_ne hlt]
          exact hl
        refine ⟨.ref t, rfl, t, _, 1, _, rfl, rfl, SqL.of upd_same, atI_nat (j := 1) rfl, .ref t, rfl, t, _, 0, _, rfl, rfl, SqL.of upd_same, atI_nat (j := 0) rfl, l, _, rfl, .inl (SqL.of hl1), _, _, rfl, rfl, _, rfl, ite2 (fun h2 => ?_) (fun h2 => ?_)⟩
        · have h3 : pos < ((ns.map V.int).length : Int) := of_decide_eq_true h2
          obtain ⟨j, rfl⟩ : ∃ j : Nat, pos = (j : Int) := ⟨pos.toNat, by omega⟩
          have hj : j < ns.length := by
            rw [List.length_map] at h3
            omega
          have gj : (ns.map V.int)[j]? = some (.int ns[j]) := by
            rw [List.getElem?_map, List.getElem?_eq_getElem hj]
            rfl
          -- cell = tape[0][tape[1]]
          refine ⟨.ref t, rfl, t, _, 0, _, rfl, rfl, SqL.of upd_same, atI_nat (j := 0) rfl, .ref t, rfl, t, _, 1, _, rfl, rfl, SqL.of upd_same, atI_nat (j := 1) rfl, l, _, _, _, rfl, rfl, SqL.of hl1, atI_nat gj, ?_⟩
          -- tape[1] = tape[1] + 1
          refine ⟨.ref t, rfl, t, _, 1, _, rfl, rfl, SqL.of upd_same, atI_nat (j := 1) rfl, _, _, rfl, rfl, ?_⟩
          refine ⟨.ref t, rfl, t, _, 1, 1, rfl, rfl, upd_same, rfl, ?_⟩
          rw [upd_upd]
          exact ⟨_, _, _, _, rfl, by omega, upd_same, (by rw [upd_ne hlt]; exact hl), Moved.upd⟩
        · exact ⟨_, _, _, _, rfl, hp, upd_same, hl1, Moved.upd⟩
      · obtain ⟨cell, p2, σ3, σ4, rfl, hp2, ht1, hl1, mv⟩ := hm
        -- cell >= 10 ** 18
        refine ⟨.int cell, rfl, 10, 18, rfl, rfl, ⟨by decide, by decide, by decide⟩, _, _, rfl, rfl, _, rfl, ite2 (fun h2 => ?_) (fun h2 => ?_)⟩
        · refine ⟨.int cell, rfl, .int n, rfl, _, _, rfl, rfl, wd _, .ref t, rfl, t, _, 2, 2, rfl, rfl, ht1, rfl, ?_⟩
          refine ⟨.int cell, rfl, .inl ⟨_, rfl, .int n, rfl, _, _, rfl, rfl, by omega, ?_⟩⟩
          refine q _ _ (fm_of hn).1 (fm_of hn).2 (mv.trans Moved.upd) ⟨ns, p2, _, mx, _, hlt, upd_same, ?_, hp2⟩
          rw [upd_ne hlt]
          exact hl1
        · -- mixed = ..
          refine ⟨.ref t, rfl, t, _, 3, _, rfl, rfl, SqL.of ht1, atI_nat (j := 3) rfl, _, _, rfl, rfl, .inr ⟨by decide, by decide⟩, ?_⟩
          refine ⟨.int cell, rfl, .inl ⟨_, rfl, _, _, rfl, rfl, (by show (2147483629 : Int) ≠ 0; decide), _, _, rfl, rfl, ?_⟩⟩
          refine ⟨.ref t, rfl, t, _, 4, _, rfl, rfl, SqL.of ht1, atI_nat (j := 4) rfl, _, _, rfl, rfl, .inr ⟨by decide, by decide⟩, _, _, rfl, rfl, ?_⟩
          refine .inl ⟨_, rfl, _, _, rfl, rfl, (by show (2147483647 : Int) ≠ 0; decide), ?_⟩
          have bm := fm_of (a := mx * 48271 + cell.fmod 2147483629 + (ct + 1) * 69621) (b := 2147483647) (by decide)
          -- mixed = int(mixed * ..) % ..
          refine ⟨_, rfl, _, rfl, _, _, rfl, rfl, ⟨by decide, by decide⟩, _, _, rfl, rfl, _, _, rfl, rfl, .inl ⟨Int.lt_of_lt_of_le (by decide) bm.1, Int.lt_trans bm.2 (by decide)⟩, .inl ⟨_, rfl, _, _, rfl, rfl, (by show (2147483399 : Int) ≠ 0; decide), ?_⟩⟩
          -- tape[3] = mixed
          refine ⟨_, rfl, .ref t, rfl, t, _, 3, 3, rfl, rfl, ht1, rfl, ?_⟩
          refine ⟨_, rfl, _, _, rfl, rfl, ⟨by decide, by decide⟩, .inl ⟨_, rfl, .int n, rfl, _, _, rfl, rfl, by omega, ?_⟩⟩
          refine q _ _ (fm_of hn).1 (fm_of hn).2 (mv.trans Moved.upd) ⟨ns, p2, _, _, _, hlt, upd_same, ?_, hp2⟩
          rw [upd_ne hlt]
          exact hl1
end

section
variable {P : Program} {w : World} {K : PySem.W.Frag} {mg : Str → Option Value} {base : Heap}
def spIsInt (K : PySem.W.Frag) : Sp := fun vs H Q _ => ∃ i : Int, vs = [.int i] ∧ Q (.bl true) H
theorem ok_is_integer (T : Tx K mg) : FnOk P w K mg base CX0 1 T.a_is_integer T.d_is_integer ["thing"] (spIsInt K) := by
  refine T.F_is_integer.ok sc_is_integer (fun vs H Q E h => ?_) (fun cdv A outer s H vs Q E hr h => ?_)
  · obtain ⟨i, rfl, _⟩ := h
    rfl
  · obtain ⟨i, rfl, q⟩ := h
    refine ⟨_, ((pss_one (ps_ret (pe_and (pe_callB call_isi (by rfl) T.m_isinstance (by decide +kernel) (pa_cons (pv 0) (pa_cons (pe_bltn (v := .ty "int") (by rfl) T.m_int (by decide +kernel) rfl) pa_nil))) (pe_one (pe_not (pe_callB call_isi (by rfl) T.m_isinstance (by decide +kernel) (pa_cons (pv 0) (pa_cons (pe_bltn (v := .ty "bool") (by rfl) T.m_bool (by decide +kernel) rfl) pa_nil))))))))), ?_⟩
    refine ⟨.int i, rfl, .int i, .ty "int", _, _, true, rfl, .ty _, .base (.int i), kit_ty (by decide +kernel), true, rfl, iteT ?_⟩
    refine ⟨.int i, rfl, .int i, .ty "bool", _, _, false, rfl, .ty _, .base (.int i), kit_ty (by decide +kernel), false, rfl, ?_⟩
    exact q
def spIsNum (K : PySem.W.Frag) : Sp := fun vs H Q _ => ∃ i a b : Int, vs = [.int i, .int a, .int b] ∧ Q (.bl (decide (a ≤ i) && decide (i ≤ b))) H
theorem ok_is_number (T : Tx K mg) : FnOk P w K mg base CX0 2 T.a_is_number T.d_is_number ["thing", "least", "most"] (spIsNum K) := by
  refine T.F_is_number.ok sc_is_number (fun vs H Q E h => ?_) (fun cdv A outer s H vs Q E hr h => ?_)
  · obtain ⟨i, a, b, rfl, _⟩ := h
    rfl
  · obtain ⟨i, a, b, rfl, q⟩ := h
    refine ⟨_, ((pss_one (ps_ret (pe_and (pe_call (ok_is_integer T) (hr.mono (by decide)) (by rfl) T.g_is_integer T.F_is_integer.kp T.b_is_integer .nil pass0 (pa_cons (pv 0) pa_nil)) (pe_one (pe_chain op_le op_le (pv 1) (pv 0) (pv 2))))))), ?_⟩
    refine ⟨.int i, rfl, i, rfl, true, rfl, iteT ?_⟩
    refine ⟨.int a, rfl, .int i, rfl, a, i, rfl, rfl, _, rfl, ?_⟩
    by_cases h : a ≤ i
    · rw [decide_eq_true h] at q ⊢
      refine iteT ⟨.int b, rfl, i, b, rfl, rfl, ?_⟩
      exact q
    · rw [decide_eq_false h] at q ⊢
      exact iteF q
def spAreNums (K : PySem.W.Frag) : Sp := fun vs H Q _ => ∃ (a : Addr) (ns : List Int) (lo hi : Int), vs = [.ref a, .int lo, .int hi] ∧ SqT K H a (ns.map V.int) ∧ ns.length ≤ 1000 ∧
  ∀ H', Same H H' → Q (.bl (ns.all fun n => decide (lo ≤ n) && decide (n ≤ hi))) H'
theorem ok_are_numbers (T : Tx K mg) : FnOk P w K mg base CX0 3 T.a_are_numbers T.d_are_numbers ["things", "least", "most"] (spAreNums K) := by
  refine T.F_are_numbers.ok sc_are_numbers (fun vs H Q E h => ?_) (fun cdv A outer s H vs Q E hr h => ?_)
  · obtain ⟨a, ns, lo, hi, rfl, _⟩ := h
    rfl
  · obtain ⟨a, ns, lo, hi, rfl, hT, hlen, q⟩ := h
    refine ⟨_, ((pss_one (ps_ret (pe_callB (cr_all rfl) (by rfl) T.m_all (by decide +kernel) (pa_cons (pe_lc (own := [("thing", 3)]) (g := (gName 3)) (tt := tYes) rfl sc_are_numbers.nd (pi_tup (pv 0)) (blkOk_by (own := [("thing", 3)]) (N := ["things", "least", "most", "thing"]) (sc := defScope s_are_numbers) (by decide +kernel)) (fun _ _ _ _ _ => pg_name (i := 3) sc_are_numbers.nd rfl (.inl rfl)) (fun _ _ _ _ _ => pts_nil) (fun _ _ _ _ _ => (pe_call (ok_is_number T) (hr.mono (by decide)) (by rfl) T.g_is_number T.F_is_number.kp T.b_is_number .nil pass0 (pa_cons (pv 3) (pa_cons (pv 1) (pa_cons (pv 2) pa_nil)))))) pa_nil))))), ?_⟩
    refine ⟨.ref a, rfl, a, rfl, ⟨_, hT⟩, fun D hD => lc_tup (K := K) (a := a) (xs := ns.map V.int)
      (fun i H' => Same H H' ∧ H D = none ∧ H' D = some (.lst (((ns.take i).map fun n => decide (lo ≤ n) && decide (n ≤ hi)).map V.bl)))
      ⟨same_upd hD, hD, upd_same⟩ (fun i H' _ p => sT p.1 hT) (fun i x H' hx p => ?_) (fun H' p => ?_)⟩
    · obtain ⟨sm, nD, eD⟩ := p
      rw [List.getElem?_map] at hx
      obtain ⟨n, hn, rfl⟩ := Option.map_eq_some_iff.mp hx
      refine ⟨rfl, ?_⟩
      refine ⟨.int n, rfl, .int lo, rfl, .int hi, rfl, n, lo, hi, rfl, ?_⟩
      have hi' : i < ns.length := (List.getElem?_eq_some_iff.mp hn).1
      refine ⟨_, eD, ?_, ?_⟩
      · rw [List.length_map, List.length_map, List.length_take]
        exact small1000 (by omega)
      · refine ⟨fun b o e => ?_, nD, ?_⟩
        · rw [upd_ne (ne_of_none e nD)]
          exact sm b o e
        · rw [upd_same, List.take_add_one, hn, List.map_append, List.map_append]
          rfl
    · obtain ⟨sm, nD, eD⟩ := p
      rw [List.length_map, List.take_of_length_le (Nat.le_refl _)] at eD
      refine ⟨D, _, rfl, SqL.of eD, ?_⟩
      have e2 : ((ns.map fun n => decide (lo ≤ n) && decide (n ≤ hi)).all id) = ns.all fun n => decide (lo ≤ n) && decide (n ≤ hi) := by
        rw [List.all_map]
        rfl
      rw [e2]
      exact q H' sm
end

section
variable {P : Program} {w : World} {K : PySem.W.Frag} {mg : Str → Option Value} {base : Heap}
theorem good_all {ns : List Int} (g : Rch.Good ns) : (ns.all fun n => decide (1 ≤ n) && decide (n ≤ 40)) = true := by
  rw [List.all_eq_true]
  intro n hn
  have := g.2.2 n hn
  rw [Bool.and_eq_true]
  exact ⟨decide_eq_true this.1, decide_eq_true this.2⟩
def spIsLoops (K : PySem.W.Frag) : Sp := fun vs H Q _ => ∃ (a : Addr) (ns : List Int), vs = [.ref a] ∧ SqT K H a (ns.map V.int) ∧ Rch.Good ns ∧ ∀ H', Same H H' → Q (.bl true) H'
theorem ok_is_loops (T : Tx K mg) : FnOk P w K mg base CX0 4 T.a_is_loops T.d_is_loops ["thing"] (spIsLoops K) := by
  refine T.F_is_loops.ok sc_is_loops (fun vs H Q E h => ?_) (fun cdv A outer s H vs Q E hr h => ?_)
  · obtain ⟨a, ns, rfl, _⟩ := h
    rfl
  · obtain ⟨a, ns, rfl, hT, g, q⟩ := h
    refine ⟨_, ((pss_one (ps_ret (pe_and (pe_callB call_isi (by rfl) T.m_isinstance (by decide +kernel) (pa_cons (pv 0) (pa_cons (pe_bltn (v := .ty "tuple") (by rfl) T.m_tuple (by decide +kernel) rfl) pa_nil))) (pe_and (pe_chain op_le op_le pe_int (pe_callB call_len_seq (by rfl) T.m_len PySem.boot_len (pa_cons (pv 0) pa_nil)) (pe_glob (v := .int 8) rfl T.g_MOST_LOOPS ⟨_, rfl⟩)) (pe_one (pe_call (ok_are_numbers T) (hr.mono (by decide)) (by rfl) T.g_are_numbers T.F_are_numbers.kp T.b_are_numbers .nil pass0 (pa_cons (pv 0) (pa_cons pe_int (pa_cons (pe_glob (v := .int 40) rfl T.g_MOST_LENGTH ⟨_, rfl⟩) pa_nil)))))))))), ?_⟩
    refine ⟨.ref a, rfl, .ref a, .ty "tuple", _, _, true, rfl, .ty _, tyTup hT, kit_ty (by decide +kernel), true, rfl, iteT ?_⟩
    have g1 := g.1
    have g2 := g.2.1
    refine ⟨.ref a, rfl, a, _, rfl, .inr hT, 1, _, rfl, rfl, true, ?_, iteT ⟨_, 8, rfl, rfl, true, ?_, iteT ?_⟩⟩
    · show V.bl (decide ((1 : Int) ≤ ((ns.map V.int).length : Int))) = V.bl true
      rw [List.length_map, decide_eq_true (by omega)]
    · show V.bl (decide (((ns.map V.int).length : Int) ≤ (8 : Int))) = V.bl true
      rw [List.length_map, decide_eq_true (by omega)]
    · refine ⟨.ref a, rfl, a, ns, 1, 40, rfl, hT, by omega, fun H' sm => ?_⟩
      have e := good_all g
      rw [e]
      exact q H' sm
end

/-! ### the checks -/
section
variable {P : Program} {w : World} {K : PySem.W.Frag} {mg : Str → Option Value} {base : Heap}
def spIsComings (K : PySem.W.Frag) : Sp := fun vs H Q _ => ∃ (a : Addr) (cs : List Int) (k : Int), vs = [.int k, .ref a] ∧ SqT K H a (cs.map V.int) ∧ Rt k cs ∧ ∀ H', Same H H' → Q (.bl true) H'
theorem ok_is_comings (T : Tx K mg) : FnOk P w K mg base CX0 4 T.a_is_comings T.d_is_comings ["comers", "thing"] (spIsComings K) := by
  refine T.F_is_comings.ok sc_is_comings (fun vs H Q E h => ?_) (fun cdv A outer s H vs Q E hr h => ?_)
  · obtain ⟨a, cs, k, rfl, _⟩ := h
    rfl
  · obtain ⟨a, cs, k, rfl, hT, g, q⟩ := h
    refine ⟨_, ((pss_one (ps_ret (pe_and (pe_callB call_isi (by rfl) T.m_isinstance (by decide +kernel) (pa_cons (pv 1) (pa_cons (pe_bltn (v := .ty "tuple") (by rfl) T.m_tuple (by decide +kernel) rfl) pa_nil))) (pe_and (pe_cmpR op_le (pe_callB call_len_seq (by rfl) T.m_len PySem.boot_len (pa_cons (pv 1) pa_nil)) (pe_glob (v := .int 400) rfl T.g_MOST_TICKS ⟨_, rfl⟩) (nomark _)) (pe_one (pe_call (ok_are_numbers T) (hr.mono (by decide)) (by rfl) T.g_are_numbers T.F_are_numbers.kp T.b_are_numbers .nil pass0 (pa_cons (pv 1) (pa_cons pe_int (pa_cons (pv 0) pa_nil)))))))))), ?_⟩
    refine ⟨.ref a, rfl, .ref a, .ty "tuple", _, _, true, rfl, .ty _, tyTup hT, kit_ty (by decide +kernel), true, rfl, iteT ?_⟩
    have g1 := g.1
    refine ⟨.ref a, rfl, a, _, rfl, .inr hT, _, 400, rfl, rfl, true, ?_, iteT ?_⟩
    · show V.bl (decide (((cs.map V.int).length : Int) ≤ (400 : Int))) = V.bl true
      rw [List.length_map, decide_eq_true (by omega)]
    · refine ⟨.ref a, rfl, .int k, rfl, a, cs, 0, k, rfl, hT, by omega, fun H' sm => ?_⟩
      have e := g.all
      rw [e]
      exact q H' sm
def spChkComings (K : PySem.W.Frag) : Sp := fun vs H Q _ => ∃ (a : Addr) (cs : List Int) (k : Int), vs = [.int k, .ref a] ∧ SqT K H a (cs.map V.int) ∧ Rt k cs ∧ ∀ H', Same H H' → Q .non H'
theorem ok_check_comings (T : Tx K mg) : FnOk P w K mg base CX0 5 T.a_check_comings T.d_check_comings ["comers", "thing"] (spChkComings K) := by
  refine T.F_check_comings.ok sc_check_comings (fun vs H Q E h => ?_) (fun cdv A outer s H vs Q E hr h => ?_)
  · obtain ⟨a, cs, k, rfl, _⟩ := h
    rfl
  · obtain ⟨a, cs, k, rfl, hT, g, q⟩ := h
    refine ⟨_, ((pss_one (ps_if (pt_not (pt_val (pe_call (ok_is_comings T) (hr.mono (by decide)) (by rfl) T.g_is_comings T.F_is_comings.kp T.b_is_comings .nil pass0 (pa_cons (pv 0) (pa_cons (pv 1) pa_nil))))) (pss_one ps_never) pss_nil))), ?_⟩
    refine ⟨.int k, rfl, .ref a, rfl, a, cs, k, rfl, hT, g, fun H' sm => ⟨true, rfl, iteF ?_⟩⟩
    exact q H' sm
def spChkNum (lo hi : Int) (K : PySem.W.Frag) : Sp := fun vs H Q _ => ∃ k : Int, vs = [.int k] ∧ lo ≤ k ∧ k ≤ hi ∧ Q .non H
theorem ok_check_comers (T : Tx K mg) : FnOk P w K mg base CX0 3 T.a_check_comers T.d_check_comers ["thing"] (spChkNum 2 4 K) := by
  refine T.F_check_comers.ok sc_check_comers (fun vs H Q E h => ?_) (fun cdv A outer s H vs Q E hr h => ?_)
  · obtain ⟨k, rfl, _⟩ := h
    rfl
  · obtain ⟨k, rfl, h1, h2, q⟩ := h
    refine ⟨_, ((pss_one (ps_if (pt_not (pt_val (pe_call (ok_is_number T) (hr.mono (by decide)) (by rfl) T.g_is_number T.F_is_number.kp T.b_is_number .nil pass0 (pa_cons (pv 0) (pa_cons pe_int (pa_cons (pe_glob (v := .int 4) rfl T.g_MOST_COMERS ⟨_, rfl⟩) pa_nil)))))) (pss_one ps_never) pss_nil))), ?_⟩
    refine ⟨.int k, rfl, k, 2, 4, rfl, true, ?_, iteF ?_⟩
    · rw [decide_eq_true h1, decide_eq_true h2]
      rfl
    · exact q
theorem ok_check_bound (T : Tx K mg) : FnOk P w K mg base CX0 3 T.a_check_bound T.d_check_bound ["thing"] (spChkNum 1 60 K) := by
  refine T.F_check_bound.ok sc_check_bound (fun vs H Q E h => ?_) (fun cdv A outer s H vs Q E hr h => ?_)
  · obtain ⟨k, rfl, _⟩ := h
    rfl
  · obtain ⟨k, rfl, h1, h2, q⟩ := h
    refine ⟨_, ((pss_one (ps_if (pt_not (pt_val (pe_call (ok_is_number T) (hr.mono (by decide)) (by rfl) T.g_is_number T.F_is_number.kp T.b_is_number .nil pass0 (pa_cons (pv 0) (pa_cons pe_int (pa_cons (pe_glob (v := .int 60) rfl T.g_MOST_BOUND ⟨_, rfl⟩) pa_nil)))))) (pss_one ps_never) pss_nil))), ?_⟩
    refine ⟨.int k, rfl, k, 1, 60, rfl, true, ?_, iteF ?_⟩
    · rw [decide_eq_true h1, decide_eq_true h2]
      rfl
    · exact q
/-! ### the line -/
def spFollow (K : PySem.W.Frag) : Sp := fun vs H Q _ => ∃ (a : Addr) (cs : List Int) (b k : Int), vs = [.int b, .int 0, .ref a] ∧ SqT K H a (cs.map V.int) ∧ Rt k cs ∧ k ≤ 4 ∧ 0 ≤ b ∧
  ∀ L B p ps H', Same H H' → H L = none → H B = none → L ≠ B → H' L = some (.lst (ps.map V.ref)) → Tups tv H' ps (Ln.letts b cs) → H' B = some (.lst ((Ln.behind b cs cs.length).map V.int)) → H' p = some (.tup [.ref L, .ref B]) → Q (.ref p) H'
theorem ok_follow_line (T : Tx K mg) : FnOk P w K mg base CX0 1 T.a_follow_line T.d_follow_line ["bound", "line", "comings"] (spFollow K) := by
  refine T.F_follow_line.ok sc_follow_line (fun vs H Q E h => ?_) (fun cdv A outer s H vs Q E hr h => ?_)
  · obtain ⟨a, cs, b, k, rfl, _⟩ := h
    rfl
  · obtain ⟨a, cs, b, k, rfl, hT, g, hk, hb, q⟩ := h
    have g4 := g.four hk
    have g1 := g.1
    refine ⟨_, ((pss_cons (ps_set (i := 3) sc_follow_line.nd rfl (.inl rfl) (pe_lst pa_nil))
  (pss_cons (ps_set (i := 4) sc_follow_line.nd rfl (.inl rfl) (pe_lst pa_nil))
  (pss_cons (ps_for PassesOwn.never rfl (RR.pi_enumT (by rfl) T.m_enumerate (pa_cons (pv 2) pa_nil)) (pg_tup rfl (pgs_cons (pg_name (i := 5) sc_follow_line.nd rfl (.inl rfl)) (pgs_cons (pg_name (i := 6) sc_follow_line.nd rfl (.inl rfl)) pgs_nil)))
   (pss_cons (ps_for PassesOwn.never rfl (pi_range2 (by rfl) T.m_range (pa_cons pe_int (pa_cons (pe_op op_add (pv 6) pe_int) pa_nil))) (pg_name (i := 7) sc_follow_line.nd rfl (.inl rfl))
   (pss_one (ps_if (pt_cmpR op_gt (pv 1) (pv 0) (nomark _)) (pss_one (ps_expr (pe_bm PySem.F.plainAttrs_list PySem.F.slot_list_append PySem.F.type_list_append mt_append (pv 3) (pa_cons (pe_tup (pa_cons (pv 5) (pa_cons (pv 7) (pa_cons pe_non pa_nil)))) pa_nil)))) (pss_cons (ps_expr (pe_bm PySem.F.plainAttrs_list PySem.F.slot_list_append PySem.F.type_list_append mt_append (pv 3) (pa_cons (pe_tup (pa_cons (pv 5) (pa_cons (pv 7) (pa_cons (pv 1) pa_nil)))) pa_nil)))
  (pss_one (ps_aug (i := 1) sc_follow_line.nd rfl (.inl rfl) pe_int ip_add))))))
  (Evl.pss_cut (ps_if (pt_cmpR op_gt (pv 1) pe_int (nomark _)) (pss_one (ps_aug (i := 1) sc_follow_line.nd rfl (.inl rfl) pe_int ip_sub)) pss_nil)
  (pss_one (ps_expr (pe_bm PySem.F.plainAttrs_list PySem.F.slot_list_append PySem.F.type_list_append mt_append (pv 4) (pa_cons (pv 1) pa_nil)))))))
  (pss_one (ps_ret (pe_tup (pa_cons (pv 3) (pa_cons (pv 4) pa_nil))))))))), ?_⟩
    refine ⟨Nat.zero_le _, fun L nL => ⟨Nat.zero_le _, fun B nB => ?_⟩⟩
    have hBL : B ≠ L := fun e => by
      rw [e, upd_same] at nB
      cases nB
    have hHB : H B = none := Same.free (same_upd nL) nB
    have s2 : Same H (upd (upd H L (.lst [])) B (.lst [])) := (same_upd nL).trans (same_upd nB)
    refine ⟨.ref a, rfl, a, _, rfl, sT s2 hT, RR.for_enumT (K := K) (xs := cs.map V.int)
      (fun i σ H' => ∃ y5 y6 y7 ps, σ = [some (.int b), some (.int (Ln.pre b cs i).2), some (.ref a), some (.ref L), some (.ref B), y5, y6, y7] ∧ H' L = some (.lst (ps.map V.ref)) ∧ Tups tv H' ps (Ln.pre b cs i).1 ∧ H' B = some (.lst ((Ln.behind b cs i).map V.int)) ∧ Same H H')
      ⟨_, _, _, [], rfl, by rw [upd_ne hBL.symm, upd_same]; rfl, .nil, upd_same, s2⟩ (fun i σ H' _ h => ?_) (fun i x T σ H' hx h nT => ?_) (fun σ H' h => ?_)⟩
    · obtain ⟨_, _, _, _, _, _, _, _, sm⟩ := h
      exact sT sm hT
    · obtain ⟨y5, y6, y7, ps, rfl, eL, tu, eB, sm⟩ := h
      rw [List.getElem?_map] at hx
      obtain ⟨c, hc, rfl⟩ := Option.map_eq_some_iff.mp hx
      have bc := g.2 c (List.mem_of_getElem? hc)
      have ec := Ln.getD_of hc
      have hi : i < cs.length := (List.getElem?_eq_some_iff.mp hc).1
      have smT : Same H' (upd H' T (.tup [.int (i : Nat), .int c])) := same_upd nT
      refine ⟨T, _, rfl, SqT.of upd_same, rfl, _, [_], rfl, _, [], rfl, rfl, ?_⟩
      refine ⟨.int c, rfl, _, _, rfl, rfl, 1, c + 1, rfl, ⟨by omega, by omega, by omega, by omega⟩, for_range (lo := 1) (n := (c + 1 - 1).toNat)
        (fun j σ H2 => ∃ y7 ps, σ = [some (.int b), some (.int (Ln.turns b (i : Int) j (Ln.pre b cs i)).2), some (.ref a), some (.ref L), some (.ref B), some (.int (i : Nat)), some (.int c), y7] ∧ H2 L = some (.lst (ps.map V.ref)) ∧ Tups tv H2 ps (Ln.turns b (i : Int) j (Ln.pre b cs i)).1 ∧ H2 B = some (.lst ((Ln.behind b cs i).map V.int)) ∧ Same H H2)
        ⟨_, ps, rfl, smT _ _ eL, tu.new nT, smT _ _ eB, sm.trans smT⟩ (fun j σ H2 hj h => ?_) (fun σ H2 h => ?_)⟩
      · obtain ⟨y7, ps, rfl, eL, tu, eB, sm⟩ := h
        have zl : ps.length ≤ 1640 := by
          rw [tu.length, Ln.turns_len]
          have := Ln.pre_len (b := b) g4 i
          omega
        refine ⟨_, rfl, _, rfl, _, _, rfl, rfl, _, rfl, ite2 (fun h1 => ?_) (fun h1 => ?_)⟩
        · have hb1 : (Ln.turns b (i : Int) j (Ln.pre b cs i)).2 > b := of_decide_eq_true h1
          have es : Ln.turns b (i : Int) (j + 1) (Ln.pre b cs i) = ((Ln.turns b (i : Int) j (Ln.pre b cs i)).1 ++ [((i : Int), 1 + (j : Int), none)], (Ln.turns b (i : Int) j (Ln.pre b cs i)).2) := if_pos hb1
          refine ⟨.ref L, rfl, .inl ⟨rfl, _, SqL.of eL⟩, _, rfl, _, rfl, by show 3 ≤ sizeLine; decide, fun p np => ?_⟩
          have s3 := same_upd (o := .tup (tv ((i : Int), 1 + (j : Int), none))) np
          refine ⟨L, _, _, rfl, rfl, s3 _ _ eL, by rw [List.length_map]; exact small2000 (by omega), ?_⟩
          refine ⟨_, ps ++ [p], by rw [es]; rfl, by rw [upd_same, List.map_append]; rfl, ?_, ?_, fun b o e => ?_⟩
          · rw [es]
            exact ((tu.new np).snoc (x := ((i : Int), 1 + (j : Int), none)) upd_same).put (s3 _ _ eL)
          · rw [upd_ne hBL]
            exact s3 _ _ eB
          · rw [upd_ne (ne_of_none e nL)]
            exact s3 _ _ (sm _ _ e)
        · have hb1 : ¬ (Ln.turns b (i : Int) j (Ln.pre b cs i)).2 > b := fun z => h1 (decide_eq_true z)
          have es : Ln.turns b (i : Int) (j + 1) (Ln.pre b cs i) = ((Ln.turns b (i : Int) j (Ln.pre b cs i)).1 ++ [((i : Int), 1 + (j : Int), some (Ln.turns b (i : Int) j (Ln.pre b cs i)).2)], (Ln.turns b (i : Int) j (Ln.pre b cs i)).2 + 1) := if_neg hb1
          refine ⟨.ref L, rfl, .inl ⟨rfl, _, SqL.of eL⟩, _, rfl, _, rfl, _, rfl, by show 3 ≤ sizeLine; decide, fun p np => ?_⟩
          have s3 := same_upd (o := .tup (tv ((i : Int), 1 + (j : Int), some (Ln.turns b (i : Int) j (Ln.pre b cs i)).2))) np
          refine ⟨L, _, _, rfl, rfl, s3 _ _ eL, by rw [List.length_map]; exact small2000 (by omega), ?_⟩
          refine ⟨_, rfl, _, _, rfl, rfl, ?_⟩
          refine ⟨_, ps ++ [p], by rw [es]; rfl, by rw [upd_same, List.map_append]; rfl, ?_, ?_, fun b o e => ?_⟩
          · rw [es]
            exact ((tu.new np).snoc (x := ((i : Int), 1 + (j : Int), some (Ln.turns b (i : Int) j (Ln.pre b cs i)).2)) upd_same).put (s3 _ _ eL)
          · rw [upd_ne hBL]
            exact s3 _ _ eB
          · rw [upd_ne (ne_of_none e nL)]
            exact s3 _ _ (sm _ _ e)
      · obtain ⟨y7, ps, rfl, eL, tu, eB, sm⟩ := h
        have en : (c + 1 - 1).toNat = (cs.getD i 0).toNat := by
          rw [ec]
          omega
        rw [en] at tu ⊢
        refine ⟨fun σ' H3 => ∃ y7, σ' = [some (.int b), some (.int (Ln.pre b cs (i + 1)).2), some (.ref a), some (.ref L), some (.ref B), some (.int (i : Nat)), some (.int c), y7] ∧ H3 = H2, ?_, fun σ' H3 hm => ?_⟩
        · refine ⟨_, rfl, _, _, rfl, rfl, _, rfl, ite2 (fun h1 => ?_) (fun h1 => ?_)⟩
          · refine ⟨_, rfl, _, _, rfl, rfl, ?_⟩
            refine ⟨y7, ?_, rfl⟩
            have e : (Ln.pre b cs (i + 1)).2 = (Ln.turns b (i : Int) (cs.getD i 0).toNat (Ln.pre b cs i)).2 - 1 := if_pos (of_decide_eq_true h1)
            rw [e]
            rfl
          · refine ⟨y7, ?_, rfl⟩
            have e : (Ln.pre b cs (i + 1)).2 = (Ln.turns b (i : Int) (cs.getD i 0).toNat (Ln.pre b cs i)).2 := if_neg (fun z => h1 (decide_eq_true z))
            rw [e]
        · obtain ⟨y7, rfl, rfl⟩ := hm
          refine ⟨.ref B, rfl, .inl ⟨rfl, _, SqL.of eB⟩, _, rfl, B, _, _, rfl, rfl, eB, by rw [List.length_map, Ln.behind_len]; exact small1000 (by omega), ?_⟩
          refine ⟨_, _, _, ps, rfl, by rw [upd_ne hBL.symm]; exact eL, tu.put eB, ?_, fun b o e => ?_⟩
          · rw [upd_same]
            show _ = some (HO.lst ((Ln.behind b cs i ++ [(Ln.pre b cs (i + 1)).2]).map V.int))
            rw [List.map_append]
            rfl
          · rw [upd_ne (ne_of_none e hHB)]
            exact sm _ _ e
    · obtain ⟨y5, y6, y7, ps, rfl, eL, tu, eB, sm⟩ := h
      rw [List.length_map] at tu eB
      refine ⟨.ref L, rfl, .ref B, rfl, by show 2 ≤ sizeLine; decide, fun p np => ?_⟩
      have s3 := same_upd (o := .tup [.ref L, .ref B]) np
      exact q L B p ps _ (sm.trans s3) nL hHB hBL.symm (s3 _ _ eL) (tu.new np) (s3 _ _ eB) upd_same
def spLetters (K : PySem.W.Frag) : Sp := fun vs H Q _ => ∃ (a : Addr) (cs : List Int) (b k : Int), vs = [.int b, .ref a] ∧ SqT K H a (cs.map V.int) ∧ Rt k cs ∧ k ≤ 4 ∧ 0 ≤ b ∧
  ∀ L ps H', Same H H' → H L = none → H' L = some (.lst (ps.map V.ref)) → Tups tv H' ps (Ln.letts b cs) → Q (.ref L) H'
theorem ok_letters_of (T : Tx K mg) : FnOk P w K mg base CX0 2 T.a_letters_of T.d_letters_of ["bound", "comings"] (spLetters K) := by
  refine T.F_letters_of.ok sc_letters_of (fun vs H Q E h => ?_) (fun cdv A outer s H vs Q E hr h => ?_)
  · obtain ⟨a, cs, b, k, rfl, _⟩ := h
    rfl
  · obtain ⟨a, cs, b, k, rfl, hT, g, hk, hb, q⟩ := h
    refine ⟨_, ((pss_cons (ps_asg (pe_call (ok_follow_line T) (hr.mono (by decide)) (by rfl) T.g_follow_line T.F_follow_line.kp T.b_follow_line .nil pass0 (pa_cons (pv 0) (pa_cons pe_int (pa_cons (pv 1) pa_nil)))) (pg_tup rfl (pgs_cons (pg_name (i := 2) sc_letters_of.nd rfl (.inl rfl)) (pgs_cons (pg_name (i := 3) sc_letters_of.nd rfl (.inl rfl)) pgs_nil))))
  (pss_one (ps_ret (pv 2))))), ?_⟩
    refine ⟨.int b, rfl, .ref a, rfl, a, cs, b, k, rfl, hT, g, hk, hb, fun L B p ps H' sm nL nB hLB eL tu eB ep => ?_⟩
    refine ⟨p, _, rfl, SqT.of ep, rfl, _, [_], rfl, _, [], rfl, rfl, ?_⟩
    exact ⟨.ref L, rfl, q L ps H' sm nL eL tu⟩
end

/-! ### tables -/
theorem kRL : ¬ (("rows" : Str) = "loops") := by decide +kernel
theorem kBL : ¬ (("bound" : Str) = "loops") := by decide +kernel
theorem kBR : ¬ (("bound" : Str) = "rows") := by decide +kernel
theorem kLR : ¬ (("loops" : Str) = "rows") := by decide +kernel
theorem kLB : ¬ (("loops" : Str) = "bound") := by decide +kernel
theorem kRB : ¬ (("rows" : Str) = "bound") := by decide +kernel
def tflds (a b : Addr) (n : Int) : List (Str × V) := putF "bound" (.int n) (putF "rows" (.ref b) (putF "loops" (.ref a) []))
theorem tf_loops (a b : Addr) (n : Int) : (tflds a b n).lookup ("loops" : Str) = some (.ref a) := by
  unfold tflds
  rw [lookup_putF, if_neg kLB, lookup_putF, if_neg kLR, lookup_putF, if_pos rfl]
theorem tf_rows (a b : Addr) (n : Int) : (tflds a b n).lookup ("rows" : Str) = some (.ref b) := by
  unfold tflds
  rw [lookup_putF, if_neg kRB, lookup_putF, if_pos rfl]
theorem tf_bound (a b : Addr) (n : Int) : (tflds a b n).lookup ("bound" : Str) = some (.int n) := by
  unfold tflds
  rw [lookup_putF, if_pos rfl]
theorem putF_len (f : Str) (v : V) : ∀ fs : List (Str × V), (putF f v fs).length ≤ fs.length + 1
  | [] => Nat.le_refl _
  | (g, u) :: fs => by
    unfold putF
    split
    · simp
    · have := putF_len f v fs
      simp only [List.length_cons]
      omega
/-- a table stands at p -/
structure TabAt (K : PySem.W.Frag) (C : Addr) (H : Hp) (p : Addr) (ls : List Int) (rs : List (List Int)) : Prop where
  ob : ∃ dx a b ps, H p = some (.ins C dx (tflds a b (rs.length : Int))) ∧ SqT K H a (ls.map V.int) ∧ SqT K H b (ps.map V.ref) ∧ Tups fI H ps rs
theorem TabAt.same {K : PySem.W.Frag} {C : Addr} {H H' : Hp} {p : Addr} {ls : List Int} {rs : List (List Int)} (h : TabAt K C H p ls rs) (e : Same H H') : TabAt K C H' p ls rs := by
  obtain ⟨dx, a, b, ps, h1, h2, h3, h4⟩ := h.ob
  exact ⟨dx, a, b, ps, e _ _ h1, sT e h2, sT e h3, h4.same e⟩
theorem Tups.at {α : Type} {f : α → List V} {H : Hp} {ps : List Addr} {xs : List α} (h : Tups f H ps xs) : ∀ {i : Nat} {x : α}, xs[i]? = some x → ∃ p, (ps.map V.ref)[i]? = some (.ref p) ∧ H p = some (.tup (f x)) := by
  induction h with
  | nil =>
    intro i x h
    simp at h
  | cons a _ ih =>
    intro i x h
    cases i with
    | zero =>
      simp at h
      subst h
      exact ⟨_, rfl, a⟩
    | succ i =>
      simp only [List.map_cons, List.getElem?_cons_succ] at h ⊢
      exact ih h
section
variable {P : Program} {w : World} {K : PySem.W.Frag} {mg : Str → Option Value} {base : Heap}
def spIsRow (K : PySem.W.Frag) : Sp := fun vs H Q _ => ∃ (a r : Addr) (ls row : List Int), vs = [.ref a, .ref r] ∧ SqT K H a (ls.map V.int) ∧ SqT K H r (row.map V.int) ∧ Tb.InR ls row ∧ row.length ≤ 60 ∧ ∀ H', Same H H' → Q (.bl true) H'
theorem ok_is_row (T : Tx K mg) : FnOk P w K mg base CX0 4 T.a_is_row T.d_is_row ["loops", "thing"] (spIsRow K) := by
  refine T.F_is_row.ok sc_is_row (fun vs H Q E h => ?_) (fun cdv A outer s H vs Q E hr h => ?_)
  · obtain ⟨a, r, ls, row, rfl, _⟩ := h
    rfl
  · obtain ⟨a, r, ls, row, rfl, hA, hR, hin, hlen, q⟩ := h
    refine ⟨_, ((pss_one (ps_ret (pe_and (pe_callB call_isi (by rfl) T.m_isinstance (by decide +kernel) (pa_cons (pv 1) (pa_cons (pe_bltn (v := .ty "tuple") (by rfl) T.m_tuple (by decide +kernel) rfl) pa_nil))) (pe_and (pe_cmpR op_le (pe_callB call_len_seq (by rfl) T.m_len PySem.boot_len (pa_cons (pv 1) pa_nil)) (pe_glob (v := .int 60) rfl T.g_MOST_ITEMS ⟨_, rfl⟩) (nomark _)) (pe_one (pe_call (ok_are_numbers T) (hr.mono (by decide)) (by rfl) T.g_are_numbers T.F_are_numbers.kp T.b_are_numbers .nil pass0 (pa_cons (pv 1) (pa_cons pe_int (pa_cons (pe_op op_sub (pe_callB call_len_seq (by rfl) T.m_len PySem.boot_len (pa_cons (pv 0) pa_nil)) pe_int) pa_nil)))))))))), ?_⟩
    refine ⟨.ref r, rfl, .ref r, .ty "tuple", _, _, true, rfl, .ty _, tyTup hR, kit_ty (by decide +kernel), true, rfl, iteT ?_⟩
    refine ⟨.ref r, rfl, r, _, rfl, .inr hR, _, 60, rfl, rfl, true, ?_, iteT ?_⟩
    · show V.bl (decide (((row.map V.int).length : Int) ≤ (60 : Int))) = V.bl true
      rw [List.length_map, decide_eq_true (by omega)]
    · refine ⟨.ref r, rfl, .ref a, rfl, a, _, rfl, .inr hA, _, _, rfl, rfl, r, row, 0, (((ls.map V.int).length : Nat) : Int) - 1, rfl, hR, by omega, fun H' sm => ?_⟩
      have e : (row.all fun n => decide ((0 : Int) ≤ n) && decide (n ≤ (((ls.map V.int).length : Nat) : Int) - 1)) = true := by
        rw [List.all_eq_true]
        intro n hn
        have := hin n hn
        rw [List.length_map, Bool.and_eq_true]
        exact ⟨decide_eq_true this.1, decide_eq_true (by omega)⟩
      rw [e]
      exact q H' sm
def spRowSum (K : PySem.W.Frag) : Sp := fun vs H Q _ => ∃ (a r : Addr) (ls row : List Int), vs = [.ref a, .ref r] ∧ SqT K H a (ls.map V.int) ∧ SqT K H r (row.map V.int) ∧ Tb.InR ls row ∧ row.length ≤ 1000 ∧ ∀ H', Same H H' → Q (.int (Tb.rsum ls row)) H'
theorem ok_row_sum (T : Tx K mg) : FnOk P w K mg base CX0 1 T.a_row_sum T.d_row_sum ["loops", "row"] (spRowSum K) := by
  refine T.F_row_sum.ok sc_row_sum (fun vs H Q E h => ?_) (fun cdv A outer s H vs Q E hr h => ?_)
  · obtain ⟨a, r, ls, row, rfl, _⟩ := h
    rfl
  · obtain ⟨a, r, ls, row, rfl, hA, hR, hin, hlen, q⟩ := h
    refine ⟨_, ((pss_one (ps_ret (pe_callB (cr_sum rfl) (by rfl) T.m_sum (by decide +kernel) (pa_cons (pe_lc (own := [("loop", 2)]) (g := (gName 2)) (tt := tYes) rfl sc_row_sum.nd (pi_tup (pv 1)) (blkOk_by (own := [("loop", 2)]) (N := ["loops", "row", "loop"]) (sc := defScope s_row_sum) (by decide +kernel)) (fun _ _ _ _ _ => pg_name (i := 2) sc_row_sum.nd rfl (.inl rfl)) (fun _ _ _ _ _ => pts_nil) (fun _ _ _ _ _ => (pe_ix (ixTK (K := K) (by rfl)) (pv 0) (pv 2) (fun _ _ => rfl)))) pa_nil))))), ?_⟩
    refine ⟨.ref r, rfl, r, rfl, ⟨_, hR⟩, fun D hD => lc_tup (K := K) (a := r) (xs := row.map V.int)
      (fun i H' => Same H H' ∧ H' D = some (.lst (((row.take i).map (Tb.len1 ls)).map V.int)))
      ⟨same_upd hD, upd_same⟩ (fun i H' _ p => sT p.1 hR) (fun i x H' hx p => ?_) (fun H' p => ?_)⟩
    · obtain ⟨sm, eD⟩ := p
      rw [List.getElem?_map] at hx
      obtain ⟨n, hn, rfl⟩ := Option.map_eq_some_iff.mp hx
      have hk := hin n (List.mem_of_getElem? hn)
      have hi' : i < row.length := (List.getElem?_eq_some_iff.mp hn).1
      refine ⟨rfl, ?_⟩
      refine ⟨.ref a, rfl, .int n, rfl, a, _, _, .int (Tb.len1 ls n), rfl, rfl, sT sm hA, atI_of hk.1 ?_, ?_⟩
      · rw [List.getElem?_map, Tb.len_at hk.1 hk.2]
        rfl
      · refine ⟨_, eD, ?_, fun b o e => ?_, ?_⟩
        · rw [List.length_map, List.length_map, List.length_take]
          exact small1000 (by omega)
        · rw [upd_ne (ne_of_none e hD)]
          exact sm b o e
        · rw [upd_same, take_snoc hn, List.map_append, List.map_append]
          rfl
    · obtain ⟨sm, eD⟩ := p
      rw [List.length_map, List.take_of_length_le (Nat.le_refl _)] at eD
      exact ⟨D, _, rfl, SqL.of eD, q H' sm⟩
def spTInit (K : PySem.W.Frag) (C : Addr) : Sp := fun vs H Q _ => ∃ (p dx a b : Addr) (ls : List Int) (ps : List Addr) (rs : List (List Int)), vs = [.ref p, .ref a, .ref b] ∧ H p = some (.ins C dx []) ∧ SqT K H a (ls.map V.int) ∧ SqT K H b (ps.map V.ref) ∧ Tups fI H ps rs ∧ Tb.Right ls rs ∧
  ∀ H', (∀ c o, c ≠ p → H c = some o → H' c = some o) → H' p = some (.ins C dx (tflds a b (rs.length : Int))) → Q .non H'
theorem ok_Table___init__ (T : Tx K mg) : FnOk P w K mg base CX0 5 T.a_Table___init__ T.d_Table___init__ ["self", "loops", "rows"] (spTInit K T.c_Table) := by
  refine T.F_Table___init__.ok sc_Table___init__ (fun vs H Q E h => ?_) (fun cdv A outer s H vs Q E hr h => ?_)
  · obtain ⟨p, dx, a, b, ls, ps, rs, rfl, _⟩ := h
    rfl
  · obtain ⟨p, dx, a, b, ls, ps, rs, rfl, hp, hA, hB, tu, R, q⟩ := h
    have el := tu.length
    have r1 := R.2.1
    have r2 := R.2.2.1
    refine ⟨_, ((pss_cons (ps_if (pt_not (pt_val (pe_call (ok_is_loops T) (hr.mono (by decide)) (by rfl) T.g_is_loops T.F_is_loops.kp T.b_is_loops .nil pass0 (pa_cons (pv 1) pa_nil)))) (pss_one ps_never) pss_nil)
  (pss_cons (ps_if (PW.pt (pw_or (pt_not (pt_val (pe_callB call_isi (by rfl) T.m_isinstance (by decide +kernel) (pa_cons (pv 2) (pa_cons (pe_bltn (v := .ty "tuple") (by rfl) T.m_tuple (by decide +kernel) rfl) pa_nil))))) (pw_or1 (pt_not (pt_chain op_le op_le pe_int (pe_callB call_len_seq (by rfl) T.m_len PySem.boot_len (pa_cons (pv 2) pa_nil)) (pe_glob (v := .int 60) rfl T.g_MOST_BOUND ⟨_, rfl⟩)))))) (pss_one ps_never) pss_nil)
  (pss_cons (ps_for PassesOwn.never rfl (RR.pi_enumT (by rfl) T.m_enumerate (pa_cons (pv 2) pa_nil)) (pg_tup rfl (pgs_cons (pg_name (i := 3) sc_Table___init__.nd rfl (.inl rfl)) (pgs_cons (pg_name (i := 4) sc_Table___init__.nd rfl (.inl rfl)) pgs_nil)))
   (pss_one (ps_if (PW.pt (pw_or (pt_not (pt_val (pe_call (ok_is_row T) (hr.mono (by decide)) (by rfl) T.g_is_row T.F_is_row.kp T.b_is_row .nil pass0 (pa_cons (pv 1) (pa_cons (pv 4) pa_nil))))) (pw_or1 (pt_cmpR op_ne (pe_call (ok_row_sum T) (hr.mono (by decide)) (by rfl) T.g_row_sum T.F_row_sum.kp T.b_row_sum .nil pass0 (pa_cons (pv 1) (pa_cons (pv 4) pa_nil))) (pe_op op_add (pv 3) pe_int) (nomark _))))) (pss_one ps_never) pss_nil)))
  (pss_cons (ps_fld (pv 0) (pv 1) rfl)
  (pss_cons (ps_fld (pv 0) (pv 2) rfl)
  (pss_one (ps_fld (pv 0) (pe_callB call_len_seq (by rfl) T.m_len PySem.boot_len (pa_cons (pv 2) pa_nil)) rfl)))))))), ?_⟩
    refine ⟨.ref a, rfl, a, ls, rfl, hA, R.1, fun H1 s1 => ⟨true, rfl, iteF ?_⟩⟩
    have hB1 := sT s1 hB
    refine ⟨.ref b, rfl, .ref b, .ty "tuple", _, _, true, rfl, .ty _, tyTup hB1, kit_ty (by decide +kernel), true, rfl, iteF ?_⟩
    refine ⟨.ref b, rfl, b, _, rfl, .inr hB1, 1, _, rfl, rfl, true, ?_, iteT ⟨_, 60, rfl, rfl, true, ?_, iteF ?_⟩⟩
    · show V.bl (decide ((1 : Int) ≤ ((ps.map V.ref).length : Int))) = V.bl true
      rw [List.length_map, decide_eq_true (by omega)]
    · show V.bl (decide (((ps.map V.ref).length : Int) ≤ (60 : Int))) = V.bl true
      rw [List.length_map, decide_eq_true (by omega)]
    · refine ⟨.ref b, rfl, b, _, rfl, hB1, RR.for_enumT (K := K) (xs := ps.map V.ref)
        (fun i σ H' => ∃ y3 y4, σ = [some (.ref p), some (.ref a), some (.ref b), y3, y4] ∧ Same H H')
        ⟨_, _, rfl, s1⟩ (fun i σ H' _ h => ?_) (fun i x X σ H' hx h nX => ?_) (fun σ H' h => ?_)⟩
      · obtain ⟨_, _, _, sm⟩ := h
        exact sT sm hB
      · obtain ⟨y3, y4, rfl, sm⟩ := h
        obtain ⟨r, row, rfl, hrow, er⟩ := tu.get hx
        obtain ⟨hin, hl60, hsum⟩ := R.2.2.2 i row hrow
        have sX := same_upd (o := .tup [.int (i : Nat), .ref r]) nX
        have sm2 := sm.trans sX
        refine ⟨X, _, rfl, SqT.of upd_same, rfl, _, [_], rfl, _, [], rfl, rfl, ?_⟩
        refine ⟨.ref a, rfl, .ref r, rfl, a, r, ls, row, rfl, sT sm2 hA, SqT.of (sm2 _ _ er), hin, hl60, fun H2 s2 => ⟨true, rfl, iteF ?_⟩⟩
        have sm3 := sm2.trans s2
        refine ⟨.ref a, rfl, .ref r, rfl, a, r, ls, row, rfl, sT sm3 hA, SqT.of (sm3 _ _ er), hin, by omega, fun H3 s3 => ?_⟩
        refine ⟨_, rfl, _, _, rfl, rfl, rfl, false, ne_no hsum, iteF ?_⟩
        exact ⟨_, _, rfl, sm3.trans s3⟩
      · obtain ⟨y3, y4, rfl, sm⟩ := h
        have hp1 := sm _ _ hp
        have hab : ∀ {X : Hp} {c : Addr} {xs : List V} {o : HO} {fs : List (Str × V)}, X p = some (.ins T.c_Table dx fs) → SqT K X c xs → SqT K (upd X p o) c xs := fun {X c xs o fs} h1 h2 => by
          rcases h2 with (h2 | ⟨z, h2⟩) | h2
          · exact .inl (.inl (by rw [upd_ne (fun e => by rw [e, h1] at h2; cases h2)]; exact h2))
          · exact .inl (.inr ⟨z, by rw [upd_ne (fun e => by rw [e, h1] at h2; cases h2)]; exact h2⟩)
          · exact .inr h2
        refine ⟨.ref a, rfl, .ref p, rfl, p, T.c_Table, dx, [], rfl, hp1, T.cl_Table, T.n_Table_loops, by show 0 < 1000; decide, ?_⟩
        refine ⟨.ref b, rfl, .ref p, rfl, p, T.c_Table, dx, _, rfl, upd_same, T.cl_Table, T.n_Table_rows, by show 1 < 1000; decide, ?_⟩
        have hB3 := hab upd_same (hab hp1 (sT sm hB) (o := .ins T.c_Table dx (putF "loops" (.ref a) []))) (o := .ins T.c_Table dx (putF "rows" (.ref b) (putF "loops" (.ref a) [])))
        refine ⟨.ref b, rfl, b, _, rfl, .inr hB3, .ref p, rfl, p, T.c_Table, dx, _, rfl, upd_same, T.cl_Table, T.n_Table_bound, Nat.lt_of_le_of_lt (putF_len _ _ _) (by show 2 < 1000; decide), ?_⟩
        refine q _ (fun c o n e => ?_) ?_
        · rw [upd_ne n, upd_ne n, upd_ne n]
          exact sm _ _ e
        · rw [upd_same, List.length_map, el]
          rfl
end

/-! ### the entries of a row, and of a wait -/
section
variable {P : Program} {w : World} {K : PySem.W.Frag} {mg : Str → Option Value} {base : Heap}
def spRowEnt (K : PySem.W.Frag) : Sp := fun vs H Q _ => ∃ (a r : Addr) (ls row : List Int), vs = [.ref a, .ref r] ∧ SqT K H a (ls.map V.int) ∧ SqT K H r (row.map V.int) ∧ Tb.InR ls row ∧ row.length ≤ 1000 ∧
  ∀ L ps H', Same H H' → H L = none → H' L = some (.lst (ps.map V.ref)) → Tups fI H' ps (Tb.ents ls (Tb.rsum ls row) row) → Q (.ref L) H'
theorem ok_row_entries (T : Tx K mg) : FnOk P w K mg base CX0 2 T.a_row_entries T.d_row_entries ["loops", "row"] (spRowEnt K) := by
  refine T.F_row_entries.ok sc_row_entries (fun vs H Q E h => ?_) (fun cdv A outer s H vs Q E hr h => ?_)
  · obtain ⟨a, r, ls, row, rfl, _⟩ := h
    rfl
  · obtain ⟨a, r, ls, row, rfl, hA, hR, hin, hl, q⟩ := h
    refine ⟨_, ((pss_cons (ps_set (i := 2) sc_row_entries.nd rfl (.inl rfl) (pe_lst pa_nil))
  (pss_cons (ps_set (i := 3) sc_row_entries.nd rfl (.inl rfl) pe_int)
  (pss_cons (ps_set (i := 4) sc_row_entries.nd rfl (.inl rfl) (pe_call (ok_row_sum T) (hr.mono (by decide)) (by rfl) T.g_row_sum T.F_row_sum.kp T.b_row_sum .nil pass0 (pa_cons (pv 0) (pa_cons (pv 1) pa_nil))))
  (pss_cons (ps_for PassesOwn.never rfl (pi_tup (pv 1)) (pg_name (i := 5) sc_row_entries.nd rfl (.inl rfl))
   (pss_cons (ps_expr (pe_bm PySem.F.plainAttrs_list PySem.F.slot_list_append PySem.F.type_list_append mt_append (pv 2) (pa_cons (pe_tup (pa_cons (pv 5) (pa_cons (pv 3) (pa_cons (pv 4) pa_nil)))) pa_nil)))
  (pss_cons (ps_aug (i := 3) sc_row_entries.nd rfl (.inl rfl) (pe_ix ix_tup (pv 0) (pv 5) (fun _ _ => rfl)) ip_add)
  (pss_one (ps_aug (i := 4) sc_row_entries.nd rfl (.inl rfl) (pe_ix ix_tup (pv 0) (pv 5) (fun _ _ => rfl)) ip_sub)))))
  (pss_one (ps_ret (pv 2)))))))), ?_⟩
    refine ⟨Nat.zero_le _, fun L nL => ?_⟩
    have s1 := same_upd (o := .lst []) nL
    refine ⟨.ref a, rfl, .ref r, rfl, a, r, ls, row, rfl, sT s1 hA, sT s1 hR, hin, hl, fun H2 s2 => ?_⟩
    have sA := s1.trans s2
    have eL := s2 _ _ (upd_same (H := H) (a := L) (o := .lst []))
    refine ⟨.ref r, rfl, r, rfl, ⟨_, sT sA hR⟩, for_tup (K := K) (xs := row.map V.int)
      (fun i σ H' => ∃ (y5 : Option V) (qs : List Addr), σ = [some (.ref a), some (.ref r), some (.ref L), some (.int (Tb.rsum ls (row.take i))), some (.int (Tb.rsum ls row - Tb.rsum ls (row.take i))), y5] ∧ H' L = some (.lst (qs.map V.ref)) ∧ Tups fI H' qs ((Tb.ents ls (Tb.rsum ls row) row).take i) ∧ Same H H')
      ⟨_, [], by
        show _ = [some (V.ref a), some (.ref r), some (.ref L), some (.int 0), some (.int (Tb.rsum ls row - 0)), none]
        rw [Int.sub_zero]
        rfl, eL, .nil, sA⟩ (fun i σ H' _ h => ?_) (fun i x σ H' hx h => ?_) (fun σ H' h => ?_)⟩
    · obtain ⟨_, _, _, _, _, sm⟩ := h
      exact sT sm hR
    · obtain ⟨y5, qs, rfl, eL, tq, sm⟩ := h
      rw [List.getElem?_map] at hx
      obtain ⟨k, hk, rfl⟩ := Option.map_eq_some_iff.mp hx
      have bk := hin k (List.mem_of_getElem? hk)
      have hi' : i < row.length := (List.getElem?_eq_some_iff.mp hk).1
      have hg : (Tb.ents ls (Tb.rsum ls row) row)[i]? = some [k, Tb.rsum ls (row.take i), Tb.rsum ls row - Tb.rsum ls (row.take i)] := by
        unfold Tb.ents
        rw [List.getElem?_map, Tb.go_take, hk, Int.zero_add]
        rfl
      have zq : qs.length ≤ 1000 := by
        rw [tq.length, List.length_take]
        omega
      generalize Tb.rsum ls row = W at *
      refine ⟨.ref L, rfl, .inl ⟨rfl, _, SqL.of eL⟩, .int k, rfl, _, rfl, _, rfl, by show 3 ≤ sizeLine; decide, fun t nt => ?_⟩
      have s3 := same_upd (o := .tup [V.int k, .int (Tb.rsum ls (row.take i)), .int (W - Tb.rsum ls (row.take i))]) nt
      refine ⟨L, _, _, rfl, rfl, s3 _ _ eL, by rw [List.length_map]; exact small1000 zq, ?_⟩
      have sm4 : Same H (upd (upd H' t (.tup [V.int k, .int (Tb.rsum ls (row.take i)), .int (W - Tb.rsum ls (row.take i))])) L (.lst (qs.map V.ref ++ [V.ref t]))) := same_put (sm.trans s3) nL
      have at1 : atI (ls.map V.int) k = some (.int (Tb.len1 ls k)) := atI_of bk.1 (by rw [List.getElem?_map, Tb.len_at bk.1 bk.2]; rfl)
      refine ⟨_, rfl, .ref a, rfl, .int k, rfl, a, _, _, _, rfl, rfl, sT sm4 hA, at1, _, _, rfl, rfl, ?_⟩
      refine ⟨_, rfl, .ref a, rfl, .int k, rfl, a, _, _, _, rfl, rfl, sT sm4 hA, at1, _, _, rfl, rfl, ?_⟩
      refine ⟨some (.int k), qs ++ [t], ?_, by rw [upd_same, List.map_append]; rfl, ?_, sm4⟩
      · rw [take_snoc hk, Tb.rsum_snoc]
        show [some (V.ref a), some (.ref r), some (.ref L), some (.int (Tb.rsum ls (row.take i) + Tb.len1 ls k)), some (.int (W - Tb.rsum ls (row.take i) - Tb.len1 ls k)), some (.int k)] = _
        rw [Int.sub_sub]
      · rw [take_snoc hg]
        refine ((tq.new nt).snoc ?_).put (s3 _ _ eL)
        rw [upd_same]
        rfl
    · obtain ⟨y5, qs, rfl, eL, tq, sm⟩ := h
      rw [List.length_map, List.take_of_length_le (by rw [Tb.ents_len]; exact Nat.le_refl _)] at tq
      exact ⟨.ref L, rfl, q L qs H' sm nL eL tq⟩
end

/-! ### the row of a wait, and its entries -/
section
variable {P : Program} {w : World} {K : PySem.W.Frag} {mg : Str → Option Value} {base : Heap}
def spWaitRow (K : PySem.W.Frag) (C : Addr) : Sp := fun vs H Q _ => ∃ (p : Addr) (wt : Int) (ls : List Int) (rs : List (List Int)), vs = [.ref p, .int wt] ∧ TabAt K C H p ls rs ∧ Tb.Right ls rs ∧ 0 ≤ wt ∧ wt ≤ (rs.length : Int) ∧
  ∀ r H', Same H H' → SqT K H' r ((Dy.rowOf rs wt).map V.int) → Q (.ref r) H'
theorem ok_wait_row (T : Tx K mg) : FnOk P w K mg base CX0 1 T.a_wait_row T.d_wait_row ["table", "wait"] (spWaitRow K T.c_Table) := by
  refine T.F_wait_row.ok sc_wait_row (fun vs H Q E h => ?_) (fun cdv A outer s H vs Q E hr h => ?_)
  · obtain ⟨p, m, ls, rs, rfl, _⟩ := h
    rfl
  · obtain ⟨p, wt, ls, rs, rfl, tab, R, hw0, hw1, q⟩ := h
    obtain ⟨dx, a, b, ps, ep, hA, hB, tu⟩ := tab.ob
    refine ⟨_, ((pss_one (ps_ret (pe_ifExp (pt_cmpR op_gt (pv 1) pe_int (nomark _)) (pe_ix ix_tup (pe_fld (pv 0) rfl) (pe_op op_sub (pv 1) pe_int) (fun _ _ => rfl)) (pe_tup pa_nil))))), ?_⟩
    by_cases c0 : wt > 0
    · obtain ⟨hrow, hin, hl60, hsum⟩ := Dy.rowOf_at R c0 hw1
      generalize Dy.rowOf rs wt = row at hrow hin hl60 hsum q
      obtain ⟨r, hr', er⟩ := tu.at hrow
      refine ⟨.int _, rfl, _, _, rfl, rfl, true, congrArg V.bl (decide_eq_true c0), iteT ?_⟩
      refine ⟨.ref p, rfl, p, T.c_Table, dx, _, _, rfl, ep, T.cl_Table, T.n_Table_rows, tf_rows _ _ _, .int _, rfl, _, _, rfl, rfl, b, _, _, _, rfl, rfl, hB, atI_of (by show (0 : Int) ≤ wt - 1; omega) hr', ?_⟩
      exact q r H (fun _ _ e => e) (SqT.of er)
    · have e0 : Dy.rowOf rs wt = [] := if_pos (by omega)
      rw [e0] at q
      refine ⟨.int _, rfl, _, _, rfl, rfl, false, congrArg V.bl (decide_eq_false c0), iteF ?_⟩
      refine ⟨Nat.zero_le _, fun t nt => ?_⟩
      exact q t _ (same_upd nt) (SqT.of upd_same)
theorem rowOf_ok {ls : List Int} {rs : List (List Int)} (R : Tb.Right ls rs) {wt : Int} (h0 : 0 ≤ wt) (h1 : wt ≤ (rs.length : Int)) : Tb.InR ls (Dy.rowOf rs wt) ∧ (Dy.rowOf rs wt).length ≤ 60 ∧ Tb.rsum ls (Dy.rowOf rs wt) = wt := by
  by_cases c : 0 < wt
  · obtain ⟨_, a, b, c⟩ := Dy.rowOf_at R c h1
    exact ⟨a, b, c⟩
  · rw [show Dy.rowOf rs wt = [] from if_pos (by omega)]
    refine ⟨fun k hk => absurd hk (by simp), Nat.zero_le _, ?_⟩
    show (0 : Int) = wt
    omega
def spWaitEnt (K : PySem.W.Frag) (C : Addr) : Sp := fun vs H Q _ => ∃ (p : Addr) (wt : Int) (ls : List Int) (rs : List (List Int)), vs = [.ref p, .int wt] ∧ TabAt K C H p ls rs ∧ Tb.Right ls rs ∧ 0 ≤ wt ∧ wt ≤ (rs.length : Int) ∧
  ∀ L ps H', Same H H' → H L = none → H' L = some (.lst (ps.map V.ref)) → Tups fI H' ps (Tb.ents ls wt (Dy.rowOf rs wt)) → Q (.ref L) H'
theorem ok_wait_entries (T : Tx K mg) : FnOk P w K mg base CX0 3 T.a_wait_entries T.d_wait_entries ["table", "wait"] (spWaitEnt K T.c_Table) := by
  refine T.F_wait_entries.ok sc_wait_entries (fun vs H Q E h => ?_) (fun cdv A outer s H vs Q E hr h => ?_)
  · obtain ⟨p, m, ls, rs, rfl, _⟩ := h
    rfl
  · obtain ⟨p, wt, ls, rs, rfl, tab, R, hw0, hw1, q⟩ := h
    obtain ⟨dx, a, b, ps, ep, hA, hB, tu⟩ := tab.ob
    obtain ⟨hin, hl, hs⟩ := rowOf_ok R hw0 hw1
    refine ⟨_, ((pss_one (ps_ret (pe_call (ok_row_entries T) (hr.mono (by decide)) (by rfl) T.g_row_entries T.F_row_entries.kp T.b_row_entries .nil pass0 (pa_cons (pe_fld (pv 0) rfl) (pa_cons (pe_call (ok_wait_row T) (hr.mono (by decide)) (by rfl) T.g_wait_row T.F_wait_row.kp T.b_wait_row .nil pass0 (pa_cons (pv 0) (pa_cons (pv 1) pa_nil))) pa_nil)))))), ?_⟩
    refine ⟨.ref p, rfl, p, T.c_Table, dx, _, _, rfl, ep, T.cl_Table, T.n_Table_loops, tf_loops _ _ _, .ref p, rfl, .int wt, rfl, p, wt, ls, rs, rfl, tab, R, hw0, hw1, fun r H2 s2 hr2 => ?_⟩
    refine ⟨a, r, ls, _, rfl, sT s2 hA, hr2, hin, by omega, fun L qs H3 s3 nL eL tq => ?_⟩
    rw [hs] at tq
    exact q L qs H3 (s2.trans s3) (Same.free s2 nL) eL tq
end

/-! ### layings of a letter -/
section
variable {P : Program} {w : World} {K : PySem.W.Frag} {mg : Str → Option Value} {base : Heap}
def spLayOf (K : PySem.W.Frag) (C : Addr) : Sp := fun vs H Q _ => ∃ (p : Addr) (β n wt : Int) (ls : List Int) (rs : List (List Int)), vs = [.ref p, .int β, .int n, .int wt] ∧ TabAt K C H p ls rs ∧ Tb.Right ls rs ∧ 0 ≤ wt ∧ wt ≤ (rs.length : Int) ∧
  ∀ L ps H', Same H H' → H L = none → H' L = some (.lst (ps.map V.ref)) → Tups fI H' ps ((Tb.go ls 0 (Dy.rowOf rs wt)).map fun p => [β + p.1, n, p.2]) → Q (.ref L) H'
theorem row_short {ls : List Int} {rs : List (List Int)} (R : Tb.Right ls rs) {wt : Int} (h1 : wt ≤ (rs.length : Int)) : (Dy.rowOf rs wt).length ≤ 60 := by
  by_cases c : 0 < wt
  · exact (Dy.rowOf_at R c h1).2.2.1
  · rw [show Dy.rowOf rs wt = [] from if_pos (by omega)]
    exact Nat.zero_le _
theorem ok_layings_of (T : Tx K mg) : FnOk P w K mg base CX0 4 T.a_layings_of T.d_layings_of ["table", "tick", "letter", "wait"] (spLayOf K T.c_Table) := by
  refine T.F_layings_of.ok sc_layings_of (fun vs H Q E h => ?_) (fun cdv A outer s H vs Q E hr h => ?_)
  · obtain ⟨p, β, n, wt, ls, rs, rfl, _⟩ := h
    rfl
  · obtain ⟨p, β, n, wt, ls, rs, rfl, tab, R, hw0, hw1, q⟩ := h
    have r60 := row_short R hw1
    refine ⟨_, ((pss_one (ps_ret (pe_lc (own := [("loop", 4), ("gone", 5), ("left", 6)]) (g := (gTup K 3 (gCons (gName 4) (gCons (gName 5) (gCons (gName 6) gNil))))) (tt := tYes) rfl sc_layings_of.nd (pi_list (pe_call (ok_wait_entries T) (hr.mono (by decide)) (by rfl) T.g_wait_entries T.F_wait_entries.kp T.b_wait_entries .nil pass0 (pa_cons (pv 0) (pa_cons (pv 3) pa_nil)))) (blkOk_by (own := [("loop", 4), ("gone", 5), ("left", 6)]) (N := ["table", "tick", "letter", "wait", "loop", "gone", "left"]) (sc := defScope s_layings_of) (by decide +kernel)) (fun _ _ _ _ _ => pg_tup rfl (pgs_cons (pg_name (i := 4) sc_layings_of.nd rfl (.inl rfl)) (pgs_cons (pg_name (i := 5) sc_layings_of.nd rfl (.inl rfl)) (pgs_cons (pg_name (i := 6) sc_layings_of.nd rfl (.inl rfl)) pgs_nil)))) (fun _ _ _ _ _ => pts_nil) (fun _ _ _ _ _ => (pe_tup (pa_cons (pe_op op_add (pv 1) (pv 5)) (pa_cons (pv 2) (pa_cons (pv 4) pa_nil))))))))), ?_⟩
    refine ⟨.ref p, rfl, .int wt, rfl, p, wt, ls, rs, rfl, tab, R, hw0, hw1, fun M ms H2 s2 nM eM tM => ?_⟩
    refine ⟨M, rfl, ⟨_, SqL.of eM⟩, fun D hD => lc_list (K := K) (a := M) (xs := ms.map V.ref)
      (fun j H3 => ∃ ds, Same H2 H3 ∧ H3 D = some (.lst (ds.map V.ref)) ∧ Tups fI H3 ds (((Tb.go ls 0 (Dy.rowOf rs wt)).take j).map fun p => [β + p.1, n, p.2]))
      ⟨[], same_upd hD, upd_same, .nil⟩ (fun j H3 _ h => ?_) (fun j x H3 hx h => ?_) (fun H3 h => ?_)⟩
    · obtain ⟨_, s3, _⟩ := h
      exact SqL.of (s3 _ _ eM)
    · obtain ⟨ds, s3, eD, td⟩ := h
      obtain ⟨t, e0, rfl, hg, et⟩ := tM.get hx
      have hj : j < (Tb.ents ls wt (Dy.rowOf rs wt)).length := (List.getElem?_eq_some_iff.mp hg).1
      rw [Tb.ents_len] at hj
      unfold Tb.ents at hg
      rw [List.getElem?_map] at hg
      obtain ⟨g, hg2, rfl⟩ := Option.map_eq_some_iff.mp hg
      clear hg
      have hg := hg2
      refine ⟨t, _, rfl, SqT.of (s3 _ _ et), rfl, _, [_, _], rfl, _, [_], rfl, _, [], rfl, rfl, rfl, ?_⟩
      refine ⟨_, rfl, _, rfl, _, _, rfl, rfl, _, rfl, _, rfl, by show 3 ≤ sizeLine; decide, fun u nu => ?_⟩
      have s4 := same_upd (o := .tup (fI [β + g.1, n, g.2])) nu
      refine ⟨_, s4 _ _ eD, ?_, ds ++ [u], fun b o e => ?_, by rw [upd_same, List.map_append]; rfl, ?_⟩
      · rw [List.length_map, td.length, List.length_map, List.length_take]
        exact small1000 (by omega)
      · rw [upd_ne (ne_of_none e hD)]
        exact s4 _ _ (s3 _ _ e)
      · rw [take_snoc hg, List.map_append]
        exact ((td.new nu).snoc upd_same).put (s4 _ _ eD)
    · obtain ⟨ds, s3, eD, td⟩ := h
      rw [List.length_map, tM.length, Tb.ents_len, ← Tb.go_len ls (Dy.rowOf rs wt) 0, List.take_length] at td
      exact q D ds H3 (s2.trans s3) (Same.free s2 hD) eD td
end

/-! ### is_meeting -/
theorem any_in (rs : List (List Int)) (r : List Int) : ((rs.map My.dI).any fun z => PyData.eqv z (My.dI r)) = decide (r ∈ rs) := by
  by_cases h : r ∈ rs
  · rw [decide_eq_true h, List.any_eq_true]
    exact ⟨My.dI r, List.mem_map.mpr ⟨r, h, rfl⟩, by rw [eqvI, decide_eq_true rfl]⟩
  · rw [decide_eq_false h]
    exact not_any h
theorem inDK {X : Cx} {K : PySem.W.Frag} (h : X.K = K) (hu : X.A.units + 65 < cLine) : OpR X (compareOp .In) (rInD K) := h ▸ op_inD hu
section
variable {P : Program} {w : World} {K : PySem.W.Frag} {mg : Str → Option Value} {base : Heap}
def spPlaces (K : PySem.W.Frag) (C : Addr) : Sp := fun vs H Q _ => ∃ (p L : Addr) (i : Int) (ls : List Int) (rs : List (List Int)) (ps : List Addr) (lets : List Ln.Let) (l : Ln.Let), vs = [.ref p, .ref L, .int i] ∧ TabAt K C H p ls rs ∧ Tb.Right ls rs ∧
  H L = some (.lst (ps.map V.ref)) ∧ Tups tv H ps lets ∧ 0 ≤ i ∧ lets[i.toNat]? = some l ∧ (∀ w, l.2.2 = some w → 0 ≤ w ∧ w ≤ (rs.length : Int)) ∧
  ∀ M ms H', Same H H' → H M = none → H' M = some (.lst (ms.map V.ref)) → Tups fI H' ms (Sf.pl ls rs l) → Q (.ref M) H'
theorem ok_places_of (T : Tx K mg) : FnOk P w K mg base CX0 5 T.a_places_of T.d_places_of ["table", "letters", "letter"] (spPlaces K T.c_Table) := by
  refine T.F_places_of.ok sc_places_of (fun vs H Q E h => ?_) (fun cdv A outer s H vs Q E hr h => ?_)
  · obtain ⟨p, L, i, ls, rs, ps, lets, l, rfl, _⟩ := h
    rfl
  · obtain ⟨p, L, i, ls, rs, ps, lets, l, rfl, tab, R, eL, tu, i0, hl, hw, q⟩ := h
    refine ⟨_, ((pss_cons (ps_asg (pe_ix ix_list (pv 1) (pv 2) (fun _ _ => rfl)) (pg_tup rfl (pgs_cons (pg_name (i := 3) sc_places_of.nd rfl (.inl rfl)) (pgs_cons (pg_name (i := 4) sc_places_of.nd rfl (.inl rfl)) (pgs_cons (pg_name (i := 5) sc_places_of.nd rfl (.inl rfl)) pgs_nil)))))
  (pss_cons (ps_if (pt_cmpR op_isN (pv 5) pe_non (nomark _)) (pss_one (ps_ret (pe_lst pa_nil))) pss_nil)
  (pss_one (ps_ret (pe_lc (own := [("entered", 6), ("same", 7), ("loop", 8)]) (g := (gTup K 3 (gCons (gName 6) (gCons (gName 7) (gCons (gName 8) gNil))))) (tt := tYes) rfl sc_places_of.nd (pi_list (pe_call (ok_layings_of T) (hr.mono (by decide)) (by rfl) T.g_layings_of T.F_layings_of.kp T.b_layings_of .nil pass0 (pa_cons (pv 0) (pa_cons (pv 3) (pa_cons (pv 2) (pa_cons (pv 5) pa_nil)))))) (blkOk_by (own := [("entered", 6), ("same", 7), ("loop", 8)]) (N := ["table", "letters", "letter", "tick", "_", "wait", "entered", "same", "loop"]) (sc := defScope s_places_of) (by decide +kernel)) (fun _ _ _ _ _ => pg_tup rfl (pgs_cons (pg_name (i := 6) sc_places_of.nd rfl (.inl rfl)) (pgs_cons (pg_name (i := 7) sc_places_of.nd rfl (.inl rfl)) (pgs_cons (pg_name (i := 8) sc_places_of.nd rfl (.inl rfl)) pgs_nil)))) (fun _ _ _ _ _ => pts_nil) (fun _ _ _ _ _ => (pe_tup (pa_cons (pv 6) (pa_cons (pv 8) pa_nil)))))))))), ?_⟩
    obtain ⟨r, hr', er⟩ := tu.at hl
    refine ⟨.ref L, rfl, .int i, rfl, L, _, _, .ref r, rfl, rfl, SqL.of eL, atI_of i0 hr', r, _, rfl, SqT.of er, rfl, _, [_, _], rfl, _, [_], rfl, _, [], rfl, rfl, ?_⟩
    obtain ⟨lt, lu, lw⟩ := l
    cases lw with
    | none =>
      refine ⟨.non, rfl, rfl, true, rfl, iteT ?_⟩
      refine ⟨Nat.zero_le _, fun M nM => ?_⟩
      exact q M [] _ (same_upd nM) nM upd_same .nil
    | some wt =>
      obtain ⟨w0, w1⟩ := hw wt rfl
      refine ⟨.int wt, rfl, rfl, false, rfl, iteF ?_⟩
      refine ⟨.ref p, rfl, .int lt, rfl, .int i, rfl, .int wt, rfl, p, lt, i, wt, ls, rs, rfl, tab, R, w0, w1, fun M ms H2 s2 nM eM tM => ?_⟩
      refine ⟨M, rfl, ⟨_, SqL.of eM⟩, fun D hD => lc_list (K := K) (a := M) (xs := ms.map V.ref)
        (fun j H3 => ∃ ds : List Addr, Same H2 H3 ∧ H3 D = some (.lst (ds.map V.ref)) ∧ Tups fI H3 ds ((((Tb.go ls 0 (Dy.rowOf rs wt)).take j).map fun p => [lt + p.1, p.2])))
        ⟨[], same_upd hD, upd_same, .nil⟩ (fun j H3 _ h => let ⟨_, s3, _⟩ := h; SqL.of (s3 _ _ eM)) (fun j x H3 hx h => ?_) (fun H3 h => ?_)⟩
      · obtain ⟨ds, s3, eD, td⟩ := h
        obtain ⟨t, e, rfl, he, et⟩ := tM.get hx
        rw [List.getElem?_map] at he
        obtain ⟨g, hg, rfl⟩ := Option.map_eq_some_iff.mp he
        have hj : j < (Tb.go ls 0 (Dy.rowOf rs wt)).length := (List.getElem?_eq_some_iff.mp hg).1
        rw [Tb.go_len] at hj
        have r60 := row_short R w1
        refine ⟨t, _, rfl, SqT.of (s3 _ _ et), rfl, _, [_, _], rfl, _, [_], rfl, _, [], rfl, rfl, rfl, ?_⟩
        refine ⟨_, rfl, _, rfl, by show 2 ≤ sizeLine; decide, fun u nu => ?_⟩
        have s4 := same_upd (o := .tup (fI [lt + g.1, g.2])) nu
        refine ⟨_, s4 _ _ eD, ?_, ds ++ [u], fun b o e => ?_, by rw [upd_same, List.map_append]; rfl, ?_⟩
        · rw [List.length_map, td.length, List.length_map, List.length_take]
          exact small1000 (by omega)
        · rw [upd_ne (ne_of_none e hD)]
          exact s4 _ _ (s3 _ _ e)
        · rw [take_snoc hg, List.map_append]
          exact ((td.new nu).snoc upd_same).put (s4 _ _ eD)
      · obtain ⟨ds, s3, eD, td⟩ := h
        rw [List.length_map, tM.length, List.length_map, List.take_of_length_le (Nat.le_refl _)] at td
        exact q D ds H3 (s2.trans s3) (Same.free s2 hD) eD td
def spIsMeet (K : PySem.W.Frag) (C : Addr) : Sp := fun vs H Q _ => ∃ (p t ca : Addr) (c i j : Int) (ls : List Int) (rs : List (List Int)) (cs : List Int), vs = [.ref p, .int c, .ref t] ∧ TabAt K C H p ls rs ∧ Tb.Right ls rs ∧ 2 ≤ c ∧ c ≤ 4 ∧
  H t = some (.tup [.ref ca, .int i, .int j]) ∧ SqT K H ca (cs.map V.int) ∧ Rt c cs ∧ 0 ≤ i ∧ i < j ∧ j < ((Ln.letts (rs.length : Int) cs).length : Int) ∧
  ∀ (b : Bool) H', (b = true ↔ Sf.Mts ls rs cs i.toNat j.toNat) → Same H H' → Q (.bl b) H'
theorem ok_is_meeting (T : Tx K mg) : FnOk P w K mg base CX0 6 T.a_is_meeting T.d_is_meeting ["table", "comers", "thing"] (spIsMeet K T.c_Table) := by
  refine T.F_is_meeting.ok sc_is_meeting (fun vs H Q E h => ?_) (fun cdv A outer s H vs Q E hr h => ?_)
  · obtain ⟨p, t, ca, c, i, j, ls, rs, cs, rfl, _⟩ := h
    rfl
  · obtain ⟨p, t, ca, c, i, j, ls, rs, cs, rfl, tab, R, c2, c4, et, hC, g, i0, ij, jl, q⟩ := h
    refine ⟨_, ((pss_cons (ps_expr (pe_call (ok_check_comers T) (hr.mono (by decide)) (by rfl) T.g_check_comers T.F_check_comers.kp T.b_check_comers .nil pass0 (pa_cons (pv 1) pa_nil)))
  (pss_cons (ps_if (PW.pt (pw_or (pt_not (pt_val (pe_callB call_isi (by rfl) T.m_isinstance (by decide +kernel) (pa_cons (pv 2) (pa_cons (pe_bltn (v := .ty "tuple") (by rfl) T.m_tuple (by decide +kernel) rfl) pa_nil))))) (pw_or1 (pt_cmpR op_ne (pe_callB call_len_seq (by rfl) T.m_len PySem.boot_len (pa_cons (pv 2) pa_nil)) pe_int (nomark _))))) (pss_one (ps_ret pe_bl)) pss_nil)
  (pss_cons (ps_asg (pv 2) (pg_tup rfl (pgs_cons (pg_name (i := 3) sc_is_meeting.nd rfl (.inl rfl)) (pgs_cons (pg_name (i := 4) sc_is_meeting.nd rfl (.inl rfl)) (pgs_cons (pg_name (i := 5) sc_is_meeting.nd rfl (.inl rfl)) pgs_nil)))))
  (pss_cons (ps_if (PW.pt (pw_or (pt_not (pt_val (pe_call (ok_is_comings T) (hr.mono (by decide)) (by rfl) T.g_is_comings T.F_is_comings.kp T.b_is_comings .nil pass0 (pa_cons (pv 1) (pa_cons (pv 3) pa_nil))))) (pw_or (pt_not (pt_val (pe_call (ok_is_integer T) (hr.mono (by decide)) (by rfl) T.g_is_integer T.F_is_integer.kp T.b_is_integer .nil pass0 (pa_cons (pv 4) pa_nil)))) (pw_or1 (pt_not (pt_val (pe_call (ok_is_integer T) (hr.mono (by decide)) (by rfl) T.g_is_integer T.F_is_integer.kp T.b_is_integer .nil pass0 (pa_cons (pv 5) pa_nil)))))))) (pss_one (ps_ret pe_bl)) pss_nil)
  (pss_cons (ps_set (i := 6) sc_is_meeting.nd rfl (.inl rfl) (pe_call (ok_letters_of T) (hr.mono (by decide)) (by rfl) T.g_letters_of T.F_letters_of.kp T.b_letters_of .nil pass0 (pa_cons (pe_fld (pv 0) rfl) (pa_cons (pv 3) pa_nil))))
  (pss_cons (ps_if (pt_not (GZ.pt_chain3 op_le op_lt op_lt pe_int (pv 4) (pv 5) (pe_callB call_len_seq (by rfl) T.m_len PySem.boot_len (pa_cons (pv 6) pa_nil)))) (pss_one (ps_ret pe_bl)) pss_nil)
  (pss_cons (ps_set (i := 7) sc_is_meeting.nd rfl (.inr rfl) (pe_call (ok_places_of T) (hr.mono (by decide)) (by rfl) T.g_places_of T.F_places_of.kp T.b_places_of .nil pass0 (pa_cons (pv 0) (pa_cons (pv 6) (pa_cons (pv 4) pa_nil)))))
  (pss_one (ps_ret (pe_callB (cr_any rfl) (by rfl) T.m_any (by decide +kernel) (pa_cons (pe_lc (own := [("place", 8)]) (g := (gName 8)) (tt := tYes) rfl sc_is_meeting.nd (pi_list (pe_call (ok_places_of T) (hr.mono (by decide)) (by rfl) T.g_places_of T.F_places_of.kp T.b_places_of .nil pass0 (pa_cons (pv 0) (pa_cons (pv 6) (pa_cons (pv 5) pa_nil))))) (blkOk_by (own := [("place", 8)]) (N := ["table", "comers", "thing", "comings", "one", "other", "letters", "places", "place"]) (sc := defScope s_is_meeting) (by decide +kernel)) (fun _ _ _ _ _ => pg_name (i := 8) sc_is_meeting.nd rfl (.inl rfl)) (fun _ _ _ _ _ => pts_nil) (fun _ _ _ _ _ => (pe_cmpR (inDK (K := K) (by rfl) (by exact units65 hr)) (pv 8) (pv 7) (by rfl)))) pa_nil)))))))))))), ?_⟩
    obtain ⟨dx, la, ra, rps, ep, _, _, _⟩ := tab.ob
    refine ⟨.int c, rfl, c, rfl, c2, c4, ?_⟩
    refine ⟨.ref t, rfl, .ref t, .ty "tuple", _, _, true, rfl, .ty _, tyTup (SqT.of et), kit_ty (by decide +kernel), true, rfl, iteF ?_⟩
    refine ⟨.ref t, rfl, t, _, rfl, .inr (SqT.of et), rfl, false, rfl, iteF ?_⟩
    refine ⟨.ref t, rfl, t, _, rfl, SqT.of et, rfl, _, [_, _], rfl, _, [_], rfl, _, [], rfl, rfl, ?_⟩
    refine ⟨.int c, rfl, .ref ca, rfl, ca, cs, c, rfl, hC, g, fun H1 s1 => ⟨true, rfl, iteF ?_⟩⟩
    refine ⟨.int i, rfl, i, rfl, true, rfl, iteF ?_⟩
    refine ⟨.int j, rfl, j, rfl, true, rfl, iteF ?_⟩
    refine ⟨.ref p, rfl, p, T.c_Table, dx, _, _, rfl, s1 _ _ ep, T.cl_Table, T.n_Table_bound, tf_bound _ _ _, .ref ca, rfl, ca, cs, _, c, rfl, sT s1 hC, g, c4, by omega, fun L ps H2 s2 nL eL tu => ?_⟩
    have i1 : 0 ≤ j := by omega
    obtain ⟨li, hli⟩ : ∃ l, (Ln.letts (rs.length : Int) cs)[i.toNat]? = some l := ⟨_, List.getElem?_eq_getElem (by omega)⟩
    obtain ⟨lj, hlj⟩ : ∃ l, (Ln.letts (rs.length : Int) cs)[j.toNat]? = some l := ⟨_, List.getElem?_eq_getElem (by omega)⟩
    have hwt := Dy.letts_wt (rs := rs) cs
    have eps : ((ps.map V.ref).length : Int) = ((Ln.letts (rs.length : Int) cs).length : Int) := by rw [List.length_map, tu.length]
    refine ⟨.int i, rfl, _, _, rfl, rfl, true, congrArg V.bl (decide_eq_true i0), iteT ?_⟩
    refine ⟨.int j, rfl, _, _, rfl, rfl, true, congrArg V.bl (decide_eq_true ij), iteT ?_⟩
    refine ⟨.ref L, rfl, L, _, rfl, .inl (SqL.of eL), _, _, rfl, rfl, true, congrArg V.bl (decide_eq_true (by rw [eps]; exact jl)), iteF ?_⟩
    have sA := s1.trans s2
    refine ⟨.ref p, rfl, .ref L, rfl, .int i, rfl, p, L, i, ls, rs, ps, _, li, rfl, tab.same sA, R, eL, tu, i0, hli, hwt li (List.mem_of_getElem? hli), fun M ms H3 s3 nM eM tM => ?_⟩
    have sB := sA.trans s3
    refine ⟨.ref p, rfl, .ref L, rfl, .int j, rfl, p, L, j, ls, rs, ps, _, lj, rfl, tab.same sB, R, s3 _ _ eL, tu.same s3, i1, hlj, hwt lj (List.mem_of_getElem? hlj), fun N ns H4 s4 nN eN tN => ?_⟩
    have hpl : (Sf.pl ls rs lj).length ≤ 60 := by
      unfold Sf.pl
      cases ew : lj.2.2 with
      | none => exact Nat.zero_le _
      | some w =>
        show (List.map _ _).length ≤ 60
        rw [List.length_map, Tb.go_len]
        exact row_short R (hwt lj (List.mem_of_getElem? hlj) w ew).2
    refine ⟨N, rfl, ⟨_, SqL.of eN⟩, fun D hD => lc_list (K := K) (a := N) (xs := ns.map V.ref)
      (fun m H5 => Same H4 H5 ∧ H5 D = some (.lst ((((Sf.pl ls rs lj).take m).map fun r => decide (r ∈ Sf.pl ls rs li)).map V.bl)))
      ⟨same_upd hD, upd_same⟩ (fun m H5 _ h => SqL.of (h.1 _ _ eN)) (fun m x H5 hx h => ?_) (fun H5 h => ?_)⟩
    · obtain ⟨s5, eD⟩ := h
      obtain ⟨t', r, rfl, hr', er⟩ := tN.get hx
      have hm : m < (Sf.pl ls rs lj).length := (List.getElem?_eq_some_iff.mp hr').1
      refine ⟨rfl, ?_⟩
      have eM5 := s5 _ _ (s4 _ _ eM)
      refine ⟨.ref t', rfl, .ref M, rfl, _, _, dp_dI (SqT.of (s5 _ _ er)), dp_dT eM5 ((tM.same s4).same s5), (Shp.dI _).ok (by decide), (Shp.dT _).ok (by decide), ?_⟩
      rw [any_in]
      refine ⟨_, eD, ?_, same_put s5 hD, ?_⟩
      · rw [List.length_map, List.length_map, List.length_take]
        exact small1000 (by omega)
      · rw [upd_same, take_snoc hr', List.map_append, List.map_append]
        rfl
    · obtain ⟨s5, eD⟩ := h
      rw [List.length_map, tN.length, List.take_of_length_le (Nat.le_refl _)] at eD
      refine ⟨D, _, rfl, SqL.of eD, q _ H5 ?_ ((sB.trans s4).trans s5)⟩
      rw [List.any_eq_true]
      constructor
      · rintro ⟨b, hb, e⟩
        obtain ⟨r, hr, rfl⟩ := List.mem_map.mp hb
        exact ⟨li, lj, r, hli, hlj, of_decide_eq_true e, hr⟩
      · rintro ⟨l, m, r, h1, h2, r1, r2⟩
        rw [hli] at h1
        rw [hlj] at h2
        obtain rfl := Option.some.inj h1
        obtain rfl := Option.some.inj h2
        exact ⟨_, List.mem_map.mpr ⟨r, r2, rfl⟩, decide_eq_true r1⟩
end

section
variable {P : Program} {w : World} {K : PySem.W.Frag} {mg : Str → Option Value} {base : Heap}
def spWaits (K : PySem.W.Frag) : Sp := fun vs H Q _ => ∃ (a : Addr) (cs : List Int) (k b : Int), vs = [.int k, .int b, .ref a] ∧ SqT K H a (cs.map V.int) ∧ Rt k cs ∧ 2 ≤ k ∧ k ≤ 4 ∧ 1 ≤ b ∧ b ≤ 60 ∧
  ∀ L H', Same H H' → H L = none → H' L = some (.lst ((Ln.letts b cs).map fun l => wv l.2.2)) → Q (.ref L) H'
theorem letts_len {b : Int} {cs : List Int} (g4 : ∀ c ∈ cs, c ≤ 4) (g1 : cs.length ≤ 400) : (Ln.letts b cs).length ≤ 1600 := by
  have := Ln.pre_len (b := b) g4 cs.length
  unfold Ln.letts
  omega
theorem ok_waits (T : Tx K mg) : FnOk P w K mg base CX0 6 T.a_waits T.d_waits ["comers", "bound", "comings"] (spWaits K) := by
  refine T.F_waits.ok sc_waits (fun vs H Q E h => ?_) (fun cdv A outer s H vs Q E hr h => ?_)
  · obtain ⟨a, cs, k, b, rfl, _⟩ := h
    rfl
  · obtain ⟨a, cs, k, b, rfl, hT0, g, hk2, hk, hb1, hb2, q⟩ := h
    have g4 := g.four hk
    have zl := letts_len (b := b) g4 g.1
    refine ⟨_, ((pss_cons (ps_expr (pe_call (ok_check_comers T) (hr.mono (by decide)) (by rfl) T.g_check_comers T.F_check_comers.kp T.b_check_comers .nil pass0 (pa_cons (pv 0) pa_nil)))
  (pss_cons (ps_expr (pe_call (ok_check_bound T) (hr.mono (by decide)) (by rfl) T.g_check_bound T.F_check_bound.kp T.b_check_bound .nil pass0 (pa_cons (pv 1) pa_nil)))
  (pss_cons (ps_expr (pe_call (ok_check_comings T) (hr.mono (by decide)) (by rfl) T.g_check_comings T.F_check_comings.kp T.b_check_comings .nil pass0 (pa_cons (pv 0) (pa_cons (pv 2) pa_nil))))
  (pss_one (ps_ret (pe_lc (own := [("tick", 3), ("turn", 4), ("wait", 5)]) (g := (gTup K 3 (gCons (gName 3) (gCons (gName 4) (gCons (gName 5) gNil))))) (tt := tYes) rfl sc_waits.nd (pi_list (pe_call (ok_letters_of T) (hr.mono (by decide)) (by rfl) T.g_letters_of T.F_letters_of.kp T.b_letters_of .nil pass0 (pa_cons (pv 1) (pa_cons (pv 2) pa_nil)))) (blkOk_by (own := [("tick", 3), ("turn", 4), ("wait", 5)]) (N := ["comers", "bound", "comings", "tick", "turn", "wait"]) (sc := defScope s_waits) (by decide +kernel)) (fun _ _ _ _ _ => pg_tup rfl (pgs_cons (pg_name (i := 3) sc_waits.nd rfl (.inl rfl)) (pgs_cons (pg_name (i := 4) sc_waits.nd rfl (.inl rfl)) (pgs_cons (pg_name (i := 5) sc_waits.nd rfl (.inl rfl)) pgs_nil)))) (fun _ _ _ _ _ => pts_nil) (fun _ _ _ _ _ => (pv 5))))))))), ?_⟩
    refine ⟨.int k, rfl, k, rfl, hk2, hk, ?_⟩
    refine ⟨.int b, rfl, b, rfl, hb1, hb2, ?_⟩
    refine ⟨.int k, rfl, .ref a, rfl, a, cs, k, rfl, hT0, g, fun H0 s0 => ?_⟩
    have hT := sT s0 hT0
    refine ⟨.int b, rfl, .ref a, rfl, a, cs, b, k, rfl, hT, g, hk, by omega, fun L ps H1 s1 nL eL tu => ?_⟩
    refine ⟨L, rfl, ⟨_, SqL.of eL⟩, fun D hD => lc_list (K := K) (a := L) (xs := ps.map V.ref)
      (fun i H' => Same H1 H' ∧ H' D = some (.lst (((Ln.letts b cs).take i).map fun l => wv l.2.2)))
      ⟨same_upd hD, upd_same⟩ (fun i H' _ p => SqL.of (p.1 _ _ eL)) (fun i x H' hx p => ?_) (fun H' p => ?_)⟩
    · obtain ⟨sm, eD⟩ := p
      obtain ⟨r, l, rfl, hl, er⟩ := tu.get hx
      refine ⟨r, _, rfl, SqT.of (sm _ _ er), rfl, _, [_, _], rfl, _, [_], rfl, _, [], rfl, rfl, rfl, ?_⟩
      refine ⟨_, rfl, _, eD, ?_, fun b o e => ?_, ?_⟩
      · rw [List.length_map, List.length_take]
        exact small2000 (by omega)
      · rw [upd_ne (ne_of_none e hD)]
        exact sm _ _ e
      · rw [upd_same, List.take_add_one, hl, List.map_append]
        rfl
    · obtain ⟨sm, eD⟩ := p
      rw [List.length_map, tu.length, List.take_of_length_le (Nat.le_refl _)] at eD
      exact q D H' ((s0.trans s1).trans sm) (Same.free (s0.trans s1) hD) eD
end

/-! ### spots and walks -/
def spotB (k b : Int) (s : Wk.Spt) : Bool := decide (0 ≤ s.1) && decide (s.1 ≤ b) && (decide (1 ≤ s.2) && decide (s.2 ≤ k)) && decide (s.1 ≥ s.2 - 1)
theorem spotB_iff {k b : Int} {s : Wk.Spt} : spotB k b s = true ↔ Wk.Spot k b s := by
  unfold spotB Wk.Spot
  simp only [Bool.and_eq_true, decide_eq_true_eq]
  omega
theorem two_eq (a b : Int × Int) : PyData.eqv (dI [a.1, a.2]) (dI [b.1, b.2]) = decide (a = b) := by
  rw [eqvI]
  refine decide_eq_decide.mpr ⟨fun h => ?_, fun h => by rw [h]⟩
  simp at h
  exact Prod.ext h.1 h.2
section
variable {P : Program} {w : World} {K : PySem.W.Frag} {mg : Str → Option Value} {base : Heap}
def spAreInts (K : PySem.W.Frag) : Sp := fun vs H Q _ => ∃ (p : Addr) (ns : List Int) (m : Int), vs = [.ref p, .int m] ∧ SqT K H p (ns.map V.int) ∧ (ns.length : Int) = m ∧ ns.length ≤ 1000 ∧ ∀ H', Same H H' → Q (.bl true) H'
theorem ok_are_integers (T : Tx K mg) : FnOk P w K mg base CX0 2 T.a_are_integers T.d_are_integers ["thing", "many"] (spAreInts K) := by
  refine T.F_are_integers.ok sc_are_integers (fun vs H Q E h => ?_) (fun cdv A outer s H vs Q E hr h => ?_)
  · obtain ⟨p, ns, m, rfl, _⟩ := h
    rfl
  · obtain ⟨p, ns, m, rfl, hT, hm, hlen, q⟩ := h
    refine ⟨_, ((pss_one (ps_ret (pe_and (pe_callB call_isi (by rfl) T.m_isinstance (by decide +kernel) (pa_cons (pv 0) (pa_cons (pe_bltn (v := .ty "tuple") (by rfl) T.m_tuple (by decide +kernel) rfl) pa_nil))) (pe_and (pe_cmpR op_eq (pe_callB call_len_seq (by rfl) T.m_len PySem.boot_len (pa_cons (pv 0) pa_nil)) (pv 1) (nomark _)) (pe_one (pe_callB (cr_all rfl) (by rfl) T.m_all (by decide +kernel) (pa_cons (pe_lc (own := [("item", 2)]) (g := (gName 2)) (tt := tYes) rfl sc_are_integers.nd (pi_tup (pv 0)) (blkOk_by (own := [("item", 2)]) (N := ["thing", "many", "item"]) (sc := defScope s_are_integers) (by decide +kernel)) (fun _ _ _ _ _ => pg_name (i := 2) sc_are_integers.nd rfl (.inl rfl)) (fun _ _ _ _ _ => pts_nil) (fun _ _ _ _ _ => (pe_call (ok_is_integer T) (hr.mono (by decide)) (by rfl) T.g_is_integer T.F_is_integer.kp T.b_is_integer .nil pass0 (pa_cons (pv 2) pa_nil)))) pa_nil)))))))), ?_⟩
    refine ⟨.ref p, rfl, .ref p, .ty "tuple", _, _, true, rfl, .ty _, tyTup hT, kit_ty (by decide +kernel), true, rfl, iteT ?_⟩
    refine ⟨.ref p, rfl, p, _, rfl, .inr hT, .int m, rfl, rfl, true, ?_, iteT ?_⟩
    · rw [List.length_map, decide_eq_true (congrArg V.int hm)]
    · refine ⟨.ref p, rfl, p, rfl, ⟨_, hT⟩, fun D hD => lc_tup (K := K) (a := p) (xs := ns.map V.int)
        (fun i H' => Same H H' ∧ H' D = some (.lst ((List.replicate i true).map V.bl)))
        ⟨same_upd hD, upd_same⟩ (fun i H' _ h => sT h.1 hT) (fun i x H' hx h => ?_) (fun H' h => ?_)⟩
      · obtain ⟨sm, eD⟩ := h
        rw [List.getElem?_map] at hx
        obtain ⟨n, hn, rfl⟩ := Option.map_eq_some_iff.mp hx
        have hi : i < ns.length := (List.getElem?_eq_some_iff.mp hn).1
        refine ⟨rfl, ?_⟩
        refine ⟨.int n, rfl, n, rfl, _, eD, by rw [List.length_map, List.length_replicate]; exact small1000 (by omega), same_put sm hD, ?_⟩
        rw [upd_same, List.replicate_succ', List.map_append]
        rfl
      · obtain ⟨sm, eD⟩ := h
        rw [List.length_map] at eD
        refine ⟨D, _, rfl, SqL.of eD, ?_⟩
        have e : (List.replicate ns.length true).all id = true := by
          rw [List.all_eq_true]
          intro x hx
          rw [(List.mem_replicate.mp hx).2]
          rfl
        rw [e]
        exact q H' sm
def spIsSpot (K : PySem.W.Frag) : Sp := fun vs H Q _ => ∃ (k b : Int) (p : Addr) (s : Wk.Spt), vs = [.int k, .int b, .ref p] ∧ SqT K H p (pv2 s) ∧ ∀ H', Same H H' → Q (.bl (spotB k b s)) H'
theorem ok_is_spot (T : Tx K mg) : FnOk P w K mg base CX0 3 T.a_is_spot T.d_is_spot ["comers", "bound", "thing"] (spIsSpot K) := by
  refine T.F_is_spot.ok sc_is_spot (fun vs H Q E h => ?_) (fun cdv A outer s H vs Q E hr h => ?_)
  · obtain ⟨k, b, p, s, rfl, _⟩ := h
    rfl
  · obtain ⟨k, b, p, ⟨wt, tu⟩, rfl, hT, q⟩ := h
    refine ⟨_, ((pss_cons (ps_if (pt_not (pt_val (pe_call (ok_are_integers T) (hr.mono (by decide)) (by rfl) T.g_are_integers T.F_are_integers.kp T.b_are_integers .nil pass0 (pa_cons (pv 2) (pa_cons pe_int pa_nil))))) (pss_one (ps_ret pe_bl)) pss_nil)
  (pss_cons (ps_asg (pv 2) (pg_tup rfl (pgs_cons (pg_name (i := 3) sc_is_spot.nd rfl (.inl rfl)) (pgs_cons (pg_name (i := 4) sc_is_spot.nd rfl (.inl rfl)) pgs_nil))))
  (pss_one (ps_ret (pe_and (pe_chain op_le op_le pe_int (pv 3) (pv 1)) (pe_and (pe_chain op_le op_le pe_int (pv 4) (pv 0)) (pe_one (pe_cmpR op_ge (pv 3) (pe_op op_sub (pv 4) pe_int) (nomark _)))))))))), ?_⟩
    refine ⟨.ref p, rfl, p, [wt, tu], 2, rfl, hT, rfl, by show 2 ≤ 1000; decide, fun H1 s1 => ⟨true, rfl, iteF ?_⟩⟩
    refine ⟨.ref p, rfl, p, _, rfl, sT s1 hT, rfl, _, [_], rfl, _, [], rfl, rfl, ?_⟩
    have qq := q H1 s1
    unfold spotB at qq
    refine ⟨.int wt, rfl, 0, wt, rfl, rfl, ?_⟩
    by_cases c1 : 0 ≤ wt
    · rw [show decide (0 ≤ ((wt, tu) : Wk.Spt).1) = true from decide_eq_true c1] at qq
      refine ⟨true, congrArg V.bl (decide_eq_true c1), iteT ⟨.int b, rfl, wt, b, rfl, rfl, ?_⟩⟩
      by_cases c2 : wt ≤ b
      · rw [show decide (((wt, tu) : Wk.Spt).1 ≤ b) = true from decide_eq_true c2] at qq
        refine ⟨true, congrArg V.bl (decide_eq_true c2), iteT ?_⟩
        refine ⟨.int tu, rfl, 1, tu, rfl, rfl, ?_⟩
        by_cases c3 : 1 ≤ tu
        · rw [show decide (1 ≤ ((wt, tu) : Wk.Spt).2) = true from decide_eq_true c3] at qq
          refine ⟨true, congrArg V.bl (decide_eq_true c3), iteT ⟨.int k, rfl, tu, k, rfl, rfl, ?_⟩⟩
          by_cases c4 : tu ≤ k
          · rw [show decide (((wt, tu) : Wk.Spt).2 ≤ k) = true from decide_eq_true c4] at qq
            refine ⟨true, congrArg V.bl (decide_eq_true c4), iteT ?_⟩
            exact ⟨.int wt, rfl, .int tu, rfl, _, _, rfl, rfl, _, _, rfl, rfl, qq⟩
          · rw [show decide (((wt, tu) : Wk.Spt).2 ≤ k) = false from decide_eq_false c4] at qq
            exact ⟨false, congrArg V.bl (decide_eq_false c4), iteF qq⟩
        · rw [show decide (1 ≤ ((wt, tu) : Wk.Spt).2) = false from decide_eq_false c3] at qq
          exact ⟨false, congrArg V.bl (decide_eq_false c3), iteF ⟨false, rfl, iteF qq⟩⟩
      · rw [show decide (((wt, tu) : Wk.Spt).1 ≤ b) = false from decide_eq_false c2] at qq
        exact ⟨false, congrArg V.bl (decide_eq_false c2), iteF qq⟩
    · rw [show decide (0 ≤ ((wt, tu) : Wk.Spt).1) = false from decide_eq_false c1] at qq
      exact ⟨false, congrArg V.bl (decide_eq_false c1), iteF ⟨false, rfl, iteF qq⟩⟩
def spIsNext (K : PySem.W.Frag) : Sp := fun vs H Q _ => ∃ (k b : Int) (p o : Addr) (s t : Wk.Spt), vs = [.int k, .int b, .ref p, .ref o] ∧ SqT K H p (pv2 s) ∧ SqT K H o (pv2 t) ∧ Wk.Nx k b s t ∧ ∀ H', Same H H' → Q (.bl true) H'
theorem ok_is_next (T : Tx K mg) : FnOk P w K mg base CX0 4 T.a_is_next T.d_is_next ["comers", "bound", "spot", "other"] (spIsNext K) := by
  refine T.F_is_next.ok sc_is_next (fun vs H Q E h => ?_) (fun cdv A outer s H vs Q E hr h => ?_)
  · obtain ⟨k, b, p, o, s, t, rfl, _⟩ := h
    rfl
  · obtain ⟨k, b, p, o, ⟨wt, tu⟩, ⟨wo, to⟩, rfl, hP, hO, nx, q⟩ := h
    refine ⟨_, ((pss_cons (ps_if (pt_not (pt_val (pe_call (ok_is_spot T) (hr.mono (by decide)) (by rfl) T.g_is_spot T.F_is_spot.kp T.b_is_spot .nil pass0 (pa_cons (pv 0) (pa_cons (pv 1) (pa_cons (pv 3) pa_nil)))))) (pss_one (ps_ret pe_bl)) pss_nil)
  (pss_cons (ps_asg (pv 2) (pg_tup rfl (pgs_cons (pg_name (i := 4) sc_is_next.nd rfl (.inl rfl)) (pgs_cons (pg_name (i := 5) sc_is_next.nd rfl (.inl rfl)) pgs_nil))))
  (pss_one (ps_ret (pe_or (pe_cmpR (op_eqD hr.units) (pv 3) (pe_tup (pa_cons (pe_op op_add (pv 4) pe_int) (pa_cons (pe_op op_add (pv 5) pe_int) pa_nil))) (nomark _)) (pe_one (pe_and (pe_cmpR op_eq (pe_ix ix_tup (pv 3) pe_int (fun _ _ => rfl)) pe_int (nomark _)) (pe_one (pe_cmpR op_le (pe_ix ix_tup (pv 3) pe_int (fun _ _ => rfl)) (pv 4) (nomark _))))))))))), ?_⟩
    have sb := spotB_iff.mpr nx.1
    refine ⟨.int k, rfl, .int b, rfl, .ref o, rfl, k, b, o, (wo, to), rfl, hO, fun H1 s1 => ⟨true, congrArg V.bl sb, iteF ?_⟩⟩
    refine ⟨.ref p, rfl, p, _, rfl, sT s1 hP, rfl, _, [_], rfl, _, [], rfl, rfl, ?_⟩
    refine ⟨.ref o, rfl, .int wt, rfl, _, _, rfl, rfl, .int tu, rfl, _, _, rfl, rfl, by show 2 ≤ sizeLine; decide, fun c nc => ?_⟩
    have s2 := same_upd (o := .tup [.int (wt + 1), .int (tu + 1)]) nc
    have s12 := s1.trans s2
    refine ⟨dI [wo, to], dI [wt + 1, tu + 1], dp_dI (sT s12 hO), dp_dI (SqT.of upd_same), (Shp.dI _).ok (by decide), (Shp.dI _).ok (by decide), ?_⟩
    have e2 := two_eq (wo, to) (wt + 1, tu + 1)
    by_cases c : ((wo, to) : Int × Int) = (wt + 1, tu + 1)
    · rw [decide_eq_true c] at e2
      refine ⟨true, congrArg V.bl e2, iteT ?_⟩
      exact q _ s12
    · rw [decide_eq_false c] at e2
      refine ⟨false, congrArg V.bl e2, iteF ?_⟩
      obtain ⟨h1, h2⟩ : to = 1 ∧ wo ≤ wt := by
        rcases nx.2 with e | ⟨e1, e2⟩
        · exact absurd e c
        · exact ⟨e1, e2⟩
      refine ⟨.ref o, rfl, o, _, 1, _, rfl, rfl, sT s12 hO, atI_nat (j := 1) rfl, rfl, true, congrArg V.bl (decide_eq_true (congrArg V.int h1)), iteT ?_⟩
      refine ⟨.ref o, rfl, o, _, 0, _, rfl, rfl, sT s12 hO, atI_nat (j := 0) rfl, .int wt, rfl, _, _, rfl, rfl, ?_⟩
      have qq := q _ s12
      rw [← decide_eq_true h2] at qq
      exact qq
end

theorem cut1 (xs : List V) : cutV xs (some 1) none = xs.drop 1 := by
  unfold cutV
  rw [show HT.sIx xs.length 0 (some 1) = min 1 xs.length from HT.sIx_nat xs.length 0 1, HT.sIx_none]
  cases xs with
  | nil => rfl
  | cons x r =>
    rw [show min 1 (x :: r).length = 1 by
      rw [List.length_cons]
      omega]
    show (List.take ((x :: r).length - 1) r) = r
    rw [List.length_cons, Nat.add_sub_cancel]
    exact List.take_length

/-! ### walks, as a list or a tuple -/
section
variable {P : Program} {w : World} {K : PySem.W.Frag} {mg : Str → Option Value} {base : Heap}
/-- a list (κ) or a tuple -/
def Kd (κ : Bool) (K : PySem.W.Frag) (H : Hp) (a : Addr) (xs : List V) : Prop := match κ with
  | true => H a = some (.lst xs)
  | false => SqT K H a xs
section
variable {κ : Bool} {H H' : Hp} {a L : Addr} {xs ys : List V}
theorem Kd.same (h : Kd κ K H a xs) (e : Same H H') : Kd κ K H' a xs := match κ, h with
  | true, h => e _ _ h
  | false, h => sT e h
theorem Kd.len (h : Kd κ K H a xs) : SqL K H a xs ∨ SqT K H a xs := match κ, h with
  | true, h => .inl (SqL.of h)
  | false, h => .inr h
theorem Kd.put {o : HO} {zs : List V} (h : Kd κ K H a xs) (e : H L = some (.lst zs)) (n : a ≠ L) : Kd κ K (upd H L o) a xs := match κ, h with
  | true, h => (upd_ne n).trans h
  | false, h => by
    rcases h with (h | ⟨z, h⟩) | h
    · exact .inl (.inl ((upd_ne n).trans h))
    · exact .inl (.inr ⟨z, (upd_ne n).trans h⟩)
    · exact .inr h
theorem ixK {i : Int} {v : V} {Q : VK} (h : Kd κ K H L xs) (e : atI xs i = some v) (q : Q v H) : rIxL K (.ref L) (.int i) H Q ∨ rIxT K (.ref L) (.int i) H Q := match κ, h with
  | true, h => .inl ⟨L, xs, i, v, rfl, rfl, SqL.of h, e, q⟩
  | false, h => .inr ⟨L, xs, i, v, rfl, rfl, h, e, q⟩
theorem slK {Q : VK} (h : Kd κ K H L xs) (hx : 0 < xs.length) (q : ∀ c o, H c = none → Kd κ K (upd H c o) c (xs.drop 1) → Q (.ref c) (upd H c o)) : rSlL K (.ref L) (some 1) none H Q ∨ rSlA K (.ref L) (some 1) none H Q := match κ, h with
  | true, h => .inl ⟨L, xs, rfl, SqL.of h, fun c nc => q c _ nc (by rw [← cut1]; exact upd_same)⟩
  | false, h => .inr ⟨L, xs, rfl, h, fun z => (by
      have e : HT.sIx xs.length 0 (some 1) = min 1 xs.length := HT.sIx_nat xs.length 0 1
      rw [e] at z
      omega), fun _ c nc => q c _ nc (by rw [← cut1]; exact SqT.of upd_same)⟩
theorem Kd.isi (h : Kd κ K H a xs) : ∃ t, TyX K H (.ref a) t ∧ PySem.W.kitAny K t [.type "list", .type "tuple"] = some true := match κ, h with
  | true, h => ⟨_, .base (.lst h), kitAny_cons (kit_ty (r := true) (by decide +kernel)) (fun h => by cases h) (fun _ => rfl)⟩
  | false, h => ⟨_, tyTup h, kitAny_cons (kit_ty (r := false) (by decide +kernel)) (fun _ => kitAny_cons (kit_ty (r := true) (by decide +kernel)) (fun h => by cases h) (fun _ => rfl)) (fun h => by cases h)⟩
end
theorem for_zipK {κ : Bool} {a b : Addr} {xs ys : List V} {g : TG} {tb : TS} {D : Ends} {σ : L2.St} {H : Hp} (hl : ys.length ≤ xs.length) (Pv : Nat → L2.St → Hp → Prop) (h0 : Pv 0 σ H) (hq : ∀ i σ H, Pv i σ H → Kd κ K H a xs ∧ Kd κ K H b ys)
    (hs : ∀ (i : Nat) (x y : V) (T : Addr) (σ : L2.St) (H : Hp), xs[i]? = some x → ys[i]? = some y → Pv i σ H → H T = none → g (.ref T) σ (upd H T (.tup [x, y])) fun σ2 H2 => tb { D with nx := Pv (i + 1), ct := Pv (i + 1), bk := D.nx } σ2 H2) (hd : ∀ σ H, Pv ys.length σ H → D.nx σ H) :
    (SqL K H a xs ∧ SqL K H b ys ∧ ∃ W : Nat → Nat → L2.St → Hp → Prop, (∃ m, W 0 m σ H) ∧ ∀ i m σ H, W i m σ H →
      ((Itz K a b).stop i H ∧ D.nx σ H) ∨ ((Itz K a b).go i H ∧ ∃ N : L2.St → Hp → Prop, (∀ σ' H', N σ' H' → ∃ m', m' < m ∧ W (i + 1) m' σ' H') ∧ ∀ v H', (Itz K a b).yld i H v H' → g v σ H' fun σ2 H2 => tb { D with nx := N, ct := N, bk := D.nx } σ2 H2)) ∨
    (SqT K H a xs ∧ SqT K H b ys ∧ ∃ W : Nat → Nat → L2.St → Hp → Prop, (∃ m, W 0 m σ H) ∧ ∀ i m σ H, W i m σ H →
      ((RZ.ItzT K a b).stop i H ∧ D.nx σ H) ∨ ((RZ.ItzT K a b).go i H ∧ ∃ N : L2.St → Hp → Prop, (∀ σ' H', N σ' H' → ∃ m', m' < m ∧ W (i + 1) m' σ' H') ∧ ∀ v H', (RZ.ItzT K a b).yld i H v H' → g v σ H' fun σ2 H2 => tb { D with nx := N, ct := N, bk := D.nx } σ2 H2)) := by
  cases κ with
  | true =>
    have hq' : ∀ i σ H, Pv i σ H → SqL K H a xs ∧ SqL K H b ys := fun i σ H p => ⟨SqL.of (hq i σ H p).1, SqL.of (hq i σ H p).2⟩
    exact .inl ⟨(hq' 0 σ H h0).1, (hq' 0 σ H h0).2, for_zipS hl Pv h0 hq' hs hd⟩
  | false =>
    refine .inr ⟨(hq 0 σ H h0).1, (hq 0 σ H h0).2, fun k m σ H => k + m = ys.length ∧ Pv k σ H, ⟨ys.length, Nat.zero_add _, h0⟩, ?_⟩
    intro k m σ H h
    obtain ⟨hk, p⟩ := h
    have tt : SqT K H a xs ∧ SqT K H b ys := hq k σ H p
    cases m with
    | zero =>
      have e : k = ys.length := hk
      rw [e] at p ⊢
      exact .inl ⟨⟨xs, ys, tt.1, tt.2, .inr (Nat.le_refl _)⟩, hd σ H p⟩
    | succ m =>
      have lt : k < ys.length := by omega
      have gx : xs[k]? = some xs[k] := List.getElem?_eq_getElem (by omega)
      have gy : ys[k]? = some ys[k] := List.getElem?_eq_getElem lt
      refine .inr ⟨⟨xs, ys, _, _, tt.1, tt.2, gx, gy⟩, Pv (k + 1), fun σ' H' r => ⟨m, Nat.lt_succ_self m, by omega, r⟩, fun v G y => ?_⟩
      obtain ⟨T, x1, y1, e1, nT, e2, e3, e4⟩ := y
      rw [e1, e2]
      exact hs k x1 y1 T σ H (e3 xs tt.1) (e4 ys tt.2) p nT
def spIsWalk (K : PySem.W.Frag) : Sp := fun vs H Q _ => ∃ (k b : Int) (L : Addr) (ps : List Addr) (row : List Wk.Spt) (κ : Bool), vs = [.int k, .int b, .ref L] ∧ Kd κ K H L (ps.map V.ref) ∧ Tups pv2 H ps row ∧ Wk.Walk k b row ∧ row.length ≤ 60 ∧ ∀ H', Same H H' → Q (.bl true) H'
theorem chain_at {k b : Int} : ∀ (r : List Wk.Spt) (s : Wk.Spt) (i : Nat) (x y : Wk.Spt), Wk.Chain k b s r → (s :: r)[i]? = some x → (s :: r)[i + 1]? = some y → Wk.Nx k b x y
  | [], s, i, x, y, _, _, h => by simp at h
  | o :: r, s, 0, x, y, hc, h1, h2 => by
    simp at h1 h2
    subst h1 h2
    exact hc.1
  | o :: r, s, i + 1, x, y, hc, h1, h2 => chain_at r o i x y hc.2 h1 h2
theorem walk_at {k b : Int} {row : List Wk.Spt} (h : Wk.Walk k b row) {i : Nat} {x y : Wk.Spt} (h1 : row[i]? = some x) (h2 : row[i + 1]? = some y) : Wk.Nx k b x y := by
  cases row with
  | nil => exact False.elim h
  | cons s r => exact chain_at r s i x y h.2.2 h1 h2
theorem ok_is_walk (T : Tx K mg) : FnOk P w K mg base CX0 5 T.a_is_walk T.d_is_walk ["comers", "bound", "thing"] (spIsWalk K) := by
  refine T.F_is_walk.ok sc_is_walk (fun vs H Q E h => ?_) (fun cdv A outer s H vs Q E hr h => ?_)
  · obtain ⟨k, b, L, ps, row, κ, rfl, _⟩ := h
    rfl
  · obtain ⟨k, b, L, ps, row, κ, rfl, eL, tu, hw, h60, q⟩ := h
    have hne : row ≠ [] := fun e => by
      rw [e] at hw
      exact hw
    have hl1 : 1 ≤ row.length := by
      cases row with
      | nil => exact absurd rfl hne
      | cons _ _ => rw [List.length_cons]; omega
    refine ⟨_, ((pss_cons (ps_if (PW.pt (pw_or (pt_not (pt_val (pe_callB call_isiT (by rfl) T.m_isinstance (by decide +kernel) (pa_cons (pv 2) (pa_cons (pe_tup (pa_cons (pe_bltn (v := .ty "list") (by rfl) T.m_list (by decide +kernel) rfl) (pa_cons (pe_bltn (v := .ty "tuple") (by rfl) T.m_tuple (by decide +kernel) rfl) pa_nil))) pa_nil))))) (pw_or1 (pt_cmpR op_eq (pe_callB call_len_seq (by rfl) T.m_len PySem.boot_len (pa_cons (pv 2) pa_nil)) pe_int (nomark _))))) (pss_one (ps_ret pe_bl)) pss_nil)
  (pss_cons (ps_set (i := 3) sc_is_walk.nd rfl (.inl rfl) (pe_ix (ix_list.or ix_tup) (pv 2) pe_int (fun _ _ => rfl)))
  (pss_cons (ps_if (PW.pt (pw_or (pt_not (pt_val (pe_call (ok_is_spot T) (hr.mono (by decide)) (by rfl) T.g_is_spot T.F_is_spot.kp T.b_is_spot .nil pass0 (pa_cons (pv 0) (pa_cons (pv 1) (pa_cons (pv 3) pa_nil)))))) (pw_or1 (pt_cmpR op_ne (pe_ix ix_tup (pv 3) pe_int (fun _ _ => rfl)) pe_int (nomark _))))) (pss_one (ps_ret pe_bl)) pss_nil)
  (pss_cons (ps_for PassesOwn.never rfl (pi_range2 (by rfl) T.m_range (pa_cons pe_int (pa_cons (pe_callB call_len_seq (by rfl) T.m_len PySem.boot_len (pa_cons (pv 2) pa_nil)) pa_nil))) (pg_name (i := 4) sc_is_walk.nd rfl (.inl rfl))
   (pss_one (ps_if (pt_not (pt_val (pe_call (ok_is_next T) (hr.mono (by decide)) (by rfl) T.g_is_next T.F_is_next.kp T.b_is_next .nil pass0 (pa_cons (pv 0) (pa_cons (pv 1) (pa_cons (pe_ix (ix_list.or ix_tup) (pv 2) (pe_op op_sub (pv 4) pe_int) (fun _ _ => rfl)) (pa_cons (pe_ix (ix_list.or ix_tup) (pv 2) (pv 4) (fun _ _ => rfl)) pa_nil))))))) (pss_one (ps_ret pe_bl)) pss_nil)))
  (pss_one (ps_ret pe_bl))))))), ?_⟩
    refine ⟨.ref L, rfl, by show 2 ≤ sizeLine; decide, fun tp ntp => ?_⟩
    have s1 := same_upd (o := .tup [V.ty "list", .ty "tuple"]) ntp
    obtain ⟨ty, kt1, kt2⟩ := (eL.same s1).isi
    refine ⟨.ref L, tp, _, ty, [.type "list", .type "tuple"], true, rfl, upd_same, .cons (.ty _) (.cons (.ty _) .nil), kt1, kt2, true, rfl, iteF ?_⟩
    refine ⟨.ref L, rfl, L, _, rfl, (eL.same s1).len, rfl, false, ?_, iteF ?_⟩
    · rw [List.length_map, tu.length, decide_eq_false (fun z => by
        have := V.int.inj z
        omega)]
    · obtain ⟨s0, hs0⟩ : ∃ s0, row[0]? = some s0 := ⟨_, List.getElem?_eq_getElem (by omega)⟩
      obtain ⟨p0, hp0, e0⟩ := tu.at hs0
      have hsp : Wk.Spot k b s0 ∧ s0.2 = 1 := by
        cases row with
        | nil => exact absurd rfl hne
        | cons s r =>
          simp at hs0
          subst hs0
          exact ⟨hw.1, hw.2.1⟩
      refine ⟨.ref L, rfl, ixK (eL.same s1) (atI_nat (j := 0) hp0) ?_⟩
      have sb := spotB_iff.mpr hsp.1
      refine ⟨.int k, rfl, .int b, rfl, .ref p0, rfl, k, b, p0, s0, rfl, SqT.of (s1 _ _ e0), fun H2 s2 => ⟨true, congrArg V.bl sb, iteF ?_⟩⟩
      have s12 := s1.trans s2
      refine ⟨.ref p0, rfl, p0, _, 1, _, rfl, rfl, SqT.of (s12 _ _ e0), atI_nat (j := 1) rfl, rfl, false, ne_no hsp.2, iteF ?_⟩
      refine ⟨.ref L, rfl, L, _, rfl, (eL.same s12).len, 1, _, rfl, ⟨by omega, by omega, by omega, by rw [List.length_map, tu.length]; omega⟩, for_range (lo := 1) (n := ((((ps.map V.ref).length : Nat) : Int) - 1).toNat)
        (fun i σ H' => ∃ (y4 : Option V), σ = [some (.int k), some (.int b), some (.ref L), some (.ref p0), y4] ∧ Same H H') ⟨_, rfl, s12⟩ (fun i σ H' hi h => ?_) (fun σ H' h => ?_)⟩
      · obtain ⟨y4, rfl, sm⟩ := h
        rw [List.length_map, tu.length] at hi
        have hi' : i + 1 < row.length := by omega
        obtain ⟨x, hx⟩ : ∃ x, row[i]? = some x := ⟨_, List.getElem?_eq_getElem (by omega)⟩
        obtain ⟨y, hy⟩ : ∃ y, row[i + 1]? = some y := ⟨_, List.getElem?_eq_getElem hi'⟩
        obtain ⟨px, hpx, ex⟩ := tu.at hx
        obtain ⟨py, hpy, ey⟩ := tu.at hy
        refine ⟨.int k, rfl, .int b, rfl, .ref L, rfl, .int (1 + (i : Int)), rfl, _, _, rfl, rfl, ixK (eL.same sm) (atI_of (by show (0 : Int) ≤ 1 + (i : Int) - 1; omega) (by rw [show ((1 : Int) + (i : Int) - 1).toNat = i by omega]; exact hpx))
          ⟨.ref L, rfl, .int (1 + (i : Int)), rfl, ixK (eL.same sm) (atI_of (by omega) (by rw [show ((1 : Int) + (i : Int)).toNat = i + 1 by omega]; exact hpy)) ⟨k, b, px, py, x, y, rfl, SqT.of (sm _ _ ex), SqT.of (sm _ _ ey), walk_at hw hx hy, fun H3 s3 => ⟨true, rfl, iteF ?_⟩⟩⟩⟩
        exact ⟨_, rfl, sm.trans s3⟩
      · obtain ⟨y4, rfl, sm⟩ := h
        exact q H' sm
def spComFor (K : PySem.W.Frag) : Sp := fun vs H Q _ => ∃ (k b : Int) (L : Addr) (ps : List Addr) (row : List Wk.Spt) (κ : Bool), vs = [.int k, .int b, .ref L] ∧ Kd κ K H L (ps.map V.ref) ∧ Tups pv2 H ps row ∧ Wk.Walk k b row ∧ row.length ≤ 60 ∧ 2 ≤ k ∧ k ≤ 4 ∧ 1 ≤ b ∧ b ≤ 60 ∧
  ∀ p c H', Same H H' → H' p = some (.tup [.ref c, .int (2 * (row.headD (0, 0)).1)]) → H' c = some (.tup ((Wk.cf row).map V.int)) → Q (.ref p) H'
/-- the comings behind so many spots -/
def cfN (row : List Wk.Spt) : Nat → List Int
  | 0 => Wk.start (row.headD (0, 0)).1
  | i + 1 => Wk.grow (cfN row i) (row.getD i (0, 0)) (row.getD (i + 1) (0, 0))
theorem cfN_go : ∀ (r : List Wk.Spt) (row : List Wk.Spt) (i : Nat) (s : Wk.Spt), row.drop i = s :: r → Wk.cfGo (cfN row i) s r = cfN row (i + r.length)
  | [], row, i, s, _ => rfl
  | o :: r, row, i, s, h => by
    have h1 : row.getD i (0, 0) = s := by
      rw [List.getD_eq_getElem?_getD, ← List.head?_drop, h]
      rfl
    have h2 : row.drop (i + 1) = o :: r := by
      rw [← List.tail_drop, h]
      rfl
    have h3 : row.getD (i + 1) (0, 0) = o := by
      rw [List.getD_eq_getElem?_getD, ← List.head?_drop, h2]
      rfl
    show Wk.cfGo (Wk.grow (cfN row i) s o) o r = _
    have e : Wk.grow (cfN row i) s o = cfN row (i + 1) := by
      show _ = Wk.grow (cfN row i) (row.getD i (0, 0)) (row.getD (i + 1) (0, 0))
      rw [h1, h3]
    rw [e, cfN_go r row (i + 1) o h2, List.length_cons]
    congr 1
    omega
theorem cfN_all {row : List Wk.Spt} (h : row ≠ []) : cfN row (row.length - 1) = Wk.cf row := by
  cases row with
  | nil => exact absurd rfl h
  | cons s r =>
    have := cfN_go r (s :: r) 0 s rfl
    rw [Nat.zero_add] at this
    rw [List.length_cons, Nat.add_sub_cancel, ← this]
    rfl
theorem grow_len (cs : List Int) {s o : Wk.Spt} (hs : s.1 ≤ 60) (ho : 0 ≤ o.1) : (Wk.grow cs s o).length ≤ cs.length + 61 := by
  unfold Wk.grow
  split
  · have : ∀ l : List Int, (Wk.incL l).length = l.length := by
      intro l
      induction l with
      | nil => rfl
      | cons x l ih =>
        cases l with
        | nil => rfl
        | cons y l => show (Wk.incL (y :: l)).length + 1 = _; rw [ih]; rfl
    rw [this]
    omega
  · rw [List.length_append, List.length_append, List.length_replicate]
    show cs.length + ((s.1 - o.1).toNat + 1) ≤ _
    omega
theorem last_split {cs : List Int} (h : cs ≠ []) : ∃ ds x, cs = ds ++ [x] := ⟨cs.dropLast, cs.getLast h, (List.dropLast_concat_getLast h).symm⟩
theorem grow_ne (cs : List Int) (s o : Wk.Spt) (h : cs ≠ []) : Wk.grow cs s o ≠ [] := by
  obtain ⟨ds, x, rfl⟩ := last_split h
  unfold Wk.grow
  split
  · rw [Wk.incL_snoc]
    simp
  · simp
theorem cfN_ne (row : List Wk.Spt) : ∀ i, cfN row i ≠ []
  | 0 => by
    show Wk.start _ ≠ []
    unfold Wk.start
    simp
  | i + 1 => grow_ne _ _ _ (cfN_ne row i)
theorem walk_rng {k b : Int} : ∀ (r : List Wk.Spt) (s : Wk.Spt), Wk.Spot k b s → Wk.Chain k b s r → ∀ x ∈ s :: r, Wk.Spot k b x
  | [], s, hs, _, x, hx => by
    rw [List.mem_singleton.mp hx]
    exact hs
  | o :: r, s, hs, hc, x, hx => by
    rcases List.mem_cons.mp hx with e | hx
    · rw [e]
      exact hs
    · exact walk_rng r o hc.1.1 hc.2 x hx
theorem walk_spots {k b : Int} {row : List Wk.Spt} (h : Wk.Walk k b row) : ∀ x ∈ row, Wk.Spot k b x := by
  cases row with
  | nil => exact False.elim h
  | cons s r => exact walk_rng r s h.1 h.2.2
theorem cfN_len {k b : Int} {row : List Wk.Spt} (h : Wk.Walk k b row) (hb : b ≤ 60) : ∀ i, i < row.length → (cfN row i).length ≤ 61 * (i + 1)
  | 0, hi => by
    have hs : (row.headD (0, 0)).1 ≤ 60 := by
      cases row with
      | nil => exact False.elim h
      | cons s r => have := h.1.2.1; show s.1 ≤ 60; omega
    have e : (cfN row 0).length = (row.headD (0, 0)).1.toNat + 1 := by
      show (List.replicate (row.headD (0, 0)).1.toNat (2 : Int) ++ [(1 : Int)]).length = _
      rw [List.length_append, List.length_replicate]
      rfl
    rw [e]
    omega
  | i + 1, hi => by
    have ih := cfN_len h hb i (by omega)
    have h1 : row.getD i (0, 0) ∈ row := by
      rw [List.getD_eq_getElem?_getD, List.getElem?_eq_getElem (by omega)]
      exact List.getElem_mem _
    have h2 : row.getD (i + 1) (0, 0) ∈ row := by
      rw [List.getD_eq_getElem?_getD, List.getElem?_eq_getElem (by omega)]
      exact List.getElem_mem _
    have s1 := walk_spots h _ h1
    have s2 := walk_spots h _ h2
    have := grow_len (cfN row i) (s := row.getD i (0, 0)) (o := row.getD (i + 1) (0, 0)) (by have := s1.2.1; omega) s2.1
    show (Wk.grow _ _ _).length ≤ _
    omega
theorem set_last {ds : List Int} {x y : Int} : ((ds ++ [x]).map V.int).set ds.length (V.int y) = (ds ++ [y]).map V.int := by
  rw [List.map_append, List.map_append]
  have : ds.length = (ds.map V.int).length := by rw [List.length_map]
  rw [this]
  simp
theorem ok_comings_for (T : Tx K mg) : FnOk P w K mg base CX0 6 T.a_comings_for T.d_comings_for ["comers", "bound", "row"] (spComFor K) := by
  refine T.F_comings_for.ok sc_comings_for (fun vs H Q E h => ?_) (fun cdv A outer s H vs Q E hr h => ?_)
  · obtain ⟨k, b, L, ps, row, κ, rfl, _⟩ := h
    rfl
  · obtain ⟨k, b, L, ps, row, κ, rfl, eL, tu, hw, h60, hk2, hk4, hb1, hb60, q⟩ := h
    have hne : row ≠ [] := fun e => by
      rw [e] at hw
      exact hw
    obtain ⟨s0, r0, rfl⟩ : ∃ s0 r0, row = s0 :: r0 := by
      cases row with
      | nil => exact absurd rfl hne
      | cons s r => exact ⟨s, r, rfl⟩
    have hs0 := hw.1
    have hs01 := hs0.1
    have hs02 := hs0.2.1
    obtain ⟨p0, hp0, e0⟩ := tu.at (i := 0) (x := s0) rfl
    have el : ps.length = r0.length + 1 := tu.length
    refine ⟨_, ((pss_cons (ps_expr (pe_call (ok_check_comers T) (hr.mono (by decide)) (by rfl) T.g_check_comers T.F_check_comers.kp T.b_check_comers .nil pass0 (pa_cons (pv 0) pa_nil)))
  (pss_cons (ps_expr (pe_call (ok_check_bound T) (hr.mono (by decide)) (by rfl) T.g_check_bound T.F_check_bound.kp T.b_check_bound .nil pass0 (pa_cons (pv 1) pa_nil)))
  (pss_cons (ps_if (PW.pt (pw_or (pt_not (pt_val (pe_call (ok_is_walk T) (hr.mono (by decide)) (by rfl) T.g_is_walk T.F_is_walk.kp T.b_is_walk .nil pass0 (pa_cons (pv 0) (pa_cons (pv 1) (pa_cons (pv 2) pa_nil)))))) (pw_or1 (pt_cmpR op_gt (pe_callB call_len_seq (by rfl) T.m_len PySem.boot_len (pa_cons (pv 2) pa_nil)) (pe_glob (v := .int 60) rfl T.g_MOST_SPOTS ⟨_, rfl⟩) (nomark _))))) (pss_one ps_never) pss_nil)
  (pss_cons (ps_set (i := 3) sc_comings_for.nd rfl (.inl rfl) (pe_ix ix_tup (pe_ix (ix_list.or ix_tup) (pv 2) pe_int (fun _ _ => rfl)) pe_int (fun _ _ => rfl)))
  (pss_cons (ps_set (i := 4) sc_comings_for.nd rfl (.inl rfl) (pe_op op_cat (pe_op op_rep (pe_lst (pa_cons pe_int pa_nil)) (pv 3)) (pe_lst (pa_cons pe_int pa_nil))))
  (pss_cons (ps_for PassesOwn.never rfl (RZ.pi_zipA (by rfl) T.m_zip (pa_cons (pv 2) (pa_cons (pe_slice (sl_list.or sl_tupA) (pv 2) (po_some pe_int) po_none) pa_nil))) (pg_tup rfl (pgs_cons (pg_tup rfl (pgs_cons (pg_name (i := 5) sc_comings_for.nd rfl (.inl rfl)) (pgs_cons (pg_name (i := 6) sc_comings_for.nd rfl (.inl rfl)) pgs_nil))) (pgs_cons (pg_tup rfl (pgs_cons (pg_name (i := 7) sc_comings_for.nd rfl (.inl rfl)) (pgs_cons (pg_name (i := 8) sc_comings_for.nd rfl (.inl rfl)) pgs_nil))) pgs_nil)))
   (pss_one (ps_if (pt_cmpR op_gt (pv 8) pe_int (nomark _)) (pss_one (ps_augS (pv 4) (pe_un un_neg pe_int) pgetL pe_int ip_add set_list)) (pss_one (ps_expr (pe_bm PySem.F.plainAttrs_list PySem.F.slot_list_extend PySem.F.type_list_extend mt_extend (pv 4) (pa_cons (pe_op op_cat (pe_op op_rep (pe_lst (pa_cons pe_int pa_nil)) (pe_op op_sub (pv 5) (pv 7))) (pe_lst (pa_cons pe_int pa_nil))) pa_nil)))))))
  (pss_one (ps_ret (pe_tup (pa_cons (pe_callTy call_tuple_of (by rfl) T.m_tuple (by decide +kernel) (pa_cons (pv 4) pa_nil)) (pa_cons (pe_op op_mul pe_int (pv 3)) pa_nil)))))))))))), ?_⟩
    refine ⟨.int k, rfl, k, rfl, hk2, hk4, ?_⟩
    refine ⟨.int b, rfl, b, rfl, hb1, hb60, ?_⟩
    refine ⟨.int k, rfl, .int b, rfl, .ref L, rfl, k, b, L, ps, _, κ, rfl, eL, tu, hw, h60, fun H1 s1 => ⟨true, rfl, iteF ?_⟩⟩
    refine ⟨.ref L, rfl, L, _, rfl, (eL.same s1).len, _, _, rfl, rfl, false, ?_, iteF ?_⟩
    · rw [List.length_map]
      exact congrArg V.bl (decide_eq_false (by
        rw [List.length_cons] at h60
        omega))
    refine ⟨.ref L, rfl, ixK (eL.same s1) (atI_nat (j := 0) hp0) ⟨p0, _, 0, _, rfl, rfl, SqT.of (s1 _ _ e0), atI_nat (j := 0) rfl, ?_⟩⟩
    -- comings = [2] * start + [1]
    refine ⟨by show 1 ≤ sizeLine; decide, fun c1 n1 => ?_⟩
    have t1 := same_upd (o := .lst [V.int 2]) n1
    refine ⟨.int s0.1, rfl, c1, s0.1, _, rfl, rfl, upd_same, by omega, by omega, by show 1 * s0.1.toNat ≤ 2 ^ 24; omega, fun c2 n2 => ?_⟩
    have t2 := same_upd (o := .lst (List.replicate s0.1.toNat [V.int 2]).flatten) n2
    refine ⟨by show 1 ≤ sizeLine; decide, fun c3 n3 => ?_⟩
    have t3 := same_upd (o := .lst [V.int 1]) n3
    refine ⟨c2, c3, _, _, rfl, rfl, t3 _ _ upd_same, upd_same, ?_, fun C nC => ?_⟩
    · rw [flat_one, List.length_replicate]
      show s0.1.toNat + 1 ≤ 2 ^ 24
      omega
    have t4 := same_upd (o := .lst ((List.replicate s0.1.toNat [V.int 2]).flatten ++ [V.int 1])) nC
    have sA := (((s1.trans t1).trans t2).trans t3).trans t4
    have eC0 : (upd (upd (upd (upd H1 c1 (.lst [V.int 2])) c2 (.lst (List.replicate s0.1.toNat [V.int 2]).flatten)) c3 (.lst [V.int 1])) C (.lst ((List.replicate s0.1.toNat [V.int 2]).flatten ++ [V.int 1]))) C = some (.lst ((cfN (s0 :: r0) 0).map V.int)) := by
      rw [upd_same, flat_one]
      show _ = some (HO.lst ((List.replicate s0.1.toNat (2 : Int) ++ [(1 : Int)]).map V.int))
      rw [List.map_append, List.map_replicate]
      rfl
    have nHC : H C = none := Same.free (((s1.trans t1).trans t2).trans t3) nC
    -- zip(row, row[1:])
    refine ⟨.ref L, rfl, .ref L, rfl, 1, rfl, slK (eL.same sA) (by rw [List.length_map, el]; exact Nat.succ_pos _) fun c oc nc kc => ?_⟩
    rw [← List.map_drop] at kc
    have sc' := same_upd (o := oc) nc
    have sB := sA.trans sc'
    have hCc : C ≠ c := ne_of_none eC0 nc
    have hne' := hCc.symm
    refine ⟨L, c, _, _, rfl, for_zipK (K := K) (κ := κ) (xs := ps.map V.ref) (ys := (ps.drop 1).map V.ref) (by rw [List.length_map, List.length_map, List.length_drop]; omega)
      (fun i σ H' => ∃ (y5 y6 y7 y8 : Option V), σ = [some (.int k), some (.int b), some (.ref L), some (.int s0.1), some (.ref C), y5, y6, y7, y8] ∧ H' C = some (.lst ((cfN (s0 :: r0) i).map V.int)) ∧ Kd κ K H' c ((ps.drop 1).map V.ref) ∧ Same H H')
      ⟨_, _, _, _, rfl, sc' _ _ eC0, kc, sB⟩ (fun i σ H' h => ?_) (fun i x y X σ H' hx hy h nX => ?_) (fun σ H' h => ?_)⟩
    · obtain ⟨_, _, _, _, _, _, ec, sm⟩ := h
      exact ⟨eL.same sm, ec⟩
    · obtain ⟨y5, y6, y7, y8, rfl, eC, ec, sm⟩ := h
      obtain ⟨px, sx, rfl, hsx, ex⟩ := tu.get hx
      have hy' : (ps.map V.ref)[i + 1]? = some y := by
        rw [List.getElem?_map, List.getElem?_drop] at hy
        rw [List.getElem?_map, Nat.add_comm i 1]
        exact hy
      obtain ⟨py, sy, rfl, hsy, ey⟩ := tu.get hy'
      have g1 : (s0 :: r0).getD i (0, 0) = sx := by
        rw [List.getD_eq_getElem?_getD, hsx]
        rfl
      have g2 : (s0 :: r0).getD (i + 1) (0, 0) = sy := by
        rw [List.getD_eq_getElem?_getD, hsy]
        rfl
      have hi : i + 1 < (s0 :: r0).length := (List.getElem?_eq_some_iff.mp hsy).1
      have zc := cfN_len hw hb60 i (by omega)
      have spx := walk_spots hw _ (List.mem_of_getElem? hsx)
      have spy := walk_spots hw _ (List.mem_of_getElem? hsy)
      have zc' : (cfN (s0 :: r0) i).length ≤ 3660 := by
        rw [List.length_cons] at hi h60
        omega
      have sX := same_upd (o := .tup [V.ref px, .ref py]) nX
      have hnext : cfN (s0 :: r0) (i + 1) = Wk.grow (cfN (s0 :: r0) i) sx sy := by
        show Wk.grow (cfN (s0 :: r0) i) ((s0 :: r0).getD i (0, 0)) ((s0 :: r0).getD (i + 1) (0, 0)) = _
        rw [g1, g2]
      refine ⟨X, _, rfl, SqT.of upd_same, rfl, _, [_], rfl, px, _, rfl, SqT.of (sX _ _ (sm _ _ ex)), rfl, _, [_], rfl, _, [], rfl, rfl, _, [], rfl, py, _, rfl, SqT.of (sX _ _ (sm _ _ ey)), rfl, _, [_], rfl, _, [], rfl, rfl, rfl, ?_⟩
      refine ⟨.int sy.2, rfl, _, _, rfl, rfl, _, rfl, ite2 (fun c1 => ?_) (fun c1 => ?_)⟩
      · have c1' : sy.2 > 1 := of_decide_eq_true c1
        obtain ⟨ds, z, hds⟩ := last_split (cfN_ne (s0 :: r0) i)
        have eg : cfN (s0 :: r0) (i + 1) = ds ++ [z + 1] := by
          rw [hnext]
          unfold Wk.grow
          rw [if_pos c1', hds, Wk.incL_snoc]
        rw [hds] at eC
        have eCX := sX _ _ eC
        have hat : atI ((ds ++ [z]).map V.int) (-1) = some (.int z) := by
          rw [List.map_append]
          exact atI_last _ _
        refine ⟨.ref C, rfl, 1, rfl, C, _, -1, _, rfl, rfl, SqL.of eCX, hat, z, 1, rfl, rfl, C, _, -1, ds.length, rfl, rfl, eCX, ?_, ?_⟩
        · rw [List.length_map, List.length_append]
          unfold ixN
          rw [if_neg (by decide), if_pos (by show -((ds.length + 1 : Nat) : Int) ≤ -1; omega)]
          show some ((-1 : Int) + ((ds.length + 1 : Nat) : Int)).toNat = _
          congr 1
          omega
        · refine ⟨_, _, _, _, rfl, ?_, (ec.same sX).put (sX _ _ eC) hne', same_put (sm.trans sX) nHC⟩
          rw [upd_same, eg]
          exact congrArg (fun l => some (HO.lst l)) set_last
      · have c1' : ¬ sy.2 > 1 := fun z => c1 (decide_eq_true z)
        have eg : cfN (s0 :: r0) (i + 1) = cfN (s0 :: r0) i ++ (List.replicate (sx.1 - sy.1).toNat 0 ++ [1]) := by
          rw [hnext]
          unfold Wk.grow
          rw [if_neg c1']
        refine ⟨.ref C, rfl, .inl ⟨rfl, _, SqL.of (sX _ _ eC)⟩, by show 1 ≤ sizeLine; decide, fun d1 m1 => ?_⟩
        have u1 := same_upd (o := .lst [V.int 0]) m1
        refine ⟨.int sx.1, rfl, .int sy.1, rfl, _, _, rfl, rfl, d1, sx.1 - sy.1, _, rfl, rfl, upd_same, ?_, ?_, by show 1 * (sx.1 - sy.1).toNat ≤ 2 ^ 24; have := spx.2.1; have := spy.1; omega, fun d2 m2 => ?_⟩
        · have := spx.1
          have := spy.2.1
          omega
        · have := spx.2.1
          have := spy.1
          omega
        have u2 := same_upd (o := .lst (List.replicate (sx.1 - sy.1).toNat [V.int 0]).flatten) m2
        refine ⟨by show 1 ≤ sizeLine; decide, fun d3 m3 => ?_⟩
        have u3 := same_upd (o := .lst [V.int 1]) m3
        refine ⟨d2, d3, _, _, rfl, rfl, u3 _ _ upd_same, upd_same, ?_, fun d4 m4 => ?_⟩
        · rw [flat_one, List.length_replicate]
          show (sx.1 - sy.1).toNat + 1 ≤ 2 ^ 24
          have := spx.2.1
          have := spy.1
          omega
        have u4 := same_upd (o := .lst ((List.replicate (sx.1 - sy.1).toNat [V.int 0]).flatten ++ [V.int 1])) m4
        have sU := (((sX.trans u1).trans u2).trans u3).trans u4
        refine ⟨C, d4, _, _, rfl, rfl, sU _ _ eC, upd_same, ?_, ?_⟩
        · rw [List.length_map, List.length_append, flat_one, List.length_replicate]
          show (cfN (s0 :: r0) i).length + ((sx.1 - sy.1).toNat + 1) ≤ 2 ^ 24
          have := spx.2.1
          have := spy.1
          omega
        · refine ⟨_, _, _, _, rfl, ?_, (ec.same sU).put (sU _ _ eC) hne', same_put (sm.trans sU) nHC⟩
          rw [upd_same, eg, flat_one, List.map_append, List.map_append, List.map_replicate]
          rfl
    · obtain ⟨y5, y6, y7, y8, rfl, eC, ec, sm⟩ := h
      have elen : ((ps.drop 1).map V.ref).length = (s0 :: r0).length - 1 := by
        rw [List.length_map, List.length_drop, el, List.length_cons]
      rw [elen, cfN_all hne] at eC
      refine ⟨.ref C, rfl, C, _, rfl, .inl ⟨SqL.of eC, fun p np => ?_⟩⟩
      have s5 := same_upd (o := .tup ((Wk.cf (s0 :: r0)).map V.int)) np
      refine ⟨.int s0.1, rfl, 2, s0.1, rfl, rfl, .inl ⟨by decide, by decide⟩, by show 2 ≤ sizeLine; decide, fun u nu => ?_⟩
      have s6 := same_upd (o := .tup [V.ref p, .int (2 * s0.1)]) nu
      exact q u p _ ((sm.trans s5).trans s6) upd_same (s6 _ _ upd_same)
end

/-! ### drawn loops and rows -/
theorem iteB {b : Bool} {A B : Prop} (h1 : b = true → A) (h2 : b = false → B) : if b = true then A else B := by
  cases b with
  | true => exact iteT (h1 rfl)
  | false => exact iteF (h2 rfl)
theorem good_set {ns : List Int} {j : Nat} {x : Int} (g : Rch.Good ns) (h1 : 1 ≤ x) (h2 : x ≤ 40) : Rch.Good (ns.set j x) := ⟨by rw [List.length_set]; exact g.1, by rw [List.length_set]; exact g.2.1, fun n hn => by
  rcases List.mem_or_eq_of_mem_set hn with hn | hn
  · exact g.2.2 n hn
  · rw [hn]
    exact ⟨h1, h2⟩⟩
theorem first_of {ls : List Int} {x : Int} (h : x ∈ ls) : ∃ j : Nat, ls[j]? = some x ∧ ∀ m, m < j → ls[m]? ≠ some x := by
  induction ls with
  | nil => exact absurd h (by simp)
  | cons y r ih =>
    by_cases e : y = x
    · exact ⟨0, by rw [e]; rfl, fun m hm => absurd hm (Nat.not_lt_zero _)⟩
    · have hr : x ∈ r := by
        rcases List.mem_cons.mp h with z | z
        · exact absurd z.symm e
        · exact z
      obtain ⟨j, h1, h2⟩ := ih hr
      refine ⟨j + 1, by rw [List.getElem?_cons_succ]; exact h1, fun m hm => ?_⟩
      cases m with
      | zero =>
        intro z
        exact e (Option.some.inj z)
      | succ m =>
        rw [List.getElem?_cons_succ]
        exact h2 m (by omega)
section
variable {P : Program} {w : World} {K : PySem.W.Frag} {mg : Str → Option Value} {base : Heap}
def spLoops (K : PySem.W.Frag) : Sp := fun vs H Q _ => ∃ (t s : Addr) (m lg : Int), vs = [.ref t, .int m, .int lg] ∧ (1 ≤ m ∧ m ≤ 8) ∧ (1 ≤ lg ∧ lg ≤ 40) ∧ Tape H t s ∧
  ∀ a (ls : List Int) H', Rch.Good ls → (ls.length : Int) ≤ m → (1 : Int) ∈ ls → a ≠ t → H a = none → Moved t H H' → Tape H' t s → Frz H' a (ls.map V.int) → Q (.ref a) H'
theorem ok__law_loops (T : Tx K mg) : FnOk P w K mg base CX0 2 T.a__law_loops T.d__law_loops ["tape", "most", "longest"] (spLoops K) := by
  refine T.F__law_loops.ok sc__law_loops (fun vs H Q E h => ?_) (fun cdv A outer s H vs Q E hr h => ?_)
  · obtain ⟨t, sc, m, lg, rfl, _⟩ := h
    rfl
  · obtain ⟨t, sc, m, lg, rfl, hm, hlg, tp, q⟩ := h
    refine ⟨_, ((pss_cons (ps_set (i := 3) sc__law_loops.nd rfl (.inl rfl) (pe_op op_add pe_int (pe_call (ok__law_pick T) (hr.mono (by decide)) (by rfl) T.g__law_pick T.F__law_pick.kp T.b__law_pick .nil pass0 (pa_cons (pv 0) (pa_cons (pv 1) pa_nil)))))
  (pss_cons (ps_setLc (i := 4) (own := [("k", 5)]) (g := (gName 5)) (tt := tYes) rfl sc__law_loops.nd rfl rfl (sw_true rfl rfl rfl (by decide +kernel)) (pi_range1 (by rfl) T.m_range (pa_cons (pv 3) pa_nil)) (blkOk_by (own := [("k", 5)]) (N := ["tape", "most", "longest", "many", "found", "k"]) (sc := defScope s__law_loops) (by decide +kernel)) (fun _ _ _ _ _ => pg_name (i := 5) sc__law_loops.nd rfl (.inl rfl)) (fun _ _ _ _ _ => pts_nil) (fun _ _ _ _ _ => (pe_op op_add pe_int (pe_call (ok__law_pick T) (hr.mono (by decide)) (by rfl) T.g__law_pick T.F__law_pick.kp T.b__law_pick .nil pass0 (pa_cons (pv 0) (pa_cons (pv 2) pa_nil))))))
  (pss_cons (ps_asg pe_int (pg_sub (pv 4) (pe_call (ok__law_pick T) (hr.mono (by decide)) (by rfl) T.g__law_pick T.F__law_pick.kp T.b__law_pick .nil pass0 (pa_cons (pv 0) (pa_cons (pv 3) pa_nil))) set_list))
  (pss_one (ps_ret (pe_callTy call_tupleF (by rfl) T.m_tuple (by decide +kernel) (pa_cons (pv 4) pa_nil)))))))), ?_⟩
    refine ⟨.ref t, rfl, .int m, rfl, t, sc, m, rfl, ⟨by omega, by omega⟩, tp, fun d H1 hd0 hd1 mv1 tp1 => ?_⟩
    refine ⟨1, d, rfl, rfl, ?_⟩
    refine ⟨.int _, rfl, _, rfl, by show -(2 ^ 62) ≤ 1 + d; omega, by show 1 + d < 2 ^ 62; omega, fun D hD => lc_range (lo := 0) (n := (1 + d).toNat)
      (fun i H' => ∃ ls : List Int, H' D = some (.lst (ls.map V.int)) ∧ ls.length = i ∧ (∀ l ∈ ls, 1 ≤ l ∧ l ≤ 40) ∧ (∀ b o, b ≠ t → b ≠ D → H b = some o → H' b = some o) ∧ Tape H' t sc)
      ⟨[], upd_same, rfl, fun _ h => by simp at h, fun b o n1 n2 e => by rw [upd_ne n2]; exact mv1 b o n1 e, tp1.keep (same_upd hD)⟩ (fun i H' hi h => ?_) (fun H' h => ?_)⟩
    · obtain ⟨ls, eD, el, hl, kp, tp'⟩ := h
      have hDt : D ≠ t := tp1.ne hD
      refine ⟨rfl, ?_⟩
      refine ⟨.ref t, rfl, .int lg, rfl, t, sc, lg, rfl, ⟨by omega, by omega⟩, tp', fun x H2 hx0 hx1 mv2 tp2 => ?_⟩
      have eD2 := mv2 D _ hDt eD
      refine ⟨1, x, rfl, rfl, _, eD2, by rw [List.length_map]; exact small1000 (by omega), ls ++ [1 + x], by rw [upd_same, List.map_append]; rfl, by rw [List.length_append, el]; rfl, fun l hm' => ?_, fun b o n1 n2 e => ?_, tp2.but hDt (tp1.ne2 hD)⟩
      · rcases List.mem_append.mp hm' with hm' | hm'
        · exact hl l hm'
        · rw [List.mem_singleton.mp hm']
          exact ⟨by omega, by omega⟩
      · rw [upd_ne n2]
        exact mv2 b o n1 (kp b o n1 n2 e)
    · obtain ⟨ls, eD, el, hl, kp, tp'⟩ := h
      have hDt : D ≠ t := tp1.ne hD
      have hDs : D ≠ sc := tp1.ne2 hD
      have g : Rch.Good ls := ⟨by omega, by omega, hl⟩
      refine ⟨.ref D, rfl, .ref t, rfl, .int _, rfl, t, sc, 1 + d, rfl, ⟨by omega, by omega⟩, tp', fun j H3 hj0 hj1 mv3 tp3 => ?_⟩
      have eD3 := mv3 D _ hDt eD
      refine ⟨D, _, j, j.toNat, rfl, rfl, eD3, by rw [List.length_map]; exact ixN_nat hj0 (by omega), ?_⟩
      refine ⟨.ref D, rfl, D, _, rfl, SqL.of upd_same, fun p H5 np s5 fz ot => ?_⟩
      have tp4 := tp3.but (o := .lst ((ls.map V.int).set j.toNat (V.int 1))) hDt hDs
      have hpt : p ≠ t := tp4.ne np
      have hpD : p ≠ D := fun e => by
        rw [e, upd_same] at np
        cases np
      have np3 : H3 p = none := by
        rw [upd_ne hpD] at np
        exact np
      have hHp : H p = none := by
        cases z : H p with
        | none => rfl
        | some o =>
          rw [mv3 p o hpt (kp p o hpt hpD z)] at np3
          cases np3
      refine q p (ls.set j.toNat 1) H5 (good_set g (by decide) (by decide)) (by rw [List.length_set]; omega) (List.mem_set (by omega) _) hpt hHp (fun b o n1 e => ?_) (tp4.keep s5) (by rw [List.map_set]; exact fz)
      have nD : b ≠ D := ne_of_none (mv1 b o n1 e) hD
      refine s5 _ _ ?_
      rw [upd_ne nD]
      exact mv3 b o n1 (kp b o n1 nD e)
def spRow (K : PySem.W.Frag) : Sp := fun vs H Q _ => ∃ (t s a : Addr) (ls : List Int) (wt : Int), vs = [.ref t, .ref a, .int wt] ∧ Tape H t s ∧ Frz H a (ls.map V.int) ∧ Rch.Good ls ∧ (1 : Int) ∈ ls ∧ 0 ≤ wt ∧ wt ≤ 60 ∧
  ∀ r (row : List Int) H', Tb.InR ls row → Tb.rsum ls row = wt → r ≠ t → H r = none → Moved t H H' → Tape H' t s → H' r = some (.tup (row.map V.int)) → Q (.ref r) H'
theorem ok__law_row (T : Tx K mg) : FnOk P w K mg base CX0 2 T.a__law_row T.d__law_row ["tape", "loops", "wait"] (spRow K) := by
  refine T.F__law_row.ok sc__law_row (fun vs H Q E h => ?_) (fun cdv A outer s H vs Q E hr h => ?_)
  · obtain ⟨t, sc, a, ls, wt, rfl, _⟩ := h
    rfl
  · obtain ⟨t, sc, a, ls, wt, rfl, tp, ea, g, h1s, hw0, hw60, q⟩ := h
    have g1 := g.1
    have g2 := g.2.1
    have hat : a ≠ t := ea.tape tp
    refine ⟨_, ((pss_cons (ps_set (i := 3) sc__law_row.nd rfl (.inr rfl) (pe_lst pa_nil))
  (pss_cons (ps_set (i := 4) sc__law_row.nd rfl (.inr rfl) (pv 2))
  (pss_cons (ps_set (i := 5) sc__law_row.nd rfl (.inr rfl) (pe_cmpR op_eq (pe_call (ok__law_pick T) (hr.mono (by decide)) (by rfl) T.g__law_pick T.F__law_pick.kp T.b__law_pick .nil pass0 (pa_cons (pv 0) (pa_cons pe_int pa_nil))) pe_int (nomark _)))
  (Evl.pss_cut (ps_for PassesOwn.never rfl (pi_range1 (by rfl) T.m_range (pa_cons pe_int pa_nil)) (pg_name (i := 6) sc__law_row.nd rfl (.inl rfl))
   (pss_cons (ps_setLc (i := 7) (own := [("k", 8)]) (g := (gName 8)) rfl sc__law_row.nd rfl rfl (sw_true rfl rfl rfl (by decide +kernel)) (pi_range1 (by rfl) T.m_range (pa_cons (pe_callB call_len_seq (by rfl) T.m_len PySem.boot_len (pa_cons (pv 1) pa_nil)) pa_nil)) (blkOk_by (own := [("k", 8)]) (N := ["tape", "loops", "wait", "row", "left", "again", "turn", "fitting", "k"]) (sc := defScope s__law_row) (by decide +kernel)) (fun _ _ _ _ _ => pg_name (i := 8) sc__law_row.nd rfl (.inl rfl)) (fun _ _ _ _ _ => (pts_one (PW.pt (pw_and (pt_cmpR op_le (pe_ix (ixTK (K := K) (by rfl)) (pv 1) (pv 8) (fun _ _ => rfl)) (pv 4) (nomark _)) (pw_and1 (PW.pt (pw_or (pt_val (pv 5)) (pw_or1 (pt_cmpR (notInK (K := K) (by rfl)) (pv 8) (pv 3) (by rfl)))))))))) (fun _ _ _ _ _ => (pv 8)))
  (pss_cons (ps_if (PW.pt (pw_or (pt_cmpR op_eq (pe_callB call_len_seq (by rfl) T.m_len PySem.boot_len (pa_cons (pv 7) pa_nil)) pe_int (nomark _)) (pw_or1 (pt_cmpR op_eq (pv 4) pe_int (nomark _))))) (pss_one ps_break) pss_nil)
  (pss_cons (ps_expr (pe_bm PySem.F.plainAttrs_list PySem.F.slot_list_append PySem.F.type_list_append mt_append (pv 3) (pa_cons (pe_ix ix_list (pv 7) (pe_call (ok__law_pick T) (hr.mono (by decide)) (by rfl) T.g__law_pick T.F__law_pick.kp T.b__law_pick .nil pass0 (pa_cons (pv 0) (pa_cons (pe_callB call_len_seq (by rfl) T.m_len PySem.boot_len (pa_cons (pv 7) pa_nil)) pa_nil))) (fun _ _ => rfl)) pa_nil)))
  (pss_one (ps_set (i := 4) sc__law_row.nd rfl (.inr rfl) (pe_op op_sub (pv 4) (pe_ix ix_tup (pv 1) (pe_ix ix_list (pv 3) (pe_un un_neg pe_int) (fun _ _ => rfl)) (fun _ _ => rfl)))))))))
  (pss_cons (ps_for PassesOwn.never rfl (pi_range1 (by rfl) T.m_range (pa_cons (pv 4) pa_nil)) (pg_name (i := 6) sc__law_row.nd rfl (.inl rfl))
   (pss_one (ps_expr (pe_bm PySem.F.plainAttrs_list PySem.F.slot_list_append PySem.F.type_list_append mt_append (pv 3) (pa_cons (pe_tm PySem.F.plainAttrs_tuple PySem.F.slot_tuple_index PySem.F.type_tuple_index mt_tindex (pv 1) (pa_cons pe_int pa_nil)) pa_nil)))))
  (pss_one (ps_ret (pe_callTy call_tuple_of (by rfl) T.m_tuple (by decide +kernel) (pa_cons (pv 3) pa_nil)))))))))), ?_⟩
    refine ⟨Nat.zero_le _, fun R nR => ?_⟩
    have hRt : R ≠ t := tp.ne nR
    have hRs : R ≠ sc := tp.ne2 nR
    have s1 := same_upd (o := .lst []) nR
    have tp0 := tp.keep s1
    refine ⟨.int wt, rfl, ?_⟩
    refine ⟨.ref t, rfl, t, sc, 12, rfl, ⟨by decide, by decide⟩, tp0, fun ag H1 hg0 hg1 mv1 tp1 => ?_⟩
    refine ⟨rfl, ?_⟩
    have hRa : a ≠ R := ea.ne nR
    refine ⟨fun σ H' => ∃ (y6 y7 y8 : Option V) (row : List Int) (lf : Int) (bb : Bool), σ = [some (.ref t), some (.ref a), some (.int wt), some (.ref R), some (.int lf), some (.bl bb), y6, y7, y8] ∧ H' R = some (.lst (row.map V.int)) ∧ Tb.InR ls row ∧ Tb.rsum ls row + lf = wt ∧ 0 ≤ lf ∧ row.length ≤ 8 ∧ (∀ b o, b ≠ t → b ≠ R → H b = some o → H' b = some o) ∧ Tape H' t sc, ?_, fun σ' H' hm => ?_⟩
    refine ⟨8, rfl, by decide, by decide, for_range (lo := 0) (n := (8 : Int).toNat)
      (fun i σ H' => ∃ (y6 y7 y8 : Option V) (row : List Int) (lf : Int) (bb : Bool), σ = [some (.ref t), some (.ref a), some (.int wt), some (.ref R), some (.int lf), some (.bl bb), y6, y7, y8] ∧ H' R = some (.lst (row.map V.int)) ∧ Tb.InR ls row ∧ Tb.rsum ls row + lf = wt ∧ 0 ≤ lf ∧ row.length ≤ i ∧ (∀ b o, b ≠ t → b ≠ R → H b = some o → H' b = some o) ∧ Tape H' t sc)
      ⟨_, _, _, [], wt, _, rfl, mv1 R _ hRt upd_same, fun k h => by simp at h, by simp [Tb.rsum], hw0, Nat.le_refl _, fun b o n1 n2 e => mv1 b o n1 (s1 _ _ e), tp1⟩ (fun i σ H' hi h => ?_) (fun σ H' h => ?_)⟩
    · obtain ⟨y6, y7, y8, row, lf, bb, rfl, eR, hin, hs, hl0, hlen, kp, tp'⟩ := h
      have ea' := ea.of (kp a · hat hRa)
      -- fitting
      refine ⟨.ref a, rfl, a, _, rfl, .inr ea'.sq, _, rfl, by rw [List.length_map]; omega, by rw [List.length_map]; omega, fun D hD => lc_range (lo := 0) (n := ((((ls.map V.int).length : Nat) : Int)).toNat)
        (fun j H2 => ∃ ks : List Int, Same H' H2 ∧ H2 D = some (.lst (ks.map V.int)) ∧ ks.length ≤ j ∧ ∀ k ∈ ks, 0 ≤ k ∧ k < (ls.length : Int) ∧ Tb.len1 ls k ≤ lf)
        ⟨[], same_upd hD, upd_same, Nat.le_refl _, fun _ h => by simp at h⟩ (fun j H2 hj h => ?_) (fun H2 h => ?_)⟩
      · obtain ⟨ks, s2, eD, zk, hk⟩ := h
        rw [List.length_map] at hj
        rw [Int.zero_add]
        have hj' : (j : Int) < (ls.length : Int) := by omega
        have keepIt : Tb.len1 ls (j : Int) ≤ lf → ∃ acc, H2 D = some (.lst acc) ∧ acc.length < sizeLine ∧ ∃ ks : List Int, Same H' (upd H2 D (.lst (acc ++ [V.int (j : Int)]))) ∧ (upd H2 D (.lst (acc ++ [V.int (j : Int)]))) D = some (.lst (ks.map V.int)) ∧ ks.length ≤ j + 1 ∧ ∀ k ∈ ks, 0 ≤ k ∧ k < (ls.length : Int) ∧ Tb.len1 ls k ≤ lf := fun hle => by
          refine ⟨_, eD, by rw [List.length_map]; exact small1000 (by omega), ks ++ [(j : Int)], same_put s2 hD, by rw [upd_same, List.map_append]; rfl, by rw [List.length_append]; show ks.length + 1 ≤ j + 1; omega, fun k hm => ?_⟩
          rcases List.mem_append.mp hm with hm | hm
          · exact hk k hm
          · rw [List.mem_singleton.mp hm]
            exact ⟨by omega, hj', hle⟩
        have skip : ∃ ks : List Int, Same H' H2 ∧ H2 D = some (.lst (ks.map V.int)) ∧ ks.length ≤ j + 1 ∧ ∀ k ∈ ks, 0 ≤ k ∧ k < (ls.length : Int) ∧ Tb.len1 ls k ≤ lf := ⟨ks, s2, eD, by omega, hk⟩
        refine ⟨rfl, ?_⟩
        refine ⟨.ref a, rfl, .int (j : Int), rfl, a, _, _, .int (Tb.len1 ls (j : Int)), rfl, rfl, (ea'.same s2).sq, atI_of (by omega) (by rw [List.getElem?_map, Tb.len_at (by omega) hj']; rfl), .int lf, rfl, _, _, rfl, rfl, _, rfl, ite2 (fun c1 => ?_) (fun c1 => ?_)⟩
        · have hle := of_decide_eq_true c1
          refine ⟨.bl bb, rfl, bb, rfl, iteB (fun c2 => ?_) (fun c2 => ?_)⟩
          · exact iteT ⟨_, rfl, keepIt hle⟩
          · refine ⟨.int (j : Int), rfl, .ref R, rfl, R, _, rfl, .inl (SqL.of (s2 _ _ eR)), rfl, flat_ints _, _, rfl, ?_⟩
            refine iteB (fun c3 => ?_) (fun c3 => ?_)
            · exact ⟨_, rfl, keepIt hle⟩
            · exact skip
        · exact iteF skip
      · obtain ⟨ks, s2, eD, zk, hk⟩ := h
        have hDt : D ≠ t := tp'.ne hD
        have hDR : D ≠ R := fun e => by
          rw [e, eR] at hD
          cases hD
        have tp2 := tp'.keep s2
        have eR2 := s2 _ _ eR
        have kp2 : ∀ b o, b ≠ t → b ≠ R → H b = some o → H2 b = some o := fun b o n1 n2 e => s2 _ _ (kp b o n1 n2 e)
        have hi8 : i < 8 := hi
        have stop : ∀ y6 y7 y8, ∃ (z6 z7 z8 : Option V) (row : List Int) (lf' : Int) (bb' : Bool), [some (V.ref t), some (.ref a), some (.int wt), some (.ref R), some (.int lf), some (.bl bb), y6, y7, y8] = [some (.ref t), some (.ref a), some (.int wt), some (.ref R), some (.int lf'), some (.bl bb'), z6, z7, z8] ∧ H2 R = some (.lst (row.map V.int)) ∧ Tb.InR ls row ∧ Tb.rsum ls row + lf' = wt ∧ 0 ≤ lf' ∧ row.length ≤ 8 ∧ (∀ b o, b ≠ t → b ≠ R → H b = some o → H2 b = some o) ∧ Tape H2 t sc := fun y6 y7 y8 => ⟨y6, y7, y8, row, lf, bb, rfl, eR2, hin, hs, hl0, by omega, kp2, tp2⟩
        refine ⟨.ref D, rfl, D, _, rfl, .inl (SqL.of eD), rfl, _, rfl, ite2 (fun c1 => ?_) (fun c1 => ?_)⟩
        · exact stop _ _ _
        · have zk1 : 1 ≤ ks.length := by
            cases ks with
            | nil => exact absurd rfl (fun z => c1 (decide_eq_true z))
            | cons x r =>
              rw [List.length_cons]
              omega
          by_cases c2 : V.int lf = V.int 0
          · exact ⟨.int lf, rfl, rfl, true, congrArg V.bl (decide_eq_true c2), iteT (stop _ _ _)⟩
          refine ⟨.int lf, rfl, rfl, false, congrArg V.bl (decide_eq_false c2), iteF ?_⟩
          -- row.append(fitting[pick])
          refine ⟨.ref R, rfl, .inl ⟨rfl, _, SqL.of eR2⟩, .ref D, rfl, .ref t, rfl, .ref D, rfl, D, _, rfl, .inl (SqL.of eD), t, sc, _, rfl, ⟨?_, ?_⟩, tp2, fun j H3 hj0 hj1 mv3 tp3 => ?_⟩
          · rw [List.length_map]
            omega
          · have : ks.length ≤ ls.length := by rw [List.length_map] at zk; omega
            rw [List.length_map]
            omega
          · rw [List.length_map] at hj1
            have eD3 := mv3 D _ hDt eD
            have eR3 := mv3 R _ hRt eR2
            have ea3 := (ea'.same s2).moved hat mv3
            have hjk : j.toNat < ks.length := by omega
            obtain ⟨k, hk'⟩ : ∃ k, k = ks[j.toNat] := ⟨_, rfl⟩
            have gk : (ks.map V.int)[j.toNat]? = some (.int k) := by
              rw [List.getElem?_map, List.getElem?_eq_getElem hjk, hk']
              rfl
            obtain ⟨b0, b1, b2⟩ := hk k (by rw [hk']; exact List.getElem_mem hjk)
            have bp := Tb.len_pos g b0 b1
            refine ⟨D, _, j, _, rfl, rfl, SqL.of eD3, atI_of hj0 gk, R, _, _, rfl, rfl, eR3, by rw [List.length_map]; exact small1000 (by omega), ?_⟩
            have ea4 : Frz (upd H3 R (.lst (row.map V.int ++ [V.int k]))) a (ls.map V.int) := ea3.of fun o e => by
              rw [upd_ne hRa]
              exact e
            -- left = left - loops[row[-1]]
            refine ⟨.int lf, rfl, .ref a, rfl, .ref R, rfl, 1, rfl, R, _, -1, _, rfl, rfl, SqL.of upd_same, atI_last _ _, a, _, k, .int (Tb.len1 ls k), rfl, rfl, ea4.sq, atI_of b0 (by rw [List.getElem?_map, Tb.len_at b0 b1]; rfl), _, _, rfl, rfl, ?_⟩
            refine ⟨_, _, _, row ++ [k], _, _, rfl, by rw [upd_same, List.map_append]; rfl, fun x hx => ?_, ?_, ?_, by rw [List.length_append]; show row.length + 1 ≤ i + 1; omega, fun b o n1 n2 e => ?_, tp3.but hRt hRs⟩
            · rcases List.mem_append.mp hx with hx | hx
              · exact hin x hx
              · rw [List.mem_singleton.mp hx]
                exact ⟨b0, b1⟩
            · rw [Tb.rsum_snoc]
              show Tb.rsum ls row + Tb.len1 ls k + (lf - Tb.len1 ls k) = wt
              omega
            · show 0 ≤ lf - Tb.len1 ls k
              omega
            · rw [upd_ne n2]
              exact mv3 b o n1 (kp2 b o n1 n2 e)
    · exact h
    · obtain ⟨y6, y7, y8, row, lf, bb, rfl, eR, hin, hs, hl0, hlen, kp, tp'⟩ := hm
      obtain ⟨jx, hjx, hjn⟩ := first_of h1s
      have hlf : lf ≤ 60 := by
        have := Tb.rsum_len g hin
        omega
      refine ⟨.int lf, rfl, lf, rfl, ?_, ?_, for_range (lo := 0) (n := lf.toNat)
        (fun i σ H' => ∃ (y6 : Option V) (row : List Int), σ = [some (.ref t), some (.ref a), some (.int wt), some (.ref R), some (.int lf), some (.bl bb), y6, y7, y8] ∧ H' R = some (.lst (row.map V.int)) ∧ Tb.InR ls row ∧ Tb.rsum ls row + (lf - (i : Int)) = wt ∧ row.length ≤ 8 + i ∧ (∀ b o, b ≠ t → b ≠ R → H b = some o → H' b = some o) ∧ Tape H' t sc)
        ⟨_, row, rfl, eR, hin, by omega, hlen, kp, tp'⟩ (fun i σ H2 hi h => ?_) (fun σ H2 h => ?_)⟩
      · have := Tb.rsum_len g hin
        omega
      · have := Tb.rsum_len g hin
        omega
      · obtain ⟨y6, row, rfl, eR, hin, hs, hlen, kp, tp'⟩ := h
        have ea' := ea.of (kp a · hat hRa)
        have hjl : jx < ls.length := (List.getElem?_eq_some_iff.mp hjx).1
        have l1 : Tb.len1 ls (jx : Int) = 1 := by
          unfold Tb.len1
          rw [Int.toNat_natCast, List.getD_eq_getElem?_getD, hjx]
          rfl
        refine ⟨.ref R, rfl, .inl ⟨rfl, _, SqL.of eR⟩,   .ref a, rfl, ⟨a, _, rfl, ea'⟩, a, ls, 1, jx, rfl, rfl, ea'.sq, hjx, hjn, R, _, _, rfl, rfl, eR, by rw [List.length_map]; exact small1000 (by omega), ?_⟩
        refine ⟨_, row ++ [(jx : Int)], rfl, by rw [upd_same, List.map_append]; rfl, fun x hx => ?_, ?_, by rw [List.length_append]; show row.length + 1 ≤ 8 + (i + 1); omega, fun b o n1 n2 e => ?_, tp'.but hRt hRs⟩
        · rcases List.mem_append.mp hx with hx | hx
          · exact hin x hx
          · rw [List.mem_singleton.mp hx]
            exact ⟨by omega, by omega⟩
        · rw [Tb.rsum_snoc, l1]
          omega
        · rw [upd_ne n2]
          exact kp b o n1 n2 e
      · obtain ⟨y6, row, rfl, eR, hin, hs, hlen, kp, tp'⟩ := h
        refine ⟨.ref R, rfl, R, _, rfl, .inl ⟨SqL.of eR, fun p np => ?_⟩⟩
        have hpt : p ≠ t := tp'.ne np
        have hpR : p ≠ R := fun e => by
          rw [e, eR] at np
          cases np
        have hHp : H p = none := by
          cases z : H p with
          | none => rfl
          | some o =>
            rw [kp p o hpt hpR z] at np
            cases np
        refine q p row _ hin (by omega) hpt hHp (fun b o n1 e => ?_) (tp'.keep (same_upd np)) upd_same
        rw [upd_ne (ne_of_none e hHp)]
        exact kp b o n1 (ne_of_none e nR) e
def spRows (K : PySem.W.Frag) : Sp := fun vs H Q _ => ∃ (t s a : Addr) (ls : List Int) (bd : Int), vs = [.ref t, .ref a, .int bd] ∧ Tape H t s ∧ Frz H a (ls.map V.int) ∧ Rch.Good ls ∧ (1 : Int) ∈ ls ∧ 1 ≤ bd ∧ bd ≤ 60 ∧
  ∀ r ps (rs : List (List Int)) H', Tb.Right ls rs → (rs.length : Int) = bd → r ≠ t → H r = none → Moved t H H' → Tape H' t s → H' r = some (.tup (ps.map V.ref)) → Tups fI H' ps rs → Q (.ref r) H'
theorem ok__law_rows (T : Tx K mg) : FnOk P w K mg base CX0 3 T.a__law_rows T.d__law_rows ["tape", "loops", "bound"] (spRows K) := by
  refine T.F__law_rows.ok sc__law_rows (fun vs H Q E h => ?_) (fun cdv A outer s H vs Q E hr h => ?_)
  · obtain ⟨t, sc, a, ls, bd, rfl, _⟩ := h
    rfl
  · obtain ⟨t, sc, a, ls, bd, rfl, tp, ea, g, h1s, hb1, hb60, q⟩ := h
    have hat : a ≠ t := ea.tape tp
    refine ⟨_, ((pss_one (ps_ret (pe_callTy call_tuple_of (by rfl) T.m_tuple (by decide +kernel) (pa_cons (pe_lc (own := [("wait", 3)]) (g := (gName 3)) (tt := tYes) rfl sc__law_rows.nd (pi_range2 (by rfl) T.m_range (pa_cons pe_int (pa_cons (pe_op op_add (pv 2) pe_int) pa_nil))) (blkOk_by (own := [("wait", 3)]) (N := ["tape", "loops", "bound", "wait"]) (sc := defScope s__law_rows) (by decide +kernel)) (fun _ _ _ _ _ => pg_name (i := 3) sc__law_rows.nd rfl (.inl rfl)) (fun _ _ _ _ _ => pts_nil) (fun _ _ _ _ _ => (pe_call (ok__law_row T) (hr.mono (by decide)) (by rfl) T.g__law_row T.F__law_row.kp T.b__law_row .nil pass0 (pa_cons (pv 0) (pa_cons (pv 1) (pa_cons (pv 3) pa_nil)))))) pa_nil))))), ?_⟩
    refine ⟨.int bd, rfl, _, _, rfl, rfl, 1, bd + 1, rfl, ⟨by omega, by omega, by omega, by omega⟩, fun D hD => lc_range (lo := 1) (n := (bd + 1 - 1).toNat)
      (fun i H' => ∃ (ps : List Addr) (rs : List (List Int)), H' D = some (.lst (ps.map V.ref)) ∧ Tups fI H' ps rs ∧ rs.length = i ∧ (∀ (j : Nat) (r : List Int), rs[j]? = some r → Tb.InR ls r ∧ Tb.rsum ls r = (j : Int) + 1) ∧ (∀ b o, b ≠ t → b ≠ D → H b = some o → H' b = some o) ∧ Tape H' t sc)
      ⟨[], [], upd_same, .nil, rfl, fun j r h => by simp at h, fun b o n1 n2 e => by rw [upd_ne n2]; exact e, tp.keep (same_upd hD)⟩ (fun i H' hi h => ?_) (fun H' h => ?_)⟩
    · obtain ⟨ps, rs, eD, tu, el, hrs, kp, tp'⟩ := h
      have hDt : D ≠ t := tp.ne hD
      have hDs : D ≠ sc := tp.ne2 hD
      have hDa : a ≠ D := ea.ne hD
      refine ⟨rfl, ?_⟩
      refine ⟨.ref t, rfl, .ref a, rfl, _, rfl, t, sc, a, ls, 1 + (i : Int), rfl, tp', ea.of (kp a · hat hDa), g, h1s, by omega, by omega, fun r row H2 hin hs hrt nr mv2 tp2 er => ?_⟩
      have eD2 := mv2 D _ hDt eD
      refine ⟨_, eD2, by rw [List.length_map, tu.length]; exact small1000 (by omega), ps ++ [r], rs ++ [row], by rw [upd_same, List.map_append]; rfl, ?_, by rw [List.length_append, el]; rfl, fun j x hx => ?_, fun b o n1 n2 e => ?_, tp2.but hDt hDs⟩
      · exact (((tu.keep fun b ys e => mv2 b _ (fun z => by
          obtain ⟨_, _, _, _, _, _, e2, _⟩ := tp'
          rw [z, e2] at e
          cases e) e)).snoc er).put eD2
      · rcases Nat.lt_or_ge j rs.length with hj | hj
        · rw [List.getElem?_append_left hj] at hx
          exact hrs j x hx
        · rw [List.getElem?_append_right hj] at hx
          have hj0 : j - rs.length = 0 := by
            have := (List.getElem?_eq_some_iff.mp hx).1
            simp at this
            omega
          rw [hj0] at hx
          simp at hx
          subst hx
          exact ⟨hin, by omega⟩
      · rw [upd_ne n2]
        exact mv2 b o n1 (kp b o n1 n2 e)
    · obtain ⟨ps, rs, eD, tu, el, hrs, kp, tp'⟩ := h
      have el' : (rs.length : Int) = bd := by omega
      refine ⟨D, _, rfl, .inl ⟨SqL.of eD, fun p np => ?_⟩⟩
      have hpt : p ≠ t := tp'.ne np
      have hpD : p ≠ D := fun e => by
        rw [e, eD] at np
        cases np
      have hHp : H p = none := by
        cases z : H p with
        | none => rfl
        | some o =>
          rw [kp p o hpt hpD z] at np
          cases np
      refine q p ps rs _ ⟨g, by omega, by omega, fun i r hr' => ?_⟩ el' hpt hHp (fun b o n1 e => ?_) (tp'.keep (same_upd np)) upd_same (tu.new np)
      · obtain ⟨x, y⟩ := hrs i r hr'
        have := Tb.rsum_len g x
        have := (List.getElem?_eq_some_iff.mp hr').1
        exact ⟨x, by omega, y⟩
      · rw [upd_ne (ne_of_none e hHp)]
        exact kp b o n1 (ne_of_none e hD) e
end

/-! ### the law's own entries -/
section
variable {P : Program} {w : World} {K : PySem.W.Frag} {mg : Str → Option Value} {base : Heap}
def spLEnt (K : PySem.W.Frag) : Sp := fun vs H Q _ => ∃ (a r : Addr) (ls row : List Int), vs = [.ref a, .ref r] ∧ SqT K H a (ls.map V.int) ∧ SqT K H r (row.map V.int) ∧ Tb.InR ls row ∧ row.length ≤ 60 ∧
  ∀ L ps H', Same H H' → H L = none → H' L = some (.lst (ps.map V.ref)) → Tups fI H' ps (Tb.ents ls (Tb.rsum ls row) row) → Q (.ref L) H'
theorem ok__law_entries (T : Tx K mg) : FnOk P w K mg base CX0 1 T.a__law_entries T.d__law_entries ["loops", "row"] (spLEnt K) := by
  refine T.F__law_entries.ok sc__law_entries (fun vs H Q E h => ?_) (fun cdv A outer s H vs Q E hr h => ?_)
  · obtain ⟨a, r, ls, row, rfl, _⟩ := h
    rfl
  · obtain ⟨a, r, ls, row, rfl, hA, hR, hin, hlen, q⟩ := h
    refine ⟨_, ((pss_cons (ps_set (i := 2) sc__law_entries.nd rfl (.inl rfl) (pe_callB (cr_sum rfl) (by rfl) T.m_sum (by decide +kernel) (pa_cons (pe_lc (own := [("k", 5)]) (g := (gName 5)) (tt := tYes) rfl sc__law_entries.nd (pi_tup (pv 1)) (blkOk_by (own := [("k", 5)]) (N := ["loops", "row", "total", "found", "gone", "k"]) (sc := defScope s__law_entries) (by decide +kernel)) (fun _ _ _ _ _ => pg_name (i := 5) sc__law_entries.nd rfl (.inl rfl)) (fun _ _ _ _ _ => pts_nil) (fun _ _ _ _ _ => (pe_ix (ixTK (K := K) (by rfl)) (pv 0) (pv 5) (fun _ _ => rfl)))) pa_nil)))
  (pss_cons (ps_set (i := 3) sc__law_entries.nd rfl (.inl rfl) (pe_lst pa_nil))
  (pss_cons (ps_set (i := 4) sc__law_entries.nd rfl (.inl rfl) pe_int)
  (pss_cons (ps_for PassesOwn.never rfl (pi_tup (pv 1)) (pg_name (i := 5) sc__law_entries.nd rfl (.inl rfl))
   (pss_cons (ps_expr (pe_bm PySem.F.plainAttrs_list PySem.F.slot_list_append PySem.F.type_list_append mt_append (pv 3) (pa_cons (pe_tup (pa_cons (pv 5) (pa_cons (pv 4) (pa_cons (pe_op op_sub (pv 2) (pv 4)) pa_nil)))) pa_nil)))
  (pss_one (ps_set (i := 4) sc__law_entries.nd rfl (.inl rfl) (pe_op op_add (pv 4) (pe_ix (ixTK (K := K) (by rfl)) (pv 0) (pv 5) (fun _ _ => rfl)))))))
  (pss_one (ps_ret (pv 3)))))))), ?_⟩
    refine ⟨.ref r, rfl, r, rfl, ⟨_, hR⟩, fun D hD => lc_tup (K := K) (a := r) (xs := row.map V.int)
      (fun i H' => Same H H' ∧ H' D = some (.lst (((row.take i).map (Tb.len1 ls)).map V.int)))
      ⟨same_upd hD, upd_same⟩ (fun i H' _ p => sT p.1 hR) (fun i x H' hx p => ?_) (fun H' p => ?_)⟩
    · obtain ⟨sm, eD⟩ := p
      rw [List.getElem?_map] at hx
      obtain ⟨n, hn, rfl⟩ := Option.map_eq_some_iff.mp hx
      have hk := hin n (List.mem_of_getElem? hn)
      have hi' : i < row.length := (List.getElem?_eq_some_iff.mp hn).1
      refine ⟨rfl, ?_⟩
      refine ⟨.ref a, rfl, .int n, rfl, a, _, _, .int (Tb.len1 ls n), rfl, rfl, sT sm hA, atI_of hk.1 ?_, ?_⟩
      · rw [List.getElem?_map, Tb.len_at hk.1 hk.2]
        rfl
      · refine ⟨_, eD, ?_, fun b o e => ?_, ?_⟩
        · rw [List.length_map, List.length_map, List.length_take]
          exact small1000 (by omega)
        · rw [upd_ne (ne_of_none e hD)]
          exact sm b o e
        · rw [upd_same, take_snoc hn, List.map_append, List.map_append]
          rfl
    · obtain ⟨sm0, eD⟩ := p
      rw [List.length_map, List.take_of_length_le (Nat.le_refl _)] at eD
      refine ⟨D, _, rfl, SqL.of eD, ?_⟩
      refine ⟨Nat.zero_le _, fun L nL => ?_⟩
      have s1 := sm0.trans (same_upd (o := .lst []) nL)
      refine ⟨.ref r, rfl, r, rfl, ⟨_, sT s1 hR⟩, for_tup (K := K) (xs := row.map V.int)
        (fun i σ H' => ∃ (y5 : Option V) (qs : List Addr), σ = [some (.ref a), some (.ref r), some (.int (Tb.rsum ls row)), some (.ref L), some (.int (Tb.rsum ls (row.take i))), y5] ∧ H' L = some (.lst (qs.map V.ref)) ∧ Tups fI H' qs (((Tb.go ls 0 row).take i).map (Tb.ent (Tb.rsum ls row))) ∧ Same H H')
        ⟨_, [], rfl, upd_same, .nil, s1⟩ (fun i σ H' _ h => ?_) (fun i x σ H' hx h => ?_) (fun σ H' h => ?_)⟩
      · obtain ⟨_, _, _, _, _, sm⟩ := h
        exact sT sm hR
      · obtain ⟨y5, qs, rfl, eL, tq, sm⟩ := h
        rw [List.getElem?_map] at hx
        obtain ⟨k, hk, rfl⟩ := Option.map_eq_some_iff.mp hx
        have bk := hin k (List.mem_of_getElem? hk)
        have hi' : i < row.length := (List.getElem?_eq_some_iff.mp hk).1
        have hg : (Tb.go ls 0 row)[i]? = some (Tb.rsum ls (row.take i), k) := by
          rw [Tb.go_take, hk, Int.zero_add]
          rfl
        have zq : qs.length ≤ 60 := by
          rw [tq.length, List.length_map, List.length_take]
          omega
        refine ⟨.ref L, rfl, .inl ⟨rfl, _, SqL.of eL⟩, _, rfl, _, rfl, _, rfl, _, rfl, _, _, rfl, rfl, by show 3 ≤ sizeLine; decide, fun t nt => ?_⟩
        have s3 := same_upd (o := .tup (fI (Tb.ent (Tb.rsum ls row) (Tb.rsum ls (row.take i), k)))) nt
        refine ⟨L, _, _, rfl, rfl, s3 _ _ eL, by rw [List.length_map]; exact small1000 (by omega), ?_⟩
        have sm4 : Same H (upd (upd H' t (.tup (fI (Tb.ent (Tb.rsum ls row) (Tb.rsum ls (row.take i), k))))) L (.lst (qs.map V.ref ++ [V.ref t]))) := same_put (sm.trans s3) (Same.free sm0 nL)
        refine ⟨_, rfl, .ref a, rfl, .int k, rfl, a, _, _, .int (Tb.len1 ls k), rfl, rfl, sT sm4 hA, atI_of bk.1 (by rw [List.getElem?_map, Tb.len_at bk.1 bk.2]; rfl), _, _, rfl, rfl, ?_⟩
        refine ⟨some (.int k), qs ++ [t], ?_, by rw [upd_same, List.map_append]; rfl, ?_, sm4⟩
        · rw [take_snoc hk, Tb.rsum_snoc]
          rfl
        · rw [take_snoc hg, List.map_append]
          exact ((tq.new nt).snoc (x := Tb.ent (Tb.rsum ls row) (Tb.rsum ls (row.take i), k)) upd_same).put (s3 _ _ eL)
      · obtain ⟨y5, qs, rfl, eL, tq, sm⟩ := h
        rw [List.length_map, List.take_of_length_le (by rw [Tb.go_len]; exact Nat.le_refl _)] at tq
        exact ⟨.ref L, rfl, q L qs H' sm (Same.free sm0 nL) eL tq⟩
end

/-! ### pairs of entries as data -/
def dP (p : List Int × List Int) : PyData := .tuple [dI p.1, dI p.2]
theorem Shp.dP (p : List Int × List Int) : Shp 3 (dP p) := .tupC (.dI _) (.tupC (.dI _) (Shp.tup0.up (by decide)))
theorem Shp.dPs (ps : List (List Int × List Int)) : Shp 4 (.list (ps.map My.dP)) := .list Shp.dP ps
theorem eqvP (a b : List Int × List Int) : PyData.eqv (My.dP a) (My.dP b) = decide (a = b) := by
  unfold My.dP
  rw [PyData.eqv]
  simp only [PyData.eqvAll, eqvI, Bool.and_true]
  obtain ⟨a1, a2⟩ := a
  obtain ⟨b1, b2⟩ := b
  by_cases h1 : a1 = b1
  · by_cases h2 : a2 = b2
    · subst h1 h2
      simp
    · simp [h1, h2]
  · simp [h1]
theorem dpa_PT2 {K : PySem.W.Frag} {H : Hp} {qs : List Addr} {ps : List (List Int × List Int)} (h : PT2 H qs ps) : DpAll K H (qs.map V.ref) (ps.map My.dP) := by
  induction h with
  | nil => exact .nil
  | cons a b c _ ih => exact .cons (.tup (SqT.of a) (.cons (dp_dI (SqT.of b)) (.cons (dp_dI (SqT.of c)) .nil))) ih
theorem dp_PT2 {K : PySem.W.Frag} {H : Hp} {L : Addr} {qs : List Addr} {ps : List (List Int × List Int)} (e : H L = some (.lst (qs.map V.ref))) (h : PT2 H qs ps) : Dp K H (.ref L) (.list (ps.map My.dP)) := .lst (SqL.of e) (dpa_PT2 h)
theorem any_P (ps : List (List Int × List Int)) (p : List Int × List Int) : ((ps.map My.dP).any fun z => PyData.eqv z (My.dP p)) = decide (p ∈ ps) := by
  by_cases h : p ∈ ps
  · rw [decide_eq_true h, List.any_eq_true]
    exact ⟨My.dP p, List.mem_map.mpr ⟨p, h, rfl⟩, by rw [eqvP, decide_eq_true rfl]⟩
  · rw [decide_eq_false h, List.any_map, List.any_eq_false]
    intro x hx
    show ¬ PyData.eqv (My.dP x) (My.dP p) = true
    rw [eqvP]
    intro z
    exact h (of_decide_eq_true z ▸ hx)

/-! ### the law's own look at all pairs -/
section
variable {P : Program} {w : World} {K : PySem.W.Frag} {mg : Str → Option Value} {base : Heap}
def spLClash (K : PySem.W.Frag) : Sp := fun vs H Q _ => ∃ (a b : Addr) (c : Int) (x y : List Int), vs = [.int c, .ref a, .ref b] ∧ H a = some (.tup (fI x)) ∧ H b = some (.tup (fI y)) ∧ (x.length = 3 ∧ TS.Bd 1000 x) ∧ (y.length = 3 ∧ TS.Bd 1000 y) ∧ 2 ≤ c ∧ c ≤ 4 ∧ Q (.bl (decide (Cl.hd x = Cl.hd y) && Cl.cond c x y)) H
theorem ok__law_clash (T : Tx K mg) : FnOk P w K mg base CX0 1 T.a__law_clash T.d__law_clash ["comers", "one", "other"] (spLClash K) := by
  refine T.F__law_clash.ok sc__law_clash (fun vs H Q E h => ?_) (fun cdv A outer s H vs Q E hr h => ?_)
  · obtain ⟨a, b, c, x, y, rfl, _⟩ := h
    rfl
  · obtain ⟨a, b, c, x, y, rfl, ha, hb, ⟨lx, bx⟩, ⟨ly, byy⟩, c2, c4, q⟩ := h
    obtain ⟨x1, x2, x3, rfl⟩ : ∃ x1 x2 x3, x = [x1, x2, x3] := by
      match x, lx with
      | [a, b, c], _ => exact ⟨_, _, _, rfl⟩
    obtain ⟨z1, z2, z3, rfl⟩ : ∃ x1 x2 x3, y = [x1, x2, x3] := by
      match y, ly with
      | [a, b, c], _ => exact ⟨_, _, _, rfl⟩
    have i1 : ∀ (n : Nat) (v : Int), ([x1, x2, x3] : List Int)[n]? = some v → atI (fI [x1, x2, x3]) (n : Int) = some (.int v) := fun n v hv => atI_nat (by unfold fI; rw [List.getElem?_map, hv]; rfl)
    have i2 : ∀ (n : Nat) (v : Int), ([z1, z2, z3] : List Int)[n]? = some v → atI (fI [z1, z2, z3]) (n : Int) = some (.int v) := fun n v hv => atI_nat (by unfold fI; rw [List.getElem?_map, hv]; rfl)
    have q1 : 0 ≤ x2 ∧ x2 < 1000 := bx x2 (by simp)
    have q2 : 0 ≤ z2 ∧ z2 < 1000 := byy z2 (by simp)
    have ec : (decide (Cl.hd [x1, x2, x3] = Cl.hd [z1, z2, z3]) && Cl.cond c [x1, x2, x3] [z1, z2, z3]) = (decide (x1 = z1) && (decide (z3 - x3 > 0) && (decide (x2 ≥ z2) && decide (z3 - x3 ≤ c * (x2 - z2) + c - 1)))) := rfl
    rw [ec] at q
    refine ⟨_, ((pss_cons (ps_if (PW.pt (pw_or (pt_cmpR op_ne (pe_ix ix_tup (pv 1) pe_int (fun _ _ => rfl)) (pe_ix ix_tup (pv 2) pe_int (fun _ _ => rfl)) (nomark _)) (pw_or (pt_cmpR op_ge (pe_ix ix_tup (pv 1) pe_int (fun _ _ => rfl)) (pe_ix ix_tup (pv 2) pe_int (fun _ _ => rfl)) (nomark _)) (pw_or1 (pt_cmpR op_lt (pe_ix ix_tup (pv 1) pe_int (fun _ _ => rfl)) (pe_ix ix_tup (pv 2) pe_int (fun _ _ => rfl)) (nomark _)))))) (pss_one (ps_ret pe_bl)) pss_nil)
  (pss_one (ps_ret (pe_cmpR op_le (pe_op op_sub (pe_ix ix_tup (pv 2) pe_int (fun _ _ => rfl)) (pe_ix ix_tup (pv 1) pe_int (fun _ _ => rfl))) (pe_op op_sub (pe_op op_add (pe_op op_mul (pv 0) (pe_op op_sub (pe_ix ix_tup (pv 1) pe_int (fun _ _ => rfl)) (pe_ix ix_tup (pv 2) pe_int (fun _ _ => rfl)))) (pv 0)) pe_int) (nomark _)))))), ?_⟩
    refine ⟨.ref a, rfl, a, _, 0, .int x1, rfl, rfl, SqT.of ha, i1 0 x1 rfl, .ref b, rfl, b, _, 0, .int z1, rfl, rfl, SqT.of hb, i2 0 z1 rfl, ?_⟩
    by_cases c0 : x1 = z1
    · refine ⟨rfl, false, congrArg V.bl (by rw [c0]; simp), iteF ?_⟩
      refine ⟨.ref a, rfl, a, _, 2, .int x3, rfl, rfl, SqT.of ha, i1 2 x3 rfl, .ref b, rfl, b, _, 2, .int z3, rfl, rfl, SqT.of hb, i2 2 z3 rfl, _, _, rfl, rfl, ?_⟩
      by_cases c1 : z3 - x3 > 0
      · refine ⟨false, congrArg V.bl (decide_eq_false (by omega)), iteF ?_⟩
        refine ⟨.ref a, rfl, a, _, 1, .int x2, rfl, rfl, SqT.of ha, i1 1 x2 rfl, .ref b, rfl, b, _, 1, .int z2, rfl, rfl, SqT.of hb, i2 1 z2 rfl, _, _, rfl, rfl, ?_⟩
        by_cases c2' : x2 ≥ z2
        · refine ⟨false, congrArg V.bl (decide_eq_false (by omega)), iteF ?_⟩
          refine ⟨.ref b, rfl, b, _, 2, .int z3, rfl, rfl, SqT.of hb, i2 2 z3 rfl, .ref a, rfl, a, _, 2, .int x3, rfl, rfl, SqT.of ha, i1 2 x3 rfl, _, _, rfl, rfl, ?_⟩
          refine ⟨.int c, rfl, .ref a, rfl, a, _, 1, .int x2, rfl, rfl, SqT.of ha, i1 1 x2 rfl, .ref b, rfl, b, _, 1, .int z2, rfl, rfl, SqT.of hb, i2 1 z2 rfl, _, _, rfl, rfl, _, _, rfl, rfl, .inl ⟨by omega, by omega⟩, .int c, rfl, _, _, rfl, rfl, _, _, rfl, rfl, _, _, rfl, rfl, ?_⟩
          rw [decide_eq_true c0, decide_eq_true c1, decide_eq_true c2'] at q
          exact q
        · refine ⟨true, congrArg V.bl (decide_eq_true (by omega)), iteT ?_⟩
          rw [decide_eq_false c2', Bool.false_and, Bool.and_false, Bool.and_false] at q
          exact q
      · refine ⟨true, congrArg V.bl (decide_eq_true (by omega)), iteT (iteT ?_)⟩
        rw [decide_eq_false c1, Bool.false_and, Bool.and_false] at q
        exact q
    · refine ⟨rfl, true, congrArg V.bl (by simp [c0]), iteT (iteT ?_)⟩
      rw [decide_eq_false c0, Bool.false_and] at q
      exact q
def spLTC (K : PySem.W.Frag) : Sp := fun vs H Q _ => ∃ (la ra : Addr) (c : Int) (ls : List Int) (ps : List Addr) (rs : List (List Int)), vs = [.ref la, .ref ra, .int c] ∧ SqT K H la (ls.map V.int) ∧ SqT K H ra (ps.map V.ref) ∧ Tups fI H ps rs ∧ Tb.Right ls rs ∧ 2 ≤ c ∧ c ≤ 4 ∧
  ∀ L qs ds H', Same H H' → H L = none → H' L = some (.lst (qs.map V.ref)) → PT2 H' qs ds → Pr.Due c ls rs ds → Q (.ref L) H'
theorem ok__law_table_clashes (T : Tx K mg) : FnOk P w K mg base CX0 2 T.a__law_table_clashes T.d__law_table_clashes ["loops", "rows", "comers"] (spLTC K) := by
  refine T.F__law_table_clashes.ok sc__law_table_clashes (fun vs H Q E h => ?_) (fun cdv A outer s H vs Q E hr h => ?_)
  · obtain ⟨la, ra, c, ls, ps, rs, rfl, _⟩ := h
    rfl
  · obtain ⟨la, ra, c, ls, ps, rs, rfl, hL, hR, tr, R, c2, c4, q⟩ := h
    refine ⟨_, ((pss_cons (ps_set (i := 3) sc__law_table_clashes.nd rfl (.inl rfl) (pe_lst pa_nil))
  (pss_cons (ps_for PassesOwn.never rfl (pi_tup (pv 1)) (pg_name (i := 4) sc__law_table_clashes.nd rfl (.inl rfl))
   (pss_one (ps_set (i := 3) sc__law_table_clashes.nd rfl (.inl rfl) (pe_op op_cat (pv 3) (pe_call (ok__law_entries T) (hr.mono (by decide)) (by rfl) T.g__law_entries T.F__law_entries.kp T.b__law_entries .nil pass0 (pa_cons (pv 0) (pa_cons (pv 4) pa_nil)))))))
  (pss_cons (ps_set (i := 5) sc__law_table_clashes.nd rfl (.inl rfl) (pe_lst pa_nil))
  (pss_cons (ps_for PassesOwn.never rfl (pi_list (pv 3)) (pg_name (i := 6) sc__law_table_clashes.nd rfl (.inl rfl))
   (pss_one (ps_for PassesOwn.never rfl (pi_list (pv 3)) (pg_name (i := 7) sc__law_table_clashes.nd rfl (.inl rfl))
   (pss_one (ps_if (PW.pt (pw_and (pt_val (pe_call (ok__law_clash T) (hr.mono (by decide)) (by rfl) T.g__law_clash T.F__law_clash.kp T.b__law_clash .nil pass0 (pa_cons (pv 2) (pa_cons (pv 6) (pa_cons (pv 7) pa_nil))))) (pw_and1 (pt_cmpR (op_notInD (units65 hr)) (pe_tup (pa_cons (pv 6) (pa_cons (pv 7) pa_nil))) (pv 5) (by rfl))))) (pss_one (ps_expr (pe_bm PySem.F.plainAttrs_list PySem.F.slot_list_append PySem.F.type_list_append mt_append (pv 5) (pa_cons (pe_tup (pa_cons (pv 6) (pa_cons (pv 7) pa_nil))) pa_nil)))) pss_nil)))))
  (pss_one (ps_ret (pe_callB (cr_sortP (B := 1000) hr.units) (by rfl) T.m_sorted (by decide +kernel) (pa_cons (pv 5) pa_nil))))))))), ?_⟩
    refine ⟨Nat.zero_le _, fun D nD => ?_⟩
    have sD := same_upd (o := .lst []) nD
    refine ⟨.ref ra, rfl, ra, rfl, ⟨_, sT sD hR⟩, for_tup (K := K) (xs := ps.map V.ref)
      (fun i σ H' => ∃ (D : Addr) (y4 y5 y6 y7 : Option V) (qs : List Addr), σ = [some (.ref la), some (.ref ra), some (.int c), some (.ref D), y4, y5, y6, y7] ∧ H' D = some (.lst (qs.map V.ref)) ∧ Tups fI H' qs (Tb.all ls rs i) ∧ Same H H')
      ⟨D, _, _, _, _, [], rfl, upd_same, .nil, sD⟩ (fun i σ H' _ h => ?_) (fun i x σ H' hx h => ?_) (fun σ H' h => ?_)⟩
    · obtain ⟨_, _, _, _, _, _, _, _, _, sm⟩ := h
      exact sT sm hR
    · obtain ⟨D, y4, y5, y6, y7, qs, rfl, eD, tq, sm⟩ := h
      rw [List.getElem?_map] at hx
      obtain ⟨r, hr', rfl⟩ := Option.map_eq_some_iff.mp hx
      obtain ⟨row, hrow, er⟩ : ∃ row, rs[i]? = some row ∧ H r = some (.tup (fI row)) := by
        obtain ⟨p, e, he, h1, h2⟩ := tr.get (i := i) (v := .ref r) (by rw [List.getElem?_map, hr']; rfl)
        cases he
        exact ⟨e, h1, h2⟩
      obtain ⟨hin, hl60, hsum⟩ := R.2.2.2 i row hrow
      have hi : i < rs.length := (List.getElem?_eq_some_iff.mp hrow).1
      have zq := tq.length
      have zq2 := Tb.all_len R i (by omega)
      have r60 := R.2.2.1
      refine ⟨.ref D, rfl, .ref la, rfl, .ref r, rfl, la, r, ls, row, rfl, sT sm hL, SqT.of (sm _ _ er), hin, hl60, fun M es H3 s3 nM eM tM => ?_⟩
      refine ⟨D, M, _, _, rfl, rfl, s3 _ _ eD, eM, ?_, fun p np => ?_⟩
      · rw [List.length_map, List.length_map, zq, tM.length, Tb.ents_len]
        show _ ≤ 2 ^ 24
        omega
      have s6 := same_upd (o := .lst (qs.map V.ref ++ es.map V.ref)) np
      refine ⟨p, _, _, _, _, qs ++ es, rfl, by rw [upd_same, List.map_append], ?_, (sm.trans s3).trans s6⟩
      show Tups fI _ _ (Tb.all ls rs i ++ Tb.ents ls ((i : Int) + 1) (rs.getD i []))
      rw [Tb.getD_row hrow, ← hsum]
      exact ((tq.same s3).append tM).new np
    · obtain ⟨D, y4, y5, y6, y7, qs, rfl, eD, tq, sm⟩ := h
      rw [List.length_map, tr.length] at tq
      have hE : ∀ e ∈ Tb.all ls rs rs.length, Pr.E3 e := Tb.all_bd R _ (Nat.le_refl _)
      have zes : (Tb.all ls rs rs.length).length ≤ 3600 := by
        have := Tb.all_len R rs.length (Nat.le_refl _)
        have := R.2.2.1
        omega
      generalize ees : Tb.all ls rs rs.length = es at tq hE zes
      refine ⟨Nat.zero_le _, fun F nF => ?_⟩
      have sF := same_upd (o := .lst []) nF
      refine ⟨.ref D, rfl, D, rfl, ⟨_, SqL.of (sF _ _ eD)⟩, for_list (K := K) (xs := qs.map V.ref)
        (fun i σ H2 => ∃ (y4 y6 y7 : Option V) (fs : List Addr) (ds : List (List Int × List Int)), σ = [some (.ref la), some (.ref ra), some (.int c), some (.ref D), y4, some (.ref F), y6, y7] ∧ H2 F = some (.lst (fs.map V.ref)) ∧ PT2 H2 fs ds ∧ Pr.FInv c es i 0 ds ∧ Same H' H2)
        ⟨_, _, _, [], [], rfl, upd_same, .nil, Pr.finv_zero _ _, sF⟩ (fun i σ H2 _ h => ?_) (fun i x σ H2 hx h => ?_) (fun σ H2 h => ?_)⟩
      · obtain ⟨_, _, _, _, _, _, _, _, _, s2⟩ := h
        exact SqL.of (s2 _ _ eD)
      · obtain ⟨y4, y6, y7, fs, ds, rfl, eF, pt, fi, s2⟩ := h
        obtain ⟨r1, e1, rfl, h1, er1⟩ := tq.get hx
        have hi : i < es.length := (List.getElem?_eq_some_iff.mp h1).1
        refine ⟨.ref D, rfl, D, rfl, ⟨_, SqL.of (s2 _ _ eD)⟩, for_list (K := K) (xs := qs.map V.ref)
          (fun j σ H3 => ∃ (y7 : Option V) (fs : List Addr) (ds : List (List Int × List Int)), σ = [some (.ref la), some (.ref ra), some (.int c), some (.ref D), y4, some (.ref F), some (.ref r1), y7] ∧ H3 F = some (.lst (fs.map V.ref)) ∧ PT2 H3 fs ds ∧ Pr.FInv c es i j ds ∧ Same H' H3)
          ⟨_, fs, ds, rfl, eF, pt, fi, s2⟩ (fun j σ H3 _ h => ?_) (fun j x σ H3 hx2 h => ?_) (fun σ H3 h => ?_)⟩
        · obtain ⟨_, _, _, _, _, _, _, s3⟩ := h
          exact SqL.of (s3 _ _ eD)
        · obtain ⟨y7, fs, ds, rfl, eF, pt, fi, s3⟩ := h
          obtain ⟨r2, e2, rfl, h2, er2⟩ := tq.get hx2
          have hj : j < es.length := (List.getElem?_eq_some_iff.mp h2).1
          have E1 := hE e1 (List.mem_of_getElem? h1)
          have E2 := hE e2 (List.mem_of_getElem? h2)
          have er1 := s3 _ _ er1
          have er2 := s3 _ _ er2
          refine ⟨.int c, rfl, .ref r1, rfl, .ref r2, rfl, r1, r2, c, e1, e2, rfl, er1, er2, E1, E2, c2, c4, ?_⟩
          show (∃ k, V.bl (Pr.Cd c e1 e2) = V.bl k ∧ _)
          refine ⟨_, rfl, ?_⟩
          cases hc : Pr.Cd c e1 e2 with
          | false =>
            refine iteF (iteF ?_)
            exact ⟨_, fs, ds, rfl, eF, pt, Pr.finv_old fi h1 h2 fun z => absurd (hc.symm.trans z) (by decide), s3⟩
          | true =>
            refine iteT ?_
            refine ⟨.ref r1, rfl, .ref r2, rfl, by show 2 ≤ sizeLine; decide, fun u nu => ?_⟩
            have su := same_upd (o := .tup [V.ref r1, .ref r2]) nu
            have ptu := pt.same su
            refine ⟨.ref F, rfl, dP (e1, e2), ds.map My.dP, .tup (SqT.of upd_same) (.cons (dp_dI (SqT.of (su _ _ er1))) (.cons (dp_dI (SqT.of (su _ _ er2))) .nil)), dp_PT2 (su _ _ eF) ptu, (Shp.dP _).ok (by decide), (Shp.dPs _).ok (by decide), ?_⟩
            rw [any_P]
            by_cases hm : (e1, e2) ∈ ds
            · rw [decide_eq_true hm]
              refine ⟨false, rfl, iteF ?_⟩
              exact ⟨_, fs, ds, rfl, su _ _ eF, ptu, Pr.finv_old fi h1 h2 fun _ => hm, s3.trans su⟩
            · rw [decide_eq_false hm]
              refine ⟨true, rfl, iteT ?_⟩
              refine ⟨.ref F, rfl, .inl ⟨rfl, _, SqL.of (su _ _ eF)⟩, .ref r1, rfl, .ref r2, rfl, by show 2 ≤ sizeLine; decide, fun v nv => ?_⟩
              have sv := su.trans (same_upd (o := .tup [V.ref r1, .ref r2]) nv)
              refine ⟨F, _, _, rfl, rfl, sv _ _ eF, ?_, ?_⟩
              · rw [List.length_map, pt.length]
                have := fi.2.1
                have h3 : (i + 1) * es.length ≤ 3600 * 3600 := Nat.mul_le_mul (by omega) zes
                rw [Nat.add_mul] at h3
                show _ < 2 ^ 24
                omega
              have eFv := sv _ _ eF
              refine ⟨_, fs ++ [v], ds ++ [(e1, e2)], rfl, by rw [upd_same, List.map_append]; rfl, ?_, Pr.finv_new fi h1 h2 hc hm, same_put (s3.trans sv) nF⟩
              exact ((pt.same sv).snoc upd_same (sv _ _ er1) (sv _ _ er2)).keep fun b ys z => by
                rw [upd_ne (fun q => by rw [q, eFv] at z; cases z)]
                exact z
        · obtain ⟨y7, fs, ds, rfl, eF, pt, fi, s3⟩ := h
          rw [List.length_map, tq.length] at fi
          exact ⟨_, _, _, fs, ds, rfl, eF, pt, Pr.finv_next fi h1, s3⟩
      · obtain ⟨y4, y6, y7, fs, ds, rfl, eF, pt, fi, s2⟩ := h
        rw [List.length_map, tq.length] at fi
        refine ⟨.ref F, rfl, F, fs, ds, rfl, SqL.of eF, pt, Pr.finv_ok fi hE, fun qs' ps' z pt' pm pw nz => ?_⟩
        have s0 := sm.trans s2
        exact q z qs' ps' _ (s0.trans (same_upd nz)) (Same.free s0 nz) upd_same (pt'.same (same_upd nz)) (Pr.finv_end (by rw [ees]; exact fi) pm pw)
end

/-! ### the law's own line -/
section
variable {P : Program} {w : World} {K : PySem.W.Frag} {mg : Str → Option Value} {base : Heap}
theorem ok__law_line (T : Tx K mg) : FnOk P w K mg base CX0 1 T.a__law_line T.d__law_line ["bound", "comings"] (spLetters K) := by
  refine T.F__law_line.ok sc__law_line (fun vs H Q E h => ?_) (fun cdv A outer s H vs Q E hr h => ?_)
  · obtain ⟨a, cs, b, k, rfl, _⟩ := h
    rfl
  · obtain ⟨a, cs, b, k, rfl, hT, g, hk, hb, q⟩ := h
    have g4 := g.four hk
    have g1 := g.1
    refine ⟨_, ((pss_cons (ps_set (i := 2) sc__law_line.nd rfl (.inl rfl) (pe_lst pa_nil))
  (pss_cons (ps_set (i := 3) sc__law_line.nd rfl (.inl rfl) pe_int)
  (pss_cons (ps_for PassesOwn.never rfl (pi_range1 (by rfl) T.m_range (pa_cons (pe_callB call_len_seq (by rfl) T.m_len PySem.boot_len (pa_cons (pv 1) pa_nil)) pa_nil)) (pg_name (i := 4) sc__law_line.nd rfl (.inl rfl))
   (pss_cons (ps_for PassesOwn.never rfl (pi_range1 (by rfl) T.m_range (pa_cons (pe_ix ix_tup (pv 1) (pv 4) (fun _ _ => rfl)) pa_nil)) (pg_name (i := 5) sc__law_line.nd rfl (.inl rfl))
   (pss_one (ps_if (pt_cmpR op_le (pv 3) (pv 0) (nomark _)) (pss_cons (ps_expr (pe_bm PySem.F.plainAttrs_list PySem.F.slot_list_append PySem.F.type_list_append mt_append (pv 2) (pa_cons (pe_tup (pa_cons (pv 4) (pa_cons (pe_op op_add (pv 5) pe_int) (pa_cons (pv 3) pa_nil)))) pa_nil)))
  (pss_one (ps_set (i := 3) sc__law_line.nd rfl (.inl rfl) (pe_op op_add (pv 3) pe_int)))) (pss_one (ps_expr (pe_bm PySem.F.plainAttrs_list PySem.F.slot_list_append PySem.F.type_list_append mt_append (pv 2) (pa_cons (pe_tup (pa_cons (pv 4) (pa_cons (pe_op op_add (pv 5) pe_int) (pa_cons pe_non pa_nil)))) pa_nil)))))))
  (pss_one (ps_set (i := 3) sc__law_line.nd rfl (.inl rfl) (pe_callB (call_max2 rfl) (by rfl) T.m_max (by decide +kernel) (pa_cons pe_int (pa_cons (pe_op op_sub (pv 3) pe_int) pa_nil)))))))
  (pss_one (ps_ret (pv 2))))))), ?_⟩
    refine ⟨Nat.zero_le _, fun L nL => ?_⟩
    have s2 := same_upd (o := .lst []) nL
    refine ⟨.ref a, rfl, a, _, rfl, .inr (sT s2 hT), _, rfl, by rw [List.length_map]; omega, by rw [List.length_map]; omega, for_range (lo := 0) (n := ((((cs.map V.int).length : Nat) : Int)).toNat)
      (fun i σ H' => ∃ (y4 y5 : Option V) (ps : List Addr), σ = [some (.int b), some (.ref a), some (.ref L), some (.int (Ln.pre b cs i).2), y4, y5] ∧ H' L = some (.lst (ps.map V.ref)) ∧ Tups tv H' ps (Ln.pre b cs i).1 ∧ Same H H')
      ⟨_, _, [], rfl, upd_same, .nil, s2⟩ (fun i σ H' hi h => ?_) (fun σ H' h => ?_)⟩
    · obtain ⟨y4, y5, ps, rfl, eL, tu, sm⟩ := h
      rw [List.length_map] at hi
      have hi' : i < cs.length := by omega
      rw [Int.zero_add]
      have hc : cs[i]? = some cs[i] := List.getElem?_eq_getElem hi'
      have bc := g.2 cs[i] (List.mem_of_getElem? hc)
      have ec := Ln.getD_of hc
      generalize cs[i] = c at hc bc ec
      refine ⟨.ref a, rfl, .int (i : Int), rfl, a, _, _, .int c, rfl, rfl, sT sm hT, atI_nat (by rw [List.getElem?_map, hc]; rfl), c, rfl, by omega, by omega, for_range (lo := 0) (n := c.toNat)
        (fun j σ H2 => ∃ (y5 : Option V) (ps : List Addr), σ = [some (.int b), some (.ref a), some (.ref L), some (.int (Ln.turns b (i : Int) j (Ln.pre b cs i)).2), some (.int (i : Nat)), y5] ∧ H2 L = some (.lst (ps.map V.ref)) ∧ Tups tv H2 ps (Ln.turns b (i : Int) j (Ln.pre b cs i)).1 ∧ Same H H2)
        ⟨_, ps, rfl, eL, tu, sm⟩ (fun j σ H2 hj h => ?_) (fun σ H2 h => ?_)⟩
      · obtain ⟨y5, ps, rfl, eL, tu, sm⟩ := h
        have zl : ps.length ≤ 1640 := by
          rw [tu.length, Ln.turns_len]
          have := Ln.pre_len (b := b) g4 i
          omega
        rw [Int.zero_add]
        have eT : ∀ (H3 : Hp) (p : Addr) (x : V), (upd H3 p (.tup [.int (i : Int), .int ((j : Int) + 1), x])) p = some (.tup [.int (i : Int), .int (1 + (j : Int)), x]) := fun H3 p x => by
          rw [upd_same, Int.add_comm (j : Int) 1]
        refine ⟨_, rfl, _, rfl, _, _, rfl, rfl, _, rfl, ite2 (fun h1 => ?_) (fun h1 => ?_)⟩
        · have hb1 : ¬ (Ln.turns b (i : Int) j (Ln.pre b cs i)).2 > b := by
            have := of_decide_eq_true h1
            omega
          have es : Ln.turns b (i : Int) (j + 1) (Ln.pre b cs i) = ((Ln.turns b (i : Int) j (Ln.pre b cs i)).1 ++ [((i : Int), 1 + (j : Int), some (Ln.turns b (i : Int) j (Ln.pre b cs i)).2)], (Ln.turns b (i : Int) j (Ln.pre b cs i)).2 + 1) := if_neg hb1
          refine ⟨.ref L, rfl, .inl ⟨rfl, _, SqL.of eL⟩, _, rfl, _, rfl, _, _, rfl, rfl, _, rfl, by show 3 ≤ sizeLine; decide, fun p np => ?_⟩
          have s3 := same_upd (o := .tup [.int (i : Int), .int ((j : Int) + 1), .int (Ln.turns b (i : Int) j (Ln.pre b cs i)).2]) np
          refine ⟨L, _, _, rfl, rfl, s3 _ _ eL, by rw [List.length_map]; exact small2000 (by omega), ?_⟩
          refine ⟨_, rfl, _, _, rfl, rfl, ?_⟩
          refine ⟨_, ps ++ [p], by rw [es]; rfl, by rw [upd_same, List.map_append]; rfl, ?_, same_put (sm.trans s3) nL⟩
          rw [es]
          exact ((tu.new np).snoc (x := ((i : Int), 1 + (j : Int), some (Ln.turns b (i : Int) j (Ln.pre b cs i)).2)) (eT _ _ _)).put (s3 _ _ eL)
        · have hb1 : (Ln.turns b (i : Int) j (Ln.pre b cs i)).2 > b := by
            have : ¬ (Ln.turns b (i : Int) j (Ln.pre b cs i)).2 ≤ b := fun z => h1 (decide_eq_true z)
            omega
          have es : Ln.turns b (i : Int) (j + 1) (Ln.pre b cs i) = ((Ln.turns b (i : Int) j (Ln.pre b cs i)).1 ++ [((i : Int), 1 + (j : Int), none)], (Ln.turns b (i : Int) j (Ln.pre b cs i)).2) := if_pos hb1
          refine ⟨.ref L, rfl, .inl ⟨rfl, _, SqL.of eL⟩, _, rfl, _, rfl, _, _, rfl, rfl, by show 3 ≤ sizeLine; decide, fun p np => ?_⟩
          have s3 := same_upd (o := .tup [.int (i : Int), .int ((j : Int) + 1), .non]) np
          refine ⟨L, _, _, rfl, rfl, s3 _ _ eL, by rw [List.length_map]; exact small2000 (by omega), ?_⟩
          refine ⟨_, ps ++ [p], by rw [es]; rfl, by rw [upd_same, List.map_append]; rfl, ?_, same_put (sm.trans s3) nL⟩
          rw [es]
          exact ((tu.new np).snoc (x := ((i : Int), 1 + (j : Int), none)) (eT _ _ _)).put (s3 _ _ eL)
      · obtain ⟨y5, ps, rfl, eL, tu, sm⟩ := h
        rw [← ec] at tu ⊢
        have rg := Ln.pre_rng hb cs i
        have rt := Ln.turns_rng (b := b) (τ := (i : Int)) (cs.getD i 0).toNat (Ln.pre b cs i) rg.1 (by omega)
        refine ⟨_, rfl, _, _, rfl, rfl, 0, (Ln.turns b (i : Int) (cs.getD i 0).toNat (Ln.pre b cs i)).2 - 1, rfl, ?_⟩
        refine ⟨some (.int (i : Int)), y5, ps, ?_, eL, tu, sm⟩
        have e : (Ln.pre b cs (i + 1)).2 = if (Ln.turns b (i : Int) (cs.getD i 0).toNat (Ln.pre b cs i)).2 - 1 > 0 then (Ln.turns b (i : Int) (cs.getD i 0).toNat (Ln.pre b cs i)).2 - 1 else 0 := by
          show Ln.close (Ln.turns b (i : Int) (cs.getD i 0).toNat (Ln.pre b cs i)).2 = _
          unfold Ln.close
          split <;> split <;> omega
        rw [e]
        rfl
    · obtain ⟨y4, y5, ps, rfl, eL, tu, sm⟩ := h
      rw [List.length_map, Int.toNat_natCast] at tu
      exact ⟨.ref L, rfl, q L ps H' sm nL eL tu⟩
end

/-! ### what stands after a turn -/
section
variable {P : Program} {w : World} {K : PySem.W.Frag} {mg : Str → Option Value} {base : Heap}
/-- what stands after a turn -/
structure Scn (K : PySem.W.Frag) (C : Addr) (H : Hp) (la ra ca x : Addr) (ls : List Int) (ps : List Addr) (rs : List (List Int)) (cs : List Int) : Prop where
  hL : SqT K H la (ls.map V.int)
  hR : SqT K H ra (ps.map V.ref)
  tu : Tups fI H ps rs
  hC : SqT K H ca (cs.map V.int)
  tab : TabAt K C H x ls rs
theorem Scn.same {K : PySem.W.Frag} {C : Addr} {H H' : Hp} {la ra ca x : Addr} {ls ps rs cs} (h : Scn K C H la ra ca x ls ps rs cs) (e : Same H H') : Scn K C H' la ra ca x ls ps rs cs :=
  ⟨sT e h.hL, sT e h.hR, h.tu.same e, sT e h.hC, h.tab.same e⟩
theorem Moved.tab {K : PySem.W.Frag} {C t s : Addr} {H H' : Hp} {x : Addr} {ls rs} (mv : Moved t H H') (tp : Tape H t s) (h : TabAt K C H x ls rs) : TabAt K C H' x ls rs := by
  obtain ⟨dx, a, b, ps, h1, h2, h3, h4⟩ := h.ob
  refine ⟨dx, a, b, ps, mv _ _ (fun z => ?_) h1, mv.sq tp h2, mv.sq tp h3, mv.tups tp h4⟩
  obtain ⟨_, _, _, _, _, _, e2, _⟩ := tp
  rw [z, e2] at h1
  cases h1
theorem Moved.scn {K : PySem.W.Frag} {C t s : Addr} {H H' : Hp} {la ra ca x : Addr} {ls ps rs cs} (mv : Moved t H H') (tp : Tape H t s) (h : Scn K C H la ra ca x ls ps rs cs) : Scn K C H' la ra ca x ls ps rs cs :=
  ⟨mv.sq tp h.hL, mv.sq tp h.hR, mv.tups tp h.tu, mv.sq tp h.hC, Moved.tab mv tp h.tab⟩
theorem sT_put {K : PySem.W.Frag} {H : Hp} {L : Addr} {ys : List V} {o : HO} {a : Addr} {xs : List V} (e : H L = some (.lst ys)) (h : SqT K H a xs) : SqT K (upd H L o) a xs := by
  rcases h with (h | ⟨z, h⟩) | h
  · exact .inl (.inl (by rw [upd_ne (fun q => by rw [q, e] at h; cases h)]; exact h))
  · exact .inl (.inr ⟨z, by rw [upd_ne (fun q => by rw [q, e] at h; cases h)]; exact h⟩)
  · exact .inr h
theorem TabAt.put {K : PySem.W.Frag} {C : Addr} {H : Hp} {x : Addr} {ls rs} {L : Addr} {ys : List V} {o : HO} (h : TabAt K C H x ls rs) (e : H L = some (.lst ys)) : TabAt K C (upd H L o) x ls rs := by
  obtain ⟨dx, a, b, ps, h1, h2, h3, h4⟩ := h.ob
  exact ⟨dx, a, b, ps, by rw [upd_ne (fun q => by rw [q, e] at h1; cases h1)]; exact h1, sT_put e h2, sT_put e h3, h4.put e⟩
theorem Scn.put {K : PySem.W.Frag} {C : Addr} {H : Hp} {la ra ca x : Addr} {ls ps rs cs} {L : Addr} {ys : List V} {o : HO} (h : Scn K C H la ra ca x ls ps rs cs) (e : H L = some (.lst ys)) : Scn K C (upd H L o) la ra ca x ls ps rs cs :=
  ⟨sT_put e h.hL, sT_put e h.hR, h.tu.put e, sT_put e h.hC, h.tab.put e⟩
theorem tape_put {H : Hp} {t s L : Addr} {ys : List V} {o : HO} (h : Tape H t s) (_ : H L = some (.lst ys)) (n1 : L ≠ t) (n2 : L ≠ s) : Tape (upd H L o) t s := h.but n1 n2
end

/-! ### walks from one letter to another one -/
open Wk (Spt Spot Nx Walk Chain)
/-- how many letters may come at the ticks -/
structure Spr (c : Int) (rows : List Int) (d : Nat) (n : Int) : Prop where
  ln : rows.length = d + 1
  nn : ∀ x ∈ rows, 0 ≤ x
  le : ∀ (k : Nat) (x : Int), rows[k]? = some x → x ≤ (if k = 0 then c - 1 else c)
  su : rows.sum = n
  la : ∀ x, rows[d]? = some x → 1 ≤ x
theorem sum_set : ∀ (l : List Int) (j : Nat) (x y : Int), l[j]? = some y → (l.set j x).sum = l.sum - y + x
  | [], j, x, y, h => by simp at h
  | z :: l, 0, x, y, h => by
    obtain rfl := Option.some.inj h
    show x + l.sum = z + l.sum - z + x
    omega
  | z :: l, j + 1, x, y, h => by
    show z + (l.set j x).sum = z + l.sum - y + x
    rw [sum_set l j x y h]
    omega
/-- a list that is full nowhere less -/
theorem sum_full {c : Int} : ∀ (l : List Int) (o : Bool), (∀ (k : Nat) (x : Int), l[k]? = some x → (if o = true ∧ k = 0 then c - 1 else c) ≤ x) → c * (l.length : Int) - (if o = true ∧ l ≠ [] then 1 else 0) ≤ l.sum
  | [], o, _ => by simp
  | z :: l, o, h => by
    have h0 := h 0 z rfl
    have ih := sum_full l false (fun k x hk => by
      have := h (k + 1) x (by rw [List.getElem?_cons_succ]; exact hk)
      rw [if_neg (by omega)] at this
      rw [if_neg (by simp)]
      exact this)
    rw [if_neg (by simp)] at ih
    rw [List.length_cons, List.sum_cons]
    have e : c * ((l.length + 1 : Nat) : Int) = c * (l.length : Int) + c := by
      rw [Int.natCast_add, Int.mul_add]
      simp
    rw [e]
    cases o with
    | true =>
      rw [if_pos ⟨rfl, by simp⟩]
      rw [if_pos ⟨rfl, rfl⟩] at h0
      omega
    | false =>
      rw [if_neg (by simp)]
      rw [if_neg (by simp)] at h0
      omega
theorem at_last {xs : List Int} (h : 1 ≤ xs.length) : ∃ x ∈ xs, atI (xs.map V.int) (-1) = some (.int x) := by
  have e : ixN (xs.map V.int).length (-1) = some (xs.length - 1) := by
    unfold ixN
    rw [if_neg (by decide), if_pos (by rw [List.length_map]; omega), List.length_map]
    exact congrArg some (by omega)
  refine ⟨xs[xs.length - 1], List.getElem_mem _, ?_⟩
  unfold atI
  rw [e]
  show (xs.map V.int)[xs.length - 1]? = _
  rw [List.getElem?_map, List.getElem?_eq_getElem (by omega)]
  rfl
def cap (c : Int) (k : Nat) : Int := if k = 0 then c - 1 else c
theorem room_some {c n l : Int} {d : Nat} {rows : List Int} (ln : rows.length = d + 1) (su : rows.sum = n - l) (l1 : 1 ≤ l) (hn : n ≤ c * (d : Int) + c - 1) : ∃ (k : Nat) (x : Int), rows[k]? = some x ∧ x < cap c k := by
  refine Classical.byContradiction fun z => ?_
  have := sum_full (c := c) rows true (fun k x hk => by
    refine Classical.byContradiction fun y => z ⟨k, x, hk, ?_⟩
    unfold cap
    by_cases e : k = 0
    · rw [if_pos ⟨rfl, e⟩] at y
      rw [if_pos e]
      omega
    · rw [if_neg (by simp [e])] at y
      rw [if_neg e]
      omega)
  rw [if_pos ⟨rfl, fun e => by rw [e] at ln; simp at ln⟩, ln] at this
  have e : c * ((d + 1 : Nat) : Int) = c * (d : Int) + c := by
    rw [Int.natCast_add, Int.mul_add]
    simp
  rw [e] at this
  omega
section
variable {P : Program} {w : World} {K : PySem.W.Frag} {mg : Str → Option Value} {base : Heap}
def spSpread (K : PySem.W.Frag) : Sp := fun vs H Q _ => ∃ (t sc : Addr) (c n : Int) (d : Nat), vs = [.ref t, .int c, .int (d : Int), .int n] ∧ Tape H t sc ∧ 2 ≤ c ∧ c ≤ 4 ∧ d ≤ 100 ∧ 1 ≤ n ∧ n ≤ 100 ∧ n ≤ c * (d : Int) + c - 1 ∧
  ∀ L rows H', Spr c rows d n → L ≠ t → H L = none → Moved t H H' → Tape H' t sc → H' L = some (.lst (rows.map V.int)) → Q (.ref L) H'
theorem ok__law_spread (T : Tx K mg) : FnOk P w K mg base CX0 2 T.a__law_spread T.d__law_spread ["tape", "comers", "ticks", "number"] (spSpread K) := by
  refine T.F__law_spread.ok sc__law_spread (fun vs H Q E h => ?_) (fun cdv A outer s H vs Q E hr h => ?_)
  · obtain ⟨t, sc, c, n, d, rfl, _⟩ := h
    rfl
  · obtain ⟨t, sc, c, n, d, rfl, tp, c2, c4, hd, n1, n100, hn, q⟩ := h
    refine ⟨_, ((pss_cons (ps_set (i := 4) sc__law_spread.nd rfl (.inr rfl) (pe_op op_rep (pe_lst (pa_cons pe_int pa_nil)) (pe_op op_add (pv 2) pe_int)))
  (pss_cons (ps_asg pe_int (pg_sub (pv 4) (pv 2) set_list))
  (pss_cons (ps_set (i := 5) sc__law_spread.nd rfl (.inl rfl) (pe_op op_sub (pv 3) pe_int))
  (pss_cons (ps_set (i := 6) sc__law_spread.nd rfl (.inl rfl) (pe_cmpR op_eq (pe_call (ok__law_pick T) (hr.mono (by decide)) (by rfl) T.g__law_pick T.F__law_pick.kp T.b__law_pick .nil pass0 (pa_cons (pv 0) (pa_cons pe_int pa_nil))) pe_int (nomark _)))
  (pss_cons (ps_for PassesOwn.never rfl (pi_range1 (by rfl) T.m_range (pa_cons pe_int pa_nil)) (pg_name (i := 7) sc__law_spread.nd rfl (.inl rfl))
   (pss_cons (ps_if (pt_cmpR op_eq (pv 5) pe_int (nomark _)) (pss_one ps_break) pss_nil)
  (pss_cons (ps_setLc (i := 8) (own := [("k", 10)]) (g := (gName 10)) rfl sc__law_spread.nd rfl rfl (sw_true rfl rfl rfl (by decide +kernel)) (pi_range1 (by rfl) T.m_range (pa_cons (pe_op op_add (pv 2) pe_int) pa_nil)) (blkOk_by (own := [("k", 10)]) (N := ["tape", "comers", "ticks", "number", "rows", "left", "late", "turn", "room", "at", "k"]) (sc := defScope s__law_spread) (by decide +kernel)) (fun _ _ _ _ _ => pg_name (i := 10) sc__law_spread.nd rfl (.inl rfl)) (fun _ _ _ _ _ => (pts_one (pt_cmpR op_lt (pe_ix (ixLK (K := K) (by rfl)) (pv 4) (pv 10) (fun _ _ => rfl)) (pe_op op_sub (pv 1) (pe_callTy call_int1 (by rfl) T.m_int (by decide +kernel) (pa_cons (pe_cmpR op_eq (pv 10) pe_int (nomark _)) pa_nil))) (nomark _)))) (fun _ _ _ _ _ => (pv 10)))
  (pss_cons (ps_set (i := 9) sc__law_spread.nd rfl (.inl rfl) (pe_ix ix_list (pv 8) (pe_un un_neg pe_int) (fun _ _ => rfl)))
  (Evl.pss_cut (ps_if (pt_not (pt_val (pv 6))) (pss_one (ps_set (i := 9) sc__law_spread.nd rfl (.inl rfl) (pe_ix ix_list (pv 8) (pe_call (ok__law_pick T) (hr.mono (by decide)) (by rfl) T.g__law_pick T.F__law_pick.kp T.b__law_pick .nil pass0 (pa_cons (pv 0) (pa_cons (pe_callB call_len_seq (by rfl) T.m_len PySem.boot_len (pa_cons (pv 8) pa_nil)) pa_nil))) (fun _ _ => rfl)))) pss_nil)
  (pss_cons (ps_asg (pe_op op_add (pe_ix ix_list (pv 4) (pv 9) (fun _ _ => rfl)) pe_int) (pg_sub (pv 4) (pv 9) set_list))
  (pss_one (ps_set (i := 5) sc__law_spread.nd rfl (.inl rfl) (pe_op op_sub (pv 5) pe_int)))))))))
  (pss_one (ps_ret (pv 4))))))))), ?_⟩
    refine ⟨by show 1 ≤ sizeLine; decide, fun z nz => ?_⟩
    have sz := same_upd (o := .lst [.int 0]) nz
    refine ⟨.int _, rfl, _, _, rfl, rfl, z, _, _, rfl, rfl, upd_same, by omega, by omega, by show 1 * _ ≤ 2 ^ 24; omega, fun r nr => ?_⟩
    have hzr : z ≠ r := ne_of_none upd_same nr
    have er0 : (upd (upd H z (.lst [.int 0])) r (.lst (List.replicate ((d : Int) + 1).toNat [V.int 0]).flatten)) r = some (.lst ((List.replicate (d + 1) (0 : Int)).map V.int)) := by
      rw [upd_same, flat_one, List.map_replicate, show ((d : Int) + 1).toNat = d + 1 by omega]
    have s0 : Same H (upd (upd H z (.lst [.int 0])) r (.lst (List.replicate ((d : Int) + 1).toNat [V.int 0]).flatten)) := sz.trans (same_upd nr)
    have Hr : H r = none := Same.free sz nr
    have hrt : r ≠ t := tp.ne Hr
    have hrs : r ≠ sc := tp.ne2 Hr
    generalize upd (upd H z (.lst [.int 0])) r (.lst (List.replicate ((d : Int) + 1).toNat [V.int 0]).flatten) = H1 at *
    have lr : (List.replicate (d + 1) (0 : Int)).length = d + 1 := List.length_replicate
    refine ⟨.ref r, rfl, .int _, rfl, r, _, (d : Int), d, rfl, rfl, er0, by rw [ixN_nat (by omega) (by rw [List.length_map, lr]; omega)]; exact congrArg some (by omega), ?_⟩
    rw [← List.map_set]
    have sp0 : Spr c ((List.replicate (d + 1) (0 : Int)).set d 1) d 1 := by
      have hd0 : (List.replicate (d + 1) (0 : Int))[d]? = some 0 := by
        rw [List.getElem?_replicate, if_pos (by omega)]
      refine ⟨by rw [List.length_set, lr], fun x hx => ?_, fun k x hk => ?_, ?_, fun x hx => ?_⟩
      · rcases List.mem_or_eq_of_mem_set hx with h | h
        · rw [(List.mem_replicate.mp h).2]
          decide
        · rw [h]
          decide
      · have : x = 1 ∨ x = 0 := by
          rcases List.mem_or_eq_of_mem_set (List.mem_of_getElem? hk) with h | h
          · exact .inr (List.mem_replicate.mp h).2
          · exact .inl h
        split <;> omega
      · rw [sum_set _ _ _ _ hd0]
        have := Tk.A_rep0 (d + 1) (d + 1)
        unfold Tk.A at this
        rw [List.take_of_length_le (by rw [lr]; exact Nat.le_refl _)] at this
        omega
      · rw [List.getElem?_set_self (by rw [lr]; omega)] at hx
        rw [← Option.some.inj hx]
        decide
    have eX : (upd H1 r (.lst (((List.replicate (d + 1) (0 : Int)).set d 1).map V.int))) r = some (.lst (((List.replicate (d + 1) (0 : Int)).set d 1).map V.int)) := upd_same
    have sX : Same H (upd H1 r (.lst (((List.replicate (d + 1) (0 : Int)).set d 1).map V.int))) := same_put s0 Hr
    have tpX := tp.keep sX
    generalize upd H1 r (.lst (((List.replicate (d + 1) (0 : Int)).set d 1).map V.int)) = H2 at *
    generalize (List.replicate (d + 1) (0 : Int)).set d 1 = rows0 at *
    refine ⟨.int n, rfl, _, _, rfl, rfl, .ref t, rfl, t, sc, 2, rfl, ⟨by decide, by decide⟩, tpX, fun e H3 e0 e1 mv3 tp3 => ⟨rfl, ?_⟩⟩
    have e3 : H3 r = some (.lst (rows0.map V.int)) := mv3 r _ hrt eX
    generalize decide (V.int e = V.int 0) = late
    refine ⟨400, rfl, by decide, by decide, for_range (lo := 0) (n := (400 : Int).toNat)
      (fun i σ H' => ∃ (y7 y8 y9 y10 : Option V) (rows : List Int) (l : Int), σ = [some (.ref t), some (.int c), some (.int (d : Int)), some (.int n), some (.ref r), some (.int l), some (.bl late), y7, y8, y9, y10] ∧ H' r = some (.lst (rows.map V.int)) ∧ Spr c rows d (n - l) ∧ 0 ≤ l ∧ l + (i : Int) = n - 1 ∧ (∀ b o, b ≠ t → b ≠ r → H b = some o → H' b = some o) ∧ Tape H' t sc)
      ⟨_, _, _, _, rows0, n - 1, rfl, e3, by rw [show n - (n - 1) = 1 by omega]; exact sp0, by omega, by omega, fun b o h1 h2 h3 => mv3 b o h1 (sX _ _ h3), tp3⟩ (fun i σ H' hi h => ?_) (fun σ H' h => ?_)⟩
    · obtain ⟨y7, y8, y9, y10, rows, l, rfl, er, S, l0, li, kp, tp4⟩ := h
      have hln := S.ln
      refine ⟨.int l, rfl, rfl, _, rfl, ite2 (fun c1 => ?_) (fun c1 => ?_)⟩
      · have c1' : l = 0 := V.int.inj (of_decide_eq_true c1)
        subst c1'
        rw [Int.sub_zero] at S
        exact ⟨.ref r, rfl, q r rows H' S hrt Hr (fun b o h1 h2 => kp b o h1 (ne_of_none h2 Hr) h2) tp4 er⟩
      · have c1' : ¬ l = 0 := fun e => c1 (decide_eq_true (congrArg V.int e))
        refine ⟨.int _, rfl, _, _, rfl, rfl, (d : Int) + 1, rfl, by omega, by omega, fun D nD => lc_range (lo := 0) (n := ((d : Int) + 1).toNat)
          (fun p H2 => Same H' H2 ∧ ∃ ks : List Int, H2 D = some (.lst (ks.map V.int)) ∧ ks.length ≤ p ∧ (∀ k ∈ ks, ∃ (j : Nat) (x : Int), k = (j : Int) ∧ rows[j]? = some x ∧ x < cap c j) ∧ (∀ (j : Nat) (x : Int), j < p → rows[j]? = some x → x < cap c j → (j : Int) ∈ ks))
          ⟨same_upd nD, [], upd_same, Nat.le_refl _, fun k hk => absurd hk (by simp), fun j x hj => absurd hj (Nat.not_lt_zero _)⟩ (fun p H2 hp h => ?_) (fun H2 h => ?_)⟩
        · obtain ⟨s2, ks, eD, lk, h1, h2⟩ := h
          have hp' : p < rows.length := by omega
          have hx := List.getElem?_eq_getElem hp'
          generalize rows[p] = x at hx
          have ap : atI (rows.map V.int) (0 + (p : Int)) = some (.int x) := atI_of (by omega) (by
            rw [List.getElem?_map, show (0 + (p : Int)).toNat = p by omega, hx]
            rfl)
          have ecap : c - (if decide (V.int (0 + (p : Int)) = V.int 0) = true then 1 else 0) = cap c p := by
            unfold cap
            by_cases e : p = 0
            · rw [if_pos e, if_pos (decide_eq_true (by rw [e]; rfl))]
            · rw [if_neg e, if_neg (fun z => e (by have := V.int.inj (of_decide_eq_true z); omega))]
              omega
          refine ⟨rfl, .ref r, rfl, .int _, rfl, r, _, _, _, rfl, rfl, SqL.of (s2 _ _ er), ap, .int c, rfl, .int _, rfl, rfl, .inr ⟨_, rfl, _, _, rfl, rfl, _, _, rfl, rfl, _, rfl, ?_⟩⟩
          rw [ecap]
          refine ite2 (fun c2 => ?_) (fun c2 => ?_)
          · have c2' : x < cap c p := of_decide_eq_true c2
            refine ⟨.int _, rfl, _, eD, ?_, same_put s2 nD, ks ++ [0 + (p : Int)], ?_, ?_, fun k hk => ?_, fun j y hj hy hc => ?_⟩
            · rw [List.length_map]
              exact small1000 (by omega)
            · rw [upd_same, List.map_append]
              rfl
            · rw [List.length_append]
              show ks.length + 1 ≤ _
              omega
            · rcases List.mem_append.mp hk with hk | hk
              · exact h1 k hk
              · rw [List.mem_singleton.mp hk]
                exact ⟨p, x, by omega, hx, c2'⟩
            · by_cases e : j = p
              · exact List.mem_append.mpr (.inr (List.mem_singleton.mpr (by omega)))
              · exact List.mem_append.mpr (.inl (h2 j y (by omega) hy hc))
          · refine ⟨s2, ks, eD, by omega, h1, fun j y hj hy hc => ?_⟩
            by_cases e : j = p
            · subst e
              rw [hx] at hy
              obtain rfl := Option.some.inj hy
              exact absurd (decide_eq_true hc) c2
            · exact h2 j y (by omega) hy hc
        · obtain ⟨s2, ks, eD, lk, h1, h2⟩ := h
          obtain ⟨j0, x0, hx0, hc0⟩ := room_some S.ln S.su (by omega) hn
          have hm := h2 j0 x0 (by have := (List.getElem?_eq_some_iff.mp hx0).1; omega) hx0 hc0
          have lk1 : 1 ≤ ks.length := List.length_pos_of_mem hm
          have tp5 := tp4.keep s2
          have hDt : D ≠ t := tp4.ne nD
          obtain ⟨k1, hk1, ak1⟩ := at_last lk1
          refine ⟨.ref D, rfl, 1, rfl, D, _, -1, _, rfl, rfl, SqL.of eD, ak1, ?_⟩
          refine ⟨fun σ' H3 => ∃ k ∈ ks, σ' = [some (.ref t), some (.int c), some (.int (d : Int)), some (.int n), some (.ref r), some (.int l), some (.bl late), some (.int (0 + (i : Int))), some (.ref D), some (.int k), y10] ∧ Moved t H2 H3 ∧ Tape H3 t sc, ?_, fun σ' H3 hm => ?_⟩
          · refine ⟨_, rfl, late, rfl, ?_⟩
            cases late with
            | true => exact iteF ⟨k1, hk1, rfl, Moved.refl, tp5⟩
            | false =>
              refine iteT ⟨.ref D, rfl, .ref t, rfl, .ref D, rfl, D, _, rfl, .inl (SqL.of eD), t, sc, _, rfl, ⟨by rw [List.length_map]; omega, by rw [List.length_map]; omega⟩, tp5, fun f H4 f0 f1 mv4 tp6 => ?_⟩
              rw [List.length_map] at f1
              have hf := List.getElem?_eq_getElem (show f.toNat < ks.length by omega)
              have hmem := List.getElem_mem (show f.toNat < ks.length by omega)
              generalize ks[f.toNat]'(by omega) = kf at hf hmem
              refine ⟨D, _, f, _, rfl, rfl, SqL.of (mv4 D _ hDt eD), atI_of f0 (by rw [List.getElem?_map, hf]; rfl), ?_⟩
              exact ⟨kf, hmem, rfl, mv4, tp6⟩
          · obtain ⟨k, hk, rfl, mv, tp6⟩ := hm
            obtain ⟨j, x, rfl, hx, hc⟩ := h1 k hk
            have er3 : H3 r = some (.lst (rows.map V.int)) := mv r _ hrt (s2 _ _ er)
            have hj := (List.getElem?_eq_some_iff.mp hx).1
            have aj : atI (rows.map V.int) (j : Int) = some (.int x) := atI_nat (by rw [List.getElem?_map, hx]; rfl)
            refine ⟨.ref r, rfl, .int _, rfl, r, _, _, _, rfl, rfl, SqL.of er3, aj, _, _, rfl, rfl, .ref r, rfl, .int _, rfl, r, _, (j : Int), j, rfl, rfl, er3, by rw [ixN_nat (by omega) (by rw [List.length_map]; omega)]; exact congrArg some (by omega), ?_⟩
            refine ⟨_, rfl, _, _, rfl, rfl, ?_⟩
            refine ⟨_, _, _, _, rows.set j (x + 1), l - 1, rfl, by rw [upd_same, List.map_set], ⟨by rw [List.length_set]; exact S.ln, fun v hv => ?_, fun p v hv => ?_, ?_, fun v hv => ?_⟩, by omega, by omega, fun b o b1 b2 b3 => ?_, tp6.but hrt hrs⟩
            · rcases List.mem_or_eq_of_mem_set hv with h | h
              · exact S.nn v h
              · rw [h]
                have := S.nn x (List.mem_of_getElem? hx)
                omega
            · rw [List.getElem?_set] at hv
              by_cases e : j = p
              · rw [if_pos e, if_pos hj] at hv
                rw [← Option.some.inj hv, ← e]
                unfold cap at hc
                split at hc <;> rename_i h0
                · rw [if_pos h0]
                  omega
                · rw [if_neg h0]
                  omega
              · rw [if_neg e] at hv
                exact S.le p v hv
            · rw [sum_set _ _ _ _ hx, S.su]
              omega
            · rw [List.getElem?_set] at hv
              by_cases e : j = d
              · rw [if_pos e, if_pos hj] at hv
                rw [← Option.some.inj hv]
                have := S.nn x (List.mem_of_getElem? hx)
                omega
              · rw [if_neg e] at hv
                exact S.la v hv
            · rw [upd_ne b2]
              exact mv b o b1 (s2 _ _ (kp b o b1 b2 b3))
    · obtain ⟨y7, y8, y9, y10, rows, l, rfl, er, S, l0, li, kp, tp4⟩ := h
      have : ((400 : Int).toNat : Int) = 400 := rfl
      omega
/-- what the walk has when the letters of the first ticks have come -/
structure Wkd (c wt : Int) (rows : List Int) (k j : Nat) (row : List Wk.Spt) (line turn : Int) : Prop where
  wk : Walk c 10000 row
  hd : row.head? = some (wt, 1)
  ln : (row.length : Int) = 1 + Tk.A rows k + (j : Int)
  li : line = wt + 1 + Tk.A rows k - (k : Int) + (j : Int)
  tu : turn = (if k = 0 then 2 else 1) + (j : Int)
  la : ∃ v u, row.getLast? = some (v, u) ∧ ((line = v + 1 ∧ turn = u + 1) ∨ (turn = 1 ∧ line ≤ v))
theorem Spr.pre {c n : Int} {d : Nat} {rows : List Int} (h : Spr c rows d n) : ∀ k, k ≤ rows.length → 0 ≤ Tk.A rows k ∧ Tk.A rows k ≤ n
  | k, hk => by
    have e := Tk.A_all (rows.take k ++ rows.drop k)
    have e1 : rows.sum = Tk.A rows k + (rows.drop k).sum := by
      unfold Tk.A
      rw [← List.sum_append, List.take_append_drop]
    have pos : ∀ l : List Int, (∀ x ∈ l, 0 ≤ x) → 0 ≤ l.sum := fun l => by
      induction l with
      | nil => exact fun _ => Int.le_refl 0
      | cons x l ih =>
        intro hl
        rw [List.sum_cons]
        have := hl x (by simp)
        have := ih fun y hy => hl y (by simp [hy])
        omega
    have p1 := pos (rows.take k) fun x hx => h.nn x (List.mem_of_mem_take hx)
    have p2 := pos (rows.drop k) fun x hx => h.nn x (List.mem_of_mem_drop hx)
    have hs := h.su
    unfold Tk.A at e1 ⊢
    omega
theorem Wkd.step {c n wt : Int} {d k j : Nat} {rows : List Int} {row : List Wk.Spt} {line turn x : Int} (S : Spr c rows d n) (hw : (d : Int) ≤ wt) (w1 : wt ≤ 1000) (hn : n ≤ 100) (hc : 2 ≤ c) (hx : rows[k]? = some x) (hj : (j : Int) < x) (h : Wkd c wt rows k j row line turn) : Wkd c wt rows k (j + 1) (row ++ [(line, turn)]) (line + 1) (turn + 1) := by
  obtain ⟨wk, hd, ln, li, tu, v, u, la, lu⟩ := h
  have hk : k < rows.length := (List.getElem?_eq_some_iff.mp hx).1
  have hkd := S.ln
  have hA := S.pre k (by omega)
  have hcx := S.le k x hx
  have hA2 := S.pre (k + 1) (by omega)
  have eA := Tk.A_succ hk
  have ex : rows.getD k 0 = x := by
    rw [List.getD_eq_getElem?_getD, hx]
    rfl
  rw [ex] at eA
  have nx : Nx c 10000 (v, u) (line, turn) := by
    refine ⟨?_, ?_⟩
    · unfold Spot
      simp only
      split at tu <;> rename_i c0
      · rw [if_pos c0] at hcx
        omega
      · rw [if_neg c0] at hcx
        omega
    · rcases lu with ⟨a, b⟩ | ⟨a, b⟩
      · exact .inl (by rw [a, b])
      · exact .inr ⟨a, b⟩
  refine ⟨Wk.walk_snoc wk fun y hy => ?_, ?_, ?_, by rw [li]; omega, by rw [tu]; omega, line, turn, by simp, .inl ⟨rfl, rfl⟩⟩
  · rw [la] at hy
    rw [← Option.some.inj hy]
    exact nx
  · cases row with
    | nil => simp at hd
    | cons a r => exact hd
  · rw [List.length_append]
    show ((row.length + 1 : Nat) : Int) = _
    omega
/-- the same walk, at the next tick -/
theorem Wkd.next {c wt : Int} {k : Nat} {rows : List Int} {row : List Wk.Spt} {line turn x : Int} (hx : rows[k]? = some x) (h0 : 0 ≤ x) (h : Wkd c wt rows k x.toNat row line turn) : Wkd c wt rows (k + 1) 0 row (line - 1) 1 := by
  obtain ⟨wk, hd, ln, li, tu, v, u, la, lu⟩ := h
  have hk : k < rows.length := (List.getElem?_eq_some_iff.mp hx).1
  have eA := Tk.A_succ hk
  have ex : rows.getD k 0 = x := by
    rw [List.getD_eq_getElem?_getD, hx]
    rfl
  rw [ex] at eA
  refine ⟨wk, hd, by omega, by omega, by rw [if_neg (by omega)]; rfl, v, u, la, .inr ⟨rfl, ?_⟩⟩
  rcases lu with ⟨a, b⟩ | ⟨a, b⟩ <;> omega
def spLWk (K : PySem.W.Frag) : Sp := fun vs H Q _ => ∃ (L : Addr) (wt c n : Int) (d : Nat) (rows : List Int), vs = [.int wt, .ref L] ∧ H L = some (.lst (rows.map V.int)) ∧ Spr c rows d n ∧ 2 ≤ c ∧ c ≤ 4 ∧ d ≤ 100 ∧ (d : Int) ≤ wt ∧ wt ≤ 1000 ∧ 1 ≤ n ∧ n ≤ 100 ∧
  ∀ M ps row H', Same H H' → H M = none → H' M = some (.lst (ps.map V.ref)) → Tups pv2 H' ps row → Walk c 10000 row → (row.length : Int) = 1 + n → row.head? = some (wt, 1) → (∃ u, row.getLast? = some (wt + n - (d : Int), u)) → Q (.ref M) H'
theorem ok__law_walk (T : Tx K mg) : FnOk P w K mg base CX0 1 T.a__law_walk T.d__law_walk ["wait", "rows"] (spLWk K) := by
  refine T.F__law_walk.ok sc__law_walk (fun vs H Q E h => ?_) (fun cdv A outer s H vs Q E hr h => ?_)
  · obtain ⟨L, wt, c, n, d, rows, rfl, _⟩ := h
    rfl
  · obtain ⟨L, wt, c, n, d, rows, rfl, eL, S, c2, c4, hd, hw, w1, n1, hn, q⟩ := h
    have hln := S.ln
    refine ⟨_, ((pss_cons (ps_set (i := 2) sc__law_walk.nd rfl (.inl rfl) (pe_lst (pa_cons (pe_tup (pa_cons (pv 0) (pa_cons pe_int pa_nil))) pa_nil)))
  (pss_cons (ps_set (i := 3) sc__law_walk.nd rfl (.inl rfl) (pe_op op_add (pv 0) pe_int))
  (pss_cons (ps_for PassesOwn.never rfl (pi_range1 (by rfl) T.m_range (pa_cons (pe_callB call_len_seq (by rfl) T.m_len PySem.boot_len (pa_cons (pv 1) pa_nil)) pa_nil)) (pg_name (i := 4) sc__law_walk.nd rfl (.inl rfl))
   (pss_cons (ps_set (i := 5) sc__law_walk.nd rfl (.inl rfl) pe_int)
  (Evl.pss_cut (ps_if (pt_cmpR op_gt (pv 4) pe_int (nomark _)) (pss_cons (ps_set (i := 3) sc__law_walk.nd rfl (.inl rfl) (pe_op op_sub (pv 3) pe_int))
  (pss_one (ps_set (i := 5) sc__law_walk.nd rfl (.inl rfl) pe_int))) pss_nil)
  (pss_one (ps_for PassesOwn.never rfl (pi_range1 (by rfl) T.m_range (pa_cons (pe_ix ix_list (pv 1) (pv 4) (fun _ _ => rfl)) pa_nil)) (pg_name (i := 6) sc__law_walk.nd rfl (.inl rfl))
   (pss_cons (ps_expr (pe_bm PySem.F.plainAttrs_list PySem.F.slot_list_append PySem.F.type_list_append mt_append (pv 2) (pa_cons (pe_tup (pa_cons (pv 3) (pa_cons (pv 5) pa_nil))) pa_nil)))
  (pss_cons (ps_set (i := 3) sc__law_walk.nd rfl (.inl rfl) (pe_op op_add (pv 3) pe_int))
  (pss_one (ps_set (i := 5) sc__law_walk.nd rfl (.inl rfl) (pe_op op_add (pv 5) pe_int))))))))))
  (pss_one (ps_ret (pv 2))))))), ?_⟩
    refine ⟨.int wt, rfl, by show 2 ≤ sizeLine; decide, fun p np => ⟨by show 1 ≤ sizeLine; decide, fun M nM => ?_⟩⟩
    have sp := same_upd (o := .tup [V.int wt, .int 1]) np
    have sM := same_upd (o := .lst [V.ref p]) nM
    have nHM : H M = none := Same.free sp nM
    have hML : M ≠ L := fun e => by
      rw [e, eL] at nHM
      cases nHM
    have s0 := sp.trans sM
    have ep := sM _ _ (upd_same (H := H) (a := p) (o := .tup [V.int wt, .int 1]))
    have eM : (upd (upd H p (.tup [V.int wt, .int 1])) M (.lst [V.ref p])) M = some (.lst [V.ref p]) := upd_same
    generalize upd (upd H p (.tup [V.int wt, .int 1])) M (.lst [V.ref p]) = H1 at *
    have A0 : Tk.A rows 0 = 0 := rfl
    have k0 : Wkd c wt rows 0 0 [(wt, 1)] (wt + 1) 2 := ⟨⟨⟨by omega, by show wt ≤ 10000; omega, by show (1 : Int) ≤ 1; decide, by show (1 : Int) ≤ c; omega, by show (1 : Int) - 1 ≤ wt; omega⟩, rfl, trivial⟩, rfl, by rw [A0]; rfl, by rw [A0]; omega, rfl, wt, 1, rfl, .inl ⟨rfl, rfl⟩⟩
    refine ⟨.int wt, rfl, _, _, rfl, rfl, .ref L, rfl, L, _, rfl, .inl (SqL.of (s0 _ _ eL)), _, rfl, by rw [List.length_map]; omega, by rw [List.length_map]; omega, for_range (lo := 0) (n := ((((rows.map V.int).length : Nat) : Int)).toNat)
      (fun i σ H' => ∃ (y4 y5 y6 : Option V) (line : Int) (ps : List Addr) (row : List Wk.Spt), σ = [some (.int wt), some (.ref L), some (.ref M), some (.int line), y4, y5, y6] ∧ H' M = some (.lst (ps.map V.ref)) ∧ Tups pv2 H' ps row ∧ Same H H' ∧ ((i = 0 ∧ Wkd c wt rows 0 0 row line 2) ∨ (i ≠ 0 ∧ Wkd c wt rows i 0 row (line - 1) 1)) ∧ (i = d + 1 → ∃ u, row.getLast? = some (line - 1, u)))
      ⟨_, _, _, wt + 1, [p], [(wt, 1)], rfl, eM, .cons ep .nil, s0, .inl ⟨rfl, k0⟩, fun e => by omega⟩ (fun i σ H' hi h => ?_) (fun σ H' h => ?_)⟩
    · obtain ⟨y4, y5, y6, line, ps, row, rfl, eM', tq, sm, hk, _⟩ := h
      rw [List.length_map] at hi
      have hi' : i < rows.length := by omega
      have hx := List.getElem?_eq_getElem hi'
      generalize rows[i] = x at hx
      have x0 := S.nn x (List.mem_of_getElem? hx)
      refine ⟨fun σ' H2 => H2 = H' ∧ ∃ (line turn : Int), σ' = [some (.int wt), some (.ref L), some (.ref M), some (.int line), some (.int (i : Int)), some (.int turn), y6] ∧ Wkd c wt rows i 0 row line turn, ?_, fun σ' H2 hm => ?_⟩
      · rcases hk with ⟨e, hk⟩ | ⟨e, hk⟩
        · subst e
          refine ⟨.int _, rfl, _, _, rfl, rfl, false, congrArg V.bl (decide_eq_false (by omega)), iteF ?_⟩
          exact ⟨rfl, line, 2, rfl, hk⟩
        · refine ⟨.int _, rfl, _, _, rfl, rfl, true, congrArg V.bl (decide_eq_true (by omega)), iteT ?_⟩
          refine ⟨.int line, rfl, _, _, rfl, rfl, ?_⟩
          exact ⟨rfl, line - 1, 1, by rw [Int.zero_add]; rfl, hk⟩
      · obtain ⟨rfl, line, turn, rfl, hk⟩ := hm
        refine ⟨.ref L, rfl, .int _, rfl, L, _, _, _, rfl, rfl, SqL.of (sm _ _ eL), atI_nat (by rw [List.getElem?_map, hx]; rfl), x, rfl, by omega, ?_, for_range (lo := 0) (n := x.toNat)
          (fun j σ H' => ∃ (y6 : Option V) (line turn : Int) (ps : List Addr) (row : List Wk.Spt), σ = [some (.int wt), some (.ref L), some (.ref M), some (.int line), some (.int (i : Int)), some (.int turn), y6] ∧ H' M = some (.lst (ps.map V.ref)) ∧ Tups pv2 H' ps row ∧ Same H H' ∧ Wkd c wt rows i j row line turn ∧ (j ≠ 0 → ∃ u, row.getLast? = some (line - 1, u)))
          ⟨_, line, turn, ps, row, rfl, eM', tq, sm, hk, fun e => absurd rfl e⟩ (fun j σ H' hj h => ?_) (fun σ H' h => ?_)⟩
        · have := S.le i x hx
          split at this <;> omega
        · obtain ⟨y6, line, turn, ps, row, rfl, eM', tq, sm, hk, _⟩ := h
          have nx := hk.step S hw w1 hn c2 hx (by omega)
          have hlr := hk.ln
          have hA := (S.pre i (by omega)).2
          have hcx := S.le i x hx
          have hc5 : x ≤ 4 := by split at hcx <;> omega
          refine ⟨.ref M, rfl, .inl ⟨rfl, _, SqL.of eM'⟩, .int line, rfl, .int turn, rfl, by show 2 ≤ sizeLine; decide, fun r nr => ?_⟩
          have s3 := same_upd (o := .tup [V.int line, .int turn]) nr
          refine ⟨M, _, _, rfl, rfl, s3 _ _ eM', small1000 (by rw [List.length_map, tq.length]; omega), ?_⟩
          refine ⟨.int line, rfl, _, _, rfl, rfl, .int turn, rfl, _, _, rfl, rfl, ?_⟩
          refine ⟨_, line + 1, turn + 1, ps ++ [r], row ++ [(line, turn)], rfl, by rw [upd_same, List.map_append]; rfl, ?_, same_put (sm.trans s3) nHM, nx, fun _ => ⟨turn, ?_⟩⟩
          · exact ((tq.new nr).snoc (f := pv2) (x := (line, turn)) upd_same).put (s3 _ _ eM')
          · rw [show line + 1 - 1 = line by omega]
            simp
        · obtain ⟨y6, line, turn, ps, row, rfl, eM', tq, sm, hk, hl⟩ := h
          refine ⟨_, _, _, line, ps, row, rfl, eM', tq, sm, .inr ⟨by omega, hk.next hx x0⟩, fun e => hl ?_⟩
          have : i = d := by omega
          rw [this] at hx
          have := S.la x hx
          omega
    · obtain ⟨y4, y5, y6, line, ps, row, rfl, eM', tq, sm, hk, hl⟩ := h
      rw [List.length_map] at hk hl
      have e1 : ((rows.length : Int)).toNat = d + 1 := by omega
      rw [e1] at hk hl
      obtain ⟨u, la⟩ := hl rfl
      rcases hk with ⟨e, _⟩ | ⟨_, hk⟩
      · omega
      · have eA : Tk.A rows (d + 1) = n := by
          have := Tk.A_all rows
          rw [hln, S.su] at this
          exact this
        have h1 := hk.ln
        have h2 := hk.li
        rw [eA] at h1 h2
        refine ⟨.ref M, rfl, q M ps row H' sm nHM eM' tq hk.wk (by omega) hk.hd ⟨u, ?_⟩⟩
        rw [la, show line - 1 = wt + n - (d : Int) by omega]
end

/-! ### the law of whole walks that meet -/
theorem slLK {X : Cx} {K : PySem.W.Frag} (h : X.K = K) : SlR X (rSlL K) := h ▸ sl_list
theorem nodup_le {α : Type} [BEq α] [LawfulBEq α] : ∀ (L M : List α), L.Nodup → (∀ x ∈ L, x ∈ M) → L.length ≤ M.length
  | [], _, _, _ => Nat.zero_le _
  | x :: L, M, h, s => by
    have hx := s x (by simp)
    have ih := nodup_le L (M.erase x) (List.nodup_cons.mp h).2 fun y hy => (List.mem_erase_of_ne (fun e => (List.nodup_cons.mp h).1 (by rw [← e]; exact hy))).mpr (s y (by simp [hy]))
    rw [List.length_erase_of_mem hx] at ih
    have := List.length_pos_of_mem hx
    rw [List.length_cons]
    omega
theorem prod_len {α : Type} (M : List α) : ∀ L : List α, (L.flatMap fun x => M.map fun y => (x, y)).length = L.length * M.length
  | [] => by simp
  | x :: L => by
    rw [List.flatMap_cons, List.length_append, prod_len M L, List.length_map, List.length_cons, Nat.add_mul]
    omega
theorem due_len {c : Int} {ls : List Int} {rs : List (List Int)} (R : Tb.Right ls rs) {ds : List (List Int × List Int)} (h : Pr.Due c ls rs ds) : ds.length ≤ 12960000 := by
  have h1 := nodup_le ds ((Tb.all ls rs rs.length).flatMap fun x => (Tb.all ls rs rs.length).map fun y => (x, y)) h.1 fun p hp => by
    obtain ⟨x, y⟩ := p
    have := (h.2.2 x y).mp hp
    exact List.mem_flatMap.mpr ⟨x, this.1, List.mem_map.mpr ⟨y, this.2.1, rfl⟩⟩
  rw [prod_len] at h1
  have h2 : (Tb.all ls rs rs.length).length ≤ 3600 := by
    have := Tb.all_len R rs.length (Nat.le_refl _)
    have := R.2.2.1
    omega
  exact Nat.le_trans h1 (Nat.mul_le_mul h2 h2)
/-- what a clash says of the two -/
theorem clash_says {c : Int} {ls : List Int} {rs : List (List Int)} (R : Tb.Right ls rs) {x y : List Int} (h : Cl.Clash c ls rs x y) : ∃ (g x2 y2 wx wy : Int), x = [g, x2, wx - x2] ∧ y = [g, y2, wy - y2] ∧ 0 ≤ y2 ∧ y2 ≤ x2 ∧ x2 < wx ∧ y2 < wy ∧ 0 < wx ∧ wx ≤ (rs.length : Int) ∧ wy ≤ (rs.length : Int) ∧
    0 < (wy - y2) - (wx - x2) ∧ (wy - y2) - (wx - x2) ≤ c * (x2 - y2) + c - 1 ∧ (x2, g) ∈ Tb.go ls 0 (Dy.rowOf rs wx) ∧ (y2, g) ∈ Tb.go ls 0 (Dy.rowOf rs wy) := by
  obtain ⟨a, b, hh, cd⟩ := h
  obtain ⟨wx, p, x1, x2, hp, rfl⟩ := Sf.all_inv (Nat.le_refl _) a
  obtain ⟨wy, q, y1, y2, hq, rfl⟩ := Sf.all_inv (Nat.le_refl _) b
  obtain ⟨_, p0, p1⟩ := Sf.mem_wait R x2 hp
  obtain ⟨_, q0, q1⟩ := Sf.mem_wait R y2 hq
  have cd' : (decide ((wy - q.1) - (wx - p.1) > 0) && (decide (p.1 ≥ q.1) && decide ((wy - q.1) - (wx - p.1) ≤ c * (p.1 - q.1) + c - 1))) = true := cd
  rw [Bool.and_eq_true, Bool.and_eq_true, decide_eq_true_iff, decide_eq_true_iff, decide_eq_true_iff] at cd'
  obtain ⟨d1, d2, d3⟩ := cd'
  have hk : p.2 = q.2 := hh
  refine ⟨p.2, p.1, q.1, wx, wy, rfl, by rw [hk]; rfl, q0, d2, p1, q1, by omega, x2, y2, d1, d3, hp, by rw [hk]; exact hq⟩
/-- a walk whose waits the bound has -/
theorem walk_in {k b b' : Int} {row : List Wk.Spt} (h : Wk.Walk k b row) (hb : ∀ s ∈ row, s.1 ≤ b') : Wk.Walk k b' row := by
  have ch : ∀ (r : List Wk.Spt) (s : Wk.Spt), (∀ z ∈ r, z.1 ≤ b') → Wk.Chain k b s r → Wk.Chain k b' s r := fun r => by
    induction r with
    | nil => exact fun _ _ h => h
    | cons o r ih =>
      intro s hz h
      exact ⟨⟨⟨h.1.1.1, hz o (by simp), h.1.1.2.2⟩, h.1.2⟩, ih o (fun z hz' => hz z (by simp [hz'])) h.2⟩
  cases row with
  | nil => exact False.elim h
  | cons s r =>
    obtain ⟨a, b2, c⟩ := h
    exact ⟨⟨a.1, hb s (by simp), a.2.2⟩, b2, ch r s (fun z hz => hb z (by simp [hz])) c⟩
/-- the first and the last of such a walk meet -/
theorem walk_mts {c : Int} {ls : List Int} {rs : List (List Int)} {row : List Wk.Spt} (hw : Wk.Walk c (rs.length : Int) row) {g x2 y2 wx wy n : Int} {u : Int} (w0 : 0 < wx) (n1 : 1 ≤ n) (hd : row.head? = some (wx, 1)) (hl : (row.length : Int) = 1 + n) (la : row.getLast? = some (wy, u)) (e : wy = wx + n - (x2 - y2))
    (h1 : (x2, g) ∈ Tb.go ls 0 (Dy.rowOf rs wx)) (h2 : (y2, g) ∈ Tb.go ls 0 (Dy.rowOf rs wy)) : Sf.Mts ls rs (Wk.cf row) (2 * wx).toNat (2 * wx + n).toNat := by
  obtain ⟨f1, f2, f3⟩ := Wk.cf_is hw
  have f4 := Tk.cf_num hw
  have eh : (row.headD (0, 0)).1 = wx := by
    cases row with
    | nil => simp at hd
    | cons s r =>
      have : s = (wx, 1) := Option.some.inj hd
      rw [this]
      rfl
  rw [eh] at f1 f2
  obtain ⟨m, hm⟩ : ∃ m : Nat, 2 * wx.toNat = m := ⟨_, rfl⟩
  rw [hm] at f1 f2
  have at_ : ∀ (j : Nat) (o : Wk.Spt), row[j]? = some o → ∃ l : Ln.Let, (Ln.letts (rs.length : Int) (Wk.cf row))[m + j]? = some l ∧ l.2.2 = some o.1 ∧ l.1 + o.1 = ((m + j : Nat) : Int) := fun j o ho => by
    have hj := (List.getElem?_eq_some_iff.mp ho).1
    have hx := List.getElem?_eq_getElem (show m + j < (Ln.letts (rs.length : Int) (Wk.cf row)).length by omega)
    generalize (Ln.letts (rs.length : Int) (Wk.cf row))[m + j]'(by omega) = l at hx
    have g1 : (((Ln.letts (rs.length : Int) (Wk.cf row)).drop m).map fun l => (l.2.2, l.2.1))[j]? = some (l.2.2, l.2.1) := by
      rw [List.getElem?_map, List.getElem?_drop, hx]
      rfl
    rw [f2, List.getElem?_map, ho] at g1
    have e1 : some o.1 = l.2.2 := congrArg Prod.fst (Option.some.inj g1)
    obtain ⟨w, hw1, hw2⟩ := f4 (m + j) l hx
    rw [← e1] at hw1
    obtain rfl := Option.some.inj hw1
    exact ⟨l, hx, e1.symm, hw2⟩
  have h0 : row[0]? = some (wx, 1) := by
    cases row with
    | nil => simp at hd
    | cons s r => exact hd
  have hz : row[n.toNat]? = some (wy, u) := by
    rw [List.getLast?_eq_getElem?] at la
    rw [show n.toNat = row.length - 1 by omega]
    exact la
  obtain ⟨l, l1, l2, l3⟩ := at_ 0 _ h0
  obtain ⟨k, k1, k2, k3⟩ := at_ n.toNat _ hz
  refine ⟨l, k, [wx + x2, g], ?_, ?_, ?_, ?_⟩
  · rw [show (2 * wx).toNat = m + 0 by omega]
    exact l1
  · rw [show (2 * wx + n).toNat = m + n.toNat by omega]
    exact k1
  · unfold Sf.pl
    rw [l2]
    refine List.mem_map.mpr ⟨_, h1, ?_⟩
    show [l.1 + x2, g] = _
    rw [show l.1 = wx by simp only at l3; omega]
  · unfold Sf.pl
    rw [k2]
    refine List.mem_map.mpr ⟨_, h2, ?_⟩
    show [k.1 + y2, g] = _
    rw [show k.1 + y2 = wx + x2 by simp only at k3; omega]
section
variable {P : Program} {w : World} {K : PySem.W.Frag} {mg : Str → Option Value} {base : Heap}
theorem tape_neT {H : Hp} {t s a : Addr} {xs : List V} (h : Tape H t s) (e : H a = some (.tup xs)) : a ≠ t := fun z => by
  obtain ⟨_, _, _, _, _, _, e2, _⟩ := h
  rw [z, e2] at e
  cases e
theorem Tups.drop {α : Type} {f : α → List V} {H : Hp} {ps : List Addr} {xs : List α} (h : Tups f H ps xs) : ∀ n, Tups f H (ps.drop n) (xs.drop n) := by
  induction h with
  | nil => intro n; rw [List.drop_nil, List.drop_nil]; exact .nil
  | cons a b ih =>
    intro n
    cases n with
    | zero => exact .cons a b
    | succ n => exact ih n
theorem cut_d (xs : List V) (m : Nat) : cutV xs (some (m : Int)) none = xs.drop m := by
  unfold cutV
  rw [HT.sIx_nat, HT.sIx_none]
  rcases Nat.lt_or_ge xs.length m with h | h
  · rw [Nat.min_eq_right (by omega), List.drop_of_length_le (Nat.le_refl _), List.drop_of_length_le (by omega)]
    simp
  · rw [Nat.min_eq_left h]
    exact List.take_of_length_le (by rw [List.length_drop]; exact Nat.le_refl _)
theorem flat_wd (L : List Ln.Let) (m : Nat) : ((L.map fun l => wv l.2.2).drop m).all flatV = true := by
  rw [List.all_eq_true]
  intro z hz
  obtain ⟨l, _, rfl⟩ := List.mem_map.mp (List.mem_of_mem_drop hz)
  show flatV (wv l.2.2) = true
  cases l.2.2 <;> rfl
theorem no_nond {L : List Ln.Let} (h : ∀ l ∈ L, l.2.2 ≠ none) (m : Nat) : inV .non ((L.map fun l => wv l.2.2).drop m) = false := by
  unfold inV
  rw [List.any_eq_false]
  intro z hz
  obtain ⟨l, hl, rfl⟩ := List.mem_map.mp (List.mem_of_mem_drop hz)
  have := h l hl
  show ¬ eqV (wv l.2.2) .non = true
  cases e : l.2.2 with
  | none => exact absurd e this
  | some w => exact fun z => by cases z
theorem at_m1 {xs : List V} {v : V} (h1 : 1 ≤ xs.length) (h : xs[xs.length - 1]? = some v) : atI xs (-1) = some v := by
  have e : ixN xs.length (-1) = some (xs.length - 1) := by
    unfold ixN
    rw [if_neg (by decide), if_pos (by omega)]
    exact congrArg some (by omega)
  unfold atI
  rw [e]
  exact h
def lawLevel : Nat := 12
def spLaw (K : PySem.W.Frag) : Sp := fun vs H Q _ => ∃ (a : Addr) (ns : List Int), vs = [.ref a] ∧ SqL K H a (ns.map V.int) ∧ ns.length ≤ 63 ∧ ∀ H', Q (.bl true) H'
theorem ok_law (T : Tx K mg) : FnOk P w K mg base CX0 12 T.a_law T.d_law ["script"] (spLaw K) := by
  refine T.F_law.ok sc_law (fun vs H Q E h => ?_) (fun cdv A outer s H vs Q E hr h => ?_)
  · obtain ⟨a, ns, rfl, _⟩ := h
    rfl
  · obtain ⟨a, ns0, rfl, hS, hlen, q⟩ := h
    refine ⟨_, ((pss_cons (ps_set (i := 1) sc_law.nd rfl (.inl rfl) (pe_call (ok__law_tape T) (hr.mono (by decide)) (by rfl) T.g__law_tape T.F__law_tape.kp T.b__law_tape .nil pass0 (pa_cons (pv 0) pa_nil)))
  (pss_cons (ps_set (i := 2) sc_law.nd rfl (.inl rfl) (pe_call (ok__law_loops T) (hr.mono (by decide)) (by rfl) T.g__law_loops T.F__law_loops.kp T.b__law_loops .nil pass0 (pa_cons (pv 1) (pa_cons pe_int (pa_cons pe_int pa_nil)))))
  (pss_cons (ps_set (i := 3) sc_law.nd rfl (.inl rfl) (pe_op op_add pe_int (pe_call (ok__law_pick T) (hr.mono (by decide)) (by rfl) T.g__law_pick T.F__law_pick.kp T.b__law_pick .nil pass0 (pa_cons (pv 1) (pa_cons pe_int pa_nil)))))
  (pss_cons (ps_set (i := 4) sc_law.nd rfl (.inl rfl) (pe_call (ok__law_rows T) (hr.mono (by decide)) (by rfl) T.g__law_rows T.F__law_rows.kp T.b__law_rows .nil pass0 (pa_cons (pv 1) (pa_cons (pv 2) (pa_cons (pv 3) pa_nil)))))
  (pss_cons (ps_set (i := 5) sc_law.nd rfl (.inl rfl) (pe_op op_add pe_int (pe_call (ok__law_pick T) (hr.mono (by decide)) (by rfl) T.g__law_pick T.F__law_pick.kp T.b__law_pick .nil pass0 (pa_cons (pv 1) (pa_cons pe_int pa_nil)))))
  (pss_cons (ps_set (i := 6) sc_law.nd rfl (.inl rfl) (pe_make T.mk_Table (ok_Table___init__ T) (hr.mono (by decide)) (by rfl) T.g_Table T.b_Table___init__ .nil pass0 (pa_cons (pv 2) (pa_cons (pv 4) pa_nil))))
  (pss_cons (ps_set (i := 7) sc_law.nd rfl (.inl rfl) (pe_call (ok__law_table_clashes T) (hr.mono (by decide)) (by rfl) T.g__law_table_clashes T.F__law_table_clashes.kp T.b__law_table_clashes .nil pass0 (pa_cons (pv 2) (pa_cons (pv 4) (pa_cons (pv 5) pa_nil)))))
  (pss_cons (ps_for PassesOwn.never rfl (pi_range1 (by rfl) T.m_range (pa_cons (pe_callB (call_min2 rfl) (by rfl) T.m_min (by decide +kernel) (pa_cons (pe_callB call_len_seq (by rfl) T.m_len PySem.boot_len (pa_cons (pv 7) pa_nil)) (pa_cons pe_int pa_nil))) pa_nil)) (pg_name (i := 8) sc_law.nd rfl (.inl rfl))
   (pss_cons (ps_asg (pe_ix (ixLK (K := K) (by rfl)) (pv 7) (pe_call (ok__law_pick T) (hr.mono (by decide)) (by rfl) T.g__law_pick T.F__law_pick.kp T.b__law_pick .nil pass0 (pa_cons (pv 1) (pa_cons (pe_callB call_len_seq (by rfl) T.m_len PySem.boot_len (pa_cons (pv 7) pa_nil)) pa_nil))) (fun _ _ => rfl)) (pg_tup rfl (pgs_cons (pg_name (i := 9) sc_law.nd rfl (.inl rfl)) (pgs_cons (pg_name (i := 10) sc_law.nd rfl (.inl rfl)) pgs_nil))))
  (pss_cons (ps_set (i := 11) sc_law.nd rfl (.inl rfl) (pe_call (ok__law_spread T) (hr.mono (by decide)) (by rfl) T.g__law_spread T.F__law_spread.kp T.b__law_spread .nil pass0 (pa_cons (pv 1) (pa_cons (pv 5) (pa_cons (pe_op op_sub (pe_ix (ixTK (K := K) (by rfl)) (pv 9) pe_int (fun _ _ => rfl)) (pe_ix (ixTK (K := K) (by rfl)) (pv 10) pe_int (fun _ _ => rfl))) (pa_cons (pe_op op_sub (pe_ix (ixTK (K := K) (by rfl)) (pv 10) pe_int (fun _ _ => rfl)) (pe_ix (ixTK (K := K) (by rfl)) (pv 9) pe_int (fun _ _ => rfl))) pa_nil))))))
  (pss_cons (ps_set (i := 12) sc_law.nd rfl (.inl rfl) (pe_call (ok__law_walk T) (hr.mono (by decide)) (by rfl) T.g__law_walk T.F__law_walk.kp T.b__law_walk .nil pass0 (pa_cons (pe_op op_add (pe_ix (ixTK (K := K) (by rfl)) (pv 9) pe_int (fun _ _ => rfl)) (pe_ix (ixTK (K := K) (by rfl)) (pv 9) pe_int (fun _ _ => rfl))) (pa_cons (pv 11) pa_nil))))
  (pss_cons (ps_if (PW.pt (pw_or (pt_cmpR op_gt (pe_callB (cr_max rfl) (by rfl) T.m_max (by decide +kernel) (pa_cons (pe_lc (own := [("wait", 16), ("turn", 17)]) (g := (gTup K 2 (gCons (gName 16) (gCons (gName 17) gNil)))) (tt := tYes) rfl sc_law.nd (pi_list (pv 12)) (blkOk_by (own := [("wait", 16), ("turn", 17)]) (N := ["script", "tape", "loops", "bound", "rows", "comers", "table", "pairs", "k", "one", "other", "spread", "walk", "comings", "letter", "last", "wait", "turn", "tick"]) (sc := defScope s_law) (by decide +kernel)) (fun _ _ _ _ _ => pg_tup rfl (pgs_cons (pg_name (i := 16) sc_law.nd rfl (.inl rfl)) (pgs_cons (pg_name (i := 17) sc_law.nd rfl (.inl rfl)) pgs_nil))) (fun _ _ _ _ _ => pts_nil) (fun _ _ _ _ _ => (pv 16))) pa_nil)) (pv 3) (nomark _)) (pw_or1 (pt_cmpR op_gt (pe_callB call_len_seq (by rfl) T.m_len PySem.boot_len (pa_cons (pv 12) pa_nil)) pe_int (nomark _))))) (pss_one ps_continue) pss_nil)
  (pss_cons (ps_asg (pe_call (ok_comings_for T) (hr.mono (by decide)) (by rfl) T.g_comings_for T.F_comings_for.kp T.b_comings_for .nil pass0 (pa_cons (pv 5) (pa_cons (pv 3) (pa_cons (pv 12) pa_nil)))) (pg_tup rfl (pgs_cons (pg_name (i := 13) sc_law.nd rfl (.inl rfl)) (pgs_cons (pg_name (i := 14) sc_law.nd rfl (.inl rfl)) pgs_nil))))
  (pss_cons (ps_set (i := 15) sc_law.nd rfl (.inl rfl) (pe_op op_sub (pe_op op_add (pv 14) (pe_callB call_len_seq (by rfl) T.m_len PySem.boot_len (pa_cons (pv 12) pa_nil))) pe_int))
  (pss_cons (ps_if (PW.pt (pw_or (pt_cmpR (inK (K := K) (by rfl)) pe_non (pe_slice (slLK (K := K) (by rfl)) (pe_call (ok_waits T) (hr.mono (by decide)) (by rfl) T.g_waits T.F_waits.kp T.b_waits .nil pass0 (pa_cons (pv 5) (pa_cons (pv 3) (pa_cons (pv 13) pa_nil)))) (po_some (pv 14)) po_none) (by rfl)) (pw_or1 (pt_cmpR op_ne (pe_ix (ixTK (K := K) (by rfl)) (pe_ix (ixLK (K := K) (by rfl)) (pv 12) (pe_un un_neg pe_int) (fun _ _ => rfl)) pe_int (fun _ _ => rfl)) (pe_op op_add (pe_ix (ixTK (K := K) (by rfl)) (pv 10) pe_int (fun _ _ => rfl)) (pe_ix (ixTK (K := K) (by rfl)) (pv 10) pe_int (fun _ _ => rfl))) (nomark _))))) (pss_one (ps_ret pe_bl)) pss_nil)
  (pss_cons (ps_if (pt_cmpR (op_neD hr.units) (pe_lc (own := [("tick", 18), ("turn", 17), ("wait", 16)]) (g := (gTup K 3 (gCons (gName 18) (gCons (gName 17) (gCons (gName 16) gNil))))) (tt := tYes) rfl sc_law.nd (pi_list (pe_slice (slLK (K := K) (by rfl)) (pe_call (ok__law_line T) (hr.mono (by decide)) (by rfl) T.g__law_line T.F__law_line.kp T.b__law_line .nil pass0 (pa_cons (pv 3) (pa_cons (pv 13) pa_nil))) (po_some (pv 14)) po_none)) (blkOk_by (own := [("tick", 18), ("turn", 17), ("wait", 16)]) (N := ["script", "tape", "loops", "bound", "rows", "comers", "table", "pairs", "k", "one", "other", "spread", "walk", "comings", "letter", "last", "wait", "turn", "tick"]) (sc := defScope s_law) (by decide +kernel)) (fun _ _ _ _ _ => pg_tup rfl (pgs_cons (pg_name (i := 18) sc_law.nd rfl (.inl rfl)) (pgs_cons (pg_name (i := 17) sc_law.nd rfl (.inl rfl)) (pgs_cons (pg_name (i := 16) sc_law.nd rfl (.inl rfl)) pgs_nil)))) (fun _ _ _ _ _ => pts_nil) (fun _ _ _ _ _ => (pe_tup (pa_cons (pv 16) (pa_cons (pv 17) pa_nil))))) (pv 12) (nomark _)) (pss_one (ps_ret pe_bl)) pss_nil)
  (pss_one (ps_if (pt_cmpR op_notBl (pe_call (ok_is_meeting T) (hr.mono (by decide)) (by rfl) T.g_is_meeting T.F_is_meeting.kp T.b_is_meeting .nil pass0 (pa_cons (pv 6) (pa_cons (pv 5) (pa_cons (pe_tup (pa_cons (pv 13) (pa_cons (pv 14) (pa_cons (pv 15) pa_nil)))) pa_nil)))) pe_bl (nomark _)) (pss_one (ps_ret pe_bl)) pss_nil)))))))))))
  (pss_one (ps_ret (pe_or (pe_cmpR op_gt (pe_callB call_len_seq (by rfl) T.m_len PySem.boot_len (pa_cons (pv 7) pa_nil)) pe_int (nomark _)) (pe_one (pe_cmpR op_isBl (pe_call (ok_is_meeting T) (hr.mono (by decide)) (by rfl) T.g_is_meeting T.F_is_meeting.kp T.b_is_meeting .nil pass0 (pa_cons (pv 6) (pa_cons (pv 5) (pa_cons (pe_tup (pa_cons (pe_op RR.op_repZ (pe_tup (pa_cons pe_int pa_nil)) (pv 3)) (pa_cons pe_int (pa_cons pe_int pa_nil)))) pa_nil)))) pe_bl (nomark _))))))))))))))), ?_⟩
    refine ⟨.ref a, rfl, a, ns0, rfl, hS, fun t sc H1 nt ns' sm tp1 => ?_⟩
    refine ⟨.ref t, rfl, t, sc, 5, 4, rfl, ⟨by decide, by decide⟩, ⟨by decide, by decide⟩, tp1, fun la ls H2 G lm h1 nla nla1 mv2 tp2 fz2 => ?_⟩
    refine ⟨.ref t, rfl, t, sc, 11, rfl, ⟨by decide, by decide⟩, tp2, fun bd H3 b0 b9 mv3 tp3 => ?_⟩
    refine ⟨2, bd, rfl, rfl, ?_⟩
    obtain ⟨B, hB⟩ : ∃ B : Int, B = 2 + bd := ⟨_, rfl⟩
    show gName 3 (V.int (2 + bd)) _ _ _
    rw [← hB]
    have fz3 := fz2.moved nla mv3
    refine ⟨.ref t, rfl, .ref la, rfl, .int B, rfl, t, sc, la, ls, B, rfl, tp3, fz3, G, h1, by omega, by omega, fun ra ps rs H4 R hrs nra1 nra mv4 tp4 era tu4 => ?_⟩
    subst hrs
    have fz4 := fz3.moved nla mv4
    refine ⟨.ref t, rfl, t, sc, 3, rfl, ⟨by decide, by decide⟩, tp4, fun e2 H5 e20 e22 mv5 tp5 => ?_⟩
    refine ⟨2, e2, rfl, rfl, ?_⟩
    have fz5 := fz4.moved nla mv5
    have hR5 := mv5.sq (K := K) tp4 (SqT.of era)
    have tu5 : Tups fI H5 ps rs := mv5.tups tp4 tu4
    obtain ⟨c, hc⟩ : ∃ c : Int, c = 2 + e2 := ⟨_, rfl⟩
    show gName 5 (V.int (2 + e2)) _ _ _
    rw [← hc]
    have c2 : 2 ≤ c := by omega
    have c4 : c ≤ 4 := by omega
    -- table
    refine ⟨.ref la, rfl, .ref ra, rfl, fun x dx nx ndx nex => ?_⟩
    have sx : Same H5 (upd (upd H5 dx (.own x)) x (.ins T.c_Table dx [])) := fun b o e => by
      rw [upd_ne (ne_of_none e nx), upd_ne (ne_of_none e ndx)]
      exact e
    refine ⟨x, dx, la, ra, ls, ps, rs, rfl, upd_same, sT sx fz5.sq, sT sx hR5, tu5.same sx, R, fun H6 kp6 ep6 => ⟨rfl, ?_⟩⟩
    have s6 : Same H5 H6 := fun b o e => kp6 b o (ne_of_none e nx) (sx b o e)
    have hL6 := sT (K := K) s6 fz5.sq
    have hR6 := sT (K := K) s6 hR5
    have tu6 := tu5.same s6
    have tab6 : TabAt K T.c_Table H6 x ls rs := ⟨dx, la, ra, ps, ep6, hL6, hR6, tu6⟩
    have tp6 := tp5.keep s6
    refine ⟨.ref la, rfl, .ref ra, rfl, .int c, rfl, la, ra, c, ls, ps, rs, rfl, hL6, hR6, tu6, R, c2, c4, fun L qs ds H7 s7 nL eL ptL hdue => ?_⟩
    have tab7 := tab6.same s7
    have tp7 := tp6.keep s7
    have hLt : L ≠ t := tp6.ne nL
    have zd := due_len R hdue
    have zq : qs.length = ds.length := ptL.length
    have elq : (((qs.map V.ref).length : Nat) : Int) = (ds.length : Int) := by rw [List.length_map, zq]
    refine ⟨.ref L, rfl, L, _, rfl, .inl (SqL.of eL), _, _, rfl, _, rfl, ?_, ?_, for_range (lo := 0)
      (fun i σ H' => ∃ (y8 y9 y10 y11 y12 y13 y14 y15 y16 y17 y18 : Option V), σ = [some (.ref a), some (.ref t), some (.ref la), some (.int (rs.length : Int)), some (.ref ra), some (.int c), some (.ref x), some (.ref L), y8, y9, y10, y11, y12, y13, y14, y15, y16, y17, y18] ∧ Moved t H7 H' ∧ Tape H' t sc)
      ⟨_, _, _, _, _, _, _, _, _, _, _, rfl, Moved.refl, tp7⟩ (fun i σ H' hi h => ?_) (fun σ H' h => ?_)⟩
    · split <;> omega
    · split <;> omega
    · obtain ⟨y8, y9, y10, y11, y12, y13, y14, y15, y16, y17, y18, rfl, mv, tp⟩ := h
      have d1 : 0 < ds.length := by
        rw [elq] at hi
        split at hi <;> omega
      have eLi := mv _ _ hLt eL
      refine ⟨.ref L, rfl, .ref t, rfl, .ref L, rfl, L, _, rfl, .inl (SqL.of eLi), t, sc, _, rfl, ⟨by omega, by omega⟩, tp, fun f HA f0 f1 mvA tpA => ?_⟩
      have hv := List.getElem?_eq_getElem (show f.toNat < (qs.map V.ref).length by omega)
      generalize (qs.map V.ref)[f.toNat]'(by omega) = v at hv
      obtain ⟨q0, oa, ob, xx, yy, rfl, hxy, eq0, ea, eb⟩ := ptL.get hv
      have hcl := (hdue.2.2 xx yy).mp (List.mem_of_getElem? hxy)
      obtain ⟨g, x2, y2, wx, wy, rfl, rfl, y0, yx, xw, yw, w0, wB1, wB2, n1, nn, g1, g2⟩ := clash_says R hcl
      have eLA := mvA _ _ hLt eLi
      have mv0A := mv.trans mvA
      have eqA := mv0A _ _ (tape_neT tp7 eq0) eq0
      have eaA := mv0A _ _ (tape_neT tp7 ea) ea
      have ebA := mv0A _ _ (tape_neT tp7 eb) eb
      obtain ⟨d, hd⟩ : ∃ d : Nat, (d : Int) = x2 - y2 := ⟨(x2 - y2).toNat, by omega⟩
      obtain ⟨n, hn⟩ : ∃ n : Int, n = wy - y2 - (wx - x2) := ⟨_, rfl⟩
      rw [← hn] at n1 nn
      rw [← hd] at nn
      refine ⟨L, _, f, _, rfl, rfl, SqL.of eLA, atI_of f0 hv, q0, _, rfl, SqT.of eqA, rfl, _, [_], rfl, _, [], rfl, rfl, ?_⟩
      -- spread
      refine ⟨.ref t, rfl, .int c, rfl, .ref oa, rfl, oa, _, 1, .int x2, rfl, rfl, SqT.of eaA, atI_nat (j := 1) rfl, .ref ob, rfl, ob, _, 1, .int y2, rfl, rfl, SqT.of ebA, atI_nat (j := 1) rfl, _, _, rfl, rfl, ?_⟩
      refine ⟨.ref ob, rfl, ob, _, 2, .int (wy - y2), rfl, rfl, SqT.of ebA, atI_nat (j := 2) rfl, .ref oa, rfl, oa, _, 2, .int (wx - x2), rfl, rfl, SqT.of eaA, atI_nat (j := 2) rfl, _, _, rfl, rfl, ?_⟩
      refine ⟨t, sc, c, n, d, by simp only [hd, hn]; rfl, tpA, c2, c4, by omega, by omega, by omega, by omega, fun RL rows HB S nRLt nRL mvB tpB eRL => ?_⟩
      have mv0B := mv0A.trans mvB
      have eaB := mv0B _ _ (tape_neT tp7 ea) ea
      have ebB := mv0B _ _ (tape_neT tp7 eb) eb
      -- walk
      refine ⟨.ref oa, rfl, oa, _, 1, .int x2, rfl, rfl, SqT.of eaB, atI_nat (j := 1) rfl, .ref oa, rfl, oa, _, 2, .int (wx - x2), rfl, rfl, SqT.of eaB, atI_nat (j := 2) rfl, _, _, rfl, rfl, ?_⟩
      refine ⟨.ref RL, rfl, RL, wx, c, n, d, rows, by simp only [show x2 + (wx - x2) = wx by omega]; rfl, eRL, S, c2, c4, by omega, by omega, by omega, by omega, by omega, fun M wps row HC sC nM eM tw wk wl whd wla => ?_⟩
      have e3 : wx + n - (d : Int) = wy := by omega
      rw [e3] at wla
      have tpC := tpB.keep sC
      have mv0C := mv0B.trans (Moved.same sC)
      have zrow : row.length ≤ 101 := by omega
      have hMt : M ≠ t := tpB.ne nM
      -- the longest wait
      refine ⟨.ref M, rfl, M, rfl, ⟨_, SqL.of eM⟩, fun D nD => lc_list (K := K) (a := M) (xs := wps.map V.ref)
        (fun i H' => Same HC H' ∧ H' D = some (.lst (((row.map Prod.fst).take i).map V.int)))
        ⟨same_upd nD, upd_same⟩ (fun i H' _ p => SqL.of (p.1 _ _ eM)) (fun i z H' hz p => ?_) (fun HD p => ?_)⟩
      · obtain ⟨sm, eD⟩ := p
        obtain ⟨r, l, rfl, hl, er⟩ := tw.get hz
        refine ⟨r, _, rfl, SqT.of (sm _ _ er), rfl, _, [_], rfl, _, [], rfl, rfl, rfl, ?_⟩
        refine ⟨_, rfl, _, eD, ?_, same_put sm nD, ?_⟩
        · rw [List.length_map, List.length_take, List.length_map]
          exact small1000 (by omega)
        · have hm : (row.map Prod.fst)[i]? = some l.1 := by
            rw [List.getElem?_map, hl]
            rfl
          rw [upd_same, List.take_add_one, hm, List.map_append]
          rfl
      · obtain ⟨sm, eD⟩ := p
        rw [List.length_map, tw.length, List.take_of_length_le (by rw [List.length_map]; exact Nat.le_refl _)] at eD
        refine ⟨D, _, rfl, SqL.of eD, by rw [List.length_map]; omega, fun mx hm hmax => ?_⟩
        have mvD := mv0C.trans (Moved.same sm)
        have tpD := tpC.keep sm
        refine ⟨.int _, rfl, _, _, rfl, rfl, _, rfl, ite2 (fun k1 => ?_) (fun k1 => ?_)⟩
        · exact ⟨_, _, _, _, _, _, _, _, _, _, _, rfl, mvD, tpD⟩
        have eMD := sm _ _ eM
        refine ⟨.ref M, rfl, M, _, rfl, .inl (SqL.of eMD), _, _, rfl, rfl, _, rfl, ite2 (fun k2 => ?_) (fun k2 => ?_)⟩
        · exact ⟨_, _, _, _, _, _, _, _, _, _, _, rfl, mvD, tpD⟩
        have k1' : ¬ mx > (rs.length : Int) := fun z => k1 (decide_eq_true z)
        have h60 : row.length ≤ 60 := by
          have k2' : ¬ (((wps.map V.ref).length : Nat) : Int) > 60 := fun z => k2 (decide_eq_true z)
          rw [List.length_map, tw.length] at k2'
          omega
        have wk' : Wk.Walk c (rs.length : Int) row := walk_in wk fun s hs => by
          have := hmax s.1 (List.mem_map.mpr ⟨s, hs, rfl⟩)
          omega
        have r60 := R.2.2.1
        have twD := tw.same sm
        have eh : (row.headD (0, 0)).1 = wx := by
          cases row with
          | nil => simp at whd
          | cons s r =>
            have : s = (wx, 1) := Option.some.inj whd
            rw [this]
            rfl
        refine ⟨.int c, rfl, .int _, rfl, .ref M, rfl, c, (rs.length : Int), M, wps, row, true, rfl, eMD, twD, wk', h60, c2, c4, by omega, by omega, fun pr cm HE sE epr ecm => ?_⟩
        obtain ⟨m, hm2⟩ : ∃ m : Nat, 2 * wx = (m : Int) := ⟨(2 * wx).toNat, by omega⟩
        rw [eh, hm2] at epr
        obtain ⟨f1, f2, f3⟩ := Wk.cf_is wk'
        rw [eh, show 2 * wx.toNat = m by omega] at f1 f2
        obtain ⟨cl, ci⟩ := Wk.cf_right c2 wk'
        have rt : Rt c (Wk.cf row) := ⟨by omega, ci⟩
        have eME := sE _ _ eMD
        have twE := twD.same sE
        refine ⟨pr, _, rfl, SqT.of epr, rfl, _, [_], rfl, _, [], rfl, rfl, ?_⟩
        -- last
        refine ⟨.int _, rfl, .ref M, rfl, M, _, rfl, .inl (SqL.of eME), _, _, rfl, rfl, _, _, rfl, rfl, ?_⟩
        have elw : (((wps.map V.ref).length : Nat) : Int) = 1 + n := by
          rw [List.length_map, tw.length]
          exact wl
        -- waits
        refine ⟨.int c, rfl, .int _, rfl, .ref cm, rfl, cm, Wk.cf row, c, (rs.length : Int), rfl, SqT.of ecm, rt, c2, c4, by omega, by omega, fun W HF sF nW eW => ?_⟩
        refine ⟨.int _, rfl, (m : Int), rfl, W, _, rfl, SqL.of eW, fun W2 nW2 => ?_⟩
        rw [cut_d]
        have sG := sF.trans (same_upd (o := .lst ((List.map (fun l => wv l.2.2) (Ln.letts (rs.length : Int) (Wk.cf row))).drop m)) nW2)
        refine ⟨W2, _, rfl, .inl (SqL.of upd_same), rfl, flat_wd _ _, false, congrArg V.bl (no_nond f3 _), iteF ?_⟩
        have eMG := sG _ _ eME
        have twG := twE.same sG
        have ecmG := sG _ _ ecm
        have mvG := (mvD.trans (Moved.same sE)).trans (Moved.same sG)
        have tpG := (tpD.keep sE).keep sG
        have ebG := mvG _ _ (tape_neT tp7 eb) eb
        generalize upd HF W2 (.lst ((List.map (fun l => wv l.2.2) (Ln.letts (rs.length : Int) (Wk.cf row))).drop m)) = HG at *
        -- the last wait
        obtain ⟨u, hu⟩ := wla
        have hz : row[row.length - 1]? = some (wy, u) := by
          rw [List.getLast?_eq_getElem?] at hu
          exact hu
        obtain ⟨r, hr', er⟩ := twG.at hz
        refine ⟨.ref M, rfl, 1, rfl, M, _, -1, .ref r, rfl, rfl, SqL.of eMG, at_m1 (by omega) (by rw [List.length_map, tw.length]; exact hr'), r, _, 0, .int wy, rfl, rfl, SqT.of er, atI_nat (j := 0) rfl, ?_⟩
        refine ⟨.ref ob, rfl, ob, _, 1, .int y2, rfl, rfl, SqT.of ebG, atI_nat (j := 1) rfl, .ref ob, rfl, ob, _, 2, .int (wy - y2), rfl, rfl, SqT.of ebG, atI_nat (j := 2) rfl, _, _, rfl, rfl, rfl, false, ne_no (by omega), iteF ?_⟩
        -- the law's own line
        refine ⟨.int _, rfl, .ref cm, rfl, cm, Wk.cf row, (rs.length : Int), c, rfl, SqT.of ecmG, rt, c4, by omega, fun L2 ps2 HI sI nL2 eL2 tu2 => ?_⟩
        refine ⟨.int _, rfl, (m : Int), rfl, L2, _, rfl, SqL.of eL2, fun c1 nc1 => ?_⟩
        rw [cut_d, ← List.map_drop]
        have sc1 := same_upd (o := .lst ((ps2.drop m).map V.ref)) nc1
        have ec1 : (upd HI c1 (.lst ((ps2.drop m).map V.ref))) c1 = some (.lst ((ps2.drop m).map V.ref)) := upd_same
        have tuJ := (tu2.same sc1).drop m
        have sJ := sI.trans sc1
        generalize upd HI c1 (.lst ((ps2.drop m).map V.ref)) = HJ at *
        refine ⟨c1, rfl, ⟨_, SqL.of ec1⟩, fun D2 nD2 => lc_list (K := K) (a := c1) (xs := (ps2.drop m).map V.ref)
          (fun i H' => ∃ qs : List Addr, Same HJ H' ∧ H' D2 = some (.lst (qs.map V.ref)) ∧ Tups pv2 H' qs (row.take i))
          ⟨[], same_upd nD2, upd_same, .nil⟩ (fun i H' _ p => let ⟨_, sm, _⟩ := p; SqL.of (sm _ _ ec1)) (fun i z H' hz p => ?_) (fun HK p => ?_)⟩
        · obtain ⟨qs2, sm2, eD2, tq2⟩ := p
          obtain ⟨r2, l, rfl, hl, er2⟩ := tuJ.get hz
          obtain ⟨lt, lu, lw⟩ := l
          have gg : (((Ln.letts (rs.length : Int) (Wk.cf row)).drop m).map fun l => (l.2.2, l.2.1))[i]? = some (lw, lu) := by
            rw [List.getElem?_map, hl]
            rfl
          rw [f2, List.getElem?_map] at gg
          obtain ⟨o, ho, eo⟩ := Option.map_eq_some_iff.mp gg
          have e1 : some o.1 = lw := congrArg Prod.fst eo
          have e2 : o.2 = lu := congrArg Prod.snd eo
          subst e1 e2
          refine ⟨r2, _, rfl, SqT.of (sm2 _ _ er2), rfl, _, [_, _], rfl, _, [_], rfl, _, [], rfl, rfl, rfl, ?_⟩
          refine ⟨.int o.1, rfl, .int o.2, rfl, by show 2 ≤ sizeLine; decide, fun c3 nc3 => ?_⟩
          have s2 := same_upd (o := .tup [V.int o.1, .int o.2]) nc3
          refine ⟨_, s2 _ _ eD2, ?_, qs2 ++ [c3], same_put (sm2.trans s2) nD2, by rw [upd_same, List.map_append]; rfl, ?_⟩
          · rw [List.length_map, tq2.length, List.length_take]
            exact small1000 (by omega)
          · rw [take_snoc ho]
            exact ((tq2.new nc3).snoc (x := o) upd_same).put (s2 _ _ eD2)
        · obtain ⟨qs2, sm2, eD2, tq2⟩ := p
          have elr : ((ps2.drop m).map V.ref).length = row.length := by
            rw [List.length_map, List.length_drop, tu2.length, f1]
            omega
          rw [elr, List.take_of_length_le (Nat.le_refl _)] at tq2
          have eMK := sm2 _ _ (sJ _ _ eMG)
          have twK := (twG.same sJ).same sm2
          refine ⟨.ref M, rfl, dPrs row, dPrs row, .lst (SqL.of eD2) (dpa_prs tq2), .lst (SqL.of eMK) (dpa_prs twK), (Shp.prs _).ok (by decide), (Shp.prs _).ok (by decide), false, ne_same (Shp.prs _), iteF ?_⟩
          -- they meet
          have mvK := (mvG.trans (Moved.same sJ)).trans (Moved.same sm2)
          have tpK := (tpG.keep sJ).keep sm2
          refine ⟨.ref x, rfl, .int c, rfl, .ref cm, rfl, .int _, rfl, .int _, rfl, by show 3 ≤ sizeLine; decide, fun tt ntt => ?_⟩
          rw [elw]
          have st := same_upd (o := .tup [V.ref cm, .int (m : Int), .int ((m : Int) + (1 + n) - 1)]) ntt
          refine ⟨x, tt, cm, c, (m : Int), (m : Int) + (1 + n) - 1, ls, rs, Wk.cf row, rfl, (Moved.tab mvK tp7 tab7).same st, R, c2, c4, upd_same, SqT.of (st _ _ (sm2 _ _ (sJ _ _ ecmG))), rt, by omega, by omega, by rw [f1]; omega, fun bb HS hbb sS => ?_⟩
          have ebb : bb = true := hbb.mpr (by
            have := walk_mts wk' w0 n1 whd wl hu (by rw [← hd]; exact e3.symm) g1 g2
            rw [show ((m : Int)).toNat = (2 * wx).toNat by omega, show ((m : Int) + (1 + n) - 1).toNat = (2 * wx + n).toNat by omega]
            exact this)
          refine ⟨bb, true, rfl, rfl, false, by rw [ebb]; rfl, iteF ?_⟩
          exact ⟨_, _, _, _, _, _, _, _, _, _, _, rfl, mvK.trans ((Moved.same st).trans (Moved.same sS)), (tpK.keep st).keep sS⟩
    · obtain ⟨y8, y9, y10, y11, y12, y13, y14, y15, y16, y17, y18, rfl, mv, tp⟩ := h
      have eLi := mv _ _ hLt eL
      refine ⟨.ref L, rfl, L, _, rfl, .inl (SqL.of eLi), _, _, rfl, rfl, _, rfl, ite2 (fun k1 => q _) (fun k1 => ?_)⟩
      have e0 : ds = [] := by
        have k1' : ¬ (((qs.map V.ref).length : Nat) : Int) > 0 := fun z => k1 (decide_eq_true z)
        rw [elq] at k1'
        exact List.length_eq_zero_iff.mp (by omega)
      have sf := (Pr.due_nil hdue).mp e0
      have r60 := R.2.2.1
      have tabT := Moved.tab mv tp7 tab7
      refine ⟨.ref x, rfl, .int c, rfl, by show 1 ≤ sizeLine; decide, fun u nu => ?_⟩
      have su := same_upd (o := .tup [V.int 2]) nu
      refine ⟨.int _, rfl, u, _, _, rfl, rfl, SqT.of upd_same, by omega, by omega, by show 1 ≤ 1000; decide, fun u2 HA sA eA => ?_⟩
      rw [flat_one] at eA
      refine ⟨by show 3 ≤ sizeLine; decide, fun tt ntt => ?_⟩
      have st := same_upd (o := .tup [V.ref u2, .int 0, .int 1]) ntt
      have hrep : ∀ m : Nat, (List.replicate m (V.int 2)) = (List.replicate m (2 : Int)).map V.int := fun m => by rw [List.map_replicate]
      rw [hrep] at eA
      have tl := Wk.twos (b := (rs.length : Int)) rs.length _ (Int.le_refl _) rfl
      have ell : (Ln.letts (rs.length : Int) (List.replicate rs.length (2 : Int))).length = 2 * rs.length := by
        unfold Ln.letts
        rw [List.length_replicate]
        exact tl.2.1
      have en : ((rs.length : Int)).toNat = rs.length := by omega
      rw [en] at eA
      refine ⟨x, tt, u2, c, 0, 1, ls, rs, List.replicate rs.length 2, rfl, ((tabT.same su).same sA).same st, R, c2, c4, upd_same, sT st eA, ⟨by rw [List.length_replicate]; omega, fun v hv => by rw [(List.mem_replicate.mp hv).2]; omega⟩, by decide, by decide, by omega, fun bb HS hbb sS => ?_⟩
      have ebb : bb = false := by
        cases bb with
        | false => rfl
        | true =>
          obtain ⟨r, hr2⟩ := Sf.mts_two (hbb.mp rfl) (by decide)
          have := Sf.nom_of_safe R (by omega) sf (cs := List.replicate rs.length 2) (fun v hv => by rw [(List.mem_replicate.mp hv).2]; omega) r
          omega
      subst ebb
      exact ⟨false, false, rfl, rfl, q _⟩
end

/-! ### the end -/
theorem fin_mk {l : PySem.W.OpenLaw} {w : World} {K : PySem.W.Frag} {h : Heap} {mg : Str → Option Value} {fa f_law : Addr} (KX : K.In h) (G : h.Ns mainGlobals mg) (hmg : mg "law" = some (.ref fa)) {an : Option Addr} {kV dc pm cd ct : Value}
    (hT : ∃ T : Tx K mg, T.a_law = f_law ∧ T.d_law = PySem.W.fnOf "law" "law" (defArgs s_law) (defBody s_law) (defScope s_law) .none kV dc pm an cd ct) :
    ∃ fd : FuncData, (∀ (s : Shared) (v : Value), BindsTo s fd ⟨[v], []⟩ [("script", v)]) ∧ ∀ base : Heap, K.In base → base.Ns mainGlobals mg → FnOk l.prog w K mg base CX0 lawLevel fa fd ["script"] (spLaw K) := by
  obtain ⟨T, ea, ed⟩ := hT
  have e := hmg.symm.trans T.g_law
  cases e
  exact ⟨T.d_law, fun s v => by rw [ed]; exact .of_eq rfl, fun base _ _ => ok_law T⟩

theorem all_mk {w : World} {K : PySem.W.Frag} {h : Heap} {mg : Str → Option Value} (X : K.In h) (G : h.Ns mainGlobals mg)
    {f_is_integer : Addr} {od_is_integer an_is_integer : Option Addr} {sl_is_integer : Array (Option Value)} {oc_is_integer kV_is_integer dc_is_integer pm_is_integer cd_is_integer ct_is_integer : Value}
    {f_is_number : Addr} {od_is_number an_is_number : Option Addr} {sl_is_number : Array (Option Value)} {oc_is_number kV_is_number dc_is_number pm_is_number cd_is_number ct_is_number : Value}
    {f_are_numbers : Addr} {od_are_numbers an_are_numbers : Option Addr} {sl_are_numbers : Array (Option Value)} {oc_are_numbers kV_are_numbers dc_are_numbers pm_are_numbers cd_are_numbers ct_are_numbers : Value}
    {f_are_integers : Addr} {od_are_integers an_are_integers : Option Addr} {sl_are_integers : Array (Option Value)} {oc_are_integers kV_are_integers dc_are_integers pm_are_integers cd_are_integers ct_are_integers : Value}
    {f_is_comings : Addr} {od_is_comings an_is_comings : Option Addr} {sl_is_comings : Array (Option Value)} {oc_is_comings kV_is_comings dc_is_comings pm_is_comings cd_is_comings ct_is_comings : Value}
    {f_is_loops : Addr} {od_is_loops an_is_loops : Option Addr} {sl_is_loops : Array (Option Value)} {oc_is_loops kV_is_loops dc_is_loops pm_is_loops cd_is_loops ct_is_loops : Value}
    {f_is_row : Addr} {od_is_row an_is_row : Option Addr} {sl_is_row : Array (Option Value)} {oc_is_row kV_is_row dc_is_row pm_is_row cd_is_row ct_is_row : Value}
    {f_check_comers : Addr} {od_check_comers an_check_comers : Option Addr} {sl_check_comers : Array (Option Value)} {oc_check_comers kV_check_comers dc_check_comers pm_check_comers cd_check_comers ct_check_comers : Value}
    {f_check_bound : Addr} {od_check_bound an_check_bound : Option Addr} {sl_check_bound : Array (Option Value)} {oc_check_bound kV_check_bound dc_check_bound pm_check_bound cd_check_bound ct_check_bound : Value}
    {f_check_comings : Addr} {od_check_comings an_check_comings : Option Addr} {sl_check_comings : Array (Option Value)} {oc_check_comings kV_check_comings dc_check_comings pm_check_comings cd_check_comings ct_check_comings : Value}
    {f_row_sum : Addr} {od_row_sum an_row_sum : Option Addr} {sl_row_sum : Array (Option Value)} {oc_row_sum kV_row_sum dc_row_sum pm_row_sum cd_row_sum ct_row_sum : Value}
    {f_row_entries : Addr} {od_row_entries an_row_entries : Option Addr} {sl_row_entries : Array (Option Value)} {oc_row_entries kV_row_entries dc_row_entries pm_row_entries cd_row_entries ct_row_entries : Value}
    {f_wait_row : Addr} {od_wait_row an_wait_row : Option Addr} {sl_wait_row : Array (Option Value)} {oc_wait_row kV_wait_row dc_wait_row pm_wait_row cd_wait_row ct_wait_row : Value}
    {f_wait_entries : Addr} {od_wait_entries an_wait_entries : Option Addr} {sl_wait_entries : Array (Option Value)} {oc_wait_entries kV_wait_entries dc_wait_entries pm_wait_entries cd_wait_entries ct_wait_entries : Value}
    {f_follow_line : Addr} {od_follow_line an_follow_line : Option Addr} {sl_follow_line : Array (Option Value)} {oc_follow_line kV_follow_line dc_follow_line pm_follow_line cd_follow_line ct_follow_line : Value}
    {f_letters_of : Addr} {od_letters_of an_letters_of : Option Addr} {sl_letters_of : Array (Option Value)} {oc_letters_of kV_letters_of dc_letters_of pm_letters_of cd_letters_of ct_letters_of : Value}
    {f_waits : Addr} {od_waits an_waits : Option Addr} {sl_waits : Array (Option Value)} {oc_waits kV_waits dc_waits pm_waits cd_waits ct_waits : Value}
    {f_is_spot : Addr} {od_is_spot an_is_spot : Option Addr} {sl_is_spot : Array (Option Value)} {oc_is_spot kV_is_spot dc_is_spot pm_is_spot cd_is_spot ct_is_spot : Value}
    {f_is_next : Addr} {od_is_next an_is_next : Option Addr} {sl_is_next : Array (Option Value)} {oc_is_next kV_is_next dc_is_next pm_is_next cd_is_next ct_is_next : Value}
    {f_is_walk : Addr} {od_is_walk an_is_walk : Option Addr} {sl_is_walk : Array (Option Value)} {oc_is_walk kV_is_walk dc_is_walk pm_is_walk cd_is_walk ct_is_walk : Value}
    {f_comings_for : Addr} {od_comings_for an_comings_for : Option Addr} {sl_comings_for : Array (Option Value)} {oc_comings_for kV_comings_for dc_comings_for pm_comings_for cd_comings_for ct_comings_for : Value}
    {f_layings_of : Addr} {od_layings_of an_layings_of : Option Addr} {sl_layings_of : Array (Option Value)} {oc_layings_of kV_layings_of dc_layings_of pm_layings_of cd_layings_of ct_layings_of : Value}
    {f_places_of : Addr} {od_places_of an_places_of : Option Addr} {sl_places_of : Array (Option Value)} {oc_places_of kV_places_of dc_places_of pm_places_of cd_places_of ct_places_of : Value}
    {f_is_meeting : Addr} {od_is_meeting an_is_meeting : Option Addr} {sl_is_meeting : Array (Option Value)} {oc_is_meeting kV_is_meeting dc_is_meeting pm_is_meeting cd_is_meeting ct_is_meeting : Value}
    {f__law_tape : Addr} {od__law_tape an__law_tape : Option Addr} {sl__law_tape : Array (Option Value)} {oc__law_tape kV__law_tape dc__law_tape pm__law_tape cd__law_tape ct__law_tape : Value}
    {f__law_pick : Addr} {od__law_pick an__law_pick : Option Addr} {sl__law_pick : Array (Option Value)} {oc__law_pick kV__law_pick dc__law_pick pm__law_pick cd__law_pick ct__law_pick : Value}
    {f__law_loops : Addr} {od__law_loops an__law_loops : Option Addr} {sl__law_loops : Array (Option Value)} {oc__law_loops kV__law_loops dc__law_loops pm__law_loops cd__law_loops ct__law_loops : Value}
    {f__law_row : Addr} {od__law_row an__law_row : Option Addr} {sl__law_row : Array (Option Value)} {oc__law_row kV__law_row dc__law_row pm__law_row cd__law_row ct__law_row : Value}
    {f__law_rows : Addr} {od__law_rows an__law_rows : Option Addr} {sl__law_rows : Array (Option Value)} {oc__law_rows kV__law_rows dc__law_rows pm__law_rows cd__law_rows ct__law_rows : Value}
    {f__law_line : Addr} {od__law_line an__law_line : Option Addr} {sl__law_line : Array (Option Value)} {oc__law_line kV__law_line dc__law_line pm__law_line cd__law_line ct__law_line : Value}
    {f__law_entries : Addr} {od__law_entries an__law_entries : Option Addr} {sl__law_entries : Array (Option Value)} {oc__law_entries kV__law_entries dc__law_entries pm__law_entries cd__law_entries ct__law_entries : Value}
    {f__law_clash : Addr} {od__law_clash an__law_clash : Option Addr} {sl__law_clash : Array (Option Value)} {oc__law_clash kV__law_clash dc__law_clash pm__law_clash cd__law_clash ct__law_clash : Value}
    {f__law_table_clashes : Addr} {od__law_table_clashes an__law_table_clashes : Option Addr} {sl__law_table_clashes : Array (Option Value)} {oc__law_table_clashes kV__law_table_clashes dc__law_table_clashes pm__law_table_clashes cd__law_table_clashes ct__law_table_clashes : Value}
    {f__law_spread : Addr} {od__law_spread an__law_spread : Option Addr} {sl__law_spread : Array (Option Value)} {oc__law_spread kV__law_spread dc__law_spread pm__law_spread cd__law_spread ct__law_spread : Value}
    {f__law_walk : Addr} {od__law_walk an__law_walk : Option Addr} {sl__law_walk : Array (Option Value)} {oc__law_walk kV__law_walk dc__law_walk pm__law_walk cd__law_walk ct__law_walk : Value}
    {f_law : Addr} {od_law an_law : Option Addr} {sl_law : Array (Option Value)} {oc_law kV_law dc_law pm_law cd_law ct_law : Value}
    {f_Table___init__ : Addr} {od_Table___init__ an_Table___init__ : Option Addr} {sl_Table___init__ : Array (Option Value)} {oc_Table___init__ kV_Table___init__ dc_Table___init__ pm_Table___init__ cd_Table___init__ ct_Table___init__ : Value}
    {t_MOST_BOUND : Tok}
    {t_MOST_COMERS : Tok}
    {t_MOST_ITEMS : Tok}
    {t_MOST_LENGTH : Tok}
    {t_MOST_LOOPS : Tok}
    {t_MOST_SPOTS : Tok}
    {t_MOST_TICKS : Tok}
    {c_Table : Addr}
    (a_is_integer : PySem.W.nsIn K mainGlobals "is_integer" = some (some (.ref f_is_integer))) (l_is_integer : K.lookup f_is_integer = some ⟨oc_is_integer, od_is_integer, .func (PySem.W.fnOf "is_integer" "is_integer" (defArgs s_is_integer) (defBody s_is_integer) (defScope s_is_integer) .none kV_is_integer dc_is_integer pm_is_integer an_is_integer cd_is_integer ct_is_integer), sl_is_integer⟩) (c_is_integer : PySem.W.codeIn K cd_is_integer "is_integer" = true) (k_is_integer : PySem.W.keepIn K (.ref f_is_integer) = true)
    (a_is_number : PySem.W.nsIn K mainGlobals "is_number" = some (some (.ref f_is_number))) (l_is_number : K.lookup f_is_number = some ⟨oc_is_number, od_is_number, .func (PySem.W.fnOf "is_number" "is_number" (defArgs s_is_number) (defBody s_is_number) (defScope s_is_number) .none kV_is_number dc_is_number pm_is_number an_is_number cd_is_number ct_is_number), sl_is_number⟩) (c_is_number : PySem.W.codeIn K cd_is_number "is_number" = true) (k_is_number : PySem.W.keepIn K (.ref f_is_number) = true)
    (a_are_numbers : PySem.W.nsIn K mainGlobals "are_numbers" = some (some (.ref f_are_numbers))) (l_are_numbers : K.lookup f_are_numbers = some ⟨oc_are_numbers, od_are_numbers, .func (PySem.W.fnOf "are_numbers" "are_numbers" (defArgs s_are_numbers) (defBody s_are_numbers) (defScope s_are_numbers) .none kV_are_numbers dc_are_numbers pm_are_numbers an_are_numbers cd_are_numbers ct_are_numbers), sl_are_numbers⟩) (c_are_numbers : PySem.W.codeIn K cd_are_numbers "are_numbers" = true) (k_are_numbers : PySem.W.keepIn K (.ref f_are_numbers) = true)
    (a_are_integers : PySem.W.nsIn K mainGlobals "are_integers" = some (some (.ref f_are_integers))) (l_are_integers : K.lookup f_are_integers = some ⟨oc_are_integers, od_are_integers, .func (PySem.W.fnOf "are_integers" "are_integers" (defArgs s_are_integers) (defBody s_are_integers) (defScope s_are_integers) .none kV_are_integers dc_are_integers pm_are_integers an_are_integers cd_are_integers ct_are_integers), sl_are_integers⟩) (c_are_integers : PySem.W.codeIn K cd_are_integers "are_integers" = true) (k_are_integers : PySem.W.keepIn K (.ref f_are_integers) = true)
    (a_is_comings : PySem.W.nsIn K mainGlobals "is_comings" = some (some (.ref f_is_comings))) (l_is_comings : K.lookup f_is_comings = some ⟨oc_is_comings, od_is_comings, .func (PySem.W.fnOf "is_comings" "is_comings" (defArgs s_is_comings) (defBody s_is_comings) (defScope s_is_comings) .none kV_is_comings dc_is_comings pm_is_comings an_is_comings cd_is_comings ct_is_comings), sl_is_comings⟩) (c_is_comings : PySem.W.codeIn K cd_is_comings "is_comings" = true) (k_is_comings : PySem.W.keepIn K (.ref f_is_comings) = true)
    (a_is_loops : PySem.W.nsIn K mainGlobals "is_loops" = some (some (.ref f_is_loops))) (l_is_loops : K.lookup f_is_loops = some ⟨oc_is_loops, od_is_loops, .func (PySem.W.fnOf "is_loops" "is_loops" (defArgs s_is_loops) (defBody s_is_loops) (defScope s_is_loops) .none kV_is_loops dc_is_loops pm_is_loops an_is_loops cd_is_loops ct_is_loops), sl_is_loops⟩) (c_is_loops : PySem.W.codeIn K cd_is_loops "is_loops" = true) (k_is_loops : PySem.W.keepIn K (.ref f_is_loops) = true)
    (a_is_row : PySem.W.nsIn K mainGlobals "is_row" = some (some (.ref f_is_row))) (l_is_row : K.lookup f_is_row = some ⟨oc_is_row, od_is_row, .func (PySem.W.fnOf "is_row" "is_row" (defArgs s_is_row) (defBody s_is_row) (defScope s_is_row) .none kV_is_row dc_is_row pm_is_row an_is_row cd_is_row ct_is_row), sl_is_row⟩) (c_is_row : PySem.W.codeIn K cd_is_row "is_row" = true) (k_is_row : PySem.W.keepIn K (.ref f_is_row) = true)
    (a_check_comers : PySem.W.nsIn K mainGlobals "check_comers" = some (some (.ref f_check_comers))) (l_check_comers : K.lookup f_check_comers = some ⟨oc_check_comers, od_check_comers, .func (PySem.W.fnOf "check_comers" "check_comers" (defArgs s_check_comers) (defBody s_check_comers) (defScope s_check_comers) .none kV_check_comers dc_check_comers pm_check_comers an_check_comers cd_check_comers ct_check_comers), sl_check_comers⟩) (c_check_comers : PySem.W.codeIn K cd_check_comers "check_comers" = true) (k_check_comers : PySem.W.keepIn K (.ref f_check_comers) = true)
    (a_check_bound : PySem.W.nsIn K mainGlobals "check_bound" = some (some (.ref f_check_bound))) (l_check_bound : K.lookup f_check_bound = some ⟨oc_check_bound, od_check_bound, .func (PySem.W.fnOf "check_bound" "check_bound" (defArgs s_check_bound) (defBody s_check_bound) (defScope s_check_bound) .none kV_check_bound dc_check_bound pm_check_bound an_check_bound cd_check_bound ct_check_bound), sl_check_bound⟩) (c_check_bound : PySem.W.codeIn K cd_check_bound "check_bound" = true) (k_check_bound : PySem.W.keepIn K (.ref f_check_bound) = true)
    (a_check_comings : PySem.W.nsIn K mainGlobals "check_comings" = some (some (.ref f_check_comings))) (l_check_comings : K.lookup f_check_comings = some ⟨oc_check_comings, od_check_comings, .func (PySem.W.fnOf "check_comings" "check_comings" (defArgs s_check_comings) (defBody s_check_comings) (defScope s_check_comings) .none kV_check_comings dc_check_comings pm_check_comings an_check_comings cd_check_comings ct_check_comings), sl_check_comings⟩) (c_check_comings : PySem.W.codeIn K cd_check_comings "check_comings" = true) (k_check_comings : PySem.W.keepIn K (.ref f_check_comings) = true)
    (a_row_sum : PySem.W.nsIn K mainGlobals "row_sum" = some (some (.ref f_row_sum))) (l_row_sum : K.lookup f_row_sum = some ⟨oc_row_sum, od_row_sum, .func (PySem.W.fnOf "row_sum" "row_sum" (defArgs s_row_sum) (defBody s_row_sum) (defScope s_row_sum) .none kV_row_sum dc_row_sum pm_row_sum an_row_sum cd_row_sum ct_row_sum), sl_row_sum⟩) (c_row_sum : PySem.W.codeIn K cd_row_sum "row_sum" = true) (k_row_sum : PySem.W.keepIn K (.ref f_row_sum) = true)
    (a_row_entries : PySem.W.nsIn K mainGlobals "row_entries" = some (some (.ref f_row_entries))) (l_row_entries : K.lookup f_row_entries = some ⟨oc_row_entries, od_row_entries, .func (PySem.W.fnOf "row_entries" "row_entries" (defArgs s_row_entries) (defBody s_row_entries) (defScope s_row_entries) .none kV_row_entries dc_row_entries pm_row_entries an_row_entries cd_row_entries ct_row_entries), sl_row_entries⟩) (c_row_entries : PySem.W.codeIn K cd_row_entries "row_entries" = true) (k_row_entries : PySem.W.keepIn K (.ref f_row_entries) = true)
    (a_wait_row : PySem.W.nsIn K mainGlobals "wait_row" = some (some (.ref f_wait_row))) (l_wait_row : K.lookup f_wait_row = some ⟨oc_wait_row, od_wait_row, .func (PySem.W.fnOf "wait_row" "wait_row" (defArgs s_wait_row) (defBody s_wait_row) (defScope s_wait_row) .none kV_wait_row dc_wait_row pm_wait_row an_wait_row cd_wait_row ct_wait_row), sl_wait_row⟩) (c_wait_row : PySem.W.codeIn K cd_wait_row "wait_row" = true) (k_wait_row : PySem.W.keepIn K (.ref f_wait_row) = true)
    (a_wait_entries : PySem.W.nsIn K mainGlobals "wait_entries" = some (some (.ref f_wait_entries))) (l_wait_entries : K.lookup f_wait_entries = some ⟨oc_wait_entries, od_wait_entries, .func (PySem.W.fnOf "wait_entries" "wait_entries" (defArgs s_wait_entries) (defBody s_wait_entries) (defScope s_wait_entries) .none kV_wait_entries dc_wait_entries pm_wait_entries an_wait_entries cd_wait_entries ct_wait_entries), sl_wait_entries⟩) (c_wait_entries : PySem.W.codeIn K cd_wait_entries "wait_entries" = true) (k_wait_entries : PySem.W.keepIn K (.ref f_wait_entries) = true)
    (a_follow_line : PySem.W.nsIn K mainGlobals "follow_line" = some (some (.ref f_follow_line))) (l_follow_line : K.lookup f_follow_line = some ⟨oc_follow_line, od_follow_line, .func (PySem.W.fnOf "follow_line" "follow_line" (defArgs s_follow_line) (defBody s_follow_line) (defScope s_follow_line) .none kV_follow_line dc_follow_line pm_follow_line an_follow_line cd_follow_line ct_follow_line), sl_follow_line⟩) (c_follow_line : PySem.W.codeIn K cd_follow_line "follow_line" = true) (k_follow_line : PySem.W.keepIn K (.ref f_follow_line) = true)
    (a_letters_of : PySem.W.nsIn K mainGlobals "letters_of" = some (some (.ref f_letters_of))) (l_letters_of : K.lookup f_letters_of = some ⟨oc_letters_of, od_letters_of, .func (PySem.W.fnOf "letters_of" "letters_of" (defArgs s_letters_of) (defBody s_letters_of) (defScope s_letters_of) .none kV_letters_of dc_letters_of pm_letters_of an_letters_of cd_letters_of ct_letters_of), sl_letters_of⟩) (c_letters_of : PySem.W.codeIn K cd_letters_of "letters_of" = true) (k_letters_of : PySem.W.keepIn K (.ref f_letters_of) = true)
    (a_waits : PySem.W.nsIn K mainGlobals "waits" = some (some (.ref f_waits))) (l_waits : K.lookup f_waits = some ⟨oc_waits, od_waits, .func (PySem.W.fnOf "waits" "waits" (defArgs s_waits) (defBody s_waits) (defScope s_waits) .none kV_waits dc_waits pm_waits an_waits cd_waits ct_waits), sl_waits⟩) (c_waits : PySem.W.codeIn K cd_waits "waits" = true) (k_waits : PySem.W.keepIn K (.ref f_waits) = true)
    (a_is_spot : PySem.W.nsIn K mainGlobals "is_spot" = some (some (.ref f_is_spot))) (l_is_spot : K.lookup f_is_spot = some ⟨oc_is_spot, od_is_spot, .func (PySem.W.fnOf "is_spot" "is_spot" (defArgs s_is_spot) (defBody s_is_spot) (defScope s_is_spot) .none kV_is_spot dc_is_spot pm_is_spot an_is_spot cd_is_spot ct_is_spot), sl_is_spot⟩) (c_is_spot : PySem.W.codeIn K cd_is_spot "is_spot" = true) (k_is_spot : PySem.W.keepIn K (.ref f_is_spot) = true)
    (a_is_next : PySem.W.nsIn K mainGlobals "is_next" = some (some (.ref f_is_next))) (l_is_next : K.lookup f_is_next = some ⟨oc_is_next, od_is_next, .func (PySem.W.fnOf "is_next" "is_next" (defArgs s_is_next) (defBody s_is_next) (defScope s_is_next) .none kV_is_next dc_is_next pm_is_next an_is_next cd_is_next ct_is_next), sl_is_next⟩) (c_is_next : PySem.W.codeIn K cd_is_next "is_next" = true) (k_is_next : PySem.W.keepIn K (.ref f_is_next) = true)
    (a_is_walk : PySem.W.nsIn K mainGlobals "is_walk" = some (some (.ref f_is_walk))) (l_is_walk : K.lookup f_is_walk = some ⟨oc_is_walk, od_is_walk, .func (PySem.W.fnOf "is_walk" "is_walk" (defArgs s_is_walk) (defBody s_is_walk) (defScope s_is_walk) .none kV_is_walk dc_is_walk pm_is_walk an_is_walk cd_is_walk ct_is_walk), sl_is_walk⟩) (c_is_walk : PySem.W.codeIn K cd_is_walk "is_walk" = true) (k_is_walk : PySem.W.keepIn K (.ref f_is_walk) = true)
    (a_comings_for : PySem.W.nsIn K mainGlobals "comings_for" = some (some (.ref f_comings_for))) (l_comings_for : K.lookup f_comings_for = some ⟨oc_comings_for, od_comings_for, .func (PySem.W.fnOf "comings_for" "comings_for" (defArgs s_comings_for) (defBody s_comings_for) (defScope s_comings_for) .none kV_comings_for dc_comings_for pm_comings_for an_comings_for cd_comings_for ct_comings_for), sl_comings_for⟩) (c_comings_for : PySem.W.codeIn K cd_comings_for "comings_for" = true) (k_comings_for : PySem.W.keepIn K (.ref f_comings_for) = true)
    (a_layings_of : PySem.W.nsIn K mainGlobals "layings_of" = some (some (.ref f_layings_of))) (l_layings_of : K.lookup f_layings_of = some ⟨oc_layings_of, od_layings_of, .func (PySem.W.fnOf "layings_of" "layings_of" (defArgs s_layings_of) (defBody s_layings_of) (defScope s_layings_of) .none kV_layings_of dc_layings_of pm_layings_of an_layings_of cd_layings_of ct_layings_of), sl_layings_of⟩) (c_layings_of : PySem.W.codeIn K cd_layings_of "layings_of" = true) (k_layings_of : PySem.W.keepIn K (.ref f_layings_of) = true)
    (a_places_of : PySem.W.nsIn K mainGlobals "places_of" = some (some (.ref f_places_of))) (l_places_of : K.lookup f_places_of = some ⟨oc_places_of, od_places_of, .func (PySem.W.fnOf "places_of" "places_of" (defArgs s_places_of) (defBody s_places_of) (defScope s_places_of) .none kV_places_of dc_places_of pm_places_of an_places_of cd_places_of ct_places_of), sl_places_of⟩) (c_places_of : PySem.W.codeIn K cd_places_of "places_of" = true) (k_places_of : PySem.W.keepIn K (.ref f_places_of) = true)
    (a_is_meeting : PySem.W.nsIn K mainGlobals "is_meeting" = some (some (.ref f_is_meeting))) (l_is_meeting : K.lookup f_is_meeting = some ⟨oc_is_meeting, od_is_meeting, .func (PySem.W.fnOf "is_meeting" "is_meeting" (defArgs s_is_meeting) (defBody s_is_meeting) (defScope s_is_meeting) .none kV_is_meeting dc_is_meeting pm_is_meeting an_is_meeting cd_is_meeting ct_is_meeting), sl_is_meeting⟩) (c_is_meeting : PySem.W.codeIn K cd_is_meeting "is_meeting" = true) (k_is_meeting : PySem.W.keepIn K (.ref f_is_meeting) = true)
    (a__law_tape : PySem.W.nsIn K mainGlobals "_law_tape" = some (some (.ref f__law_tape))) (l__law_tape : K.lookup f__law_tape = some ⟨oc__law_tape, od__law_tape, .func (PySem.W.fnOf "_law_tape" "_law_tape" (defArgs s__law_tape) (defBody s__law_tape) (defScope s__law_tape) .none kV__law_tape dc__law_tape pm__law_tape an__law_tape cd__law_tape ct__law_tape), sl__law_tape⟩) (c__law_tape : PySem.W.codeIn K cd__law_tape "_law_tape" = true) (k__law_tape : PySem.W.keepIn K (.ref f__law_tape) = true)
    (a__law_pick : PySem.W.nsIn K mainGlobals "_law_pick" = some (some (.ref f__law_pick))) (l__law_pick : K.lookup f__law_pick = some ⟨oc__law_pick, od__law_pick, .func (PySem.W.fnOf "_law_pick" "_law_pick" (defArgs s__law_pick) (defBody s__law_pick) (defScope s__law_pick) .none kV__law_pick dc__law_pick pm__law_pick an__law_pick cd__law_pick ct__law_pick), sl__law_pick⟩) (c__law_pick : PySem.W.codeIn K cd__law_pick "_law_pick" = true) (k__law_pick : PySem.W.keepIn K (.ref f__law_pick) = true)
    (a__law_loops : PySem.W.nsIn K mainGlobals "_law_loops" = some (some (.ref f__law_loops))) (l__law_loops : K.lookup f__law_loops = some ⟨oc__law_loops, od__law_loops, .func (PySem.W.fnOf "_law_loops" "_law_loops" (defArgs s__law_loops) (defBody s__law_loops) (defScope s__law_loops) .none kV__law_loops dc__law_loops pm__law_loops an__law_loops cd__law_loops ct__law_loops), sl__law_loops⟩) (c__law_loops : PySem.W.codeIn K cd__law_loops "_law_loops" = true) (k__law_loops : PySem.W.keepIn K (.ref f__law_loops) = true)
    (a__law_row : PySem.W.nsIn K mainGlobals "_law_row" = some (some (.ref f__law_row))) (l__law_row : K.lookup f__law_row = some ⟨oc__law_row, od__law_row, .func (PySem.W.fnOf "_law_row" "_law_row" (defArgs s__law_row) (defBody s__law_row) (defScope s__law_row) .none kV__law_row dc__law_row pm__law_row an__law_row cd__law_row ct__law_row), sl__law_row⟩) (c__law_row : PySem.W.codeIn K cd__law_row "_law_row" = true) (k__law_row : PySem.W.keepIn K (.ref f__law_row) = true)
    (a__law_rows : PySem.W.nsIn K mainGlobals "_law_rows" = some (some (.ref f__law_rows))) (l__law_rows : K.lookup f__law_rows = some ⟨oc__law_rows, od__law_rows, .func (PySem.W.fnOf "_law_rows" "_law_rows" (defArgs s__law_rows) (defBody s__law_rows) (defScope s__law_rows) .none kV__law_rows dc__law_rows pm__law_rows an__law_rows cd__law_rows ct__law_rows), sl__law_rows⟩) (c__law_rows : PySem.W.codeIn K cd__law_rows "_law_rows" = true) (k__law_rows : PySem.W.keepIn K (.ref f__law_rows) = true)
    (a__law_line : PySem.W.nsIn K mainGlobals "_law_line" = some (some (.ref f__law_line))) (l__law_line : K.lookup f__law_line = some ⟨oc__law_line, od__law_line, .func (PySem.W.fnOf "_law_line" "_law_line" (defArgs s__law_line) (defBody s__law_line) (defScope s__law_line) .none kV__law_line dc__law_line pm__law_line an__law_line cd__law_line ct__law_line), sl__law_line⟩) (c__law_line : PySem.W.codeIn K cd__law_line "_law_line" = true) (k__law_line : PySem.W.keepIn K (.ref f__law_line) = true)
    (a__law_entries : PySem.W.nsIn K mainGlobals "_law_entries" = some (some (.ref f__law_entries))) (l__law_entries : K.lookup f__law_entries = some ⟨oc__law_entries, od__law_entries, .func (PySem.W.fnOf "_law_entries" "_law_entries" (defArgs s__law_entries) (defBody s__law_entries) (defScope s__law_entries) .none kV__law_entries dc__law_entries pm__law_entries an__law_entries cd__law_entries ct__law_entries), sl__law_entries⟩) (c__law_entries : PySem.W.codeIn K cd__law_entries "_law_entries" = true) (k__law_entries : PySem.W.keepIn K (.ref f__law_entries) = true)
    (a__law_clash : PySem.W.nsIn K mainGlobals "_law_clash" = some (some (.ref f__law_clash))) (l__law_clash : K.lookup f__law_clash = some ⟨oc__law_clash, od__law_clash, .func (PySem.W.fnOf "_law_clash" "_law_clash" (defArgs s__law_clash) (defBody s__law_clash) (defScope s__law_clash) .none kV__law_clash dc__law_clash pm__law_clash an__law_clash cd__law_clash ct__law_clash), sl__law_clash⟩) (c__law_clash : PySem.W.codeIn K cd__law_clash "_law_clash" = true) (k__law_clash : PySem.W.keepIn K (.ref f__law_clash) = true)
    (a__law_table_clashes : PySem.W.nsIn K mainGlobals "_law_table_clashes" = some (some (.ref f__law_table_clashes))) (l__law_table_clashes : K.lookup f__law_table_clashes = some ⟨oc__law_table_clashes, od__law_table_clashes, .func (PySem.W.fnOf "_law_table_clashes" "_law_table_clashes" (defArgs s__law_table_clashes) (defBody s__law_table_clashes) (defScope s__law_table_clashes) .none kV__law_table_clashes dc__law_table_clashes pm__law_table_clashes an__law_table_clashes cd__law_table_clashes ct__law_table_clashes), sl__law_table_clashes⟩) (c__law_table_clashes : PySem.W.codeIn K cd__law_table_clashes "_law_table_clashes" = true) (k__law_table_clashes : PySem.W.keepIn K (.ref f__law_table_clashes) = true)
    (a__law_spread : PySem.W.nsIn K mainGlobals "_law_spread" = some (some (.ref f__law_spread))) (l__law_spread : K.lookup f__law_spread = some ⟨oc__law_spread, od__law_spread, .func (PySem.W.fnOf "_law_spread" "_law_spread" (defArgs s__law_spread) (defBody s__law_spread) (defScope s__law_spread) .none kV__law_spread dc__law_spread pm__law_spread an__law_spread cd__law_spread ct__law_spread), sl__law_spread⟩) (c__law_spread : PySem.W.codeIn K cd__law_spread "_law_spread" = true) (k__law_spread : PySem.W.keepIn K (.ref f__law_spread) = true)
    (a__law_walk : PySem.W.nsIn K mainGlobals "_law_walk" = some (some (.ref f__law_walk))) (l__law_walk : K.lookup f__law_walk = some ⟨oc__law_walk, od__law_walk, .func (PySem.W.fnOf "_law_walk" "_law_walk" (defArgs s__law_walk) (defBody s__law_walk) (defScope s__law_walk) .none kV__law_walk dc__law_walk pm__law_walk an__law_walk cd__law_walk ct__law_walk), sl__law_walk⟩) (c__law_walk : PySem.W.codeIn K cd__law_walk "_law_walk" = true) (k__law_walk : PySem.W.keepIn K (.ref f__law_walk) = true)
    (a_law : PySem.W.nsIn K mainGlobals "law" = some (some (.ref f_law))) (l_law : K.lookup f_law = some ⟨oc_law, od_law, .func (PySem.W.fnOf "law" "law" (defArgs s_law) (defBody s_law) (defScope s_law) .none kV_law dc_law pm_law an_law cd_law ct_law), sl_law⟩) (c_law : PySem.W.codeIn K cd_law "law" = true) (k_law : PySem.W.keepIn K (.ref f_law) = true)
    (a_Table___init__ : PySem.W.findIn K (.ref c_Table) "__init__" = some (some (.ref f_Table___init__))) (i_Table___init__ : PySem.W.isFn K (.ref f_Table___init__) = true) (l_Table___init__ : K.lookup f_Table___init__ = some ⟨oc_Table___init__, od_Table___init__, .func (PySem.W.fnOf "__init__" "Table.__init__" (defArgs s_Table___init__) (defBody s_Table___init__) (defScope s_Table___init__) .none kV_Table___init__ dc_Table___init__ pm_Table___init__ an_Table___init__ cd_Table___init__ ct_Table___init__), sl_Table___init__⟩) (c_Table___init__ : PySem.W.codeIn K cd_Table___init__ "Table.__init__" = true) (k_Table___init__ : PySem.W.keepIn K (.ref f_Table___init__) = true)
    (z_all : PySem.W.nsIn K mainGlobals "all" = some none)
    (z_any : PySem.W.nsIn K mainGlobals "any" = some none)
    (z_bool : PySem.W.nsIn K mainGlobals "bool" = some none)
    (z_enumerate : PySem.W.nsIn K mainGlobals "enumerate" = some none)
    (z_int : PySem.W.nsIn K mainGlobals "int" = some none)
    (z_isinstance : PySem.W.nsIn K mainGlobals "isinstance" = some none)
    (z_len : PySem.W.nsIn K mainGlobals "len" = some none)
    (z_list : PySem.W.nsIn K mainGlobals "list" = some none)
    (z_max : PySem.W.nsIn K mainGlobals "max" = some none)
    (z_min : PySem.W.nsIn K mainGlobals "min" = some none)
    (z_range : PySem.W.nsIn K mainGlobals "range" = some none)
    (z_sorted : PySem.W.nsIn K mainGlobals "sorted" = some none)
    (z_sum : PySem.W.nsIn K mainGlobals "sum" = some none)
    (z_tuple : PySem.W.nsIn K mainGlobals "tuple" = some none)
    (z_zip : PySem.W.nsIn K mainGlobals "zip" = some none)
    (y_MOST_BOUND : PySem.W.nsIn K mainGlobals "MOST_BOUND" = some (some (.int 60 t_MOST_BOUND)))
    (y_MOST_COMERS : PySem.W.nsIn K mainGlobals "MOST_COMERS" = some (some (.int 4 t_MOST_COMERS)))
    (y_MOST_ITEMS : PySem.W.nsIn K mainGlobals "MOST_ITEMS" = some (some (.int 60 t_MOST_ITEMS)))
    (y_MOST_LENGTH : PySem.W.nsIn K mainGlobals "MOST_LENGTH" = some (some (.int 40 t_MOST_LENGTH)))
    (y_MOST_LOOPS : PySem.W.nsIn K mainGlobals "MOST_LOOPS" = some (some (.int 8 t_MOST_LOOPS)))
    (y_MOST_SPOTS : PySem.W.nsIn K mainGlobals "MOST_SPOTS" = some (some (.int 60 t_MOST_SPOTS)))
    (y_MOST_TICKS : PySem.W.nsIn K mainGlobals "MOST_TICKS" = some (some (.int 400 t_MOST_TICKS)))
    (y_Table : PySem.W.nsIn K mainGlobals "Table" = some (some (.ref c_Table)))
    (pg_Table : PySem.W.plainGet K c_Table Str.empty = true) (hd_Table : PySem.W.hasDictIn K c_Table = true) (po_Table : PySem.W.plainOver K c_Table = true) (sa_Table : PySem.W.findIn K (.ref c_Table) "__setattr__" = some (some (.builtin "object.__setattr__"))) (mk_Table : PySem.W.makesIn K c_Table = true) (kc_Table : PySem.W.keepIn K (.ref c_Table) = true)
    (n_Table_loops : PySem.W.findIn K (.ref c_Table) "loops" = some none)
    (n_Table_rows : PySem.W.findIn K (.ref c_Table) "rows" = some none)
    (n_Table_bound : PySem.W.findIn K (.ref c_Table) "bound" = some none)
    : ∃ T : Tx K mg, T.a_law = f_law ∧ T.d_law = PySem.W.fnOf "law" "law" (defArgs s_law) (defBody s_law) (defScope s_law) .none kV_law dc_law pm_law an_law cd_law ct_law :=
  ⟨{ a_is_integer := f_is_integer, d_is_integer := _, F_is_integer := fun_mk (st := s_is_integer) l_is_integer c_is_integer k_is_integer, b_is_integer := (fun_mk (st := s_is_integer) l_is_integer c_is_integer k_is_integer).binds (ps := ["thing"]) (fun _ _ _ _ _ _ us hl => match us, hl with | [_], _ => rfl), g_is_integer := PySem.W.mg_of X G a_is_integer,
     a_is_number := f_is_number, d_is_number := _, F_is_number := fun_mk (st := s_is_number) l_is_number c_is_number k_is_number, b_is_number := (fun_mk (st := s_is_number) l_is_number c_is_number k_is_number).binds (ps := ["thing", "least", "most"]) (fun _ _ _ _ _ _ us hl => match us, hl with | [_, _, _], _ => rfl), g_is_number := PySem.W.mg_of X G a_is_number,
     a_are_numbers := f_are_numbers, d_are_numbers := _, F_are_numbers := fun_mk (st := s_are_numbers) l_are_numbers c_are_numbers k_are_numbers, b_are_numbers := (fun_mk (st := s_are_numbers) l_are_numbers c_are_numbers k_are_numbers).binds (ps := ["things", "least", "most"]) (fun _ _ _ _ _ _ us hl => match us, hl with | [_, _, _], _ => rfl), g_are_numbers := PySem.W.mg_of X G a_are_numbers,
     a_are_integers := f_are_integers, d_are_integers := _, F_are_integers := fun_mk (st := s_are_integers) l_are_integers c_are_integers k_are_integers, b_are_integers := (fun_mk (st := s_are_integers) l_are_integers c_are_integers k_are_integers).binds (ps := ["thing", "many"]) (fun _ _ _ _ _ _ us hl => match us, hl with | [_, _], _ => rfl), g_are_integers := PySem.W.mg_of X G a_are_integers,
     a_is_comings := f_is_comings, d_is_comings := _, F_is_comings := fun_mk (st := s_is_comings) l_is_comings c_is_comings k_is_comings, b_is_comings := (fun_mk (st := s_is_comings) l_is_comings c_is_comings k_is_comings).binds (ps := ["comers", "thing"]) (fun _ _ _ _ _ _ us hl => match us, hl with | [_, _], _ => rfl), g_is_comings := PySem.W.mg_of X G a_is_comings,
     a_is_loops := f_is_loops, d_is_loops := _, F_is_loops := fun_mk (st := s_is_loops) l_is_loops c_is_loops k_is_loops, b_is_loops := (fun_mk (st := s_is_loops) l_is_loops c_is_loops k_is_loops).binds (ps := ["thing"]) (fun _ _ _ _ _ _ us hl => match us, hl with | [_], _ => rfl), g_is_loops := PySem.W.mg_of X G a_is_loops,
     a_is_row := f_is_row, d_is_row := _, F_is_row := fun_mk (st := s_is_row) l_is_row c_is_row k_is_row, b_is_row := (fun_mk (st := s_is_row) l_is_row c_is_row k_is_row).binds (ps := ["loops", "thing"]) (fun _ _ _ _ _ _ us hl => match us, hl with | [_, _], _ => rfl), g_is_row := PySem.W.mg_of X G a_is_row,
     a_check_comers := f_check_comers, d_check_comers := _, F_check_comers := fun_mk (st := s_check_comers) l_check_comers c_check_comers k_check_comers, b_check_comers := (fun_mk (st := s_check_comers) l_check_comers c_check_comers k_check_comers).binds (ps := ["thing"]) (fun _ _ _ _ _ _ us hl => match us, hl with | [_], _ => rfl), g_check_comers := PySem.W.mg_of X G a_check_comers,
     a_check_bound := f_check_bound, d_check_bound := _, F_check_bound := fun_mk (st := s_check_bound) l_check_bound c_check_bound k_check_bound, b_check_bound := (fun_mk (st := s_check_bound) l_check_bound c_check_bound k_check_bound).binds (ps := ["thing"]) (fun _ _ _ _ _ _ us hl => match us, hl with | [_], _ => rfl), g_check_bound := PySem.W.mg_of X G a_check_bound,
     a_check_comings := f_check_comings, d_check_comings := _, F_check_comings := fun_mk (st := s_check_comings) l_check_comings c_check_comings k_check_comings, b_check_comings := (fun_mk (st := s_check_comings) l_check_comings c_check_comings k_check_comings).binds (ps := ["comers", "thing"]) (fun _ _ _ _ _ _ us hl => match us, hl with | [_, _], _ => rfl), g_check_comings := PySem.W.mg_of X G a_check_comings,
     a_row_sum := f_row_sum, d_row_sum := _, F_row_sum := fun_mk (st := s_row_sum) l_row_sum c_row_sum k_row_sum, b_row_sum := (fun_mk (st := s_row_sum) l_row_sum c_row_sum k_row_sum).binds (ps := ["loops", "row"]) (fun _ _ _ _ _ _ us hl => match us, hl with | [_, _], _ => rfl), g_row_sum := PySem.W.mg_of X G a_row_sum,
     a_row_entries := f_row_entries, d_row_entries := _, F_row_entries := fun_mk (st := s_row_entries) l_row_entries c_row_entries k_row_entries, b_row_entries := (fun_mk (st := s_row_entries) l_row_entries c_row_entries k_row_entries).binds (ps := ["loops", "row"]) (fun _ _ _ _ _ _ us hl => match us, hl with | [_, _], _ => rfl), g_row_entries := PySem.W.mg_of X G a_row_entries,
     a_wait_row := f_wait_row, d_wait_row := _, F_wait_row := fun_mk (st := s_wait_row) l_wait_row c_wait_row k_wait_row, b_wait_row := (fun_mk (st := s_wait_row) l_wait_row c_wait_row k_wait_row).binds (ps := ["table", "wait"]) (fun _ _ _ _ _ _ us hl => match us, hl with | [_, _], _ => rfl), g_wait_row := PySem.W.mg_of X G a_wait_row,
     a_wait_entries := f_wait_entries, d_wait_entries := _, F_wait_entries := fun_mk (st := s_wait_entries) l_wait_entries c_wait_entries k_wait_entries, b_wait_entries := (fun_mk (st := s_wait_entries) l_wait_entries c_wait_entries k_wait_entries).binds (ps := ["table", "wait"]) (fun _ _ _ _ _ _ us hl => match us, hl with | [_, _], _ => rfl), g_wait_entries := PySem.W.mg_of X G a_wait_entries,
     a_follow_line := f_follow_line, d_follow_line := _, F_follow_line := fun_mk (st := s_follow_line) l_follow_line c_follow_line k_follow_line, b_follow_line := (fun_mk (st := s_follow_line) l_follow_line c_follow_line k_follow_line).binds (ps := ["bound", "line", "comings"]) (fun _ _ _ _ _ _ us hl => match us, hl with | [_, _, _], _ => rfl), g_follow_line := PySem.W.mg_of X G a_follow_line,
     a_letters_of := f_letters_of, d_letters_of := _, F_letters_of := fun_mk (st := s_letters_of) l_letters_of c_letters_of k_letters_of, b_letters_of := (fun_mk (st := s_letters_of) l_letters_of c_letters_of k_letters_of).binds (ps := ["bound", "comings"]) (fun _ _ _ _ _ _ us hl => match us, hl with | [_, _], _ => rfl), g_letters_of := PySem.W.mg_of X G a_letters_of,
     a_waits := f_waits, d_waits := _, F_waits := fun_mk (st := s_waits) l_waits c_waits k_waits, b_waits := (fun_mk (st := s_waits) l_waits c_waits k_waits).binds (ps := ["comers", "bound", "comings"]) (fun _ _ _ _ _ _ us hl => match us, hl with | [_, _, _], _ => rfl), g_waits := PySem.W.mg_of X G a_waits,
     a_is_spot := f_is_spot, d_is_spot := _, F_is_spot := fun_mk (st := s_is_spot) l_is_spot c_is_spot k_is_spot, b_is_spot := (fun_mk (st := s_is_spot) l_is_spot c_is_spot k_is_spot).binds (ps := ["comers", "bound", "thing"]) (fun _ _ _ _ _ _ us hl => match us, hl with | [_, _, _], _ => rfl), g_is_spot := PySem.W.mg_of X G a_is_spot,
     a_is_next := f_is_next, d_is_next := _, F_is_next := fun_mk (st := s_is_next) l_is_next c_is_next k_is_next, b_is_next := (fun_mk (st := s_is_next) l_is_next c_is_next k_is_next).binds (ps := ["comers", "bound", "spot", "other"]) (fun _ _ _ _ _ _ us hl => match us, hl with | [_, _, _, _], _ => rfl), g_is_next := PySem.W.mg_of X G a_is_next,
     a_is_walk := f_is_walk, d_is_walk := _, F_is_walk := fun_mk (st := s_is_walk) l_is_walk c_is_walk k_is_walk, b_is_walk := (fun_mk (st := s_is_walk) l_is_walk c_is_walk k_is_walk).binds (ps := ["comers", "bound", "thing"]) (fun _ _ _ _ _ _ us hl => match us, hl with | [_, _, _], _ => rfl), g_is_walk := PySem.W.mg_of X G a_is_walk,
     a_comings_for := f_comings_for, d_comings_for := _, F_comings_for := fun_mk (st := s_comings_for) l_comings_for c_comings_for k_comings_for, b_comings_for := (fun_mk (st := s_comings_for) l_comings_for c_comings_for k_comings_for).binds (ps := ["comers", "bound", "row"]) (fun _ _ _ _ _ _ us hl => match us, hl with | [_, _, _], _ => rfl), g_comings_for := PySem.W.mg_of X G a_comings_for,
     a_layings_of := f_layings_of, d_layings_of := _, F_layings_of := fun_mk (st := s_layings_of) l_layings_of c_layings_of k_layings_of, b_layings_of := (fun_mk (st := s_layings_of) l_layings_of c_layings_of k_layings_of).binds (ps := ["table", "tick", "letter", "wait"]) (fun _ _ _ _ _ _ us hl => match us, hl with | [_, _, _, _], _ => rfl), g_layings_of := PySem.W.mg_of X G a_layings_of,
     a_places_of := f_places_of, d_places_of := _, F_places_of := fun_mk (st := s_places_of) l_places_of c_places_of k_places_of, b_places_of := (fun_mk (st := s_places_of) l_places_of c_places_of k_places_of).binds (ps := ["table", "letters", "letter"]) (fun _ _ _ _ _ _ us hl => match us, hl with | [_, _, _], _ => rfl), g_places_of := PySem.W.mg_of X G a_places_of,
     a_is_meeting := f_is_meeting, d_is_meeting := _, F_is_meeting := fun_mk (st := s_is_meeting) l_is_meeting c_is_meeting k_is_meeting, b_is_meeting := (fun_mk (st := s_is_meeting) l_is_meeting c_is_meeting k_is_meeting).binds (ps := ["table", "comers", "thing"]) (fun _ _ _ _ _ _ us hl => match us, hl with | [_, _, _], _ => rfl), g_is_meeting := PySem.W.mg_of X G a_is_meeting,
     a__law_tape := f__law_tape, d__law_tape := _, F__law_tape := fun_mk (st := s__law_tape) l__law_tape c__law_tape k__law_tape, b__law_tape := (fun_mk (st := s__law_tape) l__law_tape c__law_tape k__law_tape).binds (ps := ["script"]) (fun _ _ _ _ _ _ us hl => match us, hl with | [_], _ => rfl), g__law_tape := PySem.W.mg_of X G a__law_tape,
     a__law_pick := f__law_pick, d__law_pick := _, F__law_pick := fun_mk (st := s__law_pick) l__law_pick c__law_pick k__law_pick, b__law_pick := (fun_mk (st := s__law_pick) l__law_pick c__law_pick k__law_pick).binds (ps := ["tape", "size"]) (fun _ _ _ _ _ _ us hl => match us, hl with | [_, _], _ => rfl), g__law_pick := PySem.W.mg_of X G a__law_pick,
     a__law_loops := f__law_loops, d__law_loops := _, F__law_loops := fun_mk (st := s__law_loops) l__law_loops c__law_loops k__law_loops, b__law_loops := (fun_mk (st := s__law_loops) l__law_loops c__law_loops k__law_loops).binds (ps := ["tape", "most", "longest"]) (fun _ _ _ _ _ _ us hl => match us, hl with | [_, _, _], _ => rfl), g__law_loops := PySem.W.mg_of X G a__law_loops,
     a__law_row := f__law_row, d__law_row := _, F__law_row := fun_mk (st := s__law_row) l__law_row c__law_row k__law_row, b__law_row := (fun_mk (st := s__law_row) l__law_row c__law_row k__law_row).binds (ps := ["tape", "loops", "wait"]) (fun _ _ _ _ _ _ us hl => match us, hl with | [_, _, _], _ => rfl), g__law_row := PySem.W.mg_of X G a__law_row,
     a__law_rows := f__law_rows, d__law_rows := _, F__law_rows := fun_mk (st := s__law_rows) l__law_rows c__law_rows k__law_rows, b__law_rows := (fun_mk (st := s__law_rows) l__law_rows c__law_rows k__law_rows).binds (ps := ["tape", "loops", "bound"]) (fun _ _ _ _ _ _ us hl => match us, hl with | [_, _, _], _ => rfl), g__law_rows := PySem.W.mg_of X G a__law_rows,
     a__law_line := f__law_line, d__law_line := _, F__law_line := fun_mk (st := s__law_line) l__law_line c__law_line k__law_line, b__law_line := (fun_mk (st := s__law_line) l__law_line c__law_line k__law_line).binds (ps := ["bound", "comings"]) (fun _ _ _ _ _ _ us hl => match us, hl with | [_, _], _ => rfl), g__law_line := PySem.W.mg_of X G a__law_line,
     a__law_entries := f__law_entries, d__law_entries := _, F__law_entries := fun_mk (st := s__law_entries) l__law_entries c__law_entries k__law_entries, b__law_entries := (fun_mk (st := s__law_entries) l__law_entries c__law_entries k__law_entries).binds (ps := ["loops", "row"]) (fun _ _ _ _ _ _ us hl => match us, hl with | [_, _], _ => rfl), g__law_entries := PySem.W.mg_of X G a__law_entries,
     a__law_clash := f__law_clash, d__law_clash := _, F__law_clash := fun_mk (st := s__law_clash) l__law_clash c__law_clash k__law_clash, b__law_clash := (fun_mk (st := s__law_clash) l__law_clash c__law_clash k__law_clash).binds (ps := ["comers", "one", "other"]) (fun _ _ _ _ _ _ us hl => match us, hl with | [_, _, _], _ => rfl), g__law_clash := PySem.W.mg_of X G a__law_clash,
     a__law_table_clashes := f__law_table_clashes, d__law_table_clashes := _, F__law_table_clashes := fun_mk (st := s__law_table_clashes) l__law_table_clashes c__law_table_clashes k__law_table_clashes, b__law_table_clashes := (fun_mk (st := s__law_table_clashes) l__law_table_clashes c__law_table_clashes k__law_table_clashes).binds (ps := ["loops", "rows", "comers"]) (fun _ _ _ _ _ _ us hl => match us, hl with | [_, _, _], _ => rfl), g__law_table_clashes := PySem.W.mg_of X G a__law_table_clashes,
     a__law_spread := f__law_spread, d__law_spread := _, F__law_spread := fun_mk (st := s__law_spread) l__law_spread c__law_spread k__law_spread, b__law_spread := (fun_mk (st := s__law_spread) l__law_spread c__law_spread k__law_spread).binds (ps := ["tape", "comers", "ticks", "number"]) (fun _ _ _ _ _ _ us hl => match us, hl with | [_, _, _, _], _ => rfl), g__law_spread := PySem.W.mg_of X G a__law_spread,
     a__law_walk := f__law_walk, d__law_walk := _, F__law_walk := fun_mk (st := s__law_walk) l__law_walk c__law_walk k__law_walk, b__law_walk := (fun_mk (st := s__law_walk) l__law_walk c__law_walk k__law_walk).binds (ps := ["wait", "rows"]) (fun _ _ _ _ _ _ us hl => match us, hl with | [_, _], _ => rfl), g__law_walk := PySem.W.mg_of X G a__law_walk,
     a_law := f_law, d_law := _, F_law := fun_mk (st := s_law) l_law c_law k_law, b_law := (fun_mk (st := s_law) l_law c_law k_law).binds (ps := ["script"]) (fun _ _ _ _ _ _ us hl => match us, hl with | [_], _ => rfl), g_law := PySem.W.mg_of X G a_law,
     m_all := PySem.W.mg_none_of X G z_all,
     m_any := PySem.W.mg_none_of X G z_any,
     m_bool := PySem.W.mg_none_of X G z_bool,
     m_enumerate := PySem.W.mg_none_of X G z_enumerate,
     m_int := PySem.W.mg_none_of X G z_int,
     m_isinstance := PySem.W.mg_none_of X G z_isinstance,
     m_len := PySem.W.mg_none_of X G z_len,
     m_list := PySem.W.mg_none_of X G z_list,
     m_max := PySem.W.mg_none_of X G z_max,
     m_min := PySem.W.mg_none_of X G z_min,
     m_range := PySem.W.mg_none_of X G z_range,
     m_sorted := PySem.W.mg_none_of X G z_sorted,
     m_sum := PySem.W.mg_none_of X G z_sum,
     m_tuple := PySem.W.mg_none_of X G z_tuple,
     m_zip := PySem.W.mg_none_of X G z_zip,
     t_MOST_BOUND := t_MOST_BOUND, g_MOST_BOUND := PySem.W.mg_of X G y_MOST_BOUND,
     t_MOST_COMERS := t_MOST_COMERS, g_MOST_COMERS := PySem.W.mg_of X G y_MOST_COMERS,
     t_MOST_ITEMS := t_MOST_ITEMS, g_MOST_ITEMS := PySem.W.mg_of X G y_MOST_ITEMS,
     t_MOST_LENGTH := t_MOST_LENGTH, g_MOST_LENGTH := PySem.W.mg_of X G y_MOST_LENGTH,
     t_MOST_LOOPS := t_MOST_LOOPS, g_MOST_LOOPS := PySem.W.mg_of X G y_MOST_LOOPS,
     t_MOST_SPOTS := t_MOST_SPOTS, g_MOST_SPOTS := PySem.W.mg_of X G y_MOST_SPOTS,
     t_MOST_TICKS := t_MOST_TICKS, g_MOST_TICKS := PySem.W.mg_of X G y_MOST_TICKS,
     c_Table := c_Table, g_Table := PySem.W.mg_of X G y_Table,
     a_Table___init__ := f_Table___init__, d_Table___init__ := _, F_Table___init__ := fun_mk (st := s_Table___init__) l_Table___init__ c_Table___init__ k_Table___init__, b_Table___init__ := (fun_mk (st := s_Table___init__) l_Table___init__ c_Table___init__ k_Table___init__).binds (ps := ["self", "loops", "rows"]) (fun _ _ _ _ _ _ us hl => match us, hl with | [_, _, _], _ => rfl),
     mk_Table := ⟨mk_Table, a_Table___init__, i_Table___init__, kc_Table⟩,
     cl_Table := ⟨pg_Table, hd_Table, po_Table, sa_Table⟩,
     n_Table_loops := n_Table_loops,
     n_Table_rows := n_Table_rows,
     n_Table_bound := n_Table_bound }, rfl, rfl⟩
end My
open PySem PySem.W PyProof.Rows
set_option maxHeartbeats 0 in
theorem PySem.Challenge.cw_loopstore_k15_whole_walks_that_meet_holds : PySem.Challenge.rw_loopstore_k15_whole_walks_that_meet.Holds := by
  w_on; o_law; k_head; (case hw => w_witness2)
  k_fill
  refine L2.walk_of (l := PySem.Challenge.rw_loopstore_k15_whole_walks_that_meet) (n := 63) (k := My.lawLevel) (x := "script") (CX := fun _ => L2.CX0) (sp := fun w => My.spLaw _) rfl (by decide) rfl ⟨rfl, by decide, by decide⟩ (fun w h Y => PySem.W.kIn_of Y) ?F (fun _ _ a ns hl _ hS => ⟨a, ns, rfl, hS, hl, fun _ => rfl⟩) (fun _ _ _ _ _ h => h)
  case F =>
    intro w mg fa h KX G hmg
    refine' My.fin_mk KX G hmg (My.all_mk (w := w) KX G ?a_is_integer ?l_is_integer ?c_is_integer ?k_is_integer ?a_is_number ?l_is_number ?c_is_number ?k_is_number ?a_are_numbers ?l_are_numbers ?c_are_numbers ?k_are_numbers ?a_are_integers ?l_are_integers ?c_are_integers ?k_are_integers ?a_is_comings ?l_is_comings ?c_is_comings ?k_is_comings ?a_is_loops ?l_is_loops ?c_is_loops ?k_is_loops ?a_is_row ?l_is_row ?c_is_row ?k_is_row ?a_check_comers ?l_check_comers ?c_check_comers ?k_check_comers ?a_check_bound ?l_check_bound ?c_check_bound ?k_check_bound ?a_check_comings ?l_check_comings ?c_check_comings ?k_check_comings ?a_row_sum ?l_row_sum ?c_row_sum ?k_row_sum ?a_row_entries ?l_row_entries ?c_row_entries ?k_row_entries ?a_wait_row ?l_wait_row ?c_wait_row ?k_wait_row ?a_wait_entries ?l_wait_entries ?c_wait_entries ?k_wait_entries ?a_follow_line ?l_follow_line ?c_follow_line ?k_follow_line ?a_letters_of ?l_letters_of ?c_letters_of ?k_letters_of ?a_waits ?l_waits ?c_waits ?k_waits ?a_is_spot ?l_is_spot ?c_is_spot ?k_is_spot ?a_is_next ?l_is_next ?c_is_next ?k_is_next ?a_is_walk ?l_is_walk ?c_is_walk ?k_is_walk ?a_comings_for ?l_comings_for ?c_comings_for ?k_comings_for ?a_layings_of ?l_layings_of ?c_layings_of ?k_layings_of ?a_places_of ?l_places_of ?c_places_of ?k_places_of ?a_is_meeting ?l_is_meeting ?c_is_meeting ?k_is_meeting ?a__law_tape ?l__law_tape ?c__law_tape ?k__law_tape ?a__law_pick ?l__law_pick ?c__law_pick ?k__law_pick ?a__law_loops ?l__law_loops ?c__law_loops ?k__law_loops ?a__law_row ?l__law_row ?c__law_row ?k__law_row ?a__law_rows ?l__law_rows ?c__law_rows ?k__law_rows ?a__law_line ?l__law_line ?c__law_line ?k__law_line ?a__law_entries ?l__law_entries ?c__law_entries ?k__law_entries ?a__law_clash ?l__law_clash ?c__law_clash ?k__law_clash ?a__law_table_clashes ?l__law_table_clashes ?c__law_table_clashes ?k__law_table_clashes ?a__law_spread ?l__law_spread ?c__law_spread ?k__law_spread ?a__law_walk ?l__law_walk ?c__law_walk ?k__law_walk ?a_law ?l_law ?c_law ?k_law ?a_Table___init__ ?i_Table___init__ ?l_Table___init__ ?c_Table___init__ ?k_Table___init__ ?z_all ?z_any ?z_bool ?z_enumerate ?z_int ?z_isinstance ?z_len ?z_list ?z_max ?z_min ?z_range ?z_sorted ?z_sum ?z_tuple ?z_zip ?y_MOST_BOUND ?y_MOST_COMERS ?y_MOST_ITEMS ?y_MOST_LENGTH ?y_MOST_LOOPS ?y_MOST_SPOTS ?y_MOST_TICKS ?y_Table ?pg_Table ?hd_Table ?po_Table ?sa_Table ?mk_Table ?kc_Table ?n_Table_loops ?n_Table_rows ?n_Table_bound)
    (case y_Table => k_is); (case a_is_integer => k_is); (case l_is_integer => k_is); (case c_is_integer => k_is); (case k_is_integer => k_is); (case a_is_number => k_is); (case l_is_number => k_is); (case c_is_number => k_is); (case k_is_number => k_is); (case a_are_numbers => k_is); (case l_are_numbers => k_is); (case c_are_numbers => k_is); (case k_are_numbers => k_is); (case a_are_integers => k_is); (case l_are_integers => k_is); (case c_are_integers => k_is); (case k_are_integers => k_is); (case a_is_comings => k_is); (case l_is_comings => k_is); (case c_is_comings => k_is); (case k_is_comings => k_is); (case a_is_loops => k_is); (case l_is_loops => k_is); (case c_is_loops => k_is); (case k_is_loops => k_is); (case a_is_row => k_is); (case l_is_row => k_is); (case c_is_row => k_is); (case k_is_row => k_is); (case a_check_comers => k_is); (case l_check_comers => k_is); (case c_check_comers => k_is); (case k_check_comers => k_is); (case a_check_bound => k_is); (case l_check_bound => k_is); (case c_check_bound => k_is); (case k_check_bound => k_is); (case a_check_comings => k_is); (case l_check_comings => k_is); (case c_check_comings => k_is); (case k_check_comings => k_is); (case a_row_sum => k_is); (case l_row_sum => k_is); (case c_row_sum => k_is); (case k_row_sum => k_is); (case a_row_entries => k_is); (case l_row_entries => k_is); (case c_row_entries => k_is); (case k_row_entries => k_is); (case a_wait_row => k_is); (case l_wait_row => k_is); (case c_wait_row => k_is); (case k_wait_row => k_is); (case a_wait_entries => k_is); (case l_wait_entries => k_is); (case c_wait_entries => k_is); (case k_wait_entries => k_is); (case a_follow_line => k_is); (case l_follow_line => k_is); (case c_follow_line => k_is); (case k_follow_line => k_is); (case a_letters_of => k_is); (case l_letters_of => k_is); (case c_letters_of => k_is); (case k_letters_of => k_is); (case a_waits => k_is); (case l_waits => k_is); (case c_waits => k_is); (case k_waits => k_is); (case a_is_spot => k_is); (case l_is_spot => k_is); (case c_is_spot => k_is); (case k_is_spot => k_is); (case a_is_next => k_is); (case l_is_next => k_is); (case c_is_next => k_is); (case k_is_next => k_is); (case a_is_walk => k_is); (case l_is_walk => k_is); (case c_is_walk => k_is); (case k_is_walk => k_is); (case a_comings_for => k_is); (case l_comings_for => k_is); (case c_comings_for => k_is); (case k_comings_for => k_is); (case a_layings_of => k_is); (case l_layings_of => k_is); (case c_layings_of => k_is); (case k_layings_of => k_is); (case a_places_of => k_is); (case l_places_of => k_is); (case c_places_of => k_is); (case k_places_of => k_is); (case a_is_meeting => k_is); (case l_is_meeting => k_is); (case c_is_meeting => k_is); (case k_is_meeting => k_is); (case a__law_tape => k_is); (case l__law_tape => k_is); (case c__law_tape => k_is); (case k__law_tape => k_is); (case a__law_pick => k_is); (case l__law_pick => k_is); (case c__law_pick => k_is); (case k__law_pick => k_is); (case a__law_loops => k_is); (case l__law_loops => k_is); (case c__law_loops => k_is); (case k__law_loops => k_is); (case a__law_row => k_is); (case l__law_row => k_is); (case c__law_row => k_is); (case k__law_row => k_is); (case a__law_rows => k_is); (case l__law_rows => k_is); (case c__law_rows => k_is); (case k__law_rows => k_is); (case a__law_line => k_is); (case l__law_line => k_is); (case c__law_line => k_is); (case k__law_line => k_is); (case a__law_entries => k_is); (case l__law_entries => k_is); (case c__law_entries => k_is); (case k__law_entries => k_is); (case a__law_clash => k_is); (case l__law_clash => k_is); (case c__law_clash => k_is); (case k__law_clash => k_is); (case a__law_table_clashes => k_is); (case l__law_table_clashes => k_is); (case c__law_table_clashes => k_is); (case k__law_table_clashes => k_is); (case a__law_spread => k_is); (case l__law_spread => k_is); (case c__law_spread => k_is); (case k__law_spread => k_is); (case a__law_walk => k_is); (case l__law_walk => k_is); (case c__law_walk => k_is); (case k__law_walk => k_is); (case a_law => k_is); (case l_law => k_is); (case c_law => k_is); (case k_law => k_is); (case a_Table___init__ => k_is); (case i_Table___init__ => k_is); (case l_Table___init__ => k_is); (case c_Table___init__ => k_is); (case k_Table___init__ => k_is); (case z_all => k_is); (case z_any => k_is); (case z_bool => k_is); (case z_enumerate => k_is); (case z_int => k_is); (case z_isinstance => k_is); (case z_len => k_is); (case z_list => k_is); (case z_max => k_is); (case z_min => k_is); (case z_range => k_is); (case z_sorted => k_is); (case z_sum => k_is); (case z_tuple => k_is); (case z_zip => k_is); (case y_MOST_BOUND => k_is); (case y_MOST_COMERS => k_is); (case y_MOST_ITEMS => k_is); (case y_MOST_LENGTH => k_is); (case y_MOST_LOOPS => k_is); (case y_MOST_SPOTS => k_is); (case y_MOST_TICKS => k_is); (case pg_Table => k_is); (case hd_Table => k_is); (case po_Table => k_is); (case sa_Table => k_is); (case mk_Table => k_is); (case kc_Table => k_is); (case n_Table_loops => k_is); (case n_Table_rows => k_is); (case n_Table_bound => k_is)

