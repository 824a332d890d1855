import PyProof.Rows.All
import Wide.All
import OpenK.AllK
import Wide.FinOn
import HandS.ForMost
import HandS.Wide
import HandS.IsInst
import HandS.TupMul
import HandS.TupAny
import HandS.SortInts
import HandS.SortRule
import HandS.Strs
import HandS.Deep
import HandS.Style
import HandS.Evl
import HandS.Zip
import HandS.Dict
import PySem.Challenge.RW_loopstore_k05_whole_comings_of_walks
set_option Elab.async false
set_option linter.all false
set_option maxRecDepth 100000
set_option maxHeartbeats 4000000
/-! ## rules that the layer lacks -/
namespace RR
open PySem PySem.Spec PyProof.Rows L2 HT
section
variable {prog : Program} {w : World} {A : Around} {E : Value → Shared → Prop} {s : Shared}
/-- a tuple's items gathered -/
theorem collect_tuple {l : Addr} {vs : List Value} {Q : List Value → Shared → Prop} (hl : IsTup s.heap l vs.toArray)
    (h : Q vs { s with heap := (s.heap.push (seqObj "list" #[] 0)).update s.heap.objs.size (Obj.mapSeq (· ++ vs.toArray)) }) (hsz : vs.length ≤ sizeLine) :
    wpAny (model prog w) A (collect (.ref l)) Q E s := by
  obtain ⟨o, ho, hc, n, hd⟩ := id hl
  unfold collect
  refine wpAny_bind (wpAny_runValue (codeAny_builtin entry_proto_collect' ?_))
  show wpAny _ _ (do again (.builtin "list.__iadd__" ⟨[← newList [], .ref l], []⟩)) _ _ s
  refine wpAny_bind (wpAny_newList (wpAny_pure ⟨Code.quiet_builtin _ (by decide +kernel), codeAny_builtin entry_list_iadd' ?_⟩))
  show wpAny _ _ (Builtin.List.listExtendWith (.ref s.heap.objs.size) (.ref l) (.ref s.heap.objs.size)) _ _ { s with heap := s.heap.push (seqObj "list" #[] 0) }
  unfold Builtin.List.listExtendWith
  have ho' : (s.heap.push (seqObj "list" #[] 0)).get? l = some o := Heap.get?_push_of_some _ ho
  refine wpAny_bind (wpAny_typeOf (T := "tuple") ⟨o, ho', hc⟩ ?_)
  have ht : (Value.type "tuple" == Value.type "tuple") = true := by rfl
  rw [if_pos (by rw [ht]; simp)]
  refine wpAny_bind (listItems_at ho' hd ?_)
  refine wpAny_bind (listItems_at (xs := #[]) (n := 0) (Heap.get?_push_size _ rfl) rfl ?_)
  rw [if_neg (by simp)]
  refine wpAny_bind (listUpdate_at (xs := #[]) (n := 0) (Heap.get?_push_size _ rfl) rfl ?_ (Nat.zero_le _) (by show (#[] ++ vs.toArray).size ≤ sizeLine + 1; simp only [Array.size_append, List.size_toArray, List.length_nil]; omega))
  refine wpAny_pure ?_
  show wpAny (model prog w) A (do
      let o ← load s.heap.objs.size
      match o.data with
      | .seq xs _ => pure xs.toList
      | _ => unsupported "internal:collect") Q E { s with heap := (s.heap.push (seqObj "list" #[] 0)).update s.heap.objs.size (Obj.mapSeq (· ++ vs.toArray)) }
  refine wpAny_bind (wpAny_load (get?_update_seq (Heap.get?_push_size _ rfl) _) ?_)
  show wpAny _ _ (pure ((#[] : Array Value) ++ vs.toArray).toList) Q E _
  rw [show ((#[] : Array Value) ++ vs.toArray).toList = vs by simp]
  exact wpAny_pure h
theorem sorted_ordT {l : Addr} {vs : List Value} {ltv : Value → Value → Bool} {Q : Value → Shared → Prop} (O : SrtO.Swo ltv) (hl : IsTup s.heap l vs.toArray) (hz : vs.length ≤ sizeLine)
    (hS : 2 ≤ vs.length → ∀ (h₁ : Heap) (a : Addr), h₁.get? a = some (seqObj "list" vs.toArray 0) → (∀ b o, s.heap.get? b = some o → b ≠ a ∧ h₁.get? b = some o) → SrtO.SortableO prog w A.in1.in1 { s with heap := h₁ } a vs ltv)
    (h : ∀ out : List Value, SrtO.Srtd ltv out → SrtO.Stb ltv out vs → Q (.ref (s.heap.objs.size + 1)) { s with heap := sortedAll s.heap vs out.toArray }) :
    wpAny (model prog w) A (call (.builtin "sorted") [.ref l]) Q E s := by
  refine Calls.call_function_entry kind_sorted plain_sorted entry_sorted (args_sorted1 _) ?_
  unfold Builtin.«sorted»
  refine wpAny_bind (m := checkCount "sorted" 1 1 _) (wpAny_pure ?_)
  refine wpAny_bind (collect_tuple hl ?_ hz)
  refine wpAny_bind (wpAny_newList ?_ hz)
  have hsz : ((s.heap.push (seqObj "list" #[] 0)).update s.heap.objs.size (Obj.mapSeq (· ++ vs.toArray))).objs.size = s.heap.objs.size + 1 := by
    rw [Heap.size_update, size_push']
  have hoL : (((s.heap.push (seqObj "list" #[] 0)).update s.heap.objs.size (Obj.mapSeq (· ++ vs.toArray))).push (seqObj "list" vs.toArray 0)).get? (s.heap.objs.size + 1) = some (seqObj "list" vs.toArray 0) := by
    rw [← hsz]; exact Heap.get?_push_size _ rfl
  have keep : ∀ b o, s.heap.get? b = some o → b ≠ s.heap.objs.size + 1 ∧ (((s.heap.push (seqObj "list" #[] 0)).update s.heap.objs.size (Obj.mapSeq (· ++ vs.toArray))).push (seqObj "list" vs.toArray 0)).get? b = some o := fun b o q => by
    have hlt : b < s.heap.objs.size := Heap.lt_size q
    refine ⟨Nat.ne_of_lt (Nat.lt_succ_of_lt hlt), Heap.get?_push_of_some _ ?_⟩
    rw [Heap.get?_update_ne _ _ _ _ (Nat.ne_of_lt hlt)]
    exact Heap.get?_push_of_some _ q
  show wpAny _ _ _ _ _ { s with heap := ((s.heap.push (seqObj "list" #[] 0)).update s.heap.objs.size (Obj.mapSeq (· ++ vs.toArray))).push (seqObj "list" vs.toArray 0) }
  rw [hsz]
  refine wpAny_bind (wpAny_holding (wpAny_call_entry slot_list_sort ⟨_, hoL, rfl⟩ entry_list_sort (SrtO.list_sort_ord O hoL hz (fun h2 => hS h2 _ _ hoL keep) fun out hs hb => ⟨_, rfl, ?_⟩) (args_list_sort _)))
  exact wpAny_pure ⟨_, rfl, h out hs hb⟩
end
def rSortedU (K : PySem.W.Frag) : List V → Hp → VK → Prop := fun vs H Q => ∃ (a : Addr) (ns : List Int), vs = [V.ref a] ∧ SqT K H a (ns.map V.int) ∧
  ∀ (ns' : List Int) (p : Addr), ns'.Perm ns → ns'.Pairwise (· ≤ ·) → H p = none → Q (.ref p) (upd H p (.lst (ns'.map V.int)))
section
variable {X : Cx}
/-- sorted(t), t a tuple of ints -/
theorem cr_sortedU : CallR X (.builtin "sorted") (rSortedU X.K) := by
  intro pins s σ H vs us Q I r h
  obtain ⟨a, ns, rfl, hs, q⟩ := h
  obtain ⟨its, rv, hl, hz⟩ := I.tuple hs
  rw [Vals.ref1 r]
  have hi := rv.ints
  refine sorted_ordT SrtO.swo_int hl (by rw [← rv.length]; exact hz) (fun h2 h₁ a' _ _ => SrtO.ints_sortable hi h2) fun out h1 h2 => ?_
  obtain ⟨k1, k2, k3⟩ := SrtO.ints_out hi h1 h2
  obtain ⟨ep, he'⟩ := PyProof.Rows.sortedAll_at s.heap its out.toArray
  have hlen : ((out.map SrtO.iv).map V.int).length ≤ sizeLine := by
    rw [List.length_map, k2.length_eq]
    rw [List.length_map] at hz
    exact hz
  exact ⟨.ref _, upd H (s.heap.objs.size + 1) (.lst ((out.map SrtO.iv).map V.int)), I.laid (t' := s.toks) (fun _ _ => PyProof.Rows.sortedAll_old) (Nat.le_succ _) ⟨hlen, out, ep, vals_of_ints k1, he'⟩, rfl, q _ _ k2 k3 (I.hok.fresh (Nat.le_succ _))⟩
end
/-! ### t[::-1] -/
theorem adj_rev (n : Nat) : Builtin.Slice.sliceAdjust none none (-1) (n : Int) = ((n : Int) - 1, -1) := rfl
theorem pl_rev (n : Nat) : Builtin.Slice.slicePlaces ((n : Int) - 1) (-1) (-1) = n := by
  unfold Builtin.Slice.slicePlaces
  have h1 : ¬ ((-1 : Int) > 0) := by omega
  simp only [h1, if_false]
  split <;> simp <;> omega
theorem pick_rev (xs : List Value) : ((List.range xs.length).filterMap fun (m : Nat) => xs.toArray[(((xs.length : Int) - 1) + (m : Int) * (-1)).toNat]?) = xs.reverse := by
  have key : ∀ m, m ≤ xs.length → ((List.range m).filterMap fun (k : Nat) => xs.toArray[(((xs.length : Int) - 1) + (k : Int) * (-1)).toNat]?) = xs.reverse.take m := by
    intro m
    induction m with
    | zero => intro _; rfl
    | succ m ih =>
      intro hm
      rw [List.range_succ, List.filterMap_append, ih (by omega), List.take_add_one]
      have e : (((xs.length : Int) - 1) + (m : Int) * (-1)).toNat = xs.length - 1 - m := by omega
      have hl : m < xs.reverse.length := by rw [List.length_reverse]; omega
      have e2 : xs.toArray[xs.length - 1 - m]? = some (xs.reverse[m]) := by
        rw [List.getElem?_toArray, List.getElem_reverse, List.getElem?_eq_getElem]
      rw [List.getElem?_eq_getElem hl]
      simp only [List.filterMap_cons, List.filterMap_nil, e, e2, Option.toList_some]
  have := key xs.length (Nat.le_refl _)
  rw [this, List.take_of_length_le (by rw [List.length_reverse]; exact Nat.le_refl _)]
section
variable {prog : Program} {w : World} {A : Around} {E : Value → Shared → Prop} {s : Shared}
theorem sliceApplied_rev {sl : Addr} {vl vu vs : Value} {n : Nat} {Q : Int × Int × Nat → Shared → Prop} (hs : s.heap.IsSliceOf sl vl vu vs) (pl : IsPart vl none) (pu : IsPart vu none) (ps : IsPart vs (some (-1)))
    (h : Q ((n : Int) - 1, -1, n) s) : wpAny (model prog w) A (Builtin.Slice.sliceApplied (.ref sl) (pure (n : Int))) Q E s := by
  obtain ⟨os, hos, hcs, hds⟩ := id hs
  unfold Builtin.Slice.sliceApplied Builtin.Slice.sliceFields
  refine wpAny_bind (wpAny_bind (wpAny_field hos hds (x := vl) rfl (wpAny_bind (wpAny_field hos hds (x := vu) rfl (wpAny_bind (wpAny_field hos hds (x := vs) rfl (wpAny_pure ?_)))))))
  refine wpAny_bind (slicePart_ ps ?_)
  show wpAny _ _ (if ((-1 : Int) == 0) = true then _ else _) _ _ s
  rw [if_neg (by decide)]
  refine wpAny_bind (slicePart_ pl (wpAny_bind (slicePart_ pu (wpAny_bind (wpAny_pure ?_)))))
  show wpAny _ _ (match Builtin.Slice.sliceAdjust none none (-1) (n : Int) with | (lo, hi) => pure (lo, (-1 : Int), Builtin.Slice.slicePlaces lo hi (-1))) _ _ s
  rw [adj_rev n]
  show wpAny _ _ (pure ((n : Int) - 1, (-1 : Int), Builtin.Slice.slicePlaces ((n : Int) - 1) (-1) (-1))) _ _ s
  rw [pl_rev]
  exact wpAny_pure h
theorem getItem_tuple_rev {t sl : Addr} {items : List Value} {vl vu vs : Value} {Q : Value → Shared → Prop} (ht : IsTup s.heap t items.toArray) (hs : s.heap.IsSliceOf sl vl vu vs) (pl : IsPart vl none) (pu : IsPart vu none) (ps : IsPart vs (some (-1)))
    (h : Q (.ref s.heap.objs.size) { s with heap := s.heap.push { cls := .type "tuple", data := .seq items.reverse.toArray } })
    (hsz : items.length ≤ sizeLine) : wpAny (model prog w) A (getItem (.ref t) (.ref sl)) Q E s := by
  have htake : sizeOk (.seq items.reverse.toArray) := by
    show items.reverse.toArray.size ≤ sizeLine
    rw [List.size_toArray, List.length_reverse]
    omega
  obtain ⟨os, hos, hcs, hds⟩ := id hs
  have hTs : s.TypeIs (.ref sl) "slice" := ⟨os, hos, hcs⟩
  unfold getItem
  try with_reducible refine wpAny_holding ?_
  first | refine wpAny_bind (wpAny_pure ?_) | skip
  refine wpAny_bind (wpAny_sequenceKey ht.typeIs (by decide) ?_)
  refine wpAny_bind (wpAny_callSpecial?_slot (name := Str.ofString "__getitem__") ht.typeIs PyProof.Rows.slot_tuple_getitem
    (wpAny_call_entry PyProof.Rows.slot_tuple_getitem ht.typeIs entry_tuple_getitem ?_ (args_tuple_getitem _ _)))
  show wpAny _ _ (Builtin.Tuple.tupleItemsOf (.ref t) >>= _) _ _ s
  refine wpAny_bind (tupleItemsOf_ ht ?_)
  refine wpAny_bind (wpAny_typeOf hTs ?_)
  rw [if_pos (by decide)]
  rw [List.size_toArray]
  refine wpAny_bind (sliceApplied_rev hs pl pu ps ?_)
  have hno : ¬ ((((items.length : Int) - 1) == 0 && (-1 : Int) == 1 && items.length == items.length) = true) := by
    rw [show ((-1 : Int) == 1) = false from rfl, Bool.and_false, Bool.false_and]
    exact Bool.false_ne_true
  show wpAny _ _ (if (((items.length : Int) - 1) == 0 && (-1 : Int) == 1 && items.length == items.length) = true then _ else _) _ _ s
  rw [if_neg hno, pick_rev]
  first
    | exact wpAny_bind (m := Builtin.Tuple.tupleExact _) (wpAny_newObj_type (wpAny_pure ⟨_, rfl, wpAny_pure h⟩) htake)
    | exact wpAny_bind (m := Builtin.Tuple.tupleExact _) (wpAny_newObj_type (wpAny_bind (wpAny_pure (wpAny_pure ⟨_, rfl, wpAny_pure h⟩))) htake)
    | exact wpAny_bind (wpAny_bind (m := Builtin.Tuple.tupleExact _) (wpAny_newObj_type (wpAny_pure (wpAny_pure ⟨_, rfl, wpAny_pure h⟩)) htake))
    | exact wpAny_bind (wpAny_bind (m := Builtin.Tuple.tupleExact _) (wpAny_newObj_type (wpAny_pure ⟨_, rfl, wpAny_pure h⟩) htake))
end
def tRevT (K : PySem.W.Frag) (te : TE) : TE := fun σ H Q => te σ H fun x H1 => ∃ a xs, x = .ref a ∧ SqT K H1 a xs ∧ ∀ p, H1 p = none → Q (.ref p) (upd H1 p (.tup xs.reverse))
section
variable {X : Cx}
theorem pe_revT {e : Expr} {te : TE} {k : Nat} {p1 p2 p3 pos : Pos} (he : PE X e te) : PE X (.Subscript e (.Slice none none (some (.UnaryOp .USub (.Constant (.int 1) k p1) p2)) p3) pos) (tRevT X.K te) := by
  refine ⟨fun pins s σ H Q I h => ?_⟩
  refine Subscript_ (thn (he.run pins s σ H _ I h) fun v s1 ⟨x, H1, I1, r1, q1⟩ => ?_)
  obtain ⟨a, xs, ex, hx, q⟩ := q1
  subst ex
  cases r1
  have hst : PO X (some (.UnaryOp .USub (.Constant (.int 1) k p1) p2)) (tPart (tUn (rU fun i => .int (-i)) (tC (.int 1)))) := po_some (pe_un un_neg pe_int)
  refine wpAny_Slice (thn (po_none.run pins s1 σ H1 (fun o H2 => o = none ∧ H2 = H1) I1 ⟨rfl, rfl⟩) fun vl s2 ⟨l, H2, I2, pl, el, e2⟩ => ?_)
  subst el e2
  refine thn (po_none.run pins s2 σ H2 (fun o H3 => o = none ∧ H3 = H2) I2 ⟨rfl, rfl⟩) fun vu s3 ⟨u, H3, I3, pu, eu, e3⟩ => ?_
  subst eu e3
  refine thn (hst.run pins s3 σ H3 (fun o H4 => o = some (-1) ∧ H4 = H3) I3 ⟨1, rfl, -1, rfl, rfl, rfl⟩) fun vs s4 ⟨o, H4, I4, ps, eo, e4⟩ => ?_
  subst eo e4
  have I5 : Inv X pins σ H4 { s4 with heap := s4.heap.push { cls := .type "slice", data := .fields #[vl, vu, vs] } } := I4.kept (t' := s4.toks) fun b ob q => Heap.get?_push_of_some _ q
  obtain ⟨its, r, ht, hz⟩ := I5.tuple hx
  have hlen := r.length
  show wpAny (model X.prog X.w) X.A (subscriptTail e (.Slice none none (some (.UnaryOp .USub (.Constant (.int 1) k p1) p2)) p3) (.ref a) (.ref s4.heap.objs.size)) (EP X pins σ Q) X.xe { s4 with heap := s4.heap.push { cls := .type "slice", data := .fields #[vl, vu, vs] } }
  refine tail_any (ops := [.ref a, .ref s4.heap.objs.size]) ht.typeIs (PyProof.Rows.slot_tuple_getitem.lookup) ?_ (by with_unfolding_all rfl)
  refine getItem_tuple_rev ht (Heap.IsSliceOf.new _ vl vu vs) pl pu ps ?_ (by rw [← hlen]; exact hz)
  refine ⟨.ref _, _, I5.laid (t' := s4.toks) (o := .tup xs.reverse) (fun b ob q => Heap.get?_push_of_some _ q) (Nat.le_refl _) ?_, rfl, q _ (I5.hok.fresh (Nat.le_refl _))⟩
  exact ⟨by rw [List.length_reverse]; exact hz, _, r.reverse, IsTup.new _ _⟩
end
/-! ### t * k, k from 1 on -/
theorem tuple_mulW1 (l : Addr) (items : Array Value) (n : Nat) (dd : Option Addr) (sl : Array (Option Value)) (u : Tok) :
    Meets (Builtin.«tuple.__mul__» ⟨[.ref l, .int 1 u], []⟩) (fun _ R s => s.heap.get? l = some { cls := .type "tuple", dict := dd, data := .seq items n, slots := sl } ∧ R (.ok (.ret (Value.ref l))) s) :=
  .of_wp fun prog w A R s h => by
    obtain ⟨hp, g, d, tk, os⟩ := s
    obtain ⟨hl, h⟩ := h
    have f1 := AutoSeq1.idx_int
    have c0 : (decide ((1 : Int) < -(2 ^ 63)) || decide ((1 : Int) ≥ 2 ^ 63)) = false := by decide
    have c1 : (items.isEmpty || (1 : Int) == 1) = true := by rw [show ((1 : Int) == 1) = true from rfl, Bool.or_true]
    wp_walk using wpAny_loadPart' hl
    repeat (first
      | (refine wpAny_ite_false (decide_eq_false (by rw [c0]; exact Bool.false_ne_true)) ?_; wp_walk using wpAny_loadPart' hl)
      | (refine wpAny_ite_true (decide_eq_true c1) ?_; wp_walk using wpAny_loadPart' hl))
    exact ⟨_, rfl, h⟩
def rRepA (K : PySem.W.Frag) : R2 := fun x y H Q => ∃ l k xs, x = .ref l ∧ y = .int k ∧ SqT K H l xs ∧ xs ≠ [] ∧ 1 ≤ k ∧ k ≤ 1000 ∧ xs.length ≤ 1000 ∧ (k = 1 → Q (.ref l) H) ∧ (k ≠ 1 → ∀ p, H p = none → Q (.ref p) (upd H p (.tup (List.replicate k.toNat xs).flatten)))
section
variable {X : Cx}
theorem op_repA : OpR X (binaryOp .Mult) (rRepA X.K) := by
  intro pins s σ H x y v u Q I rx ry h
  obtain ⟨l, k, xs, rfl, rfl, hT, hne, h1, h2, hz, q1, q2⟩ := h
  by_cases hk : k = 1
  · subst hk
    cases rx
    obtain ⟨t, rfl⟩ := ry
    obtain ⟨its, r, ⟨⟨cls, dd, data, sl⟩, ho, hc, n, hd⟩, hs⟩ := I.tuple hT
    simp only at hc hd
    subst hc hd
    refine wpAny_binaryOp_repeat_ref (T := "tuple") (U := "int") (by decide) ⟨_, ho, rfl⟩ (fun s' => typeIs_int s' 1 t) noFill_tuple_mul F.fills_int_mul F.slot_int_rmul repeat_tuple F.slot_int_index.lookup
      (call_meets F.slot_int_rmul (typeIs_int s 1 t) F.entry_int_rmul (F.args_int_rmul_2 _ _) (int_rmul_tuple 1 t l its.toArray n dd sl)
        ⟨ho, rfl, ⟨_, ho, rfl⟩, call_meets F.slot_tuple_mul ⟨_, ho, rfl⟩ F.entry_tuple_mul (F.args_tuple_mul_2 _ _) (tuple_mulW1 l its.toArray n dd sl t) ⟨ho, ?_⟩⟩)
    exact ⟨.ref l, H, I, rfl, q1 rfl⟩
  · exact op_repT pins s σ H _ _ v u Q I rx ry ⟨l, k, xs, rfl, rfl, hT, hne, by omega, h2, hz, q2 hk⟩
end
end RR

/-! ## enumerate over a tuple; an empty tuple times k -/
namespace RR
open PySem PySem.Spec PyProof.Rows L2 HT
open Sem (wp)
open AutoSeq1 (wpAny_loadPart')
section
variable {prog : Program} {w : World} {A : Around} {E : Value → Shared → Prop} {s : Shared}
theorem next_tuple_item {it t : Addr} {i : Nat} {items} {x : Value} {Q : Value → Shared → Prop} (hit : s.heap.IsTupleIter it t i)
    (ht : s.heap.IsTuple t items) (hx : items[i]? = some x)
    (hQ : ∀ h', h'.IsTupleIter it t (i + 1) → Heap.SameBut it s.heap h' → Q x { s with heap := h' }) :
    wpAny (model prog w) A (Builtin.SmallTypes.nextOf (.ref it)) Q E s := by
  obtain ⟨o, ho, hc, hd⟩ := id hit
  obtain ⟨ol, hol, _, nl, hdl⟩ := ht
  unfold Builtin.SmallTypes.nextOf
  refine wpAny_bind (wpAny_callSpecial?_slot (name := Str.ofString "__next__") hit.typeIs F.slot_tuple_iterator_next
    (wpAny_call_entry F.slot_tuple_iterator_next hit.typeIs F.entry_tuple_iterator_next ?_ (F.args_tuple_iterator_next_1 _)))
  show wpAny _ _ (field (.ref it) 0 >>= _) _ _ s
  refine wpAny_bind (wpAny_field ho hd (x := .ref t) rfl ?_)
  show wpAny _ _ (if (Value.ref t == Value.none) = true then _ else _) _ _ s
  rw [if_neg (show ¬ ((Value.ref t == Value.none) = true) from Bool.false_ne_true)]
  show wpAny _ _ (field (.ref it) 1 >>= _) _ _ s
  refine wpAny_bind (wpAny_field ho hd (x := .int i 0) rfl ?_)
  show wpAny _ _ (seqItems? (.ref t) >>= _) _ _ s
  refine wpAny_bind (wpAny_seqItems hol hdl ?_)
  simp only [Int.toNat_natCast, hx]
  refine wpAny_bind (wpAny_setField ho hd (by simp) (wpAny_pure ⟨x, rfl, wpAny_pure (hQ _ ?_ (Heap.SameBut.update ..))⟩))
  exact ⟨_, Heap.get?_update_self _ ho (Obj.isFreed_of_fields (Obj.data_mapFields hd _)), (Obj.cls_mapFields ..).trans hc, by
    rw [Obj.data_mapFields hd]; simp [rawInt]⟩
theorem next_tuple_end {it t : Addr} {i : Nat} {items} {Q : Value → Shared → Prop} (hh : A.handled = none)
    (hit : s.heap.IsTupleIter it t i) (ht : s.heap.IsTuple t items) (hx : items[i]? = none)
    (hE : ∀ h' e, Heap.ExtBut it s.heap h' → (∃ o, h'.get? e = some o ∧ o.cls = .type "StopIteration") → E (.ref e) { s with heap := h' }) :
    wpAny (model prog w) A (Builtin.SmallTypes.nextOf (.ref it)) Q E s := by
  obtain ⟨o, ho, hc, hd⟩ := id hit
  obtain ⟨ol, hol, _, nl, hdl⟩ := ht
  unfold Builtin.SmallTypes.nextOf
  refine wpAny_bind (wpAny_callSpecial?_slot (name := Str.ofString "__next__") hit.typeIs F.slot_tuple_iterator_next
    (wpAny_call_entry F.slot_tuple_iterator_next hit.typeIs F.entry_tuple_iterator_next ?_ (F.args_tuple_iterator_next_1 _)))
  show wpAny _ _ (field (.ref it) 0 >>= _) _ _ s
  refine wpAny_bind (wpAny_field ho hd (x := .ref t) rfl ?_)
  show wpAny _ _ (if (Value.ref t == Value.none) = true then _ else _) _ _ s
  rw [if_neg (show ¬ ((Value.ref t == Value.none) = true) from Bool.false_ne_true)]
  show wpAny _ _ (field (.ref it) 1 >>= _) _ _ s
  refine wpAny_bind (wpAny_field ho hd (x := .int i 0) rfl ?_)
  show wpAny _ _ (seqItems? (.ref t) >>= _) _ _ s
  refine wpAny_bind (wpAny_seqItems hol hdl ?_)
  simp only [Int.toNat_natCast, hx]
  refine wpAny_bind (wpAny_rule (wpAny_bind (wpAny_setField ho hd (by simp) ?_)))
  show wpAny _ _ (newExc (.type "StopIteration") [] >>= _) _ _ _
  refine wpAny_bind ?_
  simp only [newExc, newTuple]
  refine wpAny_bind (wpAny_newObj_type ?_ (by size_fits))
  refine wpAny_bind (m := firstArgMember _ _) (wpAny_of_eq (a := Value.none) (by first | rfl | (simp only [firstArgMember]; rfl)) ?_)
  refine wpAny_newObj_type ?_ (by size_fits)
  simp only [raiseNew]
  refine wpAny_bind (wpAny_handled ?_)
  first | rw [show A.in1.handled = none from hh] | rw [hh]
  refine wpAny_bind (wpAny_pure (wpAny_throw ?_))
  exact hE _ _ (((Heap.SameBut.update ..).extBut.push _).push _) ⟨_, Heap.get?_push_size _ rfl, rfl⟩
end
theorem tup_at {h h' : Heap} {a : Addr} {items} (x : h.IsTuple a items) (e : ∀ o, h.get? a = some o → h'.get? a = some o) : h'.IsTuple a items := let ⟨o, ho, r⟩ := x; ⟨o, e _ ho, r⟩
theorem draws_tuple {prog : Program} {w : World} {A : Around} (hh : A.handled = none) (it l : Addr) (hne : l ≠ it) (items : Array Value) :
    Draws prog w A it [it, l] items.size (fun i v => items[i]? = some v) (fun i h => h.IsTupleIter it l i ∧ h.IsTuple l items) where
  live := fun _ _ st => let ⟨o, ho, _⟩ := st.1; ⟨o, ho⟩
  frame := fun _ _ _ st hk => ⟨st.1.at fun o e => hk it (by simp) o e, tup_at st.2 fun o e => hk l (by simp) o e⟩
  item := fun i s Q E hi st hQ => by
    refine next_tuple_item st.1 st.2 (x := items[i]) (by simp [hi]) fun h' hit' hs' => ?_
    exact hQ _ h' s.toks (by simp [hi]) ⟨hit', st.2.extBut hs'.extBut hne⟩ hs'
  done := fun s Q E st hE => next_tuple_end hh st.1 st.2 (by simp) hE
theorem enumerate_newT (l : Addr) (items : Array Value) (n : Nat) (dct : Option Addr) (sl : Array (Option Value)) :
    Meets (Builtin.«enumerate.__new__» ⟨[.type "enumerate", .ref l], []⟩) (fun _ R s => s.heap.get? l = some { cls := .type "tuple", dict := dct, data := .seq items n, slots := sl } ∧
      R (.ok (.ret (.ref (s.heap.push { cls := .type "tuple_iterator", data := .fields #[.ref l, .int 0 0] }).objs.size)))
        { s with heap := (s.heap.push { cls := .type "tuple_iterator", data := .fields #[.ref l, .int 0 0] }).push { cls := .type "enumerate", data := .fields #[.none, .bool false, .ref s.heap.objs.size, rawInt 0, .none, .none] } }) :=
  .of_wp fun prog w A R s h => by
    obtain ⟨hp, g, d, tk, os⟩ := s; obtain ⟨hl, h⟩ := h
    have hsub := sub_enumerate
    have hL : Heap.IsTuple (Shared.heap ⟨hp, g, d, tk, os⟩) l items := ⟨_, hl, rfl, n, rfl⟩
    wp_walk using wpAny_loadPart' hl
    refine wpAny_stack_any fun st => wpAny_pure ?_
    split
    · rename_i c _ _ _ _ _
      cases (c == Value.type "enumerate")
      · wp_walk using wpAny_loadPart' hl, wpAny_pyIter_tuple hL
        exact ⟨_, rfl, h⟩
      · wp_walk using wpAny_loadPart' hl, wpAny_pyIter_tuple hL
        exact ⟨_, rfl, h⟩
    · wp_walk using wpAny_loadPart' hl, wpAny_pyIter_tuple hL
      exact ⟨_, rfl, h⟩
section
variable {prog : Program} {w : World} {A : Around} {E : Value → Shared → Prop} {s : Shared}
theorem call_enumerate_tuple {l : Addr} {items : Array Value} {Q : Value → Shared → Prop} (hL : s.heap.IsTuple l items)
    (h : ∀ h', IsEnum h' (s.heap.objs.size + 1) s.heap.objs.size 0 .none → h'.IsTupleIter s.heap.objs.size l 0 → h'.objs.size = s.heap.objs.size + 2 →
      (∀ b o, s.heap.get? b = some o → h'.get? b = some o) → Q (.ref (s.heap.objs.size + 1)) { s with heap := h' }) :
    wpAny (model prog w) A (call (.type "enumerate") [.ref l]) Q E s := by
  obtain ⟨⟨c, dct, dt, sl⟩, hl, hc, n, hd⟩ := hL
  replace hc : c = .type "tuple" := hc
  replace hd : dt = .seq items n := hd
  subst hc hd
  refine callType_new F.called_enumerate (by decide) (F.typeCall_enumerate_1 _) (F.newCall_enumerate_1 _) (fun obj => F.args_object_init_2 obj _) F.entry_enumerate_new
    (enumerate_newT l items n dct sl) ⟨hl, ?_⟩
  have hz : (s.heap.push { cls := .type "tuple_iterator", data := .fields #[.ref l, .int 0 0] }).objs.size = s.heap.objs.size + 1 := Heap.size_push ..
  show _ ∧ _
  rw [hz]
  have he : IsEnum ((s.heap.push { cls := .type "tuple_iterator", data := .fields #[.ref l, .int 0 0] }).push
      { cls := .type "enumerate", data := .fields #[.none, .bool false, .ref s.heap.objs.size, rawInt 0, .none, .none] }) (s.heap.objs.size + 1) s.heap.objs.size 0 .none := by
    have := Heap.get?_push_size (s.heap.push { cls := .type "tuple_iterator", data := .fields #[.ref l, .int 0 0] })
      (o := { cls := .type "enumerate", data := .fields #[.none, .bool false, .ref s.heap.objs.size, rawInt 0, .none, .none] }) rfl
    rw [hz] at this; exact this
  refine ⟨⟨_, he, rfl⟩, h _ he ⟨_, Heap.get?_push_of_some _ (Heap.get?_push_size _ rfl), rfl, rfl⟩ (by rw [Heap.size_push, hz]) fun b o x => Heap.get?_push_of_some _ (Heap.get?_push_of_some _ x)⟩
end
/-- the tuple at a, each item in a new pair -/
def IteT (K : PySem.W.Frag) (a : Addr) : It :=
  ⟨fun i H => ∃ (xs : List V) (x : V), SqT K H a xs ∧ xs[i]? = some x, fun i H v H' => ∃ T x, v = .ref T ∧ H T = none ∧ H' = upd H T (.tup [.int (i : Nat), x]) ∧ ∀ xs, SqT K H a xs → xs[i]? = some x, fun i H => ∃ xs : List V, SqT K H a xs ∧ xs.length ≤ i⟩
theorem turn_enumT {P : Program} {w : World} {K : PySem.W.Frag} {elts : List Expr} {kk : Nat} {tpos : Pos} (a e it : Addr) :
    Turn P w K (.Tuple elts kk tpos) (IteT K a) [e, it] e (fun i h => (∃ old, IsEnum h e it ((i : Nat) : Int) old) ∧ h.IsTupleIter it a i ∧ e ≠ it ∧ a ≠ it ∧ a ≠ e) where
  mem := by simp
  obj := fun i h st b hb => by
    obtain ⟨⟨old, he⟩, ⟨o, ho, hc, hd⟩, _⟩ := st
    have e' : b = e ∨ b = it := by simpa using hb
    rcases e' with z | z
    · rw [z]; exact ⟨_, he, fun v q => nomatch q⟩
    · rw [z]; exact ⟨o, ho, fun v q => by rw [hd] at q; cases q⟩
  keep := fun i h h' st k => let ⟨⟨old, he⟩, hi, hne⟩ := st; ⟨⟨old, k e (by simp) _ he⟩, hi.at fun o q => k it (by simp) o q, hne⟩
  item := by
    intro X hP hw hK hc i pins s σ H E I hf st hg
    subst hP hw hK
    obtain ⟨⟨old, he⟩, hit, hne, hai, hae⟩ := st
    obtain ⟨xs, x, hq, hx⟩ := hg
    obtain ⟨its, rv, p, hz⟩ := I.tuple hq
    obtain ⟨u, hu, ru⟩ := rv.get hx
    have hel : e < s.heap.objs.size := Heap.lt_size he
    have hil : it < s.heap.objs.size := by obtain ⟨_, q, _⟩ := hit; exact Heap.lt_size q
    have hlt : i < its.toArray.size := by
      have := (List.getElem?_eq_some_iff.mp hu).1
      simpa using this
    refine wpAny_pyNext_enum_itemD (draws_tuple (prog := X.prog) (w := X.w) (A := X.A.in1) (show X.A.in1.handled = none from I.ok.hd hc) it a hai its.toArray) he ⟨hit, (show s.heap.IsTuple a its.toArray from p)⟩ hlt hne (by simp [hne, Ne.symm hae]) fun y h' tk hy ho hst' hT hsz hk => ?_
    have hyu : y = u := by
      have h2 : its.toArray[i]? = some u := by simpa using hu
      exact Option.some.inj (hy.symm.trans h2)
    subst hyu
    refine ⟨_, rfl, wpAny_letOwnedTupleGo_enum (s := { s with heap := h', toks := tk + 1 }) ho fun h'' he' sb => ?_⟩
    have hT2 : h''.get? s.heap.objs.size = some { cls := .type "tuple", data := .seq #[.int i tk, y] } := (sb.2 _ (Nat.ne_of_gt hel)).trans hT
    have new : ObjOk X.prog X.w (upd H s.heap.objs.size (.tup [.int (i : Nat), x])) h'' s.heap.objs.size (.tup [.int (i : Nat), x]) :=
      ⟨by show 2 ≤ sizeLine; decide, [.int i tk, y], .cons ⟨_, rfl⟩ (.cons ru .nil), ⟨_, hT2, rfl, _, rfl⟩⟩
    have I1 : Inv X pins σ (upd H s.heap.objs.size (.tup [.int (i : Nat), x])) { s with heap := h'', toks := tk + 1 } :=
      I.turnedNew (ch := [e, it]) (fun b ob hb q => (sb.2 b (fun z => hb (by simp [z]))).trans (hk b ob (fun z => hb (by simp [z])) (fun z => hb (by simp [z])) q)) hf (Nat.le_refl _) new
    refine ⟨.ref s.heap.objs.size, _, I1, rfl, ⟨_, x, rfl, I.hok.fresh (Nat.le_refl _), rfl, fun ys hy => by rw [I.tuple_inj hy hq]; exact hx⟩, ⟨⟨y, ?_⟩, hst'.1.at fun o q => (sb.2 it (Ne.symm hne)).trans q, hne, hai, hae⟩, fun b hb => ?_⟩
    · have e1 : ((i + 1 : Nat) : Int) = (i : Int) + 1 := by omega
      rw [e1]; exact he'
    · have hb' : b < s.heap.objs.size := by
        have e' : b = e ∨ b = it := by simpa using hb
        rcases e' with z | z
        · rw [z]; exact hel
        · rw [z]; exact hil
      rw [upd_ne (Nat.ne_of_lt hb')]
      exact (hf b hb).1
  done := by
    intro X hP hw hK hc i pins s σ H E I hf st hg
    subst hP hw hK
    obtain ⟨⟨old, he⟩, hit, hne, hai, hae⟩ := st
    obtain ⟨xs, hq, hx⟩ := hg
    obtain ⟨its, rv, p, hz⟩ := I.tuple hq
    obtain ⟨f0, f1, f2, f3, f4, f5⟩ := hf it (by simp)
    have hl := rv.length
    have hT : s.TypeIs (.ref e) "enumerate" := ⟨_, he, rfl⟩
    unfold pyNext
    refine wpAny_bind (wpAny_attempt (wpAny_callSpecial?_slot (name := Str.ofString "__next__") hT F.slot_enumerate_next
      (wpAny_call_entry F.slot_enumerate_next hT F.entry_enumerate_next ?_ (F.args_enumerate_next_1 _))))
    show wpAny _ _ (field (.ref e) 2 >>= _) _ _ _
    refine wpAny_bind (wpAny_field he rfl (x := .ref it) rfl ?_)
    refine wpAny_bind (next_tuple_end (I.ok.hd hc) hit (show s.heap.IsTuple a its.toArray from p) (by simp; omega) fun h' x eb hx' => ?_)
    obtain ⟨o, ho, hc'⟩ := hx'
    refine wpAny_bind (wpAny_isInstance (T := "StopIteration") (b := true) ⟨o, ho, hc'⟩ isSubtype_stop ?_)
    exact wpAny_pure ⟨rfl, I.turned (t' := s.toks) (fun b o hb q => eb b o hb q) f0 f1 f3 f4 f5⟩
  self := fun A i s Q E st h => let ⟨⟨_, he⟩, _⟩ := st; wpAny_pyIter_enum he h
def iEnumT (K : PySem.W.Frag) (ta : TA) : TI := fun σ H R => ta σ H fun vs H1 => ∃ a xs, vs = [.ref a] ∧ SqT K H1 a xs ∧ R (IteT K a) H1
theorem pi_enumT {X : Cx} {e : Expr} {ta : TA} {p pos tpos : Pos} {elts : List Expr} {kk : Nat} (hg : Gl X "enumerate") (hm : X.mg "enumerate" = none) (ha : PA X [e] ta) (hs : starEach [e] X.env = [(false, eval e X.env)] := by rfl) :
    PI X (.Tuple elts kk tpos) (.Call (.Name "enumerate" p) [e] [] pos) (iEnumT X.K ta) := by
  refine ⟨fun pins s σ H R I h => ?_⟩
  refine Call_ (ld_blt I hg hm boot_enumerate (PyProof.Rows.callWith_type1 (thn (ha.run pos pins s σ H _ I h) fun us s1 ⟨vs, H1, I1, r1, q1⟩ => ?_) hs rfl))
  obtain ⟨a, xs, ex, hq, q⟩ := q1
  subst ex
  cases r1 with
  | cons r rr =>
    cases rr
    cases r
    obtain ⟨its, rv, p', hz⟩ := I1.tuple hq
    have hp : s1.heap.IsTuple a its.toArray := p'
    have hal : a < s1.heap.objs.size := by obtain ⟨_, q, _⟩ := hp; exact Heap.lt_size q
    refine call_enumerate_tuple hp fun h' he hit hsz hk => wpAny_pyIter_enum he ?_
    have I2 : Inv X pins σ H1 { s1 with heap := h' } := I1.kept (t' := s1.toks) hk
    refine ⟨s1.heap.objs.size + 1, [s1.heap.objs.size + 1, s1.heap.objs.size], _, _, H1, rfl, I2, turn_enumT a (s1.heap.objs.size + 1) s1.heap.objs.size, ⟨⟨.none, he⟩, hit, Nat.succ_ne_self _, Nat.ne_of_lt hal, Nat.ne_of_lt (Nat.lt_succ_of_lt hal)⟩, fun b hb => ?_, q⟩
    have e' : b = s1.heap.objs.size + 1 ∨ b = s1.heap.objs.size := by simpa using hb
    have hle : s1.heap.objs.size ≤ b := by
      rcases e' with z | z
      · rw [z]; exact Nat.le_add_right _ _
      · rw [z]; exact Nat.le_refl _
    exact I1.fpOk hle (I1.hok.fresh hle)
theorem for_enumT {K : PySem.W.Frag} {a : Addr} {xs : List V} {g : TG} {tb : TS} {D : Ends} {σ : L2.St} {H : Hp} (Pv : Nat → L2.St → Hp → Prop) (h0 : Pv 0 σ H) (hl : ∀ i σ H, i ≤ xs.length → Pv i σ H → SqT K H a xs)
    (hs : ∀ i x T σ H, xs[i]? = some x → Pv i σ H → H T = none → g (.ref T) σ (upd H T (.tup [.int (i : Nat), x])) fun σ2 H2 => tb { D with nx := Pv (i + 1), ct := Pv (i + 1), bk := D.nx } σ2 H2) (hd : ∀ σ H, Pv xs.length σ H → D.nx σ H) :
    ∃ W : Nat → Nat → L2.St → Hp → Prop, (∃ m, W 0 m σ H) ∧ ∀ i m σ H, W i m σ H →
      ((IteT K a).stop i H ∧ D.nx σ H) ∨ ((IteT K a).go i H ∧ ∃ N : L2.St → Hp → Prop, (∀ σ' H', N σ' H' → ∃ m', m' < m ∧ W (i + 1) m' σ' H') ∧ ∀ x H', (IteT K a).yld i H x H' → g x σ H' fun σ2 H2 => tb { D with nx := N, ct := N, bk := D.nx } σ2 H2) := by
  refine ⟨fun i m σ H => m = xs.length - i ∧ i ≤ xs.length ∧ Pv i σ H, ⟨xs.length, by simp, Nat.zero_le _, h0⟩, ?_⟩
  rintro i m σ H ⟨rfl, hi, p⟩
  have hL := hl i σ H hi p
  by_cases h : i < xs.length
  · refine .inr ⟨⟨xs, xs[i], hL, List.getElem?_eq_getElem h⟩, Pv (i + 1), fun σ' H' n => ⟨xs.length - (i + 1), by omega, rfl, by omega, n⟩, ?_⟩
    rintro v H' ⟨T, x, rfl, nT, rfl, hx⟩
    exact hs i x T σ H (hx xs hL) p nT
  · have e : i = xs.length := by omega
    subst e
    exact .inl ⟨⟨xs, hL, Nat.le_refl _⟩, hd σ H p⟩
theorem for_enumL {K : PySem.W.Frag} {a : Addr} {xs : List V} {g : TG} {tb : TS} {D : Ends} {σ : L2.St} {H : Hp} (Pv : Nat → L2.St → Hp → Prop) (h0 : Pv 0 σ H) (hl : ∀ i σ H, i ≤ xs.length → Pv i σ H → SqL K H a xs)
    (hs : ∀ i x T σ H, xs[i]? = some x → Pv i σ H → H T = none → g (.ref T) σ (upd H T (.tup [.int (i : Nat), x])) fun σ2 H2 => tb { D with nx := Pv (i + 1), ct := Pv (i + 1), bk := D.nx } σ2 H2) (hd : ∀ σ H, Pv xs.length σ H → D.nx σ H) :
    ∃ W : Nat → Nat → L2.St → Hp → Prop, (∃ m, W 0 m σ H) ∧ ∀ i m σ H, W i m σ H →
      ((Ite K a).stop i H ∧ D.nx σ H) ∨ ((Ite K a).go i H ∧ ∃ N : L2.St → Hp → Prop, (∀ σ' H', N σ' H' → ∃ m', m' < m ∧ W (i + 1) m' σ' H') ∧ ∀ x H', (Ite K a).yld i H x H' → g x σ H' fun σ2 H2 => tb { D with nx := N, ct := N, bk := D.nx } σ2 H2) := by
  refine ⟨fun i m σ H => m = xs.length - i ∧ i ≤ xs.length ∧ Pv i σ H, ⟨xs.length, by simp, Nat.zero_le _, h0⟩, ?_⟩
  rintro i m σ H ⟨rfl, hi, p⟩
  have hL := hl i σ H hi p
  by_cases h : i < xs.length
  · refine .inr ⟨⟨xs, xs[i], hL, List.getElem?_eq_getElem h⟩, Pv (i + 1), fun σ' H' n => ⟨xs.length - (i + 1), by omega, rfl, by omega, n⟩, ?_⟩
    rintro v H' ⟨T, x, rfl, nT, rfl, hx⟩
    exact hs i x T σ H (hx xs hL) p nT
  · have e : i = xs.length := by omega
    subst e
    exact .inl ⟨⟨xs, hL, Nat.le_refl _⟩, hd σ H p⟩
/-! ### () * k -/
theorem tuple_mul0 (l : Addr) (n : Nat) (dd : Option Addr) (sl : Array (Option Value)) (x : Int) (u : Tok) (c0 : (decide (x < -(2 ^ 63)) || decide (x ≥ 2 ^ 63)) = false) :
    Meets (Builtin.«tuple.__mul__» ⟨[.ref l, .int x u], []⟩) (fun _ R s => s.heap.get? l = some { cls := .type "tuple", dict := dd, data := .seq #[] n, slots := sl } ∧ R (.ok (.ret (Value.ref l))) s) :=
  .of_wp fun prog w A R s h => by
    obtain ⟨hp, g, d, tk, os⟩ := s
    obtain ⟨hl, h⟩ := h
    have f1 := AutoSeq1.idx_int
    have c1 : ((#[] : Array Value).isEmpty || x == 1) = true := rfl
    wp_walk using wpAny_loadPart' hl
    repeat (first
      | (refine wpAny_ite_false (decide_eq_false (by rw [c0]; exact Bool.false_ne_true)) ?_; wp_walk using wpAny_loadPart' hl)
      | (refine wpAny_ite_true (decide_eq_true c1) ?_; wp_walk using wpAny_loadPart' hl))
    exact ⟨_, rfl, h⟩
def rRepZ (K : PySem.W.Frag) : R2 := fun x y H Q => ∃ l k xs, x = .ref l ∧ y = .int k ∧ SqT K H l xs ∧ 1 ≤ k ∧ k ≤ 1000 ∧ xs.length ≤ 1000 ∧ ∀ p H', (∀ b o, H b = some o → H' b = some o) → SqT K H' p (List.replicate k.toNat xs).flatten → Q (.ref p) H'
theorem flat_nil {α : Type} (k : Nat) : (List.replicate k ([] : List α)).flatten = [] := by
  induction k with
  | zero => rfl
  | succ k ih => rw [List.replicate_succ, List.flatten_cons, ih]; rfl
theorem op_repZ {X : Cx} : OpR X (binaryOp .Mult) (rRepZ X.K) := by
  intro pins s σ H x y v u Q I rx ry h
  obtain ⟨l, k, xs, rfl, rfl, hT, h1, h2, hz, q⟩ := h
  by_cases hne : xs = []
  · subst hne
    cases rx
    obtain ⟨t, rfl⟩ := ry
    obtain ⟨its, r, ⟨⟨cls, dd, data, sl⟩, ho, hc, n, hd⟩, hs⟩ := I.tuple hT
    simp only at hc hd
    subst hc hd
    cases r
    have c0 : (decide (k < -(2 ^ 63)) || decide (k ≥ 2 ^ 63)) = false := by
      rw [decide_eq_false (by omega), decide_eq_false (by omega)]
      rfl
    refine wpAny_binaryOp_repeat_ref (T := "tuple") (U := "int") (by decide) ⟨_, ho, rfl⟩ (fun s' => typeIs_int s' k t) noFill_tuple_mul F.fills_int_mul F.slot_int_rmul repeat_tuple F.slot_int_index.lookup
      (call_meets F.slot_int_rmul (typeIs_int s k t) F.entry_int_rmul (F.args_int_rmul_2 _ _) (int_rmul_tuple k t l #[] n dd sl)
        ⟨ho, rfl, ⟨_, ho, rfl⟩, call_meets F.slot_tuple_mul ⟨_, ho, rfl⟩ F.entry_tuple_mul (F.args_tuple_mul_2 _ _) (tuple_mul0 l n dd sl k t c0) ⟨ho, ?_⟩⟩)
    exact ⟨.ref l, H, I, rfl, q l H (fun _ _ h => h) (by rw [flat_nil]; exact hT)⟩
  · refine op_repA pins s σ H _ _ v u Q I rx ry ⟨l, k, xs, rfl, rfl, hT, hne, h1, h2, hz, fun e => ?_, fun e p np => ?_⟩
    · refine q l H (fun _ _ h => h) ?_
      subst e
      show SqT X.K H l ([xs]).flatten
      simpa using hT
    · refine q p _ (fun b o e => by rw [upd_ne (ne_of_none e np)]; exact e) (SqT.of upd_same)
end RR

/-! ## heaps, tuples, data, sorts -/
namespace My
open PySem PySem.Spec PyProof.Rows L2
--ANN _law_pick | cut if tape[1] < len(tape[0]): | cut
/-! ### heaps -/
theorem same_upd {H : Hp} {p : Addr} {o : HO} (h : H p = none) : Same H (upd H p o) := fun b x e => by
  rw [upd_ne (ne_of_none e h)]
  exact e
/-- all but t stays -/
def Moved (t : Addr) (H H' : Hp) : Prop := ∀ b o, b ≠ t → H b = some o → H' b = some o
theorem Moved.refl {t : Addr} {H : Hp} : Moved t H H := fun _ _ _ h => h
theorem Moved.trans {t : Addr} {H H1 H2 : Hp} (a : Moved t H H1) (b : Moved t H1 H2) : Moved t H H2 := fun c o n h => b c o n (a c o n h)
theorem Moved.upd {t : Addr} {H : Hp} {o : HO} : Moved t H (upd H t o) := fun b x n e => by
  rw [upd_ne n]
  exact e
theorem Moved.same {t : Addr} {H H' : Hp} (h : Same H H') : Moved t H H' := fun b o _ e => h b o e
theorem Moved.free {t : Addr} {H H' : Hp} (h : Moved t H H') {p : Addr} (n : p ≠ t) (e : H' p = none) : H p = none := by
  cases q : H p with
  | none => rfl
  | some o =>
    rw [h p o n q] at e
    cases e
/-! ### the tape: where the draws stand -/
def Tape (H : Hp) (t s : Addr) : Prop := ∃ (ns : List Int) (pos rest mx ct : Int), s ≠ t ∧ H t = some (.lst [.ref s, .int pos, .int rest, .int mx, .int ct]) ∧ H s = some (.lst (ns.map V.int)) ∧ 0 ≤ pos
theorem Tape.keep {t s : Addr} {H H' : Hp} (h : Tape H t s) (e : Same H H') : Tape H' t s := by
  obtain ⟨ns, a, b, c, d, h1, h2, h3, h4⟩ := h
  exact ⟨ns, a, b, c, d, h1, e _ _ h2, e _ _ h3, h4⟩
theorem Tape.ne {t s p : Addr} {H : Hp} (h : Tape H t s) (np : H p = none) : p ≠ t := fun e => by
  obtain ⟨ns, a, b, c, d, h1, h2, h3, h4⟩ := h
  rw [e, h2] at np
  cases np
theorem Tape.ne2 {t s p : Addr} {H : Hp} (h : Tape H t s) (np : H p = none) : p ≠ s := fun e => by
  obtain ⟨ns, a, b, c, d, h1, h2, h3, h4⟩ := h
  rw [e, h3] at np
  cases np
theorem Tape.but {t s r : Addr} {H : Hp} {o : HO} (h : Tape H t s) (n : r ≠ t) (n2 : r ≠ s) : Tape (upd H r o) t s := by
  obtain ⟨ns, a, b, c, d, h1, h2, h3, h4⟩ := h
  refine ⟨ns, a, b, c, d, h1, ?_, ?_, h4⟩
  · rw [upd_ne n.symm]
    exact h2
  · rw [upd_ne n2.symm]
    exact h3
section
variable {K : PySem.W.Frag} {H : Hp}
theorem tyTup {a : Addr} {xs : List V} (h : SqT K H a xs) : TyX K H (.ref a) (.type "tuple") := by
  rcases h with (h | ⟨o, h⟩) | h
  · exact .base (.tup h)
  · exact .fTuple h
  · obtain ⟨o, n, vs, e, c, _⟩ := h
    exact .kTuple e c
theorem sT {H' : Hp} {a : Addr} {xs : List V} (e : Same H H') (h : SqT K H a xs) : SqT K H' a xs := by
  rcases h with (h | ⟨o, h⟩) | h
  · exact .inl (.inl (e _ _ h))
  · exact .inl (.inr ⟨o, e _ _ h⟩)
  · exact .inr h
end
/-! ### new tuples, one for each -/
theorem small2000 {n : Nat} (h : n ≤ 2000) : n < sizeLine := by
  show n < 2 ^ 24
  omega
inductive Tups {α : Type} (f : α → List V) (H : Hp) : List Addr → List α → Prop
  | nil : Tups f H [] []
  | cons {p : Addr} {x : α} {ps : List Addr} {xs : List α} : H p = some (.tup (f x)) → Tups f H ps xs → Tups f H (p :: ps) (x :: xs)
section
variable {α : Type} {f : α → List V} {H H' : Hp}
theorem Tups.keep {ps : List Addr} {xs : List α} (h : Tups f H ps xs) (e : ∀ b ys, H b = some (.tup ys) → H' b = some (.tup ys)) : Tups f H' ps xs := by
  induction h with
  | nil => exact .nil
  | cons a _ ih => exact .cons (e _ _ a) ih
theorem Tups.same {ps : List Addr} {xs : List α} (h : Tups f H ps xs) (e : Same H H') : Tups f H' ps xs := h.keep fun b ys z => e _ _ z
theorem Tups.put {ps : List Addr} {xs : List α} (h : Tups f H ps xs) {L : Addr} {ys : List V} {o : HO} (e : H L = some (.lst ys)) : Tups f (upd H L o) ps xs := h.keep fun b zs z => by
  rw [upd_ne (fun q => by rw [q, e] at z; cases z)]
  exact z
theorem Tups.new {ps : List Addr} {xs : List α} (h : Tups f H ps xs) {p : Addr} {o : HO} (e : H p = none) : Tups f (upd H p o) ps xs := h.same (same_upd e)
theorem Tups.snoc {ps : List Addr} {xs : List α} {p : Addr} {x : α} (h : Tups f H ps xs) (e : H p = some (.tup (f x))) : Tups f H (ps ++ [p]) (xs ++ [x]) := by
  induction h with
  | nil => exact .cons e .nil
  | cons a _ ih => exact .cons a ih
theorem Tups.append {ps qs : List Addr} {xs ys : List α} (h : Tups f H ps xs) (k : Tups f H qs ys) : Tups f H (ps ++ qs) (xs ++ ys) := by
  induction h with
  | nil => exact k
  | cons a _ ih => exact .cons a ih
theorem Tups.length {ps : List Addr} {xs : List α} (h : Tups f H ps xs) : ps.length = xs.length := by
  induction h with
  | nil => rfl
  | cons a _ ih => rw [List.length_cons, List.length_cons, ih]
theorem Tups.get {ps : List Addr} {xs : List α} (h : Tups f H ps xs) : ∀ {i : Nat} {v : V}, (ps.map V.ref)[i]? = some v → ∃ p x, v = .ref p ∧ xs[i]? = some x ∧ H p = some (.tup (f x)) := by
  induction h with
  | nil =>
    intro i v h
    simp at h
  | cons a _ ih =>
    intro i v h
    cases i with
    | zero =>
      simp at h
      exact ⟨_, _, h.symm, rfl, a⟩
    | succ i =>
      simp only [List.map_cons, List.getElem?_cons_succ] at h ⊢
      exact ih h
end
def wv : Option Int → V
  | none => .non
  | some w => .int w
def pv2 (p : Int × Int) : List V := [.int p.1, .int p.2]
/-! ### data that is compared -/
def wd : Option Int → PyData
  | none => .none
  | some w => .int w
def pd2 (p : Int × Int) : PyData := .tuple [.int p.1, .int p.2]
def dInts (ns : List Int) : PyData := .list (ns.map PyData.int)
def dWs (ws : List (Option Int)) : PyData := .list (ws.map wd)
def dPrs (ps : List (Int × Int)) : PyData := .list (ps.map pd2)
section
variable {K : PySem.W.Frag} {H : Hp}
theorem dpa_ints : ∀ ns : List Int, DpAll K H (ns.map V.int) (ns.map PyData.int)
  | [] => .nil
  | n :: ns => .cons (.int n) (dpa_ints ns)
theorem dp_wd : ∀ w : Option Int, Dp K H (wv w) (wd w)
  | none => .non
  | some w => .int w
theorem dpa_ws : ∀ ws : List (Option Int), DpAll K H (ws.map wv) (ws.map wd)
  | [] => .nil
  | w :: ws => .cons (dp_wd w) (dpa_ws ws)
theorem dpa_prs {ps : List Addr} {xs : List (Int × Int)} (h : Tups pv2 H ps xs) : DpAll K H (ps.map V.ref) (xs.map pd2) := by
  induction h with
  | nil => exact .nil
  | cons a _ ih => exact .cons (.tup (SqT.of a) (.cons (.int _) (.cons (.int _) .nil))) ih
end
theorem lay_all {α : Type} {f : α → PyData} (h : ∀ x, (f x).canLay0 = true) : ∀ xs : List α, PyData.canLayAll0 (xs.map f) = true
  | [] => by simp [PyData.canLayAll0]
  | x :: xs => by
    rw [List.map_cons, PyData.canLayAll0, h x, lay_all h xs]
    rfl
theorem dep_all {α : Type} {f : α → PyData} {d : Nat} (h : ∀ x, (f x).depth ≤ d) : ∀ xs : List α, PyData.depthAll (xs.map f) ≤ d
  | [] => by simp [PyData.depthAll]
  | x :: xs => by
    have h1 := h x
    have h2 := dep_all h xs
    rw [List.map_cons, PyData.depthAll]
    omega
/-- can be laid, and is at most d deep -/
def Shp (d : Nat) (x : PyData) : Prop := x.canLay0 = true ∧ x.depth ≤ d
theorem Shp.ok {d : Nat} {x : PyData} (h : Shp d x) (hd : d ≤ 64) : SeqAt.shaped x = true := by
  show (x.canLay0 && decide (x.depth ≤ 64)) = true
  rw [Bool.and_eq_true]
  exact ⟨h.1, decide_eq_true (Nat.le_trans h.2 hd)⟩
theorem Shp.int (i : Int) : Shp 1 (.int i) := ⟨by simp [PyData.canLay0], by simp [PyData.depth]⟩
theorem Shp.wd (w : Option Int) : Shp 1 (wd w) := by
  cases w <;> exact ⟨by simp [My.wd, PyData.canLay0], by simp [My.wd, PyData.depth]⟩
theorem Shp.list {α : Type} {f : α → PyData} {d : Nat} (h : ∀ x, Shp d (f x)) (xs : List α) : Shp (d + 1) (.list (xs.map f)) := by
  have h1 := lay_all (fun x => (h x).1) xs
  have h2 := dep_all (fun x => (h x).2) xs
  exact ⟨by simp only [PyData.canLay0]; exact h1, by simp only [PyData.depth]; omega⟩
theorem Shp.tup0 : Shp 1 (.tuple []) := ⟨by simp [PyData.canLay0, PyData.canLayAll0], by simp [PyData.depth, PyData.depthAll]⟩
theorem Shp.tupC {d : Nat} {x : PyData} {xs : List PyData} (h : Shp d x) (t : Shp (d + 1) (.tuple xs)) : Shp (d + 1) (.tuple (x :: xs)) := by
  obtain ⟨a, b⟩ := h
  obtain ⟨c, e⟩ := t
  simp only [PyData.canLay0] at c
  simp only [PyData.depth] at e
  refine ⟨?_, ?_⟩
  · simp only [PyData.canLay0, PyData.canLayAll0, a, c, Bool.and_self]
  · simp only [PyData.depth, PyData.depthAll]
    omega
theorem Shp.up {d e : Nat} {x : PyData} (h : Shp d x) (le : d ≤ e) : Shp e x := ⟨h.1, Nat.le_trans h.2 le⟩
theorem Shp.pd2 (p : Int × Int) : Shp 2 (pd2 p) := .tupC (.int _) (.tupC (.int _) (Shp.tup0.up (by decide)))
theorem Shp.ints (ns : List Int) : Shp 2 (dInts ns) := .list Shp.int ns
theorem Shp.ws (ws : List (Option Int)) : Shp 2 (dWs ws) := .list Shp.wd ws
theorem Shp.prs (ps : List (Int × Int)) : Shp 3 (dPrs ps) := .list Shp.pd2 ps
theorem eqv_same {d : Nat} {x : PyData} (h : Shp d x) : PyData.eqv x x = true := SeqAt.eqv_refl x h.1
theorem iteNE {b : Bool} {A B : Prop} (hb : b = true) (h : B) : if (!b) = true then A else B := by
  subst hb
  exact iteF h
theorem ne_same {d : Nat} {x : PyData} (h : Shp d x) : V.bl (!PyData.eqv x x) = V.bl false := by
  rw [eqv_same h]
  rfl
theorem eq_same {d : Nat} {x : PyData} (h : Shp d x) : V.bl (PyData.eqv x x) = V.bl true := by
  rw [eqv_same h]

theorem flat_one {α : Type} (n : Nat) (x : α) : (List.replicate n [x]).flatten = List.replicate n x := by
  induction n with
  | zero => rfl
  | succ n ih => rw [List.replicate_succ, List.flatten_cons, ih]; rfl
theorem take_snoc {α : Type} {l : List α} {i : Nat} {x : α} (h : l[i]? = some x) : l.take (i + 1) = l.take i ++ [x] := by
  rw [List.take_add_one, h]
  rfl
theorem same_put {H H' : Hp} {p : Addr} {o : HO} (sm : Same H H') (n : H p = none) : Same H (upd H' p o) := fun b x e => (upd_ne (ne_of_none e n)).trans (sm b x e)
theorem ne_no {a b : Int} (h : a = b) : V.bl (!decide (V.int a = V.int b)) = V.bl false := by
  subst h
  rw [decide_eq_true rfl]
  rfl
theorem ixN_nat {n : Nat} {p : Int} (h0 : 0 ≤ p) (h1 : p < (n : Int)) : ixN n p = some p.toNat := by
  unfold ixN
  rw [if_pos h0, if_pos h1]
theorem atI_of {xs : List V} {p : Int} {v : V} (h0 : 0 ≤ p) (h : xs[p.toNat]? = some v) : atI xs p = some v := by
  have e := atI_nat h
  rw [show ((p.toNat : Nat) : Int) = p by omega] at e
  exact e
theorem ixTK {X : Cx} {K : PySem.W.Frag} (h : X.K = K) : IxR X (rIxT K) := h ▸ ix_tup
theorem ixLK {X : Cx} {K : PySem.W.Frag} (h : X.K = K) : IxR X (rIxL K) := h ▸ ix_list
def rLenS (K : PySem.W.Frag) : List V → Hp → VK → Prop := fun xs H Q => ∃ p ys, xs = [.ref p] ∧ (SqL K H p ys ∨ SqT K H p ys) ∧ Q (.int ys.length) H
theorem lenK {X : Cx} {K : PySem.W.Frag} (h : X.K = K) : CallR X (.builtin "len") (rLenS K) := h ▸ call_len_seq
theorem isiK {X : Cx} {K : PySem.W.Frag} (h : X.K = K) : CallR X (.builtin "isinstance") (rIsi K) := h ▸ call_isi
theorem notInK {X : Cx} {K : PySem.W.Frag} (h : X.K = K) : OpR X (compareOp .NotIn) (rIn K true) := h ▸ op_notIn_seq
theorem inK {X : Cx} {K : PySem.W.Frag} (h : X.K = K) : OpR X (compareOp .In) (rIn K false) := h ▸ op_in_seq
/-! ### tuples of ints as data -/
def fI (r : List Int) : List V := r.map V.int
def dI (r : List Int) : PyData := .tuple (r.map PyData.int)
def dT (rs : List (List Int)) : PyData := .list (rs.map dI)
theorem units65 {k : Nat} {A : Around} (r : Room k A) : A.units + 65 < cLine := by
  have := r.un
  omega
theorem Shp.tuple {α : Type} {f : α → PyData} {d : Nat} (h : ∀ x, Shp d (f x)) (xs : List α) : Shp (d + 1) (.tuple (xs.map f)) := by
  have h1 := lay_all (fun x => (h x).1) xs
  have h2 := dep_all (fun x => (h x).2) xs
  exact ⟨by simp only [PyData.canLay0]; exact h1, by simp only [PyData.depth]; omega⟩
theorem Shp.dI (r : List Int) : Shp 2 (dI r) := .tuple Shp.int r
theorem Shp.dT (rs : List (List Int)) : Shp 3 (dT rs) := .list Shp.dI rs
theorem dp_dI {K : PySem.W.Frag} {H : Hp} {p : Addr} {r : List Int} (h : SqT K H p (r.map V.int)) : Dp K H (.ref p) (My.dI r) := .tup h (dpa_ints r)
theorem dpa_dT {K : PySem.W.Frag} {H : Hp} {ps : List Addr} {rs : List (List Int)} (h : Tups fI H ps rs) : DpAll K H (ps.map V.ref) (rs.map My.dI) := by
  induction h with
  | nil => exact .nil
  | cons a _ ih => exact .cons (dp_dI (SqT.of a)) ih
theorem dp_dT {K : PySem.W.Frag} {H : Hp} {L : Addr} {ps : List Addr} {rs : List (List Int)} (e : H L = some (.lst (ps.map V.ref))) (h : Tups fI H ps rs) : Dp K H (.ref L) (My.dT rs) := .lst (SqL.of e) (dpa_dT h)
theorem eqvA : ∀ a b : List Int, PyData.eqvAll (a.map PyData.int) (b.map PyData.int) = decide (a = b)
  | [], [] => by simp [PyData.eqvAll]
  | [], _ :: _ => by simp [PyData.eqvAll]
  | _ :: _, [] => by simp [PyData.eqvAll]
  | x :: a, y :: b => by
    rw [List.map_cons, List.map_cons, PyData.eqvAll, eqvA a b]
    simp only [PyData.eqv]
    by_cases h : x = y
    · subst h
      simp
    · simp [h]
theorem eqvI (a b : List Int) : PyData.eqv (My.dI a) (My.dI b) = decide (a = b) := by
  unfold My.dI
  rw [PyData.eqv]
  exact eqvA a b
theorem not_any {rs : List (List Int)} {r : List Int} (h : r ∉ rs) : ((rs.map My.dI).any fun z => PyData.eqv z (My.dI r)) = false := by
  rw [List.any_map, List.any_eq_false]
  intro x hx
  show ¬ PyData.eqv (My.dI x) (My.dI r) = true
  rw [eqvI]
  intro z
  exact h (of_decide_eq_true z ▸ hx)
/-! ### a tuple whose object is known: its methods -/
def Frz (H : Hp) (p : Addr) (xs : List V) : Prop := ∃ o : Obj, H p = some (.frz o (.tup xs)) ∧ o.dict = none
theorem Frz.sq {K : PySem.W.Frag} {H : Hp} {p : Addr} {xs : List V} (h : Frz H p xs) : SqT K H p xs := let ⟨o, e, _⟩ := h; .inl (.inr ⟨o, e⟩)
theorem Frz.same {H H' : Hp} {p : Addr} {xs : List V} (h : Frz H p xs) (e : Same H H') : Frz H' p xs := let ⟨o, a, b⟩ := h; ⟨o, e _ _ a, b⟩
theorem Frz.moved {t : Addr} {H H' : Hp} {p : Addr} {xs : List V} (h : Frz H p xs) (n : p ≠ t) (e : Moved t H H') : Frz H' p xs := let ⟨o, a, b⟩ := h; ⟨o, e _ _ n a, b⟩
theorem Frz.of {H H' : Hp} {p : Addr} {xs : List V} (h : Frz H p xs) (e : ∀ o, H p = some o → H' p = some o) : Frz H' p xs := let ⟨o, a, b⟩ := h; ⟨o, e _ a, b⟩
theorem Frz.ne {H : Hp} {p q : Addr} {xs : List V} (h : Frz H p xs) (n : H q = none) : p ≠ q := let ⟨_, a, _⟩ := h; ne_of_none a n
theorem Frz.tape {H : Hp} {p t s : Addr} {xs : List V} (h : Frz H p xs) (tp : Tape H t s) : p ≠ t := fun e => by
  obtain ⟨o, a, _⟩ := h
  obtain ⟨_, _, _, _, _, _, e2, _⟩ := tp
  rw [e, e2] at a
  cases a
theorem call_tupleF {X : Cx} : CallR X (.type "tuple") (fun xs H Q => ∃ p ys, xs = [.ref p] ∧ SqL X.K H p ys ∧ ∀ l H', H l = none → Same H H' → Frz H' l ys → (∀ b, b ≠ l → H' b = H b) → Q (.ref l) H') := by
  intro pins s σ H xs us Q I r h
  obtain ⟨p, ys, rfl, hq, q⟩ := h
  obtain ⟨u, rfl, rx⟩ := vals1 r
  cases rx
  obtain ⟨its, r', pl, hz⟩ := I.list hq
  have hlen := r'.length
  refine call_tuple_list pl.isList (fun h' kp => ?_) (by simp only [List.size_toArray] <;> omega)
  have I1 : Inv X pins σ H { s with heap := h' } := I.kept (t' := s.toks) kp
  have I2 : Inv X pins σ (upd H h'.objs.size (.frz { cls := .type "tuple", data := .seq its.toArray } (.tup ys))) { s with heap := h'.push { cls := .type "tuple", data := .seq its.toArray } } :=
    I1.laid (t' := s.toks) (fun b o e => Heap.get?_push_of_some _ e) (Nat.le_refl _) (show ObjOk X.prog X.w _ _ _ (.frz _ (.tup ys)) from ⟨Heap.get?_push_size _ rfl, hz, its, r', IsTup.new _ _⟩)
  have nl := I1.hok.fresh (Nat.le_refl _)
  exact ⟨.ref h'.objs.size, _, I2, rfl, q _ _ nl (same_upd nl) ⟨_, upd_same, rfl⟩ fun b n => upd_ne n⟩
def tTM (r : V → List V → Hp → VK → Prop) (to : TE) (t : TA) : TE := fun σ H Q => to σ H fun x H1 => (∃ p xs, x = .ref p ∧ Frz H1 p xs) ∧ t σ H1 fun xs H2 => r x xs H2 Q
theorem pe_tm {X : Cx} {o e : Expr} {es : List Expr} {to : TE} {t : TA} {name : Str} {apos cpos : Pos} {id : String} {r : V → List V → Hp → VK → Prop} (pa : PlainAttrs "tuple") (slot : Slot "tuple" name id) (hty : typeOf (.builtin id) = pure (.type "method_descriptor")) (hm : MtR X id r) (ho : PE X o to) (ha : PA X (e :: es) t)
    (hbase : attributeBase o name X.env (eval o X.env) = eval o X.env := by rfl)
    (hfew : ((backTo cpos (starEach (e :: es) X.env)).all (fun x => !x.1) && (backToKw cpos (keywordEach [] X.env)).all (fun x => x.1.isSome)
      && decide ((e :: es).length + ([] : List Keyword).length + (if ([] : List Keyword).isEmpty then 0 else 1) < 30)) = true := by rfl)
    (hline : (apos.endLine == cpos.line) = true := by rfl) (hs : starEach (e :: es) X.env = (false, eval e X.env) :: starEach es X.env := by rfl) (hplain : (backTo cpos (starEach es X.env)).any (·.1) = false := by rfl) :
    PE X (.Call (.Attribute o name apos) (e :: es) [] cpos) (tTM r to t) := by
  refine ⟨fun pins s σ H Q I h => ?_⟩
  refine wpAny_Call_method_late hbase hfew hline rfl (thn (ho.run pins s σ H _ I h) fun v s1 ⟨x, H1, I1, r1, ty, q1⟩ => ?_)
  obtain ⟨p, xs, rfl, ob, hp, hd⟩ := ty
  cases r1
  obtain ⟨hob, _, its, _, ⟨o2, ho2, hc2, _⟩⟩ := I1.hok _ _ hp
  have eo : o2 = ob := Option.some.inj (ho2.symm.trans hob)
  subst eo
  refine ⟨"tuple", id, pa, slot, hty, ⟨_, hob, hc2⟩, fun a ea => ?_, ?_⟩
  · cases ea
    exact ⟨_, hob, hd⟩
  have hA := ha.run cpos pins s1 σ H1 _ I1 q1
  rw [hs] at hA ⊢
  refine Calls.callWith_builtin (by show (false || (backTo cpos (starEach es X.env)).any (·.1)) = false; rw [hplain] <;> rfl) (Calls.evalArgs_plain ?_)
  exact thn hA fun us s2 ⟨vs, H2, I2, r2, q2⟩ => hm pins s2 σ H2 (.ref p) vs _ us Q I2 rfl r2 q2
/-! ### t.index(k), t a tuple of ints -/
theorem flat_ints (ys : List Int) : (ys.map V.int).all flatV = true := by
  rw [List.all_map]
  exact List.all_eq_true.mpr fun _ _ => rfl
def rTIndex (K : PySem.W.Frag) : V → List V → Hp → VK → Prop := fun x xs H Q => ∃ p, ∃ ys : List Int, ∃ z j, x = .ref p ∧ xs = [.int z] ∧ SqT K H p (ys.map V.int) ∧ ys[j]? = some z ∧ (∀ m, m < j → ys[m]? ≠ some z) ∧ Q (.int (j : Nat)) H
theorem mt_tindex {X : Cx} : MtR X "tuple.index" (rTIndex X.K) := by
  intro pins s σ H x xs v us Q I rx rs h
  obtain ⟨p, ys, z, j, rfl, rfl, hq, hy, hno, q⟩ := h
  cases rx
  obtain ⟨u, rfl, t, rfl⟩ := vals1 rs
  obtain ⟨its, r, pl, hz⟩ := I.tuple hq
  obtain ⟨⟨cls, dd, dt, sl⟩, ho, hc, n, hd⟩ := pl
  simp only at hc hd
  subst hc
  subst hd
  have hl : its.toArray.size = ys.length := by rw [List.size_toArray, ← r.length, List.length_map]
  have hj : j < its.toArray.size := by rw [hl]; exact (List.getElem?_eq_some_iff.mp hy).1
  have at' : ∀ (m : Nat) (hm : m < its.toArray.size), ∃ y t', ys[m]? = some y ∧ its.toArray[m] = Value.int y t' := fun m hm => by
    have hm' : m < ys.length := by rw [← hl]; exact hm
    obtain ⟨w, hw, t', hw'⟩ := r.get (i := m) (x := .int ys[m]) (by simp [hm'])
    refine ⟨ys[m], t', List.getElem?_eq_getElem hm', ?_⟩
    have e := (List.getElem?_eq_some_iff.mp hw).2
    rw [← hw', ← e]
    simp
  refine call_meets PySem.F.slot_tuple_index ⟨_, ho, rfl⟩ PySem.F.entry_tuple_index (PySem.F.args_tuple_index_2 _ _) (TI.tuple_indexAt p its.toArray n dd sl (.int z t) (eqU (.int z)) j hj ?_ ?_)
    ⟨ho, fun w hw => mem_eqAt (x := .int z) ⟨t, rfl⟩ rfl r (flat_ints ys) w (by simpa using hw), ⟨.int (j : Nat), H, I.tok _, ⟨_, rfl⟩, q⟩⟩
  · obtain ⟨y, t', h1, h2⟩ := at' j hj
    rw [hy] at h1
    cases h1
    rw [h2]
    show (z == z) = true
    exact beq_self_eq_true z
  · intro m hm hmj
    obtain ⟨y, t', h1, h2⟩ := at' m hm
    rw [h2]
    show (y == z) = false
    exact beq_eq_false_iff_ne.mpr fun e => hno m hmj (e ▸ h1)
/-! ### sorted(xs), xs a list of tuples of d ints from 0 to B, of any length -/
/-- the ints of a tuple that H tracks -/
def intsV (H : Hp) : V → List Int
  | .ref a => match H a with
    | some (.tup xs) => xs.filterMap fun v => match v with
      | .int i => some i
      | _ => none
    | _ => []
  | _ => []
theorem ints_fI (r : List Int) : ((fI r).filterMap fun v => match v with
      | V.int i => some i
      | _ => none) = r := by
  unfold fI
  induction r with
  | nil => rfl
  | cons x r ih => simp [ih]
theorem intsV_of {H : Hp} {a : Addr} {r : List Int} (h : H a = some (.tup (fI r))) : intsV H (.ref a) = r := by
  show (match H a with
    | some (.tup xs) => xs.filterMap fun v => match v with
      | V.int i => some i
      | _ => none
    | _ => []) = r
  rw [h]
  exact ints_fI r
abbrev ltC (B : Int) (k : V → List Int) (x y : V) : Bool := decide (TS.code B (k x) < TS.code B (k y))
theorem swoC {α : Type} (f : α → Int) : SrtO.Swo fun x y => decide (f x < f y) := by
  refine ⟨fun x y h => ?_, fun x y z h1 h2 => ?_⟩
  · have a := of_decide_eq_true h
    exact decide_eq_false (by omega)
  · have a := of_decide_eq_false h1
    have b := of_decide_eq_false h2
    exact decide_eq_false (by omega)
def rSortC (K : PySem.W.Frag) (B : Int) (d : Nat) : List V → Hp → VK → Prop := fun vs H Q => ∃ (a : Addr) (ps : List Addr) (rs : List (List Int)), vs = [V.ref a] ∧ SqL K H a (ps.map V.ref) ∧ Tups fI H ps rs ∧ (∀ r ∈ rs, r.length = d ∧ TS.Bd B r) ∧
  ∀ ps' rs' p, Tups fI H ps' rs' → rs'.Perm rs → rs'.Pairwise (fun x y => TS.code B x ≤ TS.code B y) → H p = none → Q (.ref p) (upd H p (.lst (ps'.map V.ref)))
theorem tups_of {H : Hp} : ∀ {ps : List Addr}, (∀ p ∈ ps, ∃ r, H p = some (.tup (fI r))) → Tups fI H ps (ps.map fun p => intsV H (.ref p))
  | [], _ => .nil
  | p :: ps, h => by
    obtain ⟨r, hr⟩ := h p List.mem_cons_self
    refine .cons ?_ (tups_of fun q hq => h q (List.mem_cons_of_mem _ hq))
    show H p = some (.tup (fI (intsV H (.ref p))))
    rw [intsV_of hr]
    exact hr
theorem Tups.ints {H : Hp} {ps : List Addr} {rs : List (List Int)} (h : Tups fI H ps rs) : rs = ps.map fun p => intsV H (.ref p) := by
  induction h with
  | nil => rfl
  | cons a _ ih => rw [List.map_cons, intsV_of a, ← ih]
theorem Tups.mem {α : Type} {f : α → List V} {H : Hp} {ps : List Addr} {rs : List α} (h : Tups f H ps rs) : ∀ p ∈ ps, ∃ r ∈ rs, H p = some (.tup (f r)) := by
  induction h with
  | nil => exact fun _ h => absurd h (by simp)
  | cons a _ ih =>
    intro p hp
    rcases List.mem_cons.mp hp with rfl | hp
    · exact ⟨_, List.mem_cons_self, a⟩
    · obtain ⟨r, hr, e⟩ := ih p hp
      exact ⟨r, List.mem_cons_of_mem _ hr, e⟩
theorem cr_sortC {X : Cx} {B : Int} {d : Nat} (hd : 1 ≤ d) : CallR X (.builtin "sorted") (rSortC X.K B d) := by
  intro pins s σ H vs us Q I r h
  obtain ⟨a, ps, rs, rfl, hs, tu, hb, q⟩ := h
  obtain ⟨its, rv, hl, hz⟩ := I.list hs
  obtain ⟨u, rfl, ru⟩ := vals1 r
  obtain rfl : u = Value.ref a := ru
  obtain ⟨e1, e2⟩ := refs_back rv fun x m => by
    obtain ⟨t, _, e⟩ := List.mem_map.mp m
    exact ⟨t, e.symm⟩
  have key : ∀ v ∈ its, ∃ p, v = Value.ref p ∧ p ∈ ps := fun v hv => by
    obtain ⟨t, rfl⟩ := e2 v hv
    have hm : V.ref t ∈ ps.map V.ref := by rw [e1]; exact List.mem_map.mpr ⟨_, hv, rfl⟩
    obtain ⟨p, hp, e⟩ := List.mem_map.mp hm
    cases e
    exact ⟨t, rfl, hp⟩
  have tin : ∀ v ∈ its, TS.TupInts s.heap v (intsV H (backV v)) ∧ (intsV H (backV v)).length = d ∧ TS.Bd B (intsV H (backV v)) := fun v hv => by
    obtain ⟨p, rfl, hp⟩ := key v hv
    obtain ⟨r, hr, ep⟩ := tu.mem p hp
    have ei : intsV H (backV (Value.ref p)) = r := intsV_of ep
    rw [ei]
    obtain ⟨its2, r2, pt, _⟩ := I.tuple (SqT.of ep)
    have hb' := hb r hr
    exact ⟨⟨p, its2.toArray, rfl, pt, intsAre_of r2⟩, hb'.1, hb'.2⟩
  refine SrtO.sorted_ord (ltv := fun v u => decide (TS.code B (intsV H (backV v)) < TS.code B (intsV H (backV u)))) (swoC fun v => TS.code B (intsV H (backV v))) hl.isList (by rw [← rv.length]; exact hz) (fun h2 h₁ a' ha' kk => ?_) fun out h1 h2 => ?_
  · intro h' keep
    have keep2 : ∀ b o, s.heap.get? b = some o → o.cls = .type "tuple" → h'.get? b = some o := fun b o e c => keep b o (kk b o e).1 (kk b o e).2
    have tin' : ∀ v ∈ its, TS.TupInts h' v (intsV H (backV v)) ∧ (intsV H (backV v)).length = d ∧ TS.Bd B (intsV H (backV v)) := fun v hv => let ⟨x, y, z⟩ := tin v hv; ⟨x.keeps keep2, y, z⟩
    obtain ⟨fs, k1, k2, k3⟩ := TS.firsts_of (h := h') (d := d) (B := B) hd its fun v hv => ⟨_, tin' v hv⟩
    refine ⟨tuples' true, fun Q E hq => ?_, ?_⟩
    · refine PySem.W.kat_kind (T := .type "int") k1 (by omega) (fun f hm => ?_) (by rfl) ?_
      · obtain ⟨x, t, rfl⟩ := k3 f hm
        exact PySem.W.Looks.now
      · have e : (Value.type "int" != Value.type "tuple") = true := by first | decide +kernel | rfl | decide
        rw [e]
        exact hq
    · intro p q hm hm'
      obtain ⟨⟨a1, xs, x1, ⟨o1, ho1, hc1, n1, hd1⟩, i1⟩, l1, b1⟩ := tin' _ hm
      obtain ⟨⟨a2, ys, x2, ⟨o2, ho2, hc2, n2, hd2⟩, i2⟩, l2, b2⟩ := tin' _ hm'
      show wpAny _ _ (keyLt' _ p.1 q.1) (fun r s' => s' = _ ∧ r = decide (TS.code B (intsV H (backV p.1)) < TS.code B (intsV H (backV q.1)))) (fun _ _ => False) _
      generalize intsV H (backV p.1) = ns at *
      generalize intsV H (backV q.1) = ms at *
      rw [x1, x2]
      refine PySem.W.kat_lt ho1 hd1 ho2 hd2 ?_
      have el : xs.size = ys.size := by
        have z1 := i1.length
        have z2 := i2.length
        simp at z1 z2
        omega
      rw [el, decide_eq_false (Nat.lt_irrefl _)]
      exact TS.lex_ints 0 i1 i2 (by omega) b1 b2 ⟨rfl, rfl⟩
  · obtain ⟨ep, he'⟩ := PyProof.Rows.sortedAll_at s.heap its out.toArray
    have h3 : ∀ u ∈ out, ∃ p, u = Value.ref p ∧ p ∈ ps := fun u hu => key u (h2.perm.mem_iff.mp hu)
    have eo : out.map backV = (out.map fun u => match u with
      | Value.ref a => a
      | _ => 0).map V.ref := by
      rw [List.map_map]
      refine List.map_congr_left fun u hu => ?_
      obtain ⟨p, rfl, _⟩ := h3 u hu
      rfl
    have hp : (out.map backV).Perm (ps.map V.ref) := by
      rw [e1]
      exact h2.perm.map backV
    have hlen : (out.map backV).length ≤ sizeLine := by
      rw [hp.length_eq]
      exact hz
    generalize eps : (out.map fun u => match u with
      | Value.ref a => a
      | _ => 0) = ps' at eo
    have pp : ps'.Perm ps := by
      rw [eo] at hp
      have z := hp.map fun v => match v with
        | V.ref a => a
        | _ => 0
      rw [List.map_map, List.map_map] at z
      have id1 : ∀ l : List Addr, l.map ((fun v => match v with
        | V.ref a => a
        | _ => 0) ∘ V.ref) = l := fun l => by
        induction l with
        | nil => rfl
        | cons x l ih => rw [List.map_cons, ih]; rfl
      rw [id1, id1] at z
      exact z
    have tu' : Tups fI H ps' (ps'.map fun p => intsV H (.ref p)) := tups_of fun p hp => by
      obtain ⟨r, _, e⟩ := tu.mem p (pp.mem_iff.mp hp)
      exact ⟨r, e⟩
    have pw : (ps'.map fun p => intsV H (.ref p)).Pairwise (fun x y => TS.code B x ≤ TS.code B y) := by
      have z : (out.map backV).Pairwise (fun x y => TS.code B (intsV H x) ≤ TS.code B (intsV H y)) := List.pairwise_map.mpr (h1.imp fun {x y} h => Int.not_lt.mp (of_decide_eq_false h))
      rw [eo] at z
      rw [List.pairwise_map] at z ⊢
      exact z
    rw [eo] at hlen
    refine ⟨.ref _, upd H (s.heap.objs.size + 1) (.lst (ps'.map V.ref)), I.laid (t' := s.toks) (fun _ _ => PyProof.Rows.sortedAll_old) (Nat.le_succ _) ⟨hlen, out, ep, ?_, he'⟩, rfl, q ps' _ _ tu' ?_ pw (I.hok.fresh (Nat.le_succ _))⟩
    · rw [← eo]
      exact vals_back fun u hu => by
        obtain ⟨p, e, _⟩ := h3 u hu
        exact ⟨p, e⟩
    · rw [tu.ints]
      exact pp.map _
/-- there is just one such list -/
theorem code_inj {B : Int} : ∀ {d : Nat} {x y : List Int}, x.length = d → y.length = d → TS.Bd B x → TS.Bd B y → TS.code B x = TS.code B y → x = y
  | _, [], [], _, _, _, _, _ => rfl
  | _, [], _ :: _, h1, h2, _, _, _ => by
    subst h1
    cases h2
  | _, _ :: _, [], h1, h2, _, _, _ => by
    subst h2
    cases h1
  | _, a :: x, b :: y, h1, h2, b1, b2, e => by
    have hl : x.length = y.length := by
      rw [List.length_cons] at h1 h2
      omega
    rcases Int.lt_trichotomy a b with z | z | z
    · have := TS.code_lt hl b1.tail b2.tail z
      omega
    · subst z
      have e' : TS.code B x = TS.code B y := by
        have n1 := (TS.code_same (B := B) (d := a) hl).symm
        have n2 := (TS.code_same (B := B) (d := a) hl.symm).symm
        have k1 : ¬ TS.code B x < TS.code B y := fun z => by
          have := n1.mp z
          omega
        have k2 : ¬ TS.code B y < TS.code B x := fun z => by
          have := n2.mp z
          omega
        omega
      rw [code_inj (d := x.length) rfl hl.symm b1.tail b2.tail e']
    · have := TS.code_lt hl.symm b2.tail b1.tail z
      omega
theorem sorted_uniq {B : Int} {d : Nat} : ∀ {l m : List (List Int)}, l.Perm m → (∀ r ∈ m, r.length = d ∧ TS.Bd B r) → l.Pairwise (fun x y => TS.code B x ≤ TS.code B y) → m.Pairwise (fun x y => TS.code B x ≤ TS.code B y) → l = m
  | [], m, p, _, _, _ => (List.nil_perm.mp p).symm
  | x :: l, [], p, _, _, _ => absurd p.length_eq (by simp)
  | x :: l, y :: m, p, hb, a, b => by
    have a' := List.pairwise_cons.mp a
    have b' := List.pairwise_cons.mp b
    have hx : x ∈ y :: m := p.mem_iff.mp List.mem_cons_self
    have hy : y ∈ x :: l := p.mem_iff.mpr List.mem_cons_self
    have e1 : TS.code B x ≤ TS.code B y := by
      rcases List.mem_cons.mp hy with e | h
      · rw [e]
        exact Int.le_refl _
      · exact a'.1 y h
    have e2 : TS.code B y ≤ TS.code B x := by
      rcases List.mem_cons.mp hx with e | h
      · rw [e]
        exact Int.le_refl _
      · exact b'.1 x h
    have e : x = y := code_inj (hb x hx).1 (hb y List.mem_cons_self).1 (hb x hx).2 (hb y List.mem_cons_self).2 (Int.le_antisymm e1 e2)
    subst e
    rw [sorted_uniq (List.Perm.cons_inv p) (fun r hr => hb r (List.mem_cons_of_mem _ hr)) a'.2 b'.2]
end My

/-! ### the mathematics of reach -/
namespace Rch
def ins (x : Int) : List Int → List Int
  | [] => [x]
  | y :: r => if x ≤ y then x :: y :: r else y :: ins x r
def isort : List Int → List Int
  | [] => []
  | x :: r => ins x (isort r)
theorem ins_perm (x : Int) : ∀ l : List Int, (ins x l).Perm (x :: l)
  | [] => .refl _
  | y :: r => by
    unfold ins
    split
    · exact .refl _
    · exact ((ins_perm x r).cons y).trans (.swap x y r)
theorem isort_perm : ∀ l : List Int, (isort l).Perm l
  | [] => .refl _
  | x :: r => (ins_perm x (isort r)).trans ((isort_perm r).cons x)
theorem ins_sorted (x : Int) : ∀ l : List Int, l.Pairwise (· ≤ ·) → (ins x l).Pairwise (· ≤ ·)
  | [], _ => List.pairwise_singleton _ _
  | y :: r, h => by
    unfold ins
    have h' := List.pairwise_cons.mp h
    split
    · next hx =>
      refine List.pairwise_cons.mpr ⟨fun z hz => ?_, h⟩
      rcases List.mem_cons.mp hz with e | hz
      · subst e
        exact hx
      · exact Int.le_trans hx (h'.1 z hz)
    · next hx =>
      refine List.pairwise_cons.mpr ⟨fun z hz => ?_, ins_sorted x r h'.2⟩
      rcases List.mem_cons.mp ((ins_perm x r).mem_iff.mp hz) with e | hz
      · subst e
        omega
      · exact h'.1 z hz
theorem isort_sorted : ∀ l : List Int, (isort l).Pairwise (· ≤ ·)
  | [] => .nil
  | x :: r => ins_sorted x _ (isort_sorted r)
theorem uniq : ∀ {l m : List Int}, l.Perm m → l.Pairwise (· ≤ ·) → m.Pairwise (· ≤ ·) → l = m
  | [], m, p, _, _ => (List.nil_perm.mp p).symm
  | x :: l, [], p, _, _ => absurd p.length_eq (by simp)
  | x :: l, y :: m, p, a, b => by
    have a' := List.pairwise_cons.mp a
    have b' := List.pairwise_cons.mp b
    have e : x = y := by
      have h1 : x ∈ y :: m := p.mem_iff.mp List.mem_cons_self
      have h2 : y ∈ x :: l := p.mem_iff.mpr List.mem_cons_self
      rcases List.mem_cons.mp h1 with e | h1
      · exact e
      · rcases List.mem_cons.mp h2 with e | h2
        · exact e.symm
        · exact Int.le_antisymm (a'.1 y h2) (b'.1 x h1)
    subst e
    rw [uniq (List.Perm.cons_inv p) a'.2 b'.2]
theorem isort_of {l m : List Int} (p : m.Perm l) (h : m.Pairwise (· ≤ ·)) : m = isort l := uniq (p.trans (isort_perm l).symm) h (isort_sorted l)
def greedy : Int → List Int → Int
  | T, [] => T
  | T, l :: r => if l > T + 1 then T else greedy (T + l) r
def reachOf (ns : List Int) : Int := greedy 0 (isort ns)
theorem greedy_ge : ∀ (ls : List Int) (T : Int), (∀ x ∈ ls, 0 ≤ x) → T ≤ greedy T ls
  | [], T, _ => Int.le_refl _
  | l :: r, T, h => by
    unfold greedy
    have h0 := h l List.mem_cons_self
    split
    · exact Int.le_refl _
    · have := greedy_ge r (T + l) fun x hx => h x (List.mem_cons_of_mem _ hx)
      omega
theorem greedy_le : ∀ (ls : List Int) (T : Int), (∀ x ∈ ls, 0 ≤ x ∧ x ≤ 40) → greedy T ls ≤ T + 40 * (ls.length : Int)
  | [], T, _ => by
    show T ≤ T + 40 * ((0 : Nat) : Int)
    omega
  | l :: r, T, h => by
    unfold greedy
    have h0 := h l List.mem_cons_self
    rw [List.length_cons]
    split
    · omega
    · have := greedy_le r (T + l) fun x hx => h x (List.mem_cons_of_mem _ hx)
      omega
def Good (ns : List Int) : Prop := 1 ≤ ns.length ∧ ns.length ≤ 8 ∧ ∀ n ∈ ns, 1 ≤ n ∧ n ≤ 40
theorem Good.perm {l m : List Int} (g : Good l) (p : m.Perm l) : Good m := ⟨by rw [p.length_eq]; exact g.1, by rw [p.length_eq]; exact g.2.1, fun n h => g.2.2 n (p.mem_iff.mp h)⟩
theorem isort_congr {l m : List Int} (p : m.Perm l) : isort m = isort l := uniq (((isort_perm m).trans p).trans (isort_perm l).symm) (isort_sorted m) (isort_sorted l)
theorem reach_perm {l m : List Int} (p : m.Perm l) : reachOf m = reachOf l := by
  unfold reachOf
  rw [isort_congr p]
theorem reach_bd {ns : List Int} (g : Good ns) : 0 ≤ reachOf ns ∧ reachOf ns ≤ 320 := by
  have g' := g.perm (isort_perm ns)
  have h1 := greedy_ge (isort ns) 0 fun x hx => by have := g'.2.2 x hx; omega
  have h2 := greedy_le (isort ns) 0 fun x hx => by have := g'.2.2 x hx; omega
  have h3 := g'.2.1
  refine ⟨h1, ?_⟩
  show greedy 0 (isort ns) ≤ 320
  omega
/-- n is a sum of some of ls, and of a number from 0 to T -/
def reps (T : Int) : List Int → Int → Prop
  | [], n => 0 ≤ n ∧ n ≤ T
  | l :: r, n => reps T r n ∨ reps T r (n - l)
theorem reps_perm {T : Int} {l m : List Int} (p : l.Perm m) : ∀ n, reps T l n ↔ reps T m n := by
  induction p with
  | nil => exact fun _ => Iff.rfl
  | cons x _ ih =>
    intro n
    show (reps T _ n ∨ reps T _ (n - x)) ↔ (reps T _ n ∨ reps T _ (n - x))
    rw [ih n, ih (n - x)]
  | swap x y r =>
    intro n
    show ((reps T r n ∨ reps T r (n - x)) ∨ (reps T r (n - y) ∨ reps T r (n - y - x))) ↔ ((reps T r n ∨ reps T r (n - y)) ∨ (reps T r (n - x) ∨ reps T r (n - x - y)))
    rw [show n - y - x = n - x - y by omega]
    constructor
    · rintro ((a | a) | (a | a))
      · exact .inl (.inl a)
      · exact .inr (.inl a)
      · exact .inl (.inr a)
      · exact .inr (.inr a)
    · rintro ((a | a) | (a | a))
      · exact .inl (.inl a)
      · exact .inr (.inl a)
      · exact .inl (.inr a)
      · exact .inr (.inr a)
  | trans _ _ h1 h2 => exact fun n => (h1 n).trans (h2 n)
theorem reps_up {T l : Int} (h0 : 0 ≤ T) (h1 : 1 ≤ l) (h2 : l ≤ T + 1) : ∀ (r : List Int) (n : Int), reps (T + l) r n ↔ reps T (l :: r) n
  | [], n => by
    show (0 ≤ n ∧ n ≤ T + l) ↔ ((0 ≤ n ∧ n ≤ T) ∨ (0 ≤ n - l ∧ n - l ≤ T))
    omega
  | x :: r, n => by
    show (reps (T + l) r n ∨ reps (T + l) r (n - x)) ↔ _
    rw [reps_up h0 h1 h2 r n, reps_up h0 h1 h2 r (n - x)]
    exact (reps_perm (.swap l x r) n)
theorem reps_low {T : Int} : ∀ (ls : List Int) (n : Int), 0 ≤ n → n ≤ T → reps T ls n
  | [], n, a, b => ⟨a, b⟩
  | _ :: r, n, a, b => .inl (reps_low r n a b)
theorem reps_nonneg {T : Int} : ∀ (ls : List Int) (n : Int), (∀ x ∈ ls, 0 ≤ x) → reps T ls n → 0 ≤ n
  | [], n, _, h => h.1
  | l :: r, n, hp, h => by
    have h0 := hp l List.mem_cons_self
    have hr : ∀ x ∈ r, 0 ≤ x := fun x hx => hp x (List.mem_cons_of_mem _ hx)
    rcases h with h | h
    · exact reps_nonneg r n hr h
    · have := reps_nonneg r _ hr h
      omega
theorem reps_not {T : Int} (h0 : 0 ≤ T) : ∀ (ls : List Int) (n : Int), (∀ x ∈ ls, T + 1 < x) → n ≤ T + 1 → reps T ls n → n ≤ T
  | [], n, _, _, h => h.2
  | l :: r, n, hp, hn, h => by
    have hl := hp l List.mem_cons_self
    have hr : ∀ x ∈ r, T + 1 < x := fun x hx => hp x (List.mem_cons_of_mem _ hx)
    rcases h with h | h
    · exact reps_not h0 r n hr hn h
    · have := reps_nonneg r _ (fun x hx => by have := hr x hx; omega) h
      omega
theorem greedy_is : ∀ (ls : List Int) (T : Int), 0 ≤ T → (∀ x ∈ ls, 1 ≤ x) → ls.Pairwise (· ≤ ·) → (∀ n, 0 ≤ n → n ≤ greedy T ls → reps T ls n) ∧ ¬ reps T ls (greedy T ls + 1)
  | [], T, h0, _, _ => ⟨fun n a b => ⟨a, b⟩, fun h => by
    have := h.2
    unfold greedy at this
    omega⟩
  | l :: r, T, h0, hp, hs => by
    have hl := hp l List.mem_cons_self
    have hr : ∀ x ∈ r, 1 ≤ x := fun x hx => hp x (List.mem_cons_of_mem _ hx)
    have hs' := List.pairwise_cons.mp hs
    unfold greedy
    by_cases hc : l > T + 1
    · rw [if_pos hc]
      refine ⟨fun n a b => reps_low _ n a b, fun h => ?_⟩
      have := reps_not h0 (l :: r) (T + 1) (fun x hx => by
        rcases List.mem_cons.mp hx with e | hx
        · omega
        · have := hs'.1 x hx
          omega) (Int.le_refl _) h
      omega
    · rw [if_neg hc]
      have ih := greedy_is r (T + l) (by omega) hr hs'.2
      have up := reps_up h0 hl (by omega : l ≤ T + 1) r
      exact ⟨fun n a b => (up n).mp (ih.1 n a b), fun h => ih.2 ((up _).mpr h)⟩
theorem reach_is {ns : List Int} (g : Good ns) : (∀ n, 0 ≤ n → n ≤ reachOf ns → reps 0 ns n) ∧ ¬ reps 0 ns (reachOf ns + 1) := by
  have g' := g.perm (isort_perm ns)
  have k := greedy_is (isort ns) 0 (Int.le_refl _) (fun x hx => (g'.2.2 x hx).1) (isort_sorted ns)
  exact ⟨fun n a b => (reps_perm (isort_perm ns) n).mp (k.1 n a b), fun h => k.2 ((reps_perm (isort_perm ns) _).mpr h)⟩
/-! ### sums as bits -/
def sumsF (S : Nat) : List Int → Nat
  | [] => S
  | l :: r => sumsF (S ||| S * 2 ^ l.toNat) r
theorem bits_step {S : Nat} {ls : List Int} {l : Int} (hl : 0 ≤ l) (hp : ∀ x ∈ ls, 0 ≤ x) (h : ∀ n : Nat, S.testBit n = true ↔ reps 0 ls (n : Int)) (n : Nat) : (S ||| S * 2 ^ l.toNat).testBit n = true ↔ reps 0 (l :: ls) (n : Int) := by
  rw [← Nat.shiftLeft_eq, Nat.testBit_or, Nat.testBit_shiftLeft, Bool.or_eq_true, Bool.and_eq_true, decide_eq_true_eq, h n, h (n - l.toNat)]
  show _ ↔ (reps 0 ls (n : Int) ∨ reps 0 ls ((n : Int) - l))
  constructor
  · rintro (a | ⟨a, b⟩)
    · exact .inl a
    · refine .inr ?_
      rw [show (n : Int) - l = ((n - l.toNat : Nat) : Int) by omega]
      exact b
  · rintro (a | a)
    · exact .inl a
    · have := reps_nonneg ls _ hp a
      refine .inr ⟨by omega, ?_⟩
      rw [show ((n - l.toNat : Nat) : Int) = (n : Int) - l by omega]
      exact a
theorem bits_all : ∀ (ls acc : List Int) (S : Nat), (∀ x ∈ ls, 0 ≤ x) → (∀ x ∈ acc, 0 ≤ x) → (∀ n : Nat, S.testBit n = true ↔ reps 0 acc (n : Int)) → ∀ n : Nat, (sumsF S ls).testBit n = true ↔ reps 0 (ls.reverse ++ acc) (n : Int)
  | [], acc, S, _, _, h => h
  | l :: r, acc, S, hl, ha, h => by
    intro n
    rw [List.reverse_cons, List.append_assoc]
    exact bits_all r (l :: acc) _ (fun x hx => hl x (List.mem_cons_of_mem _ hx)) (fun x hx => by
      rcases List.mem_cons.mp hx with e | hx
      · subst e
        exact hl x List.mem_cons_self
      · exact ha x hx) (bits_step (hl l List.mem_cons_self) ha h) n
theorem bit_one (n : Nat) : (1 : Nat).testBit n = true ↔ reps 0 [] (n : Int) := by
  show _ ↔ (0 ≤ (n : Int) ∧ (n : Int) ≤ 0)
  cases n with
  | zero => exact ⟨fun _ => ⟨by decide, by decide⟩, fun _ => by decide⟩
  | succ n =>
    rw [Nat.testBit_succ, show 1 / 2 = 0 from rfl, Nat.zero_testBit]
    exact ⟨fun h => absurd h Bool.false_ne_true, fun h => by omega⟩
theorem sums_is {ns : List Int} (g : Good ns) (n : Nat) : (sumsF 1 ns).testBit n = true ↔ reps 0 ns (n : Int) := by
  rw [bits_all ns [] 1 (fun x hx => by have := g.2.2 x hx; omega) (fun _ h => by simp at h) bit_one n, List.append_nil]
  exact reps_perm (List.reverse_perm ns) n
/-- sums // (1 << n) % 2 -/
theorem bit_of (S n : Nat) : (((S : Nat) : Int) / (1 * 2 ^ ((n : Int).toNat))).fmod 2 = if S.testBit n then 1 else 0 := by
  rw [Int.toNat_natCast, Int.one_mul, Int.fmod_eq_emod_of_nonneg _ (by decide), show ((2 : Int) ^ n) = ((2 ^ n : Nat) : Int) by simp, ← Int.natCast_ediv, show ((2 : Int)) = ((2 : Nat) : Int) from rfl, ← Int.natCast_emod, Nat.testBit_eq_decide_div_mod_eq]
  rcases Nat.mod_two_eq_zero_or_one (S / 2 ^ n) with e | e
  · rw [e]; rfl
  · rw [e]; rfl
end Rch

/-! ### the mathematics of tables -/
namespace Tb
def len1 (ls : List Int) (k : Int) : Int := ls.getD k.toNat 0
def rsum (ls : List Int) (r : List Int) : Int := (r.map (len1 ls)).sum
def InR (ls r : List Int) : Prop := ∀ k ∈ r, 0 ≤ k ∧ k < (ls.length : Int)
def Right (ls : List Int) (rs : List (List Int)) : Prop := Rch.Good ls ∧ 1 ≤ rs.length ∧ rs.length ≤ 60 ∧ ∀ (i : Nat) (r : List Int), rs[i]? = some r → InR ls r ∧ r.length ≤ 60 ∧ rsum ls r = (i : Int) + 1
theorem len_at {ls : List Int} {k : Int} (h0 : 0 ≤ k) (h1 : k < (ls.length : Int)) : ls[k.toNat]? = some (len1 ls k) := by
  have h : k.toNat < ls.length := by omega
  unfold len1
  rw [List.getD_eq_getElem?_getD, List.getElem?_eq_getElem h]
  rfl
theorem len_pos {ls : List Int} (g : Rch.Good ls) {k : Int} (h0 : 0 ≤ k) (h1 : k < (ls.length : Int)) : 1 ≤ len1 ls k ∧ len1 ls k ≤ 40 := g.2.2 _ (List.mem_of_getElem? (len_at h0 h1))
theorem rsum_cons (ls : List Int) (k : Int) (r : List Int) : rsum ls (k :: r) = len1 ls k + rsum ls r := by
  unfold rsum
  rw [List.map_cons, List.sum_cons]
theorem rsum_snoc (ls : List Int) (r : List Int) (k : Int) : rsum ls (r ++ [k]) = rsum ls r + len1 ls k := by
  unfold rsum
  rw [List.map_append, List.sum_append]
  simp
theorem rsum_len {ls : List Int} (g : Rch.Good ls) : ∀ {r : List Int}, InR ls r → (r.length : Int) ≤ rsum ls r
  | [], _ => by simp [rsum]
  | k :: r, h => by
    have h1 := h k List.mem_cons_self
    have := (len_pos g h1.1 h1.2).1
    have ih := rsum_len g (r := r) fun x hx => h x (List.mem_cons_of_mem _ hx)
    rw [rsum_cons, List.length_cons]
    omega
/-- when gone, into which loop -/
def go (ls : List Int) : Int → List Int → List (Int × Int)
  | _, [] => []
  | g, k :: r => (g, k) :: go ls (g + len1 ls k) r
theorem go_len (ls : List Int) : ∀ (r : List Int) (g : Int), (go ls g r).length = r.length
  | [], _ => rfl
  | k :: r, g => by
    show (go ls (g + len1 ls k) r).length + 1 = r.length + 1
    rw [go_len ls r]
theorem go_take (ls : List Int) : ∀ (r : List Int) (g : Int) (j : Nat), (go ls g r)[j]? = (r[j]?).map fun k => (g + rsum ls (r.take j), k)
  | [], g, j => by simp [go]
  | k :: r, g, 0 => by
    show some (g, k) = some (g + rsum ls [], k)
    simp [rsum]
  | k :: r, g, j + 1 => by
    show (go ls (g + len1 ls k) r)[j]? = (r[j]?).map fun x => (g + rsum ls (k :: r.take j), x)
    rw [go_take ls r, rsum_cons]
    congr 1
    funext x
    rw [Int.add_assoc]
theorem go_snd (ls : List Int) : ∀ (r : List Int) (g : Int), (go ls g r).map (·.2) = r
  | [], _ => rfl
  | k :: r, g => by
    show k :: (go ls (g + len1 ls k) r).map (·.2) = k :: r
    rw [go_snd ls r]
theorem go_rng {ls : List Int} (G : Rch.Good ls) : ∀ (r : List Int) (g : Int), InR ls r → ∀ p ∈ go ls g r, g ≤ p.1 ∧ p.1 < g + rsum ls r ∧ 0 ≤ p.2 ∧ p.2 < (ls.length : Int)
  | [], _, _, p, hp => absurd hp (by simp [go])
  | k :: r, g, h, p, hp => by
    have hk := h k List.mem_cons_self
    have l1 := (len_pos G hk.1 hk.2).1
    have hr : InR ls r := fun x hx => h x (List.mem_cons_of_mem _ hx)
    have n0 := rsum_len G hr
    rw [rsum_cons]
    rcases List.mem_cons.mp hp with e | hp
    · rw [e]
      show g ≤ g ∧ g < _ ∧ 0 ≤ k ∧ k < _
      omega
    · have := go_rng G r _ hr p hp
      omega
theorem go_up {ls : List Int} (G : Rch.Good ls) : ∀ (r : List Int) (g : Int), InR ls r → (go ls g r).Pairwise fun p q => p.1 < q.1
  | [], _, _ => .nil
  | k :: r, g, h => by
    have hk := h k List.mem_cons_self
    have l1 := (len_pos G hk.1 hk.2).1
    have hr : InR ls r := fun x hx => h x (List.mem_cons_of_mem _ hx)
    refine List.pairwise_cons.mpr ⟨fun q hq => ?_, go_up G r _ hr⟩
    have := go_rng G r _ hr q hq
    show g < q.1
    omega
/-- loop, gone, left -/
def ent (w : Int) (p : Int × Int) : List Int := [p.2, p.1, w - p.1]
def ents (ls : List Int) (w : Int) (r : List Int) : List (List Int) := (go ls 0 r).map (ent w)
def all (ls : List Int) (rs : List (List Int)) : Nat → List (List Int)
  | 0 => []
  | i + 1 => all ls rs i ++ ents ls ((i : Int) + 1) (rs.getD i [])
theorem ents_len (ls : List Int) (w : Int) (r : List Int) : (ents ls w r).length = r.length := by
  unfold ents
  rw [List.length_map, go_len]
theorem getD_row {rs : List (List Int)} {i : Nat} {r : List Int} (h : rs[i]? = some r) : rs.getD i [] = r := by
  rw [List.getD_eq_getElem?_getD, h]
  rfl
theorem all_wait {ls : List Int} {rs : List (List Int)} : ∀ (i : Nat) (e : List Int), e ∈ all ls rs i → ∃ k g w : Int, e = [k, g, w - g] ∧ 1 ≤ w ∧ w ≤ i
  | 0, e, h => absurd h (by simp [all])
  | i + 1, e, h => by
    rcases List.mem_append.mp h with h | h
    · obtain ⟨k, g, w, e1, h1, h2⟩ := all_wait i e h
      exact ⟨k, g, w, e1, h1, by omega⟩
    · obtain ⟨p, _, rfl⟩ := List.mem_map.mp h
      exact ⟨p.2, p.1, (i : Int) + 1, rfl, by omega, by omega⟩
/-- each new one is new -/
theorem new_one {ls : List Int} {rs : List (List Int)} {r : List Int} (G : Rch.Good ls) (hr : InR ls r) {i j : Nat} {p : Int × Int} (hj : (go ls 0 r)[j]? = some p) : ent ((i : Int) + 1) p ∉ all ls rs i ++ ((go ls 0 r).take j).map (ent ((i : Int) + 1)) := by
  intro h
  rcases List.mem_append.mp h with h | h
  · obtain ⟨k, g, w, e, h1, h2⟩ := all_wait i _ h
    unfold ent at e
    have e1 : p.1 = g := by
      have := congrArg (fun z : List Int => z.getD 1 0) e
      exact this
    have e2 : (i : Int) + 1 - p.1 = w - g := by
      have := congrArg (fun z : List Int => z.getD 2 0) e
      exact this
    omega
  · obtain ⟨q, hq, e⟩ := List.mem_map.mp h
    have e1 : q.1 = p.1 := by
      have := congrArg (fun z : List Int => z.getD 1 0) e
      exact this
    obtain ⟨m, hm⟩ := List.mem_iff_getElem?.mp hq
    rw [List.getElem?_take] at hm
    split at hm
    · next hlt =>
      have pw := List.pairwise_iff_getElem.mp (go_up G r 0 hr)
      obtain ⟨hm', em⟩ := List.getElem?_eq_some_iff.mp hm
      obtain ⟨hj', ej⟩ := List.getElem?_eq_some_iff.mp hj
      have := pw m j hm' hj' hlt
      rw [em, ej] at this
      omega
    · cases hm
theorem ents_bd {ls : List Int} {r : List Int} {w : Int} (G : Rch.Good ls) (hr : InR ls r) (hw : rsum ls r = w) (h60 : w ≤ 60) : ∀ e ∈ ents ls w r, e.length = 3 ∧ TS.Bd 1000 e := by
  intro e he
  obtain ⟨p, hp, rfl⟩ := List.mem_map.mp he
  have h := go_rng G r 0 hr p hp
  have g1 := G.2.1
  refine ⟨rfl, fun m hm => ?_⟩
  unfold ent at hm
  simp only [List.mem_cons, List.not_mem_nil, or_false] at hm
  rcases hm with e | e | e <;> subst e <;> omega
theorem all_bd {ls : List Int} {rs : List (List Int)} (R : Right ls rs) : ∀ i, i ≤ rs.length → ∀ e ∈ all ls rs i, e.length = 3 ∧ TS.Bd 1000 e
  | 0, _, e, he => absurd he (by simp [all])
  | i + 1, hi, e, he => by
    rcases List.mem_append.mp he with he | he
    · exact all_bd R i (by omega) e he
    · have hr : rs[i]? = some rs[i] := List.getElem?_eq_getElem (by omega)
      rw [getD_row hr] at he
      obtain ⟨a, b, c⟩ := R.2.2.2 i _ hr
      have := R.2.2.1
      exact ents_bd R.1 a c (by omega) e he
theorem all_len {ls : List Int} {rs : List (List Int)} (R : Right ls rs) : ∀ i, i ≤ rs.length → (all ls rs i).length ≤ 60 * i
  | 0, _ => Nat.le_refl _
  | i + 1, hi => by
    have ih := all_len R i (by omega)
    have hr : rs[i]? = some rs[i] := List.getElem?_eq_getElem (by omega)
    obtain ⟨a, b, c⟩ := R.2.2.2 i _ hr
    show (all ls rs i ++ ents ls ((i : Int) + 1) (rs.getD i [])).length ≤ _
    rw [List.length_append, ents_len, getD_row hr]
    omega
/-- the entries of one wait, when gone ahead -/
def ofWait (w : Int) (e : List Int) : Bool := (e.getD 1 0 + e.getD 2 0) == w
def swap (e : List Int) : List Int := [e.getD 1 0, e.getD 0 0]
def sel (w : Int) (es : List (List Int)) : List (List Int) := (es.filter (ofWait w)).map swap
theorem sel_append (w : Int) (a b : List (List Int)) : sel w (a ++ b) = sel w a ++ sel w b := by
  unfold sel
  rw [List.filter_append, List.map_append]
def gl (ls r : List Int) : List (List Int) := (go ls 0 r).map fun p => [p.1, p.2]
theorem sel_yes (ls : List Int) (w : Int) (r : List Int) : sel w (ents ls w r) = gl ls r := by
  unfold sel ents gl
  rw [List.filter_eq_self.mpr, List.map_map]
  · rfl
  · intro e he
    obtain ⟨p, _, rfl⟩ := List.mem_map.mp he
    show ((p.1 + (w - p.1)) == w) = true
    rw [beq_iff_eq]
    omega
theorem sel_no {ls : List Int} {w v : Int} (r : List Int) (h : v ≠ w) : sel w (ents ls v r) = [] := by
  unfold sel ents
  rw [List.filter_eq_nil_iff.mpr, List.map_nil]
  intro e he
  obtain ⟨p, _, rfl⟩ := List.mem_map.mp he
  show ¬ ((p.1 + (v - p.1)) == w) = true
  rw [beq_iff_eq]
  omega
theorem sel_all {ls : List Int} {rs : List (List Int)} (m : Nat) : ∀ i, sel ((m : Int) + 1) (all ls rs i) = if m < i then gl ls (rs.getD m []) else []
  | 0 => by
    rw [if_neg (by omega)]
    rfl
  | i + 1 => by
    show sel _ (all ls rs i ++ ents ls ((i : Int) + 1) (rs.getD i [])) = _
    rw [sel_append, sel_all m i]
    by_cases h : m < i
    · rw [if_pos h, if_pos (by omega), sel_no _ (by omega), List.append_nil]
    · rw [if_neg h, List.nil_append]
      by_cases h2 : m = i
      · subst h2
        rw [if_pos (by omega), sel_yes]
      · rw [if_neg (by omega), sel_no _ (by omega)]
theorem gl_bd {ls : List Int} {r : List Int} (G : Rch.Good ls) (hr : InR ls r) (h60 : rsum ls r ≤ 60) : ∀ e ∈ gl ls r, e.length = 2 ∧ TS.Bd 1000 e := by
  intro e he
  obtain ⟨p, hp, rfl⟩ := List.mem_map.mp he
  have h := go_rng G r 0 hr p hp
  have g1 := G.2.1
  refine ⟨rfl, fun m hm => ?_⟩
  simp only [List.mem_cons, List.not_mem_nil, or_false] at hm
  rcases hm with e | e <;> subst e <;> omega
theorem gl_sorted {ls : List Int} {r : List Int} (G : Rch.Good ls) (hr : InR ls r) (h60 : rsum ls r ≤ 60) : (gl ls r).Pairwise fun x y => TS.code 1000 x ≤ TS.code 1000 y := by
  unfold gl
  rw [List.pairwise_map]
  refine (List.pairwise_iff_getElem.mpr fun i j hi hj hij => ?_)
  have pw := List.pairwise_iff_getElem.mp (go_up G r 0 hr) i j hi hj hij
  have b1 := go_rng G r 0 hr _ (List.getElem_mem hi)
  have b2 := go_rng G r 0 hr _ (List.getElem_mem hj)
  have g1 := G.2.1
  show (go ls 0 r)[i].1 * 1000 ^ 1 + ((go ls 0 r)[i].2 * 1000 ^ 0 + 0) ≤ (go ls 0 r)[j].1 * 1000 ^ 1 + ((go ls 0 r)[j].2 * 1000 ^ 0 + 0)
  omega
theorem sel_perm {w : Int} {a b : List (List Int)} (p : a.Perm b) : (sel w a).Perm (sel w b) := (p.filter _).map _
theorem gl_snd (ls r : List Int) : (gl ls r).map (fun e => e.getD 1 0) = r := by
  unfold gl
  rw [List.map_map]
  exact go_snd ls r 0
end Tb

/-! ### the mathematics of the line -/
namespace Ln
/-- tick, turn, wait -/
abbrev Let := Int × Int × Option Int
def step (b τ u : Int) (s : List Let × Int) : List Let × Int := if s.2 > b then (s.1 ++ [(τ, u, none)], s.2) else (s.1 ++ [(τ, u, some s.2)], s.2 + 1)
def turns (b τ : Int) : Nat → List Let × Int → List Let × Int
  | 0, s => s
  | k + 1, s => step b τ (1 + (k : Int)) (turns b τ k s)
def close (c : Int) : Int := if c > 0 then c - 1 else c
def pre (b : Int) (cs : List Int) : Nat → List Let × Int
  | 0 => ([], 0)
  | i + 1 => ((turns b (i : Int) (cs.getD i 0).toNat (pre b cs i)).1, close (turns b (i : Int) (cs.getD i 0).toNat (pre b cs i)).2)
def letts (b : Int) (cs : List Int) : List Let := (pre b cs cs.length).1
def behind (b : Int) (cs : List Int) : Nat → List Int
  | 0 => []
  | i + 1 => behind b cs i ++ [(pre b cs (i + 1)).2]
theorem step_len (b τ u : Int) (s : List Let × Int) : (step b τ u s).1.length = s.1.length + 1 := by
  unfold step
  split <;> simp
theorem turns_len (b τ : Int) : ∀ (k : Nat) (s : List Let × Int), (turns b τ k s).1.length = s.1.length + k
  | 0, _ => rfl
  | k + 1, s => by
    unfold turns
    rw [step_len, turns_len b τ k s, Nat.add_assoc]
theorem turns_rng {b τ : Int} : ∀ (k : Nat) (s : List Let × Int), 0 ≤ s.2 → s.2 ≤ b + 1 → 0 ≤ (turns b τ k s).2 ∧ (turns b τ k s).2 ≤ b + 1
  | 0, s, h0, h1 => ⟨h0, h1⟩
  | k + 1, s, h0, h1 => by
    have ih := turns_rng (τ := τ) k s h0 h1
    unfold turns step
    split
    · exact ih
    · show 0 ≤ (turns b τ k s).2 + 1 ∧ (turns b τ k s).2 + 1 ≤ b + 1
      omega
theorem close_rng {b c : Int} (hb : 0 ≤ b) (h0 : 0 ≤ c) (h1 : c ≤ b + 1) : 0 ≤ close c ∧ close c ≤ b := by
  unfold close
  split <;> omega
theorem pre_rng {b : Int} (hb : 0 ≤ b) (cs : List Int) : ∀ i, 0 ≤ (pre b cs i).2 ∧ (pre b cs i).2 ≤ b
  | 0 => ⟨Int.le_refl _, hb⟩
  | i + 1 => by
    have ih := pre_rng hb cs i
    have t := turns_rng (b := b) (τ := (i : Int)) (cs.getD i 0).toNat (pre b cs i) ih.1 (by omega)
    unfold pre
    exact close_rng hb t.1 t.2
theorem pre_len {b : Int} {cs : List Int} (hc : ∀ c ∈ cs, c ≤ 4) : ∀ i, (pre b cs i).1.length ≤ 4 * i
  | 0 => Nat.le_refl _
  | i + 1 => by
    have ih := pre_len (b := b) hc i
    unfold pre
    rw [turns_len]
    have : cs.getD i 0 ≤ 4 := by
      rw [List.getD_eq_getElem?_getD]
      cases h : cs[i]? with
      | none => decide
      | some c => exact hc c (List.mem_of_getElem? h)
    omega
theorem behind_len (b : Int) (cs : List Int) : ∀ i, (behind b cs i).length = i
  | 0 => rfl
  | i + 1 => by
    unfold behind
    rw [List.length_append, behind_len b cs i]
    rfl
theorem getD_of {cs : List Int} {i : Nat} {c : Int} (h : cs[i]? = some c) : cs.getD i 0 = c := by
  rw [List.getD_eq_getElem?_getD, h]
  rfl
/-! pairs of who goes out when -/
def one (l : Let) (n : Int) : List (Int × Int) := match l.2.2 with
  | none => []
  | some w => [(l.1 + w, n)]
def outsFrom : Int → List Let → List (Int × Int)
  | _, [] => []
  | n, l :: r => one l n ++ outsFrom (n + 1) r
theorem outs_snoc : ∀ (L : List Let) (n : Int) (l : Let), outsFrom n (L ++ [l]) = outsFrom n L ++ one l (n + (L.length : Int))
  | [], n, l => by
    show one l n ++ [] = [] ++ one l (n + ((0 : Nat) : Int))
    rw [List.append_nil, List.nil_append]
    congr 1
    omega
  | x :: L, n, l => by
    show one x n ++ outsFrom (n + 1) (L ++ [l]) = (one x n ++ outsFrom (n + 1) L) ++ one l _
    rw [outs_snoc L (n + 1) l, List.append_assoc]
    congr 3
    rw [List.length_cons]
    omega
theorem one_len (l : Let) (n : Int) : (one l n).length ≤ 1 := by
  unfold one
  split <;> simp
theorem outs_len : ∀ (L : List Let) (n : Int), (outsFrom n L).length ≤ L.length
  | [], _ => Nat.le_refl _
  | l :: r, n => by
    show (one l n ++ outsFrom (n + 1) r).length ≤ r.length + 1
    have := outs_len r (n + 1)
    have := one_len l n
    rw [List.length_append]
    omega
def qp : Int → List Int → List (Int × Int)
  | _, [] => []
  | τ, n :: r => (τ, n) :: qp (τ + 1) r
theorem qp_snoc : ∀ (q : List Int) (τ n : Int), qp τ (q ++ [n]) = qp τ q ++ [(τ + (q.length : Int), n)]
  | [], τ, n => by
    show [(τ, n)] = [(τ + ((0 : Nat) : Int), n)]
    rw [show τ + ((0 : Nat) : Int) = τ by omega]
  | x :: q, τ, n => by
    show (τ, x) :: qp (τ + 1) (q ++ [n]) = (τ, x) :: (qp (τ + 1) q ++ [_])
    rw [qp_snoc q (τ + 1) n, List.length_cons]
    congr 4
    omega
/-- a queue of the law's own line, by the letters that came -/
def Led (τ : Int) (s : List Let × Int) (q : List Int) (prs : List (Int × Int)) : Prop := (q.length : Int) = s.2 ∧ prs ++ qp τ q = outsFrom 0 s.1
theorem Led.no {b τ u : Int} {s : List Let × Int} {q : List Int} {prs} (h : Led τ s q prs) (hb : s.2 > b) : Led τ (step b τ u s) q prs ∧ step b τ u s = (s.1 ++ [(τ, u, none)], s.2) := by
  have e : step b τ u s = (s.1 ++ [(τ, u, none)], s.2) := by
    unfold step
    rw [if_pos hb]
  refine ⟨?_, e⟩
  rw [e]
  refine ⟨h.1, ?_⟩
  rw [outs_snoc, ← h.2]
  show _ = _ ++ []
  rw [List.append_nil]
theorem Led.yes {b τ u : Int} {s : List Let × Int} {q : List Int} {prs} (h : Led τ s q prs) (hb : ¬ s.2 > b) : Led τ (step b τ u s) (q ++ [(s.1.length : Int)]) prs ∧ step b τ u s = (s.1 ++ [(τ, u, some s.2)], s.2 + 1) := by
  have e : step b τ u s = (s.1 ++ [(τ, u, some s.2)], s.2 + 1) := by
    unfold step
    rw [if_neg hb]
  refine ⟨?_, e⟩
  rw [e]
  refine ⟨?_, ?_⟩
  · rw [List.length_append]
    show ((q.length + 1 : Nat) : Int) = s.2 + 1
    have := h.1
    omega
  · show _ = outsFrom 0 (s.1 ++ [(τ, u, some s.2)])
    rw [outs_snoc, ← h.2, qp_snoc, ← List.append_assoc, h.1]
    show _ = _ ++ [(τ + s.2, (0 : Int) + (s.1.length : Int))]
    rw [Int.zero_add]
/-- each one goes out in its time -/
def Due (τ : Int) (L : List Let) (q : List Int) (prs : List (Int × Int)) : Prop := prs ++ qp τ q = outsFrom 0 L
theorem Due.pop {τ : Int} {L : List Let} {x : Int} {q : List Int} {prs} (h : Due τ L (x :: q) prs) : Due (τ + 1) L q (prs ++ [(τ, x)]) := by
  unfold Due at *
  rw [← h, List.append_assoc]
  rfl
theorem Due.nil {τ τ' : Int} {L : List Let} {prs} (h : Due τ L [] prs) : Due τ' L [] prs := h
theorem ticks_turns (b τ : Int) : ∀ (k : Nat) (s : List Let × Int), (turns b τ k s).1.map (·.1) = s.1.map (·.1) ++ List.replicate k τ
  | 0, s => by simp [turns]
  | k + 1, s => by
    have ih := ticks_turns b τ k s
    have e : (step b τ (1 + (k : Int)) (turns b τ k s)).1.map (·.1) = (turns b τ k s).1.map (·.1) ++ [τ] := by
      unfold step
      split <;> simp
    unfold turns
    rw [e, ih, List.append_assoc, List.replicate_succ']
def ticksOf (cs : List Int) : Nat → List Int
  | 0 => []
  | i + 1 => ticksOf cs i ++ List.replicate (cs.getD i 0).toNat (i : Int)
theorem ticks_are (b : Int) (cs : List Int) : ∀ i, (pre b cs i).1.map (·.1) = ticksOf cs i
  | 0 => rfl
  | i + 1 => by
    show (turns b (i : Int) (cs.getD i 0).toNat (pre b cs i)).1.map (·.1) = ticksOf cs i ++ _
    rw [ticks_turns, ticks_are b cs i]
theorem ticks_len {cs : List Int} (hc : ∀ c ∈ cs, c ≤ 4) (i : Nat) : (ticksOf cs i).length ≤ 4 * i := by
  rw [← ticks_are 0 cs i, List.length_map]
  exact pre_len hc i
theorem getD_past {cs : List Int} {i : Nat} (h : cs.length ≤ i) : cs.getD i 0 = 0 := by
  rw [List.getD_eq_getElem?_getD, List.getElem?_eq_none h]
  rfl
theorem pre_past {b : Int} (hb : 0 ≤ b) (cs : List Int) : ∀ d : Nat, (pre b cs (cs.length + d)).1 = letts b cs ∧ ((pre b cs (cs.length + d)).2 ≤ b - d ∨ (pre b cs (cs.length + d)).2 ≤ 0)
  | 0 => ⟨rfl, .inl (by
    have := (pre_rng hb cs cs.length).2
    show (pre b cs cs.length).2 ≤ b - ((0 : Nat) : Int)
    omega)⟩
  | d + 1 => by
    have ih := pre_past hb cs d
    have e : turns b ((cs.length + d : Nat) : Int) (cs.getD (cs.length + d) 0).toNat (pre b cs (cs.length + d)) = pre b cs (cs.length + d) := by
      rw [getD_past (by omega)]
      rfl
    have e1 : (pre b cs (cs.length + (d + 1))).1 = (turns b ((cs.length + d : Nat) : Int) (cs.getD (cs.length + d) 0).toNat (pre b cs (cs.length + d))).1 := rfl
    have e2 : (pre b cs (cs.length + (d + 1))).2 = close (turns b ((cs.length + d : Nat) : Int) (cs.getD (cs.length + d) 0).toNat (pre b cs (cs.length + d))).2 := rfl
    rw [e] at e1 e2
    refine ⟨e1.trans ih.1, ?_⟩
    rw [e2]
    unfold close
    have := ih.2
    split <;> omega
end Ln

/-! ## sum(t), t a tuple of ints -/
namespace My
open PySem PySem.Spec PyProof.Rows L2
section
variable {prog : Program} {w : World} {A : Around} {E : Value → Shared → Prop} {s : Shared} {l : Addr} {xs : Array (Int × Tok)}
theorem sum_tupG {Q : Value → Shared → Prop} (hh : A.handled = none) (hl : s.heap.IsTuple l (intItems xs))
    (h : ∀ h' tk t', (∀ b o, s.heap.get? b = some o → h'.get? b = some o) → Q (.int (preSum (numAt xs) xs.size) t') { s with heap := h', toks := tk }) :
    wpAny (model prog w) A (call (.builtin "sum") [.ref l]) Q E s := by
  have hll : l < s.heap.objs.size := by obtain ⟨_, q, _⟩ := hl; exact Heap.lt_size q
  refine call_sum_walkG (wpAny_pyIter_tuple hl ?_)
  refine ⟨_, _, _, _, _, _, numAt xs, rfl, Walks.tuple (A := A.in1) hh s.heap.objs.size l (Nat.ne_of_lt hll) (intItems xs), ⟨⟨_, Heap.get?_push_size _ rfl, rfl, rfl⟩, hl.push _⟩, fun b hb => ?_, (fun _ _ => intItems_at), fun h' tk t' hk => ?_⟩
  · show b < (s.heap.push _).objs.size
    rw [Heap.size_push]
    rcases List.mem_cons.mp hb with rfl | hb
    · exact Nat.lt_succ_self _
    · rw [List.mem_singleton.mp hb]
      exact Nat.lt_succ_of_lt hll
  · have := h h' tk t' fun b o e => hk b o (fun hm => by
      rw [List.mem_singleton.mp hm] at e
      exact absurd (Heap.lt_size e) (Nat.lt_irrefl _)) (Heap.get?_push_of_some _ e)
    simpa [intItems] using this
end
def rSumT (K : PySem.W.Frag) : List V → Hp → VK → Prop := fun vs H Q => ∃ (a : Addr) (ns : List Int), vs = [V.ref a] ∧ SqT K H a (ns.map V.int) ∧ Q (.int ns.sum) H
theorem cr_sumT {X : Cx} (hc : X.calm = true) : CallR X (.builtin "sum") (rSumT X.K) := by
  intro pins s σ H vs us Q I r h
  obtain ⟨a, ns, rfl, hs, q⟩ := h
  obtain ⟨its, rv, hl, _⟩ := I.tuple hs
  rw [Vals.ref1 r]
  have hi := rv.ints
  obtain ⟨xs, e⟩ := hi.allInts.items
  have hn : numsOf (intItems xs).toList = ns := by rw [← e]; exact hi.numsOf
  rw [nums_intItems] at hn
  have hl' : s.heap.IsTuple a (intItems xs) := by
    rw [← e]
    exact hl
  refine sum_tupG (I.ok.hd hc) hl' fun h' tk t' hk => ?_
  rw [preSum_eq, List.take_of_length_le (by simp), hn]
  exact ⟨.int _, H, I.kept hk, ⟨_, rfl⟩, q⟩
/-! ### t + u, both tracked, t not empty -/
def rCatP : R2 := fun x y H Q => ∃ a b xs ys, x = .ref a ∧ y = .ref b ∧ H a = some (.tup xs) ∧ H b = some (.tup ys) ∧ xs ≠ [] ∧ xs.length + ys.length ≤ sizeLine ∧ ∀ p H', Same H H' → H' p = some (.tup (xs ++ ys)) → Q (.ref p) H'
theorem op_catP {X : Cx} : OpR X (binaryOp .Add) rCatP := by
  intro pins s σ H x y v u Q I rx ry h
  obtain ⟨a, b, xs, ys, rfl, rfl, ha, hb, hne, hz, q⟩ := h
  refine op_catA pins s σ H _ _ v u Q I rx ry ⟨a, b, xs, ys, rfl, rfl, SqT.of ha, SqT.of hb, hz, fun e => absurd e hne, fun _ e => ?_, fun _ _ p np => ?_⟩
  · subst e
    refine q a H (fun _ _ h => h) ?_
    rw [List.append_nil]
    exact ha
  · exact q p _ (same_upd np) upd_same
/-! ### xs[i] read where it is changed -/
theorem pgetL {X : Cx} : PGet X (rIxL X.K) := by
  intro pins s σ H o i ov iv Q I r1 r2 h
  obtain ⟨p, xs, k, z, rfl, rfl, hq, he, q⟩ := h
  cases r1
  obtain ⟨t, rfl⟩ := r2
  obtain ⟨its, r, pl, hz⟩ := I.list hq
  obtain ⟨j, h1, h2, h3, h4, h5⟩ := atI_get he
  obtain ⟨w, ew, rw'⟩ := r.get h2
  have hl := r.length
  have hn := line63
  have fin : EP X pins σ Q w s := ⟨z, H, I, rw', q⟩
  by_cases h0 : 0 ≤ k
  · have hj : k.toNat = j := by
      rw [PySem.seqIndex_of h0 h5] at h1
      exact Option.some.inj h1
    exact wpAny_getItem_list pl.isList h0 (by omega) (by rw [hj]; simpa using ew) fin
  · have hj : (k + (its.toArray.size : Int)).toNat = j := by
      rw [PySem.seqIndex_neg (by omega) h4] at h1
      rw [List.size_toArray, ← hl]
      exact Option.some.inj h1
    exact wpAny_mono (wpAny_getItem_list_neg (Q := fun r s' => r = w ∧ EP X pins σ Q r s') pl.isList (by omega) (by rw [List.size_toArray] <;> omega) (by omega) (by rw [hj]; simpa using ew) ⟨rfl, fin⟩) (fun _ _ h => h.2) fun _ _ h => h
/-! ### zip of two lists, the second one not longer -/
theorem for_zipS {K : PySem.W.Frag} {a b : Addr} {xs ys : List V} {g : TG} {tb : TS} {D : Ends} {σ : L2.St} {H : Hp} (hl : ys.length ≤ xs.length) (Pv : Nat → L2.St → Hp → Prop) (h0 : Pv 0 σ H) (hq : ∀ i σ H, Pv i σ H → SqL K H a xs ∧ SqL K H b ys)
    (hs : ∀ (i : Nat) (x y : V) (T : Addr) (σ : L2.St) (H : Hp), xs[i]? = some x → ys[i]? = some y → Pv i σ H → H T = none → g (.ref T) σ (upd H T (.tup [x, y])) fun σ2 H2 => tb { D with nx := Pv (i + 1), ct := Pv (i + 1), bk := D.nx } σ2 H2) (hd : ∀ σ H, Pv ys.length σ H → D.nx σ H) :
    ∃ W : Nat → Nat → L2.St → Hp → Prop, (∃ m, W 0 m σ H) ∧ ∀ i m σ H, W i m σ H →
      ((Itz K a b).stop i H ∧ D.nx σ H) ∨ ((Itz K a b).go i H ∧ ∃ N : L2.St → Hp → Prop, (∀ σ' H', N σ' H' → ∃ m', m' < m ∧ W (i + 1) m' σ' H') ∧ ∀ v H', (Itz K a b).yld i H v H' → g v σ H' fun σ2 H2 => tb { D with nx := N, ct := N, bk := D.nx } σ2 H2) := by
  refine ⟨fun i m σ H => m = ys.length - i ∧ i ≤ ys.length ∧ Pv i σ H, ⟨ys.length, rfl, Nat.zero_le _, h0⟩, ?_⟩
  rintro i m σ H ⟨rfl, hi, p⟩
  obtain ⟨qx, qy⟩ := hq i σ H p
  by_cases h : i < ys.length
  · have hx : xs[i]? = some xs[i] := List.getElem?_eq_getElem (by omega)
    have hy : ys[i]? = some ys[i] := List.getElem?_eq_getElem h
    refine .inr ⟨⟨xs, ys, _, _, qx, qy, hx, hy⟩, Pv (i + 1), fun σ' H' n => ⟨ys.length - (i + 1), by omega, rfl, by omega, n⟩, ?_⟩
    rintro v H' ⟨T, x, y, rfl, nT, rfl, ex, ey⟩
    exact hs i x y T σ H (ex xs qx) (ey ys qy) p nT
  · have e : i = ys.length := by omega
    subst e
    exact .inl ⟨⟨xs, ys, qx, qy, .inr (Nat.le_refl _)⟩, hd σ H p⟩
/-! ### what stays while the tape moves -/
theorem Moved.sq {K : PySem.W.Frag} {t s : Addr} {H H' : Hp} {a : Addr} {xs : List V} (mv : Moved t H H') (tp : Tape H t s) (h : SqT K H a xs) : SqT K H' a xs := by
  obtain ⟨_, _, _, _, _, _, e2, _⟩ := tp
  rcases h with (h | ⟨o, h⟩) | h
  · exact .inl (.inl (mv _ _ (fun z => by rw [z, e2] at h; cases h) h))
  · exact .inl (.inr ⟨o, mv _ _ (fun z => by rw [z, e2] at h; cases h) h⟩)
  · exact .inr h
theorem Moved.tups {α : Type} {f : α → List V} {t s : Addr} {H H' : Hp} {ps : List Addr} {xs : List α} (mv : Moved t H H') (tp : Tape H t s) (h : Tups f H ps xs) : Tups f H' ps xs := h.keep fun b ys e => by
  obtain ⟨_, _, _, _, _, _, e2, _⟩ := tp
  exact mv _ _ (fun z => by rw [z, e2] at e; cases e) e
end My

/-! ### the mathematics of walks -/
namespace Wk
open Ln (Let)
abbrev Spt := Int × Int
def Spot (k b : Int) (s : Spt) : Prop := 0 ≤ s.1 ∧ s.1 ≤ b ∧ 1 ≤ s.2 ∧ s.2 ≤ k ∧ s.2 - 1 ≤ s.1
def Nx (k b : Int) (s o : Spt) : Prop := Spot k b o ∧ (o = (s.1 + 1, s.2 + 1) ∨ (o.2 = 1 ∧ o.1 ≤ s.1))
/-- each one is next to the one ahead of it -/
def Chain (k b : Int) : Spt → List Spt → Prop
  | _, [] => True
  | s, o :: r => Nx k b s o ∧ Chain k b o r
def Walk (k b : Int) : List Spt → Prop
  | [] => False
  | s :: r => Spot k b s ∧ s.2 = 1 ∧ Chain k b s r
def incL : List Int → List Int
  | [] => []
  | [x] => [x + 1]
  | x :: y :: r => x :: incL (y :: r)
def grow (cs : List Int) (s o : Spt) : List Int := if o.2 > 1 then incL cs else cs ++ (List.replicate (s.1 - o.1).toNat 0 ++ [1])
def cfGo : List Int → Spt → List Spt → List Int
  | cs, _, [] => cs
  | cs, s, o :: r => cfGo (grow cs s o) o r
def start (w : Int) : List Int := List.replicate w.toNat 2 ++ [1]
def cf : List Spt → List Int
  | [] => []
  | s :: r => cfGo (start s.1) s r
theorem incL_snoc (cs : List Int) (x : Int) : incL (cs ++ [x]) = cs ++ [x + 1] := by
  induction cs with
  | nil => rfl
  | cons a cs ih =>
    cases cs with
    | nil => rfl
    | cons b cs => exact congrArg (a :: ·) ih
theorem pre_congr {b : Int} {cs ds : List Int} : ∀ i : Nat, (∀ j, j < i → cs.getD j 0 = ds.getD j 0) → Ln.pre b cs i = Ln.pre b ds i
  | 0, _ => rfl
  | i + 1, h => by
    have ih := pre_congr (b := b) i fun j hj => h j (by omega)
    unfold Ln.pre
    rw [ih, h i (by omega)]
theorem getD_left {cs : List Int} (ds : List Int) {j : Nat} (h : j < cs.length) : (cs ++ ds).getD j 0 = cs.getD j 0 := by
  rw [List.getD_eq_getElem?_getD, List.getD_eq_getElem?_getD, List.getElem?_append_left h]
/-- the line while the last tick's letters have come -/
structure Now (b : Int) (cs : List Int) (row : List Spt) (w : Int) (n : Nat) (s : Spt) : Prop where
  ex : ∃ (ds : List Int) (L0 : List Let), cs = ds ++ [(n : Int)] ∧ (Ln.turns b (ds.length : Int) n (Ln.pre b ds ds.length)).1 = L0 ∧ (Ln.turns b (ds.length : Int) n (Ln.pre b ds ds.length)).2 = s.1 + 1 ∧
    L0.length = 2 * w.toNat + row.length ∧ (L0.drop (2 * w.toNat)).map (fun l => (l.2.2, l.2.1)) = row.map (fun p => (some p.1, p.2)) ∧ ∀ l ∈ L0, l.2.2 ≠ none
  nn : (n : Int) = s.2
theorem drop_snoc {α : Type} {l : List α} {n : Nat} (x : α) (h : n ≤ l.length) : (l ++ [x]).drop n = l.drop n ++ [x] := by
  rw [List.drop_append_of_le_length h]
theorem twos {b : Int} : ∀ (m : Nat) (ds : List Int), (m : Int) ≤ b → ds = List.replicate m 2 → (Ln.pre b ds m).2 = (m : Int) ∧ (Ln.pre b ds m).1.length = 2 * m ∧ ∀ l ∈ (Ln.pre b ds m).1, l.2.2 ≠ none
  | 0, ds, _, _ => ⟨rfl, rfl, fun l h => by simp [Ln.pre] at h⟩
  | m + 1, ds, hm, hd => by
    have hg : ds.getD m 0 = 2 := by
      rw [hd, List.getD_eq_getElem?_getD, List.getElem?_replicate, if_pos (by omega)]
      rfl
    have ec : Ln.pre b ds m = Ln.pre b (List.replicate m 2) m := pre_congr m fun j hj => by
      rw [hd, List.getD_eq_getElem?_getD, List.getD_eq_getElem?_getD, List.getElem?_replicate, List.getElem?_replicate, if_pos (by omega), if_pos (by omega)]
    obtain ⟨a, c, d⟩ := twos (b := b) m (List.replicate m 2) (by omega) rfl
    rw [← ec] at a c d
    have e2 : (2 : Int).toNat = 2 := rfl
    have t : Ln.turns b (m : Int) 2 (Ln.pre b ds m) = ((Ln.pre b ds m).1 ++ [((m : Int), 1 + ((0 : Nat) : Int), some (m : Int))] ++ [((m : Int), 1 + ((1 : Nat) : Int), some ((m : Int) + 1))], (m : Int) + 1 + 1) := by
      show Ln.step b (m : Int) (1 + ((1 : Nat) : Int)) (Ln.step b (m : Int) (1 + ((0 : Nat) : Int)) (Ln.pre b ds m)) = _
      have s1 : Ln.step b (m : Int) (1 + ((0 : Nat) : Int)) (Ln.pre b ds m) = ((Ln.pre b ds m).1 ++ [((m : Int), 1 + ((0 : Nat) : Int), some (m : Int))], (m : Int) + 1) := by
        unfold Ln.step
        rw [if_neg (by omega), a]
      rw [s1]
      unfold Ln.step
      rw [if_neg (by show ¬ (m : Int) + 1 > b; omega)]
    have e : Ln.pre b ds (m + 1) = ((Ln.turns b (m : Int) (ds.getD m 0).toNat (Ln.pre b ds m)).1, Ln.close (Ln.turns b (m : Int) (ds.getD m 0).toNat (Ln.pre b ds m)).2) := rfl
    rw [hg, e2, t] at e
    rw [e]
    refine ⟨?_, ?_, fun l hl => ?_⟩
    · show Ln.close ((m : Int) + 1 + 1) = _
      unfold Ln.close
      rw [if_pos (by omega)]
      omega
    · show ((Ln.pre b ds m).1 ++ [_] ++ [_]).length = _
      rw [List.length_append, List.length_append, c]
      show 2 * m + 1 + 1 = _
      omega
    · rcases List.mem_append.mp hl with hl | hl
      · rcases List.mem_append.mp hl with hl | hl
        · exact d l hl
        · rw [List.mem_singleton.mp hl]
          exact fun z => by cases z
      · rw [List.mem_singleton.mp hl]
        exact fun z => by cases z
theorem now_start {b k : Int} {s : Spt} (hs : Spot k b s) (h1 : s.2 = 1) : Now b (start s.1) [s] s.1 1 s := by
  have hw : ((s.1.toNat : Nat) : Int) = s.1 := by have := hs.1; omega
  have hl : (List.replicate s.1.toNat (2 : Int)).length = s.1.toNat := List.length_replicate
  obtain ⟨a, c, d⟩ := twos (b := b) s.1.toNat (List.replicate s.1.toNat 2) (by rw [hw]; exact hs.2.1) rfl
  have t : Ln.turns b (s.1.toNat : Int) 1 (Ln.pre b (List.replicate s.1.toNat 2) s.1.toNat) = ((Ln.pre b (List.replicate s.1.toNat 2) s.1.toNat).1 ++ [((s.1.toNat : Int), 1 + ((0 : Nat) : Int), some s.1)], s.1 + 1) := by
    show Ln.step b _ (1 + ((0 : Nat) : Int)) (Ln.pre b (List.replicate s.1.toNat 2) s.1.toNat) = _
    unfold Ln.step
    rw [if_neg (by rw [a, hw]; have := hs.2.1; omega), a, hw]
  refine ⟨⟨List.replicate s.1.toNat 2, _, rfl, rfl, ?_, ?_, ?_, ?_⟩, by rw [h1]; rfl⟩
  all_goals rw [hl, t]
  · rw [List.length_append, c]
    rfl
  · show (((Ln.pre b (List.replicate s.1.toNat 2) s.1.toNat).1 ++ [_]).drop (2 * s.1.toNat)).map _ = _
    rw [drop_snoc _ (by rw [c]; exact Nat.le_refl _), List.drop_of_length_le (by rw [c]; exact Nat.le_refl _)]
    show [(some s.1, 1 + ((0 : Nat) : Int))] = [(some s.1, s.2)]
    rw [h1]
    rfl
  · intro l hl'
    rcases List.mem_append.mp hl' with hl' | hl'
    · exact d l hl'
    · rw [List.mem_singleton.mp hl']
      exact fun z => by cases z
/-- ticks at which nobody comes -/
theorem zeros {b : Int} (ds : List Int) : ∀ (m : Nat) (es : List Int), es = ds ++ List.replicate m 0 → (m : Int) ≤ (Ln.pre b ds ds.length).2 → (Ln.pre b es (ds.length + m)).1 = (Ln.pre b ds ds.length).1 ∧ (Ln.pre b es (ds.length + m)).2 = (Ln.pre b ds ds.length).2 - m
  | 0, es, he, _ => by
    have : Ln.pre b es ds.length = Ln.pre b ds ds.length := pre_congr _ fun j hj => by
      rw [he]
      exact getD_left _ hj
    rw [Nat.add_zero, this]
    exact ⟨rfl, by omega⟩
  | m + 1, es, he, hm => by
    obtain ⟨x, y⟩ := zeros (b := b) ds m (ds ++ List.replicate m 0) rfl (by omega)
    have ec : Ln.pre b es (ds.length + m) = Ln.pre b (ds ++ List.replicate m 0) (ds.length + m) := pre_congr _ fun j hj => by
      have e1 : es = (ds ++ List.replicate m 0) ++ [0] := by
        rw [he, List.append_assoc, List.replicate_succ']
      rw [e1]
      exact getD_left _ (by rw [List.length_append, List.length_replicate]; exact hj)
    have hg : es.getD (ds.length + m) 0 = 0 := by
      rw [he, List.getD_eq_getElem?_getD, List.getElem?_append_right (by omega), Nat.add_sub_cancel_left, List.getElem?_replicate, if_pos (by omega)]
      rfl
    have e : Ln.pre b es (ds.length + (m + 1)) = ((Ln.turns b ((ds.length + m : Nat) : Int) (es.getD (ds.length + m) 0).toNat (Ln.pre b es (ds.length + m))).1, Ln.close (Ln.turns b ((ds.length + m : Nat) : Int) (es.getD (ds.length + m) 0).toNat (Ln.pre b es (ds.length + m))).2) := rfl
    rw [hg] at e
    have e' : Ln.pre b es (ds.length + (m + 1)) = ((Ln.pre b es (ds.length + m)).1, Ln.close (Ln.pre b es (ds.length + m)).2) := e
    rw [e', ec]
    refine ⟨x, ?_⟩
    show Ln.close (Ln.pre b (ds ++ List.replicate m 0) (ds.length + m)).2 = _
    rw [y]
    unfold Ln.close
    rw [if_pos (by omega)]
    omega
theorem now_grow {b k : Int} {cs : List Int} {row : List Spt} {w : Int} {n : Nat} {s o : Spt} (h : Now b cs row w n s) (hs : Spot k b s) (hn : Nx k b s o) : ∃ n', Now b (grow cs s o) (row ++ [o]) w n' o := by
  obtain ⟨⟨ds, L0, hcs, hL, hl, hlen, hmap, hnone⟩, nn⟩ := h
  have hs0 := hs.1
  have ho := hn.1
  have hdrop : 2 * w.toNat ≤ L0.length := by omega
  unfold grow
  rcases hn.2 with e | ⟨e1, e2⟩
  · have o1 : o.1 = s.1 + 1 := by rw [e]
    have o2 : o.2 = s.2 + 1 := by rw [e]
    have ob := ho.2.1
    rw [if_pos (by have := hs.2.2.1; omega)]
    have t : Ln.turns b (ds.length : Int) (n + 1) (Ln.pre b ds ds.length) = (L0 ++ [((ds.length : Int), 1 + (n : Int), some (s.1 + 1))], s.1 + 1 + 1) := by
      show Ln.step b _ (1 + (n : Int)) (Ln.turns b (ds.length : Int) n (Ln.pre b ds ds.length)) = _
      unfold Ln.step
      rw [if_neg (by omega), hL, hl]
    refine ⟨n + 1, ⟨ds, _, ?_, rfl, ?_, ?_, ?_, ?_⟩, by omega⟩
    · rw [hcs, incL_snoc]
      rfl
    all_goals rw [t]
    · show s.1 + 1 + 1 = o.1 + 1
      omega
    · rw [List.length_append, List.length_append, hlen]
      rfl
    · rw [drop_snoc _ hdrop, List.map_append, hmap, List.map_append]
      show _ ++ [(some (s.1 + 1), 1 + (n : Int))] = _ ++ [(some o.1, o.2)]
      rw [o1, o2, nn, Int.add_comm 1 s.2]
    · intro l h
      rcases List.mem_append.mp h with h | h
      · exact hnone l h
      · rw [List.mem_singleton.mp h]
        exact fun z => by cases z
  · have ob := ho.2.1
    have oz := ho.1
    rw [if_neg (by omega)]
    obtain ⟨m, hm⟩ : ∃ m : Nat, (s.1 - o.1).toNat = m := ⟨_, rfl⟩
    have hm' : (m : Int) = s.1 - o.1 := by omega
    rw [hm]
    -- behind the last tick
    have hcl : cs.length = ds.length + 1 := by rw [hcs, List.length_append]; rfl
    have hg : cs.getD ds.length 0 = (n : Int) := by
      rw [hcs, List.getD_eq_getElem?_getD, List.getElem?_append_right (Nat.le_refl _), Nat.sub_self]
      rfl
    have ec : Ln.pre b cs ds.length = Ln.pre b ds ds.length := pre_congr _ fun j hj => by
      rw [hcs]
      exact getD_left _ hj
    have ep : Ln.pre b cs cs.length = (L0, s.1) := by
      rw [hcl]
      show ((Ln.turns b (ds.length : Int) (cs.getD ds.length 0).toNat (Ln.pre b cs ds.length)).1, Ln.close (Ln.turns b (ds.length : Int) (cs.getD ds.length 0).toNat (Ln.pre b cs ds.length)).2) = _
      rw [hg, ec, Int.toNat_natCast, hL, hl]
      unfold Ln.close
      rw [if_pos (by omega), show s.1 + 1 - 1 = s.1 by omega]
    obtain ⟨z1, z2⟩ := zeros (b := b) cs m (cs ++ List.replicate m 0) rfl (by rw [ep]; show (m : Int) ≤ s.1; omega)
    rw [ep] at z1 z2
    have el : (cs ++ List.replicate m 0).length = cs.length + m := by rw [List.length_append, List.length_replicate]
    have t : Ln.turns b ((cs ++ List.replicate m (0 : Int)).length : Int) 1 (Ln.pre b (cs ++ List.replicate m 0) (cs ++ List.replicate m (0 : Int)).length) = (L0 ++ [(((cs ++ List.replicate m (0 : Int)).length : Int), 1 + ((0 : Nat) : Int), some o.1)], o.1 + 1) := by
      show Ln.step b _ (1 + ((0 : Nat) : Int)) (Ln.pre b (cs ++ List.replicate m 0) (cs ++ List.replicate m (0 : Int)).length) = _
      rw [el]
      unfold Ln.step
      have zz : (Ln.pre b (cs ++ List.replicate m 0) (cs.length + m)).2 = o.1 := by
        rw [z2]
        show s.1 - (m : Int) = o.1
        omega
      rw [if_neg (by rw [zz]; omega), zz, z1]
    refine ⟨1, ⟨cs ++ List.replicate m 0, _, by rw [List.append_assoc]; rfl, rfl, ?_, ?_, ?_, ?_⟩, by rw [e1]; rfl⟩
    all_goals rw [t]
    · have e9 : ∀ x : Let, (L0 ++ [x]).length = L0.length + 1 := fun x => List.length_append
      rw [e9, hlen, List.length_append]
      rfl
    · rw [drop_snoc _ hdrop, List.map_append, hmap, List.map_append]
      show _ ++ [(some o.1, 1 + ((0 : Nat) : Int))] = _ ++ [(some o.1, o.2)]
      rw [e1]
      rfl
    · intro l h
      rcases List.mem_append.mp h with h | h
      · exact hnone l h
      · rw [List.mem_singleton.mp h]
        exact fun z => by cases z
theorem now_all {b k : Int} : ∀ (r : List Spt) (cs : List Int) (row : List Spt) (w : Int) (n : Nat) (s : Spt), Now b cs row w n s → Spot k b s → Chain k b s r → ∃ n' s', Now b (cfGo cs s r) (row ++ r) w n' s'
  | [], cs, row, w, n, s, h, _, _ => by
    rw [List.append_nil]
    exact ⟨n, s, h⟩
  | o :: r, cs, row, w, n, s, h, hs, hc => by
    obtain ⟨n', h'⟩ := now_grow h hs hc.1
    have := now_all r _ _ w n' o h' hc.1.1 hc.2
    rw [List.append_assoc] at this
    exact this
theorem cf_is {b k : Int} {row : List Spt} (h : Walk k b row) : (Ln.letts b (cf row)).length = 2 * (row.headD (0, 0)).1.toNat + row.length ∧ ((Ln.letts b (cf row)).drop (2 * (row.headD (0, 0)).1.toNat)).map (fun l => (l.2.2, l.2.1)) = row.map (fun p => (some p.1, p.2)) ∧ ∀ l ∈ Ln.letts b (cf row), l.2.2 ≠ none := by
  cases row with
  | nil => exact False.elim h
  | cons s r =>
    obtain ⟨hs, h1, hc⟩ := h
    obtain ⟨n', s', ⟨⟨ds, L0, hcs, hL, hl, hlen, hmap, hnone⟩, nn⟩⟩ := now_all r _ _ _ 1 s (now_start hs h1) hs hc
    have hcl : (cf (s :: r)).length = ds.length + 1 := by
      show (cfGo (start s.1) s r).length = _
      rw [hcs, List.length_append]
      rfl
    have el : Ln.letts b (cf (s :: r)) = L0 := by
      unfold Ln.letts
      rw [hcl]
      show (Ln.turns b (ds.length : Int) ((cf (s :: r)).getD ds.length 0).toNat (Ln.pre b (cf (s :: r)) ds.length)).1 = L0
      have e0 : cf (s :: r) = ds ++ [(n' : Int)] := hcs
      have hg : (cf (s :: r)).getD ds.length 0 = (n' : Int) := by
        rw [e0, List.getD_eq_getElem?_getD, List.getElem?_append_right (Nat.le_refl _), Nat.sub_self]
        rfl
      have ec : Ln.pre b (cf (s :: r)) ds.length = Ln.pre b ds ds.length := pre_congr _ fun j hj => by
        rw [e0]
        exact getD_left _ hj
      rw [hg, ec, Int.toNat_natCast, hL]
    rw [el]
    exact ⟨hlen, hmap, hnone⟩
end Wk

/-! ### spots, nexts, the walk of a line, the size of comings -/
namespace Wk
open Ln (Let)
def rowN (i : Int) : Nat → List Spt
  | 0 => []
  | j + 1 => rowN i j ++ [(i, 1 + (j : Int))]
def spN (k : Nat) : Nat → List Spt
  | 0 => []
  | i + 1 => spN k i ++ rowN (i : Int) (min k (i + 1))
theorem rowN_len (i : Int) : ∀ j, (rowN i j).length = j
  | 0 => rfl
  | j + 1 => by
    show (rowN i j ++ [_]).length = _
    rw [List.length_append, rowN_len i j]
    rfl
theorem spN_len (k : Nat) : ∀ i, (spN k i).length ≤ k * i
  | 0 => Nat.zero_le _
  | i + 1 => by
    have ih := spN_len k i
    show (spN k i ++ rowN _ _).length ≤ _
    rw [List.length_append, rowN_len, Nat.mul_succ]
    have := Nat.min_le_left k (i + 1)
    omega
theorem rowN_mem {i : Int} : ∀ {j : Nat} {s : Spt}, s ∈ rowN i j → s.1 = i ∧ 1 ≤ s.2 ∧ s.2 ≤ j
  | 0, s, h => by simp [rowN] at h
  | j + 1, s, h => by
    rcases List.mem_append.mp (h : s ∈ rowN i j ++ [(i, 1 + (j : Int))]) with h | h
    · have := rowN_mem h
      omega
    · rw [List.mem_singleton.mp h]
      show i = i ∧ 1 ≤ 1 + (j : Int) ∧ 1 + (j : Int) ≤ ((j + 1 : Nat) : Int)
      omega
theorem spN_spot {k b : Nat} : ∀ {n : Nat} {s : Spt}, n ≤ b + 1 → s ∈ spN k n → Spot k b s
  | 0, s, _, h => by simp [spN] at h
  | i + 1, s, hn, h => by
    rcases List.mem_append.mp (h : s ∈ spN k i ++ rowN (i : Int) (min k (i + 1))) with h | h
    · exact spN_spot (by omega) h
    · obtain ⟨a, b1, c⟩ := rowN_mem h
      have m1 := Nat.min_le_left k (i + 1)
      have m2 := Nat.min_le_right k (i + 1)
      unfold Spot
      omega
def nxP (s o : Spt) : Bool := decide (o = (s.1 + 1, s.2 + 1)) || (decide (o.2 = 1) && decide (o.1 ≤ s.1))
def onesN : Nat → List Spt
  | 0 => []
  | i + 1 => onesN i ++ [((i : Int), 1)]
def nxL (k b : Int) (s : Spt) : List Spt := onesN (s.1 + 1).toNat ++ if s.1 + 1 ≤ b ∧ s.2 + 1 ≤ k then [(s.1 + 1, s.2 + 1)] else []
theorem onesN_len : ∀ i, (onesN i).length = i
  | 0 => rfl
  | i + 1 => by
    show (onesN i ++ [_]).length = _
    rw [List.length_append, onesN_len i]
    rfl
theorem onesN_mem : ∀ {n : Nat} {i : Nat}, i < n → ((i : Int), (1 : Int)) ∈ onesN n
  | 0, i, h => absurd h (Nat.not_lt_zero _)
  | n + 1, i, h => by
    show _ ∈ onesN n ++ [_]
    by_cases e : i = n
    · subst e
      exact List.mem_append_right _ (List.mem_singleton.mpr rfl)
    · exact List.mem_append_left _ (onesN_mem (by omega))
theorem nxL_mem {k b : Int} {s o : Spt} (h : Nx k b s o) : o ∈ nxL k b s := by
  obtain ⟨sp, h | ⟨h1, h2⟩⟩ := h
  · refine List.mem_append_right _ ?_
    unfold Spot at sp
    have e1 : o.1 = s.1 + 1 := by rw [h]
    have e2 : o.2 = s.2 + 1 := by rw [h]
    rw [if_pos (by omega), h]
    exact List.mem_singleton.mpr rfl
  · refine List.mem_append_left _ ?_
    unfold Spot at sp
    have := onesN_mem (n := (s.1 + 1).toNat) (i := o.1.toNat) (by omega)
    have e : o = ((o.1.toNat : Int), (1 : Int)) := Prod.ext (by show o.1 = ((o.1.toNat : Nat) : Int); omega) h1
    rw [e]
    exact this
theorem filt_low {s : Spt} {i : Int} (hs : 1 ≤ s.2) (h : i ≤ s.1) : ∀ j, (rowN i (j + 1)).filter (nxP s) = [(i, 1)]
  | 0 => by
    show [(i, 1 + ((0 : Nat) : Int))].filter _ = _
    have e : nxP s (i, 1 + ((0 : Nat) : Int)) = true := by
      unfold nxP
      rw [Bool.or_eq_true, Bool.and_eq_true, decide_eq_true_eq, decide_eq_true_eq, decide_eq_true_eq]
      exact .inr ⟨rfl, h⟩
    rw [List.filter_cons, e]
    rfl
  | j + 1 => by
    show (rowN i (j + 1) ++ [(i, 1 + ((j + 1 : Nat) : Int))]).filter _ = _
    have e : nxP s (i, 1 + ((j + 1 : Nat) : Int)) = false := by
      unfold nxP
      rw [Bool.or_eq_false_iff, Bool.and_eq_false_iff, decide_eq_false_iff_not, decide_eq_false_iff_not, decide_eq_false_iff_not]
      refine ⟨fun z => ?_, .inl fun z => ?_⟩
      · have := congrArg Prod.fst z
        simp only at this
        omega
      · simp only at z
        omega
    rw [List.filter_append, filt_low hs h j, List.filter_cons, e]
    rfl
theorem filt_at {s : Spt} (hs : 1 ≤ s.2) : ∀ j : Nat, (rowN (s.1 + 1) j).filter (nxP s) = if s.2 + 1 ≤ (j : Int) then [(s.1 + 1, s.2 + 1)] else []
  | 0 => by
    rw [if_neg (by omega)]
    rfl
  | j + 1 => by
    show (rowN (s.1 + 1) j ++ [(s.1 + 1, 1 + (j : Int))]).filter _ = _
    by_cases h : s.2 = (j : Int)
    · have e : nxP s (s.1 + 1, 1 + (j : Int)) = true := by
        unfold nxP
        rw [Bool.or_eq_true, decide_eq_true_eq]
        exact .inl (Prod.ext rfl (by show 1 + (j : Int) = s.2 + 1; omega))
      have e0 : [(s.1 + 1, 1 + (j : Int))].filter (nxP s) = [(s.1 + 1, s.2 + 1)] := by
        rw [List.filter_cons, e, if_pos rfl, h, Int.add_comm 1]
        rfl
      rw [List.filter_append, filt_at hs j, e0, if_neg (by omega), if_pos (by omega)]
      rfl
    · have e : nxP s (s.1 + 1, 1 + (j : Int)) = false := by
        unfold nxP
        rw [Bool.or_eq_false_iff, Bool.and_eq_false_iff, decide_eq_false_iff_not, decide_eq_false_iff_not, decide_eq_false_iff_not]
        refine ⟨fun z => ?_, .inr fun z => ?_⟩
        · have := congrArg Prod.snd z
          simp only at this
          omega
        · simp only at z
          omega
      have e0 : [(s.1 + 1, 1 + (j : Int))].filter (nxP s) = [] := by
        rw [List.filter_cons, e]
        rfl
      rw [List.filter_append, filt_at hs j, e0, List.append_nil]
      by_cases h2 : s.2 + 1 ≤ (j : Int)
      · rw [if_pos h2, if_pos (by omega)]
      · rw [if_neg h2, if_neg (by omega)]
theorem filt_high {s : Spt} {i : Int} (h : s.1 + 1 < i) : ∀ j, (rowN i j).filter (nxP s) = []
  | 0 => rfl
  | j + 1 => by
    show (rowN i j ++ [(i, 1 + (j : Int))]).filter _ = _
    have e : nxP s (i, 1 + (j : Int)) = false := by
      unfold nxP
      rw [Bool.or_eq_false_iff, Bool.and_eq_false_iff, decide_eq_false_iff_not, decide_eq_false_iff_not, decide_eq_false_iff_not]
      refine ⟨fun z => ?_, .inr fun z => ?_⟩
      · have := congrArg Prod.fst z
        simp only at this
        omega
      · simp only at z
        omega
    rw [List.filter_append, filt_high h j, List.filter_cons, e]
    rfl
theorem filt_spN {k : Nat} {s : Spt} (hk : 1 ≤ k) (h0 : 0 ≤ s.1) (h1 : 1 ≤ s.2) (h2 : s.2 - 1 ≤ s.1) : ∀ n : Nat, (spN k n).filter (nxP s) = onesN (min n (s.1 + 1).toNat) ++ if s.1 + 1 < (n : Int) ∧ s.2 + 1 ≤ (k : Int) then [(s.1 + 1, s.2 + 1)] else []
  | 0 => by
    rw [Nat.zero_min, if_neg (by omega)]
    rfl
  | n + 1 => by
    show (spN k n ++ rowN (n : Int) (min k (n + 1))).filter _ = _
    rw [List.filter_append, filt_spN hk h0 h1 h2 n]
    by_cases c1 : (n : Int) ≤ s.1
    · obtain ⟨j, hj⟩ : ∃ j, min k (n + 1) = j + 1 := ⟨min k (n + 1) - 1, by omega⟩
      rw [hj, filt_low h1 c1 j, if_neg (by omega), if_neg (by omega), List.append_nil, List.append_nil]
      have e1 : min n (s.1 + 1).toNat = n := by omega
      have e2 : min (n + 1) (s.1 + 1).toNat = n + 1 := by omega
      rw [e1, e2]
      rfl
    · have e1 : min n (s.1 + 1).toNat = (s.1 + 1).toNat := by omega
      have e2 : min (n + 1) (s.1 + 1).toNat = (s.1 + 1).toNat := by omega
      rw [e1, e2]
      by_cases c2 : (n : Int) = s.1 + 1
      · rw [c2, filt_at h1, if_neg (by omega), List.append_nil]
        have ha : s.2 + 1 ≤ ((n + 1 : Nat) : Int) := by omega
        by_cases c3 : s.2 + 1 ≤ (k : Int)
        · rw [if_pos (by omega), if_pos (by omega)]
        · rw [if_neg (by omega), if_neg (by omega)]
      · rw [filt_high (by omega), List.append_nil]
        by_cases c3 : s.2 + 1 ≤ (k : Int)
        · rw [if_pos (by omega), if_pos (by omega)]
        · rw [if_neg (by omega), if_neg (by omega)]
theorem filt_nx {k b : Nat} {s : Spt} (hs : Spot k b s) : (spN k (b + 1)).filter (nxP s) = nxL k b s := by
  unfold Spot at hs
  rw [filt_spN (by omega) hs.1 hs.2.2.1 hs.2.2.2.2]
  unfold nxL
  have e : min (b + 1) (s.1 + 1).toNat = (s.1 + 1).toNat := by omega
  rw [e]
  by_cases c : s.1 + 1 ≤ (b : Int) ∧ s.2 + 1 ≤ (k : Int)
  · rw [if_pos c, if_pos (by omega)]
  · rw [if_neg c, if_neg (by omega)]
/-! the spots of the letters that are not turned away -/
def wk1 (l : Let) : List Spt := match l.2.2 with
  | none => []
  | some w => [(w, l.2.1)]
def wkL (L : List Let) : List Spt := (L.map wk1).flatten
theorem wkL_snoc (L : List Let) (l : Let) : wkL (L ++ [l]) = wkL L ++ wk1 l := by
  unfold wkL
  rw [List.map_append, List.flatten_append]
  simp
theorem wkL_len : ∀ L : List Let, (wkL L).length ≤ L.length
  | [] => Nat.le_refl _
  | l :: L => by
    show (wk1 l ++ wkL L).length ≤ L.length + 1
    have := wkL_len L
    have : (wk1 l).length ≤ 1 := by
      unfold wk1
      split <;> simp
    rw [List.length_append]
    omega
theorem wkL_all : ∀ {L : List Let} {row : List Spt}, L.map (fun l => (l.2.2, l.2.1)) = row.map (fun p => (some p.1, p.2)) → wkL L = row
  | [], [], _ => rfl
  | [], _ :: _, h => by simp at h
  | _ :: _, [], h => by simp at h
  | l :: L, p :: row, h => by
    rw [List.map_cons, List.map_cons] at h
    obtain ⟨h1, h2⟩ := List.cons.inj h
    show wk1 l ++ wkL L = _
    rw [wkL_all h2]
    have e1 : l.2.2 = some p.1 := congrArg Prod.fst h1
    have e2 : l.2.1 = p.2 := congrArg Prod.snd h1
    unfold wk1
    rw [e1, e2]
    rfl
/-- where letters are: each spot next to the one ahead -/
structure Wl (k b : Int) (W : List Spt) : Prop where
  sp : ∀ x ∈ W, Spot k b x
  hd : ∀ x, W[0]? = some x → x = (0, 1)
  nx : ∀ (i : Nat) x y, W[i]? = some x → W[i + 1]? = some y → Nx k b x y
theorem Wl.nil {k b : Int} : Wl k b [] := ⟨fun x h => by simp at h, fun x h => by simp at h, fun i x y h => by simp at h⟩
theorem Wl.snoc {k b : Int} {W : List Spt} {o : Spt} (h : Wl k b W) (so : Spot k b o) (h0 : W = [] → o = (0, 1)) (hn : ∀ x, W.getLast? = some x → Nx k b x o) : Wl k b (W ++ [o]) := by
  refine ⟨fun x hx => ?_, fun x hx => ?_, fun i x y hx hy => ?_⟩
  · rcases List.mem_append.mp hx with hx | hx
    · exact h.sp x hx
    · rw [List.mem_singleton.mp hx]
      exact so
  · cases W with
    | nil =>
      simp at hx
      rw [← hx]
      exact h0 rfl
    | cons w W =>
      refine h.hd x ?_
      rw [List.getElem?_append_left (by simp)] at hx
      exact hx
  · have hl : i + 1 < (W ++ [o]).length := (List.getElem?_eq_some_iff.mp hy).1
    rw [List.length_append] at hl
    have hl' : i + 1 ≤ W.length := Nat.le_of_lt_succ hl
    rw [List.getElem?_append_left (by omega)] at hx
    by_cases c : i + 1 < W.length
    · rw [List.getElem?_append_left c] at hy
      exact h.nx i x y hx hy
    · have e : i + 1 = W.length := by omega
      rw [List.getElem?_append_right (by omega), e, Nat.sub_self] at hy
      have ey : o = y := by simpa using hy
      rw [← ey]
      refine hn x ?_
      rw [List.getLast?_eq_getElem?]
      rw [show W.length - 1 = i by omega]
      exact hx
/-- while letters come at a tick -/
structure Wi (k b : Int) (W : List Spt) (line : Int) (j : Nat) : Prop where
  wl : Wl k b W
  lo : 0 ≤ line
  hi : line ≤ b + 1
  zz : j = 0 → line ≤ b ∧ (W = [] → line = 0) ∧ ∀ x, W.getLast? = some x → line ≤ x.1
  ss : j ≠ 0 → W ≠ [] ∧ ∀ x, W.getLast? = some x → line ≤ x.1 + 1 ∧ (line ≤ b → x = (line - 1, (j : Int)))
theorem last_some {W : List Spt} (h : W ≠ []) : ∃ x, W.getLast? = some x := ⟨W.getLast h, List.getLast?_eq_some_getLast h⟩
theorem last_mem {W : List Spt} {x : Spt} (h : W.getLast? = some x) : x ∈ W := by
  rw [List.getLast?_eq_getElem?] at h
  exact List.mem_of_getElem? h
theorem Wi.step {k b τ : Int} {s : List Let × Int} {j : Nat} (hb : 0 ≤ b) (hj : (j : Int) < k) (h : Wi k b (wkL s.1) s.2 j) : Wi k b (wkL (Ln.step b τ (1 + (j : Int)) s).1) (Ln.step b τ (1 + (j : Int)) s).2 (j + 1) := by
  unfold Ln.step
  by_cases c : s.2 > b
  · rw [if_pos c]
    have e : wkL (s.1 ++ [(τ, 1 + (j : Int), none)]) = wkL s.1 := by
      rw [wkL_snoc]
      exact List.append_nil _
    have hj0 : j ≠ 0 := fun z => by
      have := (h.zz z).1
      omega
    obtain ⟨h1, h2⟩ := h.ss hj0
    refine ⟨?_, h.lo, h.hi, fun z => absurd z (Nat.succ_ne_zero _), fun _ => ?_⟩
    · show Wl k b (wkL (s.1 ++ [(τ, 1 + (j : Int), none)]))
      rw [e]
      exact h.wl
    · show wkL (s.1 ++ [(τ, 1 + (j : Int), none)]) ≠ [] ∧ ∀ x, (wkL (s.1 ++ [(τ, 1 + (j : Int), none)])).getLast? = some x → _
      rw [e]
      refine ⟨h1, fun x hx => ⟨(h2 x hx).1, fun z => ?_⟩⟩
      have z' : s.2 ≤ b := z
      omega
  · rw [if_neg c]
    have e : wkL (s.1 ++ [(τ, 1 + (j : Int), some s.2)]) = wkL s.1 ++ [(s.2, 1 + (j : Int))] := wkL_snoc _ _
    have ej : j ≠ 0 → ∀ x, (wkL s.1).getLast? = some x → x = (s.2 - 1, (j : Int)) := fun z x hx => ((h.ss z).2 x hx).2 (by omega)
    have hjl : (j : Int) ≤ s.2 := by
      by_cases z : j = 0
      · have := h.lo
        omega
      · obtain ⟨x, hx⟩ := last_some (h.ss z).1
        have sx := h.wl.sp x (last_mem hx)
        have := ej z x hx
        unfold Spot at sx
        rw [this] at sx
        simp only at sx
        omega
    have so : Spot k b (s.2, 1 + (j : Int)) := by
      have := h.lo
      unfold Spot
      simp only
      omega
    refine ⟨?_, ?_, ?_, fun z => absurd z (Nat.succ_ne_zero _), fun _ => ?_⟩
    · show Wl k b (wkL (s.1 ++ [(τ, 1 + (j : Int), some s.2)]))
      rw [e]
      refine h.wl.snoc so (fun z => ?_) (fun x hx => ⟨so, ?_⟩)
      · by_cases z0 : j = 0
        · rw [(h.zz z0).2.1 z, z0]
          rfl
        · exact absurd z (h.ss z0).1
      · by_cases z0 : j = 0
        · right
          refine ⟨by rw [z0]; rfl, (h.zz z0).2.2 x hx⟩
        · left
          rw [ej z0 x hx]
          show (s.2, 1 + (j : Int)) = (s.2 - 1 + 1, (j : Int) + 1)
          rw [Int.sub_add_cancel, Int.add_comm]
    · show 0 ≤ s.2 + 1
      have := h.lo
      omega
    · show s.2 + 1 ≤ b + 1
      omega
    · show wkL (s.1 ++ [(τ, 1 + (j : Int), some s.2)]) ≠ [] ∧ ∀ x, (wkL (s.1 ++ [(τ, 1 + (j : Int), some s.2)])).getLast? = some x → s.2 + 1 ≤ x.1 + 1 ∧ (s.2 + 1 ≤ b → x = (s.2 + 1 - 1, ((j + 1 : Nat) : Int)))
      rw [e]
      refine ⟨by simp, fun x hx => ?_⟩
      rw [List.getLast?_append] at hx
      have ex : x = (s.2, 1 + (j : Int)) := by simpa using hx.symm
      rw [ex]
      refine ⟨Int.le_refl _, fun _ => ?_⟩
      refine Prod.ext ?_ ?_
      · show s.2 = s.2 + 1 - 1
        omega
      · show 1 + (j : Int) = ((j + 1 : Nat) : Int)
        omega
theorem Wi.turns {k b τ : Int} {s : List Let × Int} (hb : 0 ≤ b) (h : Wi k b (wkL s.1) s.2 0) : ∀ j : Nat, (j : Int) ≤ k → Wi k b (wkL (Ln.turns b τ j s).1) (Ln.turns b τ j s).2 j
  | 0, _ => h
  | j + 1, hj => Wi.step hb (by omega) (Wi.turns hb h j (by omega))
theorem Wi.close {k b : Int} {W : List Spt} {line : Int} {j : Nat} (hb : 0 ≤ b) (h : Wi k b W line j) : Wi k b W (Ln.close line) 0 := by
  have r := Ln.close_rng hb h.lo h.hi
  refine ⟨h.wl, r.1, by omega, fun _ => ⟨r.2, fun z => ?_, fun x hx => ?_⟩, fun z => absurd rfl z⟩
  · by_cases c : j = 0
    · rw [(h.zz c).2.1 z]
      rfl
    · exact absurd z (h.ss c).1
  · have sx := h.wl.sp x (last_mem hx)
    unfold Spot at sx
    by_cases c : j = 0
    · have := (h.zz c).2.2 x hx
      unfold Ln.close
      split <;> omega
    · have := ((h.ss c).2 x hx).1
      unfold Ln.close
      split <;> omega
theorem wi_pre {k b : Int} {cs : List Int} (hb : 0 ≤ b) (hk : 0 ≤ k) (hc : ∀ c ∈ cs, c ≤ k) : ∀ i, Wi k b (wkL (Ln.pre b cs i).1) (Ln.pre b cs i).2 0
  | 0 => ⟨.nil, Int.le_refl _, by show (0 : Int) ≤ b + 1; omega, fun _ => ⟨hb, fun _ => rfl, fun x hx => by simp [Ln.pre, wkL] at hx⟩, fun z => absurd rfl z⟩
  | i + 1 => by
    have ih := wi_pre hb hk hc i
    have hg : cs.getD i 0 ≤ k := by
      rw [List.getD_eq_getElem?_getD]
      cases h : cs[i]? with
      | none => exact hk
      | some c => exact hc c (List.mem_of_getElem? h)
    unfold Ln.pre
    exact (Wi.turns (τ := (i : Int)) hb ih (cs.getD i 0).toNat (by omega)).close hb
theorem wl_letts {k b : Int} {cs : List Int} (hb : 0 ≤ b) (hk : 0 ≤ k) (hc : ∀ c ∈ cs, c ≤ k) : Wl k b (wkL (Ln.letts b cs)) := (wi_pre hb hk hc cs.length).wl
/-! the size of the comings of a walk -/
theorem incL_len : ∀ l : List Int, (incL l).length = l.length
  | [] => rfl
  | [_] => rfl
  | x :: y :: r => by
    show (incL (y :: r)).length + 1 = _
    rw [incL_len (y :: r)]
    rfl
structure Cs (k : Int) (cs : List Int) (n : Int) (s : Spt) : Prop where
  ex : ∃ ds, cs = ds ++ [s.2] ∧ ∀ c ∈ ds, 0 ≤ c ∧ c ≤ k
  ln : (cs.length : Int) + s.1 ≤ n
theorem cs_start {k b : Int} {s : Spt} (hk : 2 ≤ k) (hs : Spot k b s) (h1 : s.2 = 1) : Cs k (start s.1) (2 * b + 1) s := by
  unfold Spot at hs
  refine ⟨⟨List.replicate s.1.toNat 2, by rw [h1]; rfl, fun c hc => by rw [(List.mem_replicate.mp hc).2]; omega⟩, ?_⟩
  unfold start
  rw [List.length_append, List.length_replicate]
  show ((s.1.toNat + 1 : Nat) : Int) + s.1 ≤ _
  omega
theorem cs_grow {k b : Int} {cs : List Int} {n : Int} {s o : Spt} (h : Cs k cs n s) (hs : Spot k b s) (hn : Nx k b s o) : Cs k (grow cs s o) (n + 1) o := by
  obtain ⟨⟨ds, hd, hc⟩, hl⟩ := h
  have ho := hn.1
  unfold Spot at hs ho
  unfold grow
  rcases hn.2 with e | ⟨e1, e2⟩
  · have o1 : o.1 = s.1 + 1 := by rw [e]
    have o2 : o.2 = s.2 + 1 := by rw [e]
    rw [if_pos (by omega)]
    refine ⟨⟨ds, by rw [hd, incL_snoc, o2], hc⟩, ?_⟩
    rw [incL_len, o1]
    omega
  · rw [if_neg (by omega)]
    refine ⟨⟨cs ++ List.replicate (s.1 - o.1).toNat 0, by rw [List.append_assoc, e1], fun c hc' => ?_⟩, ?_⟩
    · rcases List.mem_append.mp hc' with hc' | hc'
      · rw [hd] at hc'
        rcases List.mem_append.mp hc' with hc' | hc'
        · exact hc c hc'
        · rw [List.mem_singleton.mp hc']
          omega
      · rw [(List.mem_replicate.mp hc').2]
        omega
    · rw [List.length_append, List.length_append, List.length_replicate]
      show ((cs.length + ((s.1 - o.1).toNat + 1) : Nat) : Int) + o.1 ≤ _
      omega
theorem cs_all {k b : Int} : ∀ (r : List Spt) (cs : List Int) (n : Int) (s : Spt), Cs k cs n s → Spot k b s → Chain k b s r → ∃ o, Spot k b o ∧ Cs k (cfGo cs s r) (n + (r.length : Int)) o
  | [], cs, n, s, h, hs, _ => ⟨s, hs, by simpa [cfGo] using h⟩
  | o :: r, cs, n, s, h, hs, hc => by
    obtain ⟨o', h1, h2⟩ := cs_all r _ _ o (cs_grow h hs hc.1) hc.1.1 hc.2
    refine ⟨o', h1, ?_⟩
    rw [List.length_cons, show n + ((r.length + 1 : Nat) : Int) = n + 1 + (r.length : Int) by omega]
    exact h2
theorem cf_right {k b : Int} {row : List Spt} (hk : 2 ≤ k) (h : Walk k b row) : ((cf row).length : Int) ≤ 2 * b + (row.length : Int) ∧ ∀ c ∈ cf row, 0 ≤ c ∧ c ≤ k := by
  cases row with
  | nil => exact False.elim h
  | cons s r =>
    obtain ⟨hs, h1, hc⟩ := h
    obtain ⟨o, ho, ⟨ds, hd, hin⟩, hl⟩ := cs_all r _ _ s (cs_start hk hs h1) hs hc
    unfold Spot at ho
    refine ⟨?_, fun c hc' => ?_⟩
    · show ((cfGo (start s.1) s r).length : Int) ≤ _
      rw [List.length_cons]
      omega
    · have hc' : c ∈ cfGo (start s.1) s r := hc'
      rw [hd] at hc'
      rcases List.mem_append.mp hc' with hc' | hc'
      · exact hin c hc'
      · rw [List.mem_singleton.mp hc']
        omega
theorem chain_snoc {k b : Int} {o : Spt} : ∀ (r : List Spt) (s : Spt), Chain k b s r → (∀ x, (s :: r).getLast? = some x → Nx k b x o) → Chain k b s (r ++ [o])
  | [], s, _, h => ⟨h s rfl, trivial⟩
  | x :: r, s, hc, h => ⟨hc.1, chain_snoc r x hc.2 fun y hy => h y (by rw [List.getLast?_cons_cons]; exact hy)⟩
theorem walk_snoc {k b : Int} {row : List Spt} {o : Spt} (h : Walk k b row) (hn : ∀ x, row.getLast? = some x → Nx k b x o) : Walk k b (row ++ [o]) := by
  cases row with
  | nil => exact False.elim h
  | cons s r => exact ⟨h.1, h.2.1, chain_snoc r s h.2.2 hn⟩
end Wk

/-! ### comings, number by number -/
namespace Wk
theorem snoc_getD (cs : List Int) (x : Int) (n : Nat) : (cs ++ [x]).getD n 0 = if n = cs.length then x else cs.getD n 0 := by
  rw [List.getD_eq_getElem?_getD, List.getD_eq_getElem?_getD]
  by_cases h : n < cs.length
  · rw [List.getElem?_append_left h, if_neg (by omega)]
  · rw [List.getElem?_append_right (by omega)]
    by_cases e : n = cs.length
    · rw [if_pos e, e, Nat.sub_self]
      rfl
    · rw [if_neg e, List.getElem?_eq_none (by show 1 ≤ _; omega), List.getElem?_eq_none (by omega)]
theorem past_getD {cs : List Int} {n : Nat} (h : cs.length ≤ n) : cs.getD n 0 = 0 := by
  rw [List.getD_eq_getElem?_getD, List.getElem?_eq_none h]
  rfl
theorem zeros_getD (cs : List Int) (m n : Nat) : (cs ++ List.replicate m 0).getD n 0 = cs.getD n 0 := by
  induction m with
  | zero =>
    rw [List.replicate_zero, List.append_nil]
  | succ m ih =>
    rw [List.replicate_succ', ← List.append_assoc, snoc_getD, ih]
    split
    · next e =>
      rw [past_getD (by rw [e, List.length_append]; omega)]
    · rfl
theorem rep_getD (i n : Nat) : (List.replicate (i + 1) (2 : Int)).getD n 0 = if n = i then 2 else (List.replicate i (2 : Int)).getD n 0 := by
  rw [List.replicate_succ', snoc_getD, List.length_replicate]
/-- one number more at the last tick, or at a later one -/
theorem grow_getD {k b : Int} {cs : List Int} {s o : Spt} (hne : cs ≠ []) (hs : Spot k b s) (hn : Nx k b s o) : (grow cs s o) ≠ [] ∧
    ((grow cs s o).length : Int) = (if o.2 = 1 then (cs.length : Int) + s.1 + 1 - o.1 else (cs.length : Int)) ∧ ∀ n : Nat, (grow cs s o).getD n 0 = if n = (grow cs s o).length - 1 then cs.getD ((grow cs s o).length - 1) 0 + 1 else cs.getD n 0 := by
  have ho := hn.1
  unfold Spot at hs ho
  unfold grow
  by_cases c : o.2 > 1
  · rw [if_pos c, if_neg (by omega)]
    obtain ⟨ds, x, rfl⟩ : ∃ ds x, cs = ds ++ [x] := ⟨cs.dropLast, cs.getLast hne, (List.dropLast_concat_getLast hne).symm⟩
    rw [incL_snoc]
    have el : (ds ++ [x + 1]).length - 1 = ds.length := by
      rw [List.length_append]
      rfl
    refine ⟨by simp, by rw [List.length_append, List.length_append]; rfl, fun n => ?_⟩
    rw [el, snoc_getD, snoc_getD, snoc_getD, if_pos rfl]
    by_cases e : n = ds.length
    · rw [if_pos e, if_pos e]
    · rw [if_neg e, if_neg e, if_neg e]
  · have o1 : o.2 = 1 := by omega
    have le : o.1 ≤ s.1 := by
      rcases hn.2 with e | e
      · have : o.2 = s.2 + 1 := by rw [e]
        omega
      · exact e.2
    rw [if_neg c, if_pos o1, ← List.append_assoc]
    have el : (cs ++ List.replicate (s.1 - o.1).toNat 0 ++ [1]).length - 1 = (cs ++ List.replicate (s.1 - o.1).toNat (0 : Int)).length := by
      rw [List.length_append]
      rfl
    refine ⟨by simp, ?_, fun n => ?_⟩
    · rw [List.length_append, List.length_append, List.length_replicate]
      show ((cs.length + (s.1 - o.1).toNat + 1 : Nat) : Int) = _
      omega
    · have e0 : cs.getD (cs ++ List.replicate (s.1 - o.1).toNat (0 : Int)).length 0 = 0 := past_getD (by rw [List.length_append]; omega)
      rw [el, snoc_getD, zeros_getD, e0]
      by_cases e : n = (cs ++ List.replicate (s.1 - o.1).toNat (0 : Int)).length
      · rw [if_pos e, if_pos e]
        rfl
      · rw [if_neg e, if_neg e]
theorem start_getD (w n : Nat) : (start (w : Int)).getD n 0 = if n = w then 1 else (List.replicate w (2 : Int)).getD n 0 := by
  unfold start
  rw [snoc_getD, List.length_replicate, Int.toNat_natCast]
theorem chain_drop {k b : Int} : ∀ (r : List Spt) (s : Spt) (i : Nat) (x : Spt) (ys : List Spt), Chain k b s r → r.drop i = x :: ys → Spot k b x ∧ Chain k b x ys
  | [], s, i, x, ys, _, h => by simp at h
  | o :: r, s, 0, x, ys, hc, h => by
    obtain ⟨h1, h2⟩ := List.cons.inj (h : o :: r = x :: ys)
    rw [← h1, ← h2]
    exact ⟨hc.1.1, hc.2⟩
  | o :: r, s, i + 1, x, ys, hc, h => chain_drop r o i x ys hc.2 h
theorem walk_drop {k b : Int} {row : List Spt} (h : Walk k b row) {i : Nat} {x : Spt} (hx : row[i]? = some x) (h1 : x.2 = 1) : Walk k b (row.drop i) := by
  cases row with
  | nil => exact False.elim h
  | cons s r =>
    cases i with
    | zero => exact h
    | succ i =>
      have hi : i < r.length := by
        have := (List.getElem?_eq_some_iff.mp hx).1
        simpa using this
      show Walk k b (r.drop i)
      have e : r.drop i = r[i] :: r.drop (i + 1) := List.drop_eq_getElem_cons hi
      have ex : r[i] = x := by
        rw [List.getElem?_cons_succ, List.getElem?_eq_getElem hi] at hx
        exact Option.some.inj hx
      obtain ⟨a, c⟩ := chain_drop r s i _ _ h.2.2 e
      rw [e]
      rw [ex] at a c ⊢
      exact ⟨a, h1, c⟩
theorem cf_last {k b : Int} {row : List Spt} (hk : 2 ≤ k) (h : Walk k b row) : ∃ ds x, cf row = ds ++ [x] ∧ 1 ≤ x := by
  cases row with
  | nil => exact False.elim h
  | cons s r =>
    obtain ⟨hs, h1, hc⟩ := h
    obtain ⟨o, ho, ⟨ds, hd, hin⟩, hl⟩ := cs_all r _ _ s (cs_start hk hs h1) hs hc
    unfold Spot at ho
    exact ⟨ds, o.2, hd, ho.2.2.1⟩
end Wk

set_option Elab.async false
set_option linter.all false
set_option maxRecDepth 100000
set_option maxHeartbeats 4000000
namespace My
open PySem PySem.Spec PyProof.Rows L2
def topS (i : Nat) : Stmt := PySem.Challenge.pw_loopstore_k05_whole_comings_of_walks.main.body.getD i (.Pass ⟨0, 0, 0, 0⟩)
abbrev s_is_integer : Stmt := topS 8
theorem sc_is_integer : FnScope ["thing"] ["thing"] (defScope s_is_integer) := ⟨rfl, rfl, rfl, by decide +kernel, rfl, by decide +kernel, by decide +kernel⟩
abbrev s_is_number : Stmt := topS 9
theorem sc_is_number : FnScope ["thing", "least", "most"] ["thing", "least", "most"] (defScope s_is_number) := ⟨rfl, rfl, rfl, by decide +kernel, rfl, by decide +kernel, by decide +kernel⟩
abbrev s_are_integers : Stmt := topS 10
theorem sc_are_integers : FnScope ["thing", "many", "item"] ["thing", "many"] (defScope s_are_integers) := ⟨rfl, rfl, rfl, by decide +kernel, rfl, by decide +kernel, by decide +kernel⟩
abbrev s_check_comers : Stmt := topS 11
theorem sc_check_comers : FnScope ["thing"] ["thing"] (defScope s_check_comers) := ⟨rfl, rfl, rfl, by decide +kernel, rfl, by decide +kernel, by decide +kernel⟩
abbrev s_check_bound : Stmt := topS 12
theorem sc_check_bound : FnScope ["thing"] ["thing"] (defScope s_check_bound) := ⟨rfl, rfl, rfl, by decide +kernel, rfl, by decide +kernel, by decide +kernel⟩
abbrev s_is_spot : Stmt := topS 15
theorem sc_is_spot : FnScope ["comers", "bound", "thing", "wait", "turn"] ["comers", "bound", "thing"] (defScope s_is_spot) := ⟨rfl, rfl, rfl, by decide +kernel, rfl, by decide +kernel, by decide +kernel⟩
abbrev s_is_next : Stmt := topS 16
theorem sc_is_next : FnScope ["comers", "bound", "spot", "other", "wait", "turn"] ["comers", "bound", "spot", "other"] (defScope s_is_next) := ⟨rfl, rfl, rfl, by decide +kernel, rfl, by decide +kernel, by decide +kernel⟩
abbrev s_is_walk : Stmt := topS 17
theorem sc_is_walk : FnScope ["comers", "bound", "thing", "first", "at"] ["comers", "bound", "thing"] (defScope s_is_walk) := ⟨rfl, rfl, rfl, by decide +kernel, rfl, by decide +kernel, by decide +kernel⟩
abbrev s_comings_for : Stmt := topS 18
theorem sc_comings_for : FnScope ["comers", "bound", "row", "start", "comings", "wait", "_", "other", "turn"] ["comers", "bound", "row"] (defScope s_comings_for) := ⟨rfl, rfl, rfl, by decide +kernel, rfl, by decide +kernel, by decide +kernel⟩
abbrev s__law_tape : Stmt := topS 20
theorem sc__law_tape : FnScope ["script"] ["script"] (defScope s__law_tape) := ⟨rfl, rfl, rfl, by decide +kernel, rfl, by decide +kernel, by decide +kernel⟩
abbrev s__law_pick : Stmt := topS 21
theorem sc__law_pick : FnScope ["tape", "size", "digit", "cell", "mixed"] ["tape", "size"] (defScope s__law_pick) := ⟨rfl, rfl, rfl, by decide +kernel, rfl, by decide +kernel, by decide +kernel⟩
abbrev s__law_walk : Stmt := topS 22
theorem sc__law_walk : FnScope ["tape", "comers", "bound", "most", "found", "k", "wait", "turn"] ["tape", "comers", "bound", "most"] (defScope s__law_walk) := ⟨rfl, rfl, rfl, by decide +kernel, rfl, by decide +kernel, by decide +kernel⟩
abbrev s__law_due : Stmt := topS 23
theorem sc__law_due : FnScope ["row", "numbers", "tick", "k", "at"] ["row"] (defScope s__law_due) := ⟨rfl, rfl, rfl, by decide +kernel, rfl, by decide +kernel, by decide +kernel⟩
abbrev s_law : Stmt := topS 24
theorem sc_law : FnScope ["script", "tape", "comers", "bound", "most", "row", "told", "firsts", "part", "number", "k"] ["script"] (defScope s_law) := ⟨rfl, rfl, rfl, by decide +kernel, rfl, by decide +kernel, by decide +kernel⟩
structure Tx (K : PySem.W.Frag) (mg : Str → Option Value) where
  a_is_integer : Addr
  d_is_integer : FuncData
  F_is_integer : Fun K "is_integer" "is_integer" s_is_integer a_is_integer d_is_integer
  b_is_integer : Binds K d_is_integer ["thing"] []
  g_is_integer : mg "is_integer" = some (.ref a_is_integer)
  a_is_number : Addr
  d_is_number : FuncData
  F_is_number : Fun K "is_number" "is_number" s_is_number a_is_number d_is_number
  b_is_number : Binds K d_is_number ["thing", "least", "most"] []
  g_is_number : mg "is_number" = some (.ref a_is_number)
  a_are_integers : Addr
  d_are_integers : FuncData
  F_are_integers : Fun K "are_integers" "are_integers" s_are_integers a_are_integers d_are_integers
  b_are_integers : Binds K d_are_integers ["thing", "many"] []
  g_are_integers : mg "are_integers" = some (.ref a_are_integers)
  a_check_comers : Addr
  d_check_comers : FuncData
  F_check_comers : Fun K "check_comers" "check_comers" s_check_comers a_check_comers d_check_comers
  b_check_comers : Binds K d_check_comers ["thing"] []
  g_check_comers : mg "check_comers" = some (.ref a_check_comers)
  a_check_bound : Addr
  d_check_bound : FuncData
  F_check_bound : Fun K "check_bound" "check_bound" s_check_bound a_check_bound d_check_bound
  b_check_bound : Binds K d_check_bound ["thing"] []
  g_check_bound : mg "check_bound" = some (.ref a_check_bound)
  a_is_spot : Addr
  d_is_spot : FuncData
  F_is_spot : Fun K "is_spot" "is_spot" s_is_spot a_is_spot d_is_spot
  b_is_spot : Binds K d_is_spot ["comers", "bound", "thing"] []
  g_is_spot : mg "is_spot" = some (.ref a_is_spot)
  a_is_next : Addr
  d_is_next : FuncData
  F_is_next : Fun K "is_next" "is_next" s_is_next a_is_next d_is_next
  b_is_next : Binds K d_is_next ["comers", "bound", "spot", "other"] []
  g_is_next : mg "is_next" = some (.ref a_is_next)
  a_is_walk : Addr
  d_is_walk : FuncData
  F_is_walk : Fun K "is_walk" "is_walk" s_is_walk a_is_walk d_is_walk
  b_is_walk : Binds K d_is_walk ["comers", "bound", "thing"] []
  g_is_walk : mg "is_walk" = some (.ref a_is_walk)
  a_comings_for : Addr
  d_comings_for : FuncData
  F_comings_for : Fun K "comings_for" "comings_for" s_comings_for a_comings_for d_comings_for
  b_comings_for : Binds K d_comings_for ["comers", "bound", "row"] []
  g_comings_for : mg "comings_for" = some (.ref a_comings_for)
  a__law_tape : Addr
  d__law_tape : FuncData
  F__law_tape : Fun K "_law_tape" "_law_tape" s__law_tape a__law_tape d__law_tape
  b__law_tape : Binds K d__law_tape ["script"] []
  g__law_tape : mg "_law_tape" = some (.ref a__law_tape)
  a__law_pick : Addr
  d__law_pick : FuncData
  F__law_pick : Fun K "_law_pick" "_law_pick" s__law_pick a__law_pick d__law_pick
  b__law_pick : Binds K d__law_pick ["tape", "size"] []
  g__law_pick : mg "_law_pick" = some (.ref a__law_pick)
  a__law_walk : Addr
  d__law_walk : FuncData
  F__law_walk : Fun K "_law_walk" "_law_walk" s__law_walk a__law_walk d__law_walk
  b__law_walk : Binds K d__law_walk ["tape", "comers", "bound", "most"] []
  g__law_walk : mg "_law_walk" = some (.ref a__law_walk)
  a__law_due : Addr
  d__law_due : FuncData
  F__law_due : Fun K "_law_due" "_law_due" s__law_due a__law_due d__law_due
  b__law_due : Binds K d__law_due ["row"] []
  g__law_due : mg "_law_due" = some (.ref a__law_due)
  a_law : Addr
  d_law : FuncData
  F_law : Fun K "law" "law" s_law a_law d_law
  b_law : Binds K d_law ["script"] []
  g_law : mg "law" = some (.ref a_law)
  m_all : mg "all" = none
  m_bool : mg "bool" = none
  m_int : mg "int" = none
  m_isinstance : mg "isinstance" = none
  m_len : mg "len" = none
  m_list : mg "list" = none
  m_max : mg "max" = none
  m_range : mg "range" = none
  m_tuple : mg "tuple" = none
  m_zip : mg "zip" = none
  t_MOST_BOUND : Tok
  g_MOST_BOUND : mg "MOST_BOUND" = some (.int 60 t_MOST_BOUND)
  t_MOST_COMERS : Tok
  g_MOST_COMERS : mg "MOST_COMERS" = some (.int 4 t_MOST_COMERS)
  t_MOST_SPOTS : Tok
  g_MOST_SPOTS : mg "MOST_SPOTS" = some (.int 60 t_MOST_SPOTS)
section
variable {P : Program} {w : World} {K : PySem.W.Frag} {mg : Str → Option Value} {base : Heap}
def spTape (K : PySem.W.Frag) : Sp := fun vs H Q _ => ∃ (a : Addr) (ns : List Int), vs = [.ref a] ∧ SqL K H a (ns.map V.int) ∧ ∀ t s H', H t = none → H s = none → Same H H' → Tape H' t s → Q (.ref t) H'
theorem ok__law_tape (T : Tx K mg) : FnOk P w K mg base CX0 1 T.a__law_tape T.d__law_tape ["script"] (spTape K) := by
  refine T.F__law_tape.ok sc__law_tape (fun vs H Q E h => ?_) (fun cdv A outer s H vs Q E hr h => ?_)
  · obtain ⟨a, ns, rfl, _⟩ := h
    rfl
  · obtain ⟨a, ns, rfl, hS, q⟩ := h
    refine ⟨_, ((pss_one (ps_ret (pe_lst (pa_cons (pe_callTy call_list_of (by rfl) T.m_list (by decide +kernel) (pa_cons (pv 0) pa_nil)) (pa_cons pe_int (pa_cons pe_int (pa_cons pe_int (pa_cons pe_int pa_nil))))))))), ?_⟩
    refine ⟨.ref a, rfl, a, _, rfl, .inl hS, fun l nl => ?_⟩
    refine ⟨by show 5 ≤ sizeLine; decide, fun t nt => ?_⟩
    have nlt : l ≠ t := fun e => by
      rw [← e, upd_same] at nt
      cases nt
    have s1 : Same H (upd H l (.lst (ns.map V.int))) := same_upd nl
    refine q t l _ (Same.free s1 nt) nl (s1.trans (same_upd nt)) ⟨ns, 0, 0, 1, 0, nlt, upd_same, ?_, by decide⟩
    rw [upd_ne nlt, upd_same]
def spPick (K : PySem.W.Frag) : Sp := fun vs H Q _ => ∃ (t s : Addr) (n : Int), vs = [.ref t, .int n] ∧ (0 < n ∧ n < 2 ^ 60) ∧ Tape H t s ∧ ∀ r H', 0 ≤ r → r < n → Moved t H H' → Tape H' t s → Q (.int r) H'
theorem fm_of {a b : Int} (h : 0 < b) : 0 ≤ a.fmod b ∧ a.fmod b < b := by
  rw [Int.fmod_eq_emod_of_nonneg a (Int.le_of_lt h)]
  exact ⟨Int.emod_nonneg a (by omega), Int.emod_lt_of_pos a h⟩
theorem ok__law_pick (T : Tx K mg) : FnOk P w K mg base CX0 1 T.a__law_pick T.d__law_pick ["tape", "size"] (spPick K) := by
  refine T.F__law_pick.ok sc__law_pick (fun vs H Q E h => ?_) (fun cdv A outer s H vs Q E hr h => ?_)
  · obtain ⟨t, l, n, rfl, _⟩ := h
    rfl
  · obtain ⟨t, l, n, rfl, ⟨hn, hn2⟩, ⟨ns, pos, rest, mx, ct, hlt, ht, hl, hp⟩, q⟩ := h
    have wd : ∀ i : Int, CDivW i n := fun i => wide_div hn (b := 60) (by omega) (by decide) (by decide)
    refine ⟨_, ((pss_cons (ps_if (pt_cmpR op_gt (pe_ix ix_list (pv 0) pe_int (fun _ _ => rfl)) pe_int (nomark _)) (pss_cons (ps_set (i := 2) sc__law_pick.nd rfl (.inl rfl) (pe_op op_modN (pe_callTy call_int1 (by rfl) T.m_int (by decide +kernel) (pa_cons (pe_ix ix_list (pv 0) pe_int (fun _ _ => rfl)) pa_nil)) (pv 1)))
  (pss_cons (ps_asg (pe_op op_fdivW (pe_ix ix_list (pv 0) pe_int (fun _ _ => rfl)) (pv 1)) (pg_sub (pv 0) pe_int set_list))
  (pss_one (ps_ret (pv 2))))) pss_nil)
  (pss_cons (ps_asg (pe_op op_add (pe_ix ix_list (pv 0) pe_int (fun _ _ => rfl)) pe_int) (pg_sub (pv 0) pe_int set_list))
  (pss_cons (ps_set (i := 3) sc__law_pick.nd rfl (.inl rfl) pe_int)
  (Evl.pss_cut (ps_if (pt_cmpR op_lt (pe_ix ix_list (pv 0) pe_int (fun _ _ => rfl)) (pe_callB call_len_seq (by rfl) T.m_len PySem.boot_len (pa_cons (pe_ix ix_list (pv 0) pe_int (fun _ _ => rfl)) pa_nil)) (nomark _)) (pss_cons (ps_set (i := 3) sc__law_pick.nd rfl (.inl rfl) (pe_ix ix_list (pe_ix ix_list (pv 0) pe_int (fun _ _ => rfl)) (pe_ix ix_list (pv 0) pe_int (fun _ _ => rfl)) (fun _ _ => rfl)))
  (pss_one (ps_asg (pe_op op_add (pe_ix ix_list (pv 0) pe_int (fun _ _ => rfl)) pe_int) (pg_sub (pv 0) pe_int set_list)))) pss_nil)
  (pss_cons (ps_if (pt_cmpR op_ge (pv 3) (pe_op op_pow pe_int pe_int) (nomark _)) (pss_cons (ps_asg (pe_op op_fdivW (pv 3) (pv 1)) (pg_sub (pv 0) pe_int set_list))
  (pss_one (ps_ret (pe_op op_modN (pe_callTy call_int1 (by rfl) T.m_int (by decide +kernel) (pa_cons (pv 3) pa_nil)) (pv 1))))) pss_nil)
  (pss_cons (ps_set (i := 4) sc__law_pick.nd rfl (.inl rfl) (pe_op op_modN (pe_callTy call_int1 (by rfl) T.m_int (by decide +kernel) (pa_cons (pe_op op_add (pe_op op_add (pe_op op_mul (pe_ix ix_list (pv 0) pe_int (fun _ _ => rfl)) pe_int) (pe_op op_modN (pe_callTy call_int1 (by rfl) T.m_int (by decide +kernel) (pa_cons (pv 3) pa_nil)) pe_int)) (pe_op op_mul (pe_ix ix_list (pv 0) pe_int (fun _ _ => rfl)) pe_int)) pa_nil)) pe_int))
  (pss_cons (ps_set (i := 4) sc__law_pick.nd rfl (.inl rfl) (pe_op op_modN (pe_callTy call_int1 (by rfl) T.m_int (by decide +kernel) (pa_cons (pe_op op_mul (pv 4) (pe_op op_add (pe_op op_fdivW (pv 4) pe_int) pe_int)) pa_nil)) pe_int))
  (pss_cons (ps_asg (pv 4) (pg_sub (pv 0) pe_int set_list))
  (pss_one (ps_ret (pe_op op_modN (pe_callTy call_int1 (by rfl) T.m_int (by decide +kernel) (pa_cons (pe_op op_fdivW (pv 4) pe_int) pa_nil)) (pv 1))))))))))))), ?_⟩
    -- tape[2] > 1
    refine ⟨.ref t, rfl, t, _, 2, _, rfl, rfl, SqL.of ht, atI_nat (j := 2) rfl, _, _, rfl, rfl, _, rfl, ite2 (fun h1 => ?_) (fun h1 => ?_)⟩
    · -- digit
      refine ⟨.ref t, rfl, t, _, 2, _, rfl, rfl, SqL.of ht, atI_nat (j := 2) rfl, .inl ⟨_, rfl, ?_⟩⟩
      refine ⟨.int n, rfl, _, _, rfl, rfl, by omega, ?_⟩
      -- tape[2] = tape[2] // size
      refine ⟨.ref t, rfl, t, _, 2, _, rfl, rfl, SqL.of ht, atI_nat (j := 2) rfl, .int n, rfl, _, _, rfl, rfl, wd _, ?_⟩
      refine ⟨.ref t, rfl, t, _, 2, 2, rfl, rfl, ht, rfl, ?_⟩
      -- return digit
      refine ⟨_, rfl, ?_⟩
      refine q _ _ (fm_of hn).1 (fm_of hn).2 Moved.upd ⟨ns, pos, _, mx, ct, hlt, upd_same, ?_, hp⟩
      rw [upd_ne hlt]
      exact hl
    · -- tape[4] = tape[4] + 1
      refine ⟨.ref t, rfl, t, _, 4, _, rfl, rfl, SqL.of ht, atI_nat (j := 4) rfl, _, _, rfl, rfl, ?_⟩
      refine ⟨.ref t, rfl, t, _, 4, 4, rfl, rfl, ht, rfl, ?_⟩
      -- cell = 0; the first cut
      refine ⟨fun σ' H1 => ∃ (cell p2 : Int) (σ3 σ4 : Option V), σ' = [some (.ref t), some (.int n), σ3, some (.int cell), σ4] ∧ 0 ≤ p2 ∧ H1 t = some (.lst [.ref l, .int p2, .int rest, .int mx, .int (ct + 1)]) ∧ H1 l = some (.lst (ns.map V.int)) ∧ Moved t H H1, ?_, fun σ' H1 hm => ?_⟩
      · have hl1 : (upd H t (.lst [.ref l, .int pos, .int rest, .int mx, .int (ct + 1)])) l = some (.lst (ns.map V.int)) := by
          rw [upd_ne hlt]
          exact hl
        refine ⟨.ref t, rfl, t, _, 1, _, rfl, rfl, SqL.of upd_same, atI_nat (j := 1) rfl, .ref t, rfl, t, _, 0, _, rfl, rfl, SqL.of upd_same, atI_nat (j := 0) rfl, l, _, rfl, .inl (SqL.of hl1), _, _, rfl, rfl, _, rfl, ite2 (fun h2 => ?_) (fun h2 => ?_)⟩
        · have h3 : pos < ((ns.map V.int).length : Int) := of_decide_eq_true h2
          obtain ⟨j, rfl⟩ : ∃ j : Nat, pos = (j : Int) := ⟨pos.toNat, by omega⟩
          have hj : j < ns.length := by
            rw [List.length_map] at h3
            omega
          have gj : (ns.map V.int)[j]? = some (.int ns[j]) := by
            rw [List.getElem?_map, List.getElem?_eq_getElem hj]
            rfl
          -- cell = tape[0][tape[1]]
          refine ⟨.ref t, rfl, t, _, 0, _, rfl, rfl, SqL.of upd_same, atI_nat (j := 0) rfl, .ref t, rfl, t, _, 1, _, rfl, rfl, SqL.of upd_same, atI_nat (j := 1) rfl, l, _, _, _, rfl, rfl, SqL.of hl1, atI_nat gj, ?_⟩
          -- tape[1] = tape[1] + 1
          refine ⟨.ref t, rfl, t, _, 1, _, rfl, rfl, SqL.of upd_same, atI_nat (j := 1) rfl, _, _, rfl, rfl, ?_⟩
          refine ⟨.ref t, rfl, t, _, 1, 1, rfl, rfl, upd_same, rfl, ?_⟩
          rw [upd_upd]
          exact ⟨_, _, _, _, rfl, by omega, upd_same, (by rw [upd_ne hlt]; exact hl), Moved.upd⟩
        · exact ⟨_, _, _, _, rfl, hp, upd_same, hl1, Moved.upd⟩
      · obtain ⟨cell, p2, σ3, σ4, rfl, hp2, ht1, hl1, mv⟩ := hm
        -- cell >= 10 ** 18
        refine ⟨.int cell, rfl, 10, 18, rfl, rfl, ⟨by decide, by decide, by decide⟩, _, _, rfl, rfl, _, rfl, ite2 (fun h2 => ?_) (fun h2 => ?_)⟩
        · refine ⟨.int cell, rfl, .int n, rfl, _, _, rfl, rfl, wd _, .ref t, rfl, t, _, 2, 2, rfl, rfl, ht1, rfl, ?_⟩
          refine ⟨.int cell, rfl, .inl ⟨_, rfl, .int n, rfl, _, _, rfl, rfl, by omega, ?_⟩⟩
          refine q _ _ (fm_of hn).1 (fm_of hn).2 (mv.trans Moved.upd) ⟨ns, p2, _, mx, _, hlt, upd_same, ?_, hp2⟩
          rw [upd_ne hlt]
          exact hl1
        · -- mixed = ..
          refine ⟨.ref t, rfl, t, _, 3, _, rfl, rfl, SqL.of ht1, atI_nat (j := 3) rfl, _, _, rfl, rfl, .inr ⟨by decide, by decide⟩, ?_⟩
          refine ⟨.int cell, rfl, .inl ⟨_, rfl, _, _, rfl, rfl, (by show (2147483629 : Int) ≠ 0; decide), _, _, rfl, rfl, ?_⟩⟩
          refine ⟨.ref t, rfl, t, _, 4, _, rfl, rfl, SqL.of ht1, atI_nat (j := 4) rfl, _, _, rfl, rfl, .inr ⟨by decide, by decide⟩, _, _, rfl, rfl, ?_⟩
          refine .inl ⟨_, rfl, _, _, rfl, rfl, (by show (2147483647 : Int) ≠ 0; decide), ?_⟩
          have bm := fm_of (a := mx * 48271 + cell.fmod 2147483629 + (ct + 1) * 69621) (b := 2147483647) (by decide)
          -- mixed = int(mixed * ..) % ..
          refine ⟨_, rfl, _, rfl, _, _, rfl, rfl, ⟨by decide, by decide⟩, _, _, rfl, rfl, _, _, rfl, rfl, .inl ⟨Int.lt_of_lt_of_le (by decide) bm.1, Int.lt_trans bm.2 (by decide)⟩, .inl ⟨_, rfl, _, _, rfl, rfl, (by show (2147483399 : Int) ≠ 0; decide), ?_⟩⟩
          -- tape[3] = mixed
          refine ⟨_, rfl, .ref t, rfl, t, _, 3, 3, rfl, rfl, ht1, rfl, ?_⟩
          refine ⟨_, rfl, _, _, rfl, rfl, ⟨by decide, by decide⟩, .inl ⟨_, rfl, .int n, rfl, _, _, rfl, rfl, by omega, ?_⟩⟩
          refine q _ _ (fm_of hn).1 (fm_of hn).2 (mv.trans Moved.upd) ⟨ns, p2, _, _, _, hlt, upd_same, ?_, hp2⟩
          rw [upd_ne hlt]
          exact hl1
end

section
variable {P : Program} {w : World} {K : PySem.W.Frag} {mg : Str → Option Value} {base : Heap}
def spIsInt (K : PySem.W.Frag) : Sp := fun vs H Q _ => ∃ i : Int, vs = [.int i] ∧ Q (.bl true) H
theorem ok_is_integer (T : Tx K mg) : FnOk P w K mg base CX0 1 T.a_is_integer T.d_is_integer ["thing"] (spIsInt K) := by
  refine T.F_is_integer.ok sc_is_integer (fun vs H Q E h => ?_) (fun cdv A outer s H vs Q E hr h => ?_)
  · obtain ⟨i, rfl, _⟩ := h
    rfl
  · obtain ⟨i, rfl, q⟩ := h
    refine ⟨_, ((pss_one (ps_ret (pe_and (pe_callB call_isi (by rfl) T.m_isinstance (by decide +kernel) (pa_cons (pv 0) (pa_cons (pe_bltn (v := .ty "int") (by rfl) T.m_int (by decide +kernel) rfl) pa_nil))) (pe_one (pe_not (pe_callB call_isi (by rfl) T.m_isinstance (by decide +kernel) (pa_cons (pv 0) (pa_cons (pe_bltn (v := .ty "bool") (by rfl) T.m_bool (by decide +kernel) rfl) pa_nil))))))))), ?_⟩
    refine ⟨.int i, rfl, .int i, .ty "int", _, _, true, rfl, .ty _, .base (.int i), kit_ty (by decide +kernel), true, rfl, iteT ?_⟩
    refine ⟨.int i, rfl, .int i, .ty "bool", _, _, false, rfl, .ty _, .base (.int i), kit_ty (by decide +kernel), false, rfl, ?_⟩
    exact q
def spIsNum (K : PySem.W.Frag) : Sp := fun vs H Q _ => ∃ i a b : Int, vs = [.int i, .int a, .int b] ∧ Q (.bl (decide (a ≤ i) && decide (i ≤ b))) H
theorem ok_is_number (T : Tx K mg) : FnOk P w K mg base CX0 2 T.a_is_number T.d_is_number ["thing", "least", "most"] (spIsNum K) := by
  refine T.F_is_number.ok sc_is_number (fun vs H Q E h => ?_) (fun cdv A outer s H vs Q E hr h => ?_)
  · obtain ⟨i, a, b, rfl, _⟩ := h
    rfl
  · obtain ⟨i, a, b, rfl, q⟩ := h
    refine ⟨_, ((pss_one (ps_ret (pe_and (pe_call (ok_is_integer T) (hr.mono (by decide)) (by rfl) T.g_is_integer T.F_is_integer.kp T.b_is_integer .nil pass0 (pa_cons (pv 0) pa_nil)) (pe_one (pe_chain op_le op_le (pv 1) (pv 0) (pv 2))))))), ?_⟩
    refine ⟨.int i, rfl, i, rfl, true, rfl, iteT ?_⟩
    refine ⟨.int a, rfl, .int i, rfl, a, i, rfl, rfl, _, rfl, ?_⟩
    by_cases h : a ≤ i
    · rw [decide_eq_true h] at q ⊢
      refine iteT ⟨.int b, rfl, i, b, rfl, rfl, ?_⟩
      exact q
    · rw [decide_eq_false h] at q ⊢
      exact iteF q
def spChkNum (lo hi : Int) (K : PySem.W.Frag) : Sp := fun vs H Q _ => ∃ k : Int, vs = [.int k] ∧ lo ≤ k ∧ k ≤ hi ∧ Q .non H
theorem ok_check_comers (T : Tx K mg) : FnOk P w K mg base CX0 3 T.a_check_comers T.d_check_comers ["thing"] (spChkNum 2 4 K) := by
  refine T.F_check_comers.ok sc_check_comers (fun vs H Q E h => ?_) (fun cdv A outer s H vs Q E hr h => ?_)
  · obtain ⟨k, rfl, _⟩ := h
    rfl
  · obtain ⟨k, rfl, h1, h2, q⟩ := h
    refine ⟨_, ((pss_one (ps_if (pt_not (pt_val (pe_call (ok_is_number T) (hr.mono (by decide)) (by rfl) T.g_is_number T.F_is_number.kp T.b_is_number .nil pass0 (pa_cons (pv 0) (pa_cons pe_int (pa_cons (pe_glob (v := .int 4) rfl T.g_MOST_COMERS ⟨_, rfl⟩) pa_nil)))))) (pss_one ps_never) pss_nil))), ?_⟩
    refine ⟨.int k, rfl, k, 2, 4, rfl, true, ?_, iteF ?_⟩
    · rw [decide_eq_true h1, decide_eq_true h2]
      rfl
    · exact q
theorem ok_check_bound (T : Tx K mg) : FnOk P w K mg base CX0 3 T.a_check_bound T.d_check_bound ["thing"] (spChkNum 1 60 K) := by
  refine T.F_check_bound.ok sc_check_bound (fun vs H Q E h => ?_) (fun cdv A outer s H vs Q E hr h => ?_)
  · obtain ⟨k, rfl, _⟩ := h
    rfl
  · obtain ⟨k, rfl, h1, h2, q⟩ := h
    refine ⟨_, ((pss_one (ps_if (pt_not (pt_val (pe_call (ok_is_number T) (hr.mono (by decide)) (by rfl) T.g_is_number T.F_is_number.kp T.b_is_number .nil pass0 (pa_cons (pv 0) (pa_cons pe_int (pa_cons (pe_glob (v := .int 60) rfl T.g_MOST_BOUND ⟨_, rfl⟩) pa_nil)))))) (pss_one ps_never) pss_nil))), ?_⟩
    refine ⟨.int k, rfl, k, 1, 60, rfl, true, ?_, iteF ?_⟩
    · rw [decide_eq_true h1, decide_eq_true h2]
      rfl
    · exact q
end

theorem cut1 (xs : List V) : cutV xs (some 1) none = xs.drop 1 := by
  unfold cutV
  rw [show HT.sIx xs.length 0 (some 1) = min 1 xs.length from HT.sIx_nat xs.length 0 1, HT.sIx_none]
  cases xs with
  | nil => rfl
  | cons x r =>
    rw [show min 1 (x :: r).length = 1 by
      rw [List.length_cons]
      omega]
    show (List.take ((x :: r).length - 1) r) = r
    rw [List.length_cons, Nat.add_sub_cancel]
    exact List.take_length
theorem Tups.at {α : Type} {f : α → List V} {H : Hp} {ps : List Addr} {xs : List α} (h : Tups f H ps xs) : ∀ {i : Nat} {x : α}, xs[i]? = some x → ∃ p, (ps.map V.ref)[i]? = some (.ref p) ∧ H p = some (.tup (f x)) := by
  induction h with
  | nil =>
    intro i x h
    simp at h
  | cons a _ ih =>
    intro i x h
    cases i with
    | zero =>
      simp at h
      subst h
      exact ⟨_, rfl, a⟩
    | succ i =>
      simp only [List.map_cons, List.getElem?_cons_succ] at h ⊢
      exact ih h

/-! ### spots and walks -/
def spotB (k b : Int) (s : Wk.Spt) : Bool := decide (0 ≤ s.1) && decide (s.1 ≤ b) && (decide (1 ≤ s.2) && decide (s.2 ≤ k)) && decide (s.1 ≥ s.2 - 1)
theorem spotB_iff {k b : Int} {s : Wk.Spt} : spotB k b s = true ↔ Wk.Spot k b s := by
  unfold spotB Wk.Spot
  simp only [Bool.and_eq_true, decide_eq_true_eq]
  omega
theorem two_eq (a b : Int × Int) : PyData.eqv (dI [a.1, a.2]) (dI [b.1, b.2]) = decide (a = b) := by
  rw [eqvI]
  refine decide_eq_decide.mpr ⟨fun h => ?_, fun h => by rw [h]⟩
  simp at h
  exact Prod.ext h.1 h.2
section
variable {P : Program} {w : World} {K : PySem.W.Frag} {mg : Str → Option Value} {base : Heap}
def spAreInts (K : PySem.W.Frag) : Sp := fun vs H Q _ => ∃ (p : Addr) (ns : List Int) (m : Int), vs = [.ref p, .int m] ∧ SqT K H p (ns.map V.int) ∧ (ns.length : Int) = m ∧ ns.length ≤ 1000 ∧ ∀ H', Same H H' → Q (.bl true) H'
theorem ok_are_integers (T : Tx K mg) : FnOk P w K mg base CX0 2 T.a_are_integers T.d_are_integers ["thing", "many"] (spAreInts K) := by
  refine T.F_are_integers.ok sc_are_integers (fun vs H Q E h => ?_) (fun cdv A outer s H vs Q E hr h => ?_)
  · obtain ⟨p, ns, m, rfl, _⟩ := h
    rfl
  · obtain ⟨p, ns, m, rfl, hT, hm, hlen, q⟩ := h
    refine ⟨_, ((pss_one (ps_ret (pe_and (pe_callB call_isi (by rfl) T.m_isinstance (by decide +kernel) (pa_cons (pv 0) (pa_cons (pe_bltn (v := .ty "tuple") (by rfl) T.m_tuple (by decide +kernel) rfl) pa_nil))) (pe_and (pe_cmpR op_eq (pe_callB call_len_seq (by rfl) T.m_len PySem.boot_len (pa_cons (pv 0) pa_nil)) (pv 1) (nomark _)) (pe_one (pe_callB (cr_all rfl) (by rfl) T.m_all (by decide +kernel) (pa_cons (pe_lc (own := [("item", 2)]) (g := (gName 2)) (tt := tYes) rfl sc_are_integers.nd (pi_tup (pv 0)) (blkOk_by (own := [("item", 2)]) (N := ["thing", "many", "item"]) (sc := defScope s_are_integers) (by decide +kernel)) (fun _ _ _ _ _ => pg_name (i := 2) sc_are_integers.nd rfl (.inl rfl)) (fun _ _ _ _ _ => pts_nil) (fun _ _ _ _ _ => (pe_call (ok_is_integer T) (hr.mono (by decide)) (by rfl) T.g_is_integer T.F_is_integer.kp T.b_is_integer .nil pass0 (pa_cons (pv 2) pa_nil)))) pa_nil)))))))), ?_⟩
    refine ⟨.ref p, rfl, .ref p, .ty "tuple", _, _, true, rfl, .ty _, tyTup hT, kit_ty (by decide +kernel), true, rfl, iteT ?_⟩
    refine ⟨.ref p, rfl, p, _, rfl, .inr hT, .int m, rfl, rfl, true, ?_, iteT ?_⟩
    · rw [List.length_map, decide_eq_true (congrArg V.int hm)]
    · refine ⟨.ref p, rfl, p, rfl, ⟨_, hT⟩, fun D hD => lc_tup (K := K) (a := p) (xs := ns.map V.int)
        (fun i H' => Same H H' ∧ H' D = some (.lst ((List.replicate i true).map V.bl)))
        ⟨same_upd hD, upd_same⟩ (fun i H' _ h => sT h.1 hT) (fun i x H' hx h => ?_) (fun H' h => ?_)⟩
      · obtain ⟨sm, eD⟩ := h
        rw [List.getElem?_map] at hx
        obtain ⟨n, hn, rfl⟩ := Option.map_eq_some_iff.mp hx
        have hi : i < ns.length := (List.getElem?_eq_some_iff.mp hn).1
        refine ⟨rfl, ?_⟩
        refine ⟨.int n, rfl, n, rfl, _, eD, by rw [List.length_map, List.length_replicate]; exact small1000 (by omega), same_put sm hD, ?_⟩
        rw [upd_same, List.replicate_succ', List.map_append]
        rfl
      · obtain ⟨sm, eD⟩ := h
        rw [List.length_map] at eD
        refine ⟨D, _, rfl, SqL.of eD, ?_⟩
        have e : (List.replicate ns.length true).all id = true := by
          rw [List.all_eq_true]
          intro x hx
          rw [(List.mem_replicate.mp hx).2]
          rfl
        rw [e]
        exact q H' sm
def spIsSpot (K : PySem.W.Frag) : Sp := fun vs H Q _ => ∃ (k b : Int) (p : Addr) (s : Wk.Spt), vs = [.int k, .int b, .ref p] ∧ SqT K H p (pv2 s) ∧ ∀ H', Same H H' → Q (.bl (spotB k b s)) H'
theorem ok_is_spot (T : Tx K mg) : FnOk P w K mg base CX0 3 T.a_is_spot T.d_is_spot ["comers", "bound", "thing"] (spIsSpot K) := by
  refine T.F_is_spot.ok sc_is_spot (fun vs H Q E h => ?_) (fun cdv A outer s H vs Q E hr h => ?_)
  · obtain ⟨k, b, p, s, rfl, _⟩ := h
    rfl
  · obtain ⟨k, b, p, ⟨wt, tu⟩, rfl, hT, q⟩ := h
    refine ⟨_, ((pss_cons (ps_if (pt_not (pt_val (pe_call (ok_are_integers T) (hr.mono (by decide)) (by rfl) T.g_are_integers T.F_are_integers.kp T.b_are_integers .nil pass0 (pa_cons (pv 2) (pa_cons pe_int pa_nil))))) (pss_one (ps_ret pe_bl)) pss_nil)
  (pss_cons (ps_asg (pv 2) (pg_tup rfl (pgs_cons (pg_name (i := 3) sc_is_spot.nd rfl (.inl rfl)) (pgs_cons (pg_name (i := 4) sc_is_spot.nd rfl (.inl rfl)) pgs_nil))))
  (pss_one (ps_ret (pe_and (pe_chain op_le op_le pe_int (pv 3) (pv 1)) (pe_and (pe_chain op_le op_le pe_int (pv 4) (pv 0)) (pe_one (pe_cmpR op_ge (pv 3) (pe_op op_sub (pv 4) pe_int) (nomark _)))))))))), ?_⟩
    refine ⟨.ref p, rfl, p, [wt, tu], 2, rfl, hT, rfl, by show 2 ≤ 1000; decide, fun H1 s1 => ⟨true, rfl, iteF ?_⟩⟩
    refine ⟨.ref p, rfl, p, _, rfl, sT s1 hT, rfl, _, [_], rfl, _, [], rfl, rfl, ?_⟩
    have qq := q H1 s1
    unfold spotB at qq
    refine ⟨.int wt, rfl, 0, wt, rfl, rfl, ?_⟩
    by_cases c1 : 0 ≤ wt
    · rw [show decide (0 ≤ ((wt, tu) : Wk.Spt).1) = true from decide_eq_true c1] at qq
      refine ⟨true, congrArg V.bl (decide_eq_true c1), iteT ⟨.int b, rfl, wt, b, rfl, rfl, ?_⟩⟩
      by_cases c2 : wt ≤ b
      · rw [show decide (((wt, tu) : Wk.Spt).1 ≤ b) = true from decide_eq_true c2] at qq
        refine ⟨true, congrArg V.bl (decide_eq_true c2), iteT ?_⟩
        refine ⟨.int tu, rfl, 1, tu, rfl, rfl, ?_⟩
        by_cases c3 : 1 ≤ tu
        · rw [show decide (1 ≤ ((wt, tu) : Wk.Spt).2) = true from decide_eq_true c3] at qq
          refine ⟨true, congrArg V.bl (decide_eq_true c3), iteT ⟨.int k, rfl, tu, k, rfl, rfl, ?_⟩⟩
          by_cases c4 : tu ≤ k
          · rw [show decide (((wt, tu) : Wk.Spt).2 ≤ k) = true from decide_eq_true c4] at qq
            refine ⟨true, congrArg V.bl (decide_eq_true c4), iteT ?_⟩
            exact ⟨.int wt, rfl, .int tu, rfl, _, _, rfl, rfl, _, _, rfl, rfl, qq⟩
          · rw [show decide (((wt, tu) : Wk.Spt).2 ≤ k) = false from decide_eq_false c4] at qq
            exact ⟨false, congrArg V.bl (decide_eq_false c4), iteF qq⟩
        · rw [show decide (1 ≤ ((wt, tu) : Wk.Spt).2) = false from decide_eq_false c3] at qq
          exact ⟨false, congrArg V.bl (decide_eq_false c3), iteF ⟨false, rfl, iteF qq⟩⟩
      · rw [show decide (((wt, tu) : Wk.Spt).1 ≤ b) = false from decide_eq_false c2] at qq
        exact ⟨false, congrArg V.bl (decide_eq_false c2), iteF qq⟩
    · rw [show decide (0 ≤ ((wt, tu) : Wk.Spt).1) = false from decide_eq_false c1] at qq
      exact ⟨false, congrArg V.bl (decide_eq_false c1), iteF ⟨false, rfl, iteF qq⟩⟩
def spIsNext (K : PySem.W.Frag) : Sp := fun vs H Q _ => ∃ (k b : Int) (p o : Addr) (s t : Wk.Spt), vs = [.int k, .int b, .ref p, .ref o] ∧ SqT K H p (pv2 s) ∧ SqT K H o (pv2 t) ∧ Wk.Nx k b s t ∧ ∀ H', Same H H' → Q (.bl true) H'
theorem ok_is_next (T : Tx K mg) : FnOk P w K mg base CX0 4 T.a_is_next T.d_is_next ["comers", "bound", "spot", "other"] (spIsNext K) := by
  refine T.F_is_next.ok sc_is_next (fun vs H Q E h => ?_) (fun cdv A outer s H vs Q E hr h => ?_)
  · obtain ⟨k, b, p, o, s, t, rfl, _⟩ := h
    rfl
  · obtain ⟨k, b, p, o, ⟨wt, tu⟩, ⟨wo, to⟩, rfl, hP, hO, nx, q⟩ := h
    refine ⟨_, ((pss_cons (ps_if (pt_not (pt_val (pe_call (ok_is_spot T) (hr.mono (by decide)) (by rfl) T.g_is_spot T.F_is_spot.kp T.b_is_spot .nil pass0 (pa_cons (pv 0) (pa_cons (pv 1) (pa_cons (pv 3) pa_nil)))))) (pss_one (ps_ret pe_bl)) pss_nil)
  (pss_cons (ps_asg (pv 2) (pg_tup rfl (pgs_cons (pg_name (i := 4) sc_is_next.nd rfl (.inl rfl)) (pgs_cons (pg_name (i := 5) sc_is_next.nd rfl (.inl rfl)) pgs_nil))))
  (pss_one (ps_ret (pe_or (pe_cmpR (op_eqD hr.units) (pv 3) (pe_tup (pa_cons (pe_op op_add (pv 4) pe_int) (pa_cons (pe_op op_add (pv 5) pe_int) pa_nil))) (nomark _)) (pe_one (pe_and (pe_cmpR op_eq (pe_ix ix_tup (pv 3) pe_int (fun _ _ => rfl)) pe_int (nomark _)) (pe_one (pe_cmpR op_le (pe_ix ix_tup (pv 3) pe_int (fun _ _ => rfl)) (pv 4) (nomark _))))))))))), ?_⟩
    have sb := spotB_iff.mpr nx.1
    refine ⟨.int k, rfl, .int b, rfl, .ref o, rfl, k, b, o, (wo, to), rfl, hO, fun H1 s1 => ⟨true, congrArg V.bl sb, iteF ?_⟩⟩
    refine ⟨.ref p, rfl, p, _, rfl, sT s1 hP, rfl, _, [_], rfl, _, [], rfl, rfl, ?_⟩
    refine ⟨.ref o, rfl, .int wt, rfl, _, _, rfl, rfl, .int tu, rfl, _, _, rfl, rfl, by show 2 ≤ sizeLine; decide, fun c nc => ?_⟩
    have s2 := same_upd (o := .tup [.int (wt + 1), .int (tu + 1)]) nc
    have s12 := s1.trans s2
    refine ⟨dI [wo, to], dI [wt + 1, tu + 1], dp_dI (sT s12 hO), dp_dI (SqT.of upd_same), (Shp.dI _).ok (by decide), (Shp.dI _).ok (by decide), ?_⟩
    have e2 := two_eq (wo, to) (wt + 1, tu + 1)
    by_cases c : ((wo, to) : Int × Int) = (wt + 1, tu + 1)
    · rw [decide_eq_true c] at e2
      refine ⟨true, congrArg V.bl e2, iteT ?_⟩
      exact q _ s12
    · rw [decide_eq_false c] at e2
      refine ⟨false, congrArg V.bl e2, iteF ?_⟩
      obtain ⟨h1, h2⟩ : to = 1 ∧ wo ≤ wt := by
        rcases nx.2 with e | ⟨e1, e2⟩
        · exact absurd e c
        · exact ⟨e1, e2⟩
      refine ⟨.ref o, rfl, o, _, 1, _, rfl, rfl, sT s12 hO, atI_nat (j := 1) rfl, rfl, true, congrArg V.bl (decide_eq_true (congrArg V.int h1)), iteT ?_⟩
      refine ⟨.ref o, rfl, o, _, 0, _, rfl, rfl, sT s12 hO, atI_nat (j := 0) rfl, .int wt, rfl, _, _, rfl, rfl, ?_⟩
      have qq := q _ s12
      rw [← decide_eq_true h2] at qq
      exact qq
end

/-! ### walks, as a list or a tuple -/
section
variable {P : Program} {w : World} {K : PySem.W.Frag} {mg : Str → Option Value} {base : Heap}
/-- a list (κ) or a tuple -/
def Kd (κ : Bool) (K : PySem.W.Frag) (H : Hp) (a : Addr) (xs : List V) : Prop := match κ with
  | true => H a = some (.lst xs)
  | false => SqT K H a xs
section
variable {κ : Bool} {H H' : Hp} {a L : Addr} {xs ys : List V}
theorem Kd.same (h : Kd κ K H a xs) (e : Same H H') : Kd κ K H' a xs := match κ, h with
  | true, h => e _ _ h
  | false, h => sT e h
theorem Kd.len (h : Kd κ K H a xs) : SqL K H a xs ∨ SqT K H a xs := match κ, h with
  | true, h => .inl (SqL.of h)
  | false, h => .inr h
theorem Kd.put {o : HO} {zs : List V} (h : Kd κ K H a xs) (e : H L = some (.lst zs)) (n : a ≠ L) : Kd κ K (upd H L o) a xs := match κ, h with
  | true, h => (upd_ne n).trans h
  | false, h => by
    rcases h with (h | ⟨z, h⟩) | h
    · exact .inl (.inl ((upd_ne n).trans h))
    · exact .inl (.inr ⟨z, (upd_ne n).trans h⟩)
    · exact .inr h
theorem ixK {i : Int} {v : V} {Q : VK} (h : Kd κ K H L xs) (e : atI xs i = some v) (q : Q v H) : rIxL K (.ref L) (.int i) H Q ∨ rIxT K (.ref L) (.int i) H Q := match κ, h with
  | true, h => .inl ⟨L, xs, i, v, rfl, rfl, SqL.of h, e, q⟩
  | false, h => .inr ⟨L, xs, i, v, rfl, rfl, h, e, q⟩
theorem slK {Q : VK} (h : Kd κ K H L xs) (hx : 0 < xs.length) (q : ∀ c o, H c = none → Kd κ K (upd H c o) c (xs.drop 1) → Q (.ref c) (upd H c o)) : rSlL K (.ref L) (some 1) none H Q ∨ rSlA K (.ref L) (some 1) none H Q := match κ, h with
  | true, h => .inl ⟨L, xs, rfl, SqL.of h, fun c nc => q c _ nc (by rw [← cut1]; exact upd_same)⟩
  | false, h => .inr ⟨L, xs, rfl, h, fun z => (by
      have e : HT.sIx xs.length 0 (some 1) = min 1 xs.length := HT.sIx_nat xs.length 0 1
      rw [e] at z
      omega), fun _ c nc => q c _ nc (by rw [← cut1]; exact SqT.of upd_same)⟩
theorem Kd.isi (h : Kd κ K H a xs) : ∃ t, TyX K H (.ref a) t ∧ PySem.W.kitAny K t [.type "list", .type "tuple"] = some true := match κ, h with
  | true, h => ⟨_, .base (.lst h), kitAny_cons (kit_ty (r := true) (by decide +kernel)) (fun h => by cases h) (fun _ => rfl)⟩
  | false, h => ⟨_, tyTup h, kitAny_cons (kit_ty (r := false) (by decide +kernel)) (fun _ => kitAny_cons (kit_ty (r := true) (by decide +kernel)) (fun h => by cases h) (fun _ => rfl)) (fun h => by cases h)⟩
end
theorem for_zipK {κ : Bool} {a b : Addr} {xs ys : List V} {g : TG} {tb : TS} {D : Ends} {σ : L2.St} {H : Hp} (hl : ys.length ≤ xs.length) (Pv : Nat → L2.St → Hp → Prop) (h0 : Pv 0 σ H) (hq : ∀ i σ H, Pv i σ H → Kd κ K H a xs ∧ Kd κ K H b ys)
    (hs : ∀ (i : Nat) (x y : V) (T : Addr) (σ : L2.St) (H : Hp), xs[i]? = some x → ys[i]? = some y → Pv i σ H → H T = none → g (.ref T) σ (upd H T (.tup [x, y])) fun σ2 H2 => tb { D with nx := Pv (i + 1), ct := Pv (i + 1), bk := D.nx } σ2 H2) (hd : ∀ σ H, Pv ys.length σ H → D.nx σ H) :
    (SqL K H a xs ∧ SqL K H b ys ∧ ∃ W : Nat → Nat → L2.St → Hp → Prop, (∃ m, W 0 m σ H) ∧ ∀ i m σ H, W i m σ H →
      ((Itz K a b).stop i H ∧ D.nx σ H) ∨ ((Itz K a b).go i H ∧ ∃ N : L2.St → Hp → Prop, (∀ σ' H', N σ' H' → ∃ m', m' < m ∧ W (i + 1) m' σ' H') ∧ ∀ v H', (Itz K a b).yld i H v H' → g v σ H' fun σ2 H2 => tb { D with nx := N, ct := N, bk := D.nx } σ2 H2)) ∨
    (SqT K H a xs ∧ SqT K H b ys ∧ ∃ W : Nat → Nat → L2.St → Hp → Prop, (∃ m, W 0 m σ H) ∧ ∀ i m σ H, W i m σ H →
      ((RZ.ItzT K a b).stop i H ∧ D.nx σ H) ∨ ((RZ.ItzT K a b).go i H ∧ ∃ N : L2.St → Hp → Prop, (∀ σ' H', N σ' H' → ∃ m', m' < m ∧ W (i + 1) m' σ' H') ∧ ∀ v H', (RZ.ItzT K a b).yld i H v H' → g v σ H' fun σ2 H2 => tb { D with nx := N, ct := N, bk := D.nx } σ2 H2)) := by
  cases κ with
  | true =>
    have hq' : ∀ i σ H, Pv i σ H → SqL K H a xs ∧ SqL K H b ys := fun i σ H p => ⟨SqL.of (hq i σ H p).1, SqL.of (hq i σ H p).2⟩
    exact .inl ⟨(hq' 0 σ H h0).1, (hq' 0 σ H h0).2, for_zipS hl Pv h0 hq' hs hd⟩
  | false =>
    refine .inr ⟨(hq 0 σ H h0).1, (hq 0 σ H h0).2, fun k m σ H => k + m = ys.length ∧ Pv k σ H, ⟨ys.length, Nat.zero_add _, h0⟩, ?_⟩
    intro k m σ H h
    obtain ⟨hk, p⟩ := h
    have tt : SqT K H a xs ∧ SqT K H b ys := hq k σ H p
    cases m with
    | zero =>
      have e : k = ys.length := hk
      rw [e] at p ⊢
      exact .inl ⟨⟨xs, ys, tt.1, tt.2, .inr (Nat.le_refl _)⟩, hd σ H p⟩
    | succ m =>
      have lt : k < ys.length := by omega
      have gx : xs[k]? = some xs[k] := List.getElem?_eq_getElem (by omega)
      have gy : ys[k]? = some ys[k] := List.getElem?_eq_getElem lt
      refine .inr ⟨⟨xs, ys, _, _, tt.1, tt.2, gx, gy⟩, Pv (k + 1), fun σ' H' r => ⟨m, Nat.lt_succ_self m, by omega, r⟩, fun v G y => ?_⟩
      obtain ⟨T, x1, y1, e1, nT, e2, e3, e4⟩ := y
      rw [e1, e2]
      exact hs k x1 y1 T σ H (e3 xs tt.1) (e4 ys tt.2) p nT
def spIsWalk (K : PySem.W.Frag) : Sp := fun vs H Q _ => ∃ (k b : Int) (L : Addr) (ps : List Addr) (row : List Wk.Spt) (κ : Bool), vs = [.int k, .int b, .ref L] ∧ Kd κ K H L (ps.map V.ref) ∧ Tups pv2 H ps row ∧ Wk.Walk k b row ∧ row.length ≤ 60 ∧ ∀ H', Same H H' → Q (.bl true) H'
theorem chain_at {k b : Int} : ∀ (r : List Wk.Spt) (s : Wk.Spt) (i : Nat) (x y : Wk.Spt), Wk.Chain k b s r → (s :: r)[i]? = some x → (s :: r)[i + 1]? = some y → Wk.Nx k b x y
  | [], s, i, x, y, _, _, h => by simp at h
  | o :: r, s, 0, x, y, hc, h1, h2 => by
    simp at h1 h2
    subst h1 h2
    exact hc.1
  | o :: r, s, i + 1, x, y, hc, h1, h2 => chain_at r o i x y hc.2 h1 h2
theorem walk_at {k b : Int} {row : List Wk.Spt} (h : Wk.Walk k b row) {i : Nat} {x y : Wk.Spt} (h1 : row[i]? = some x) (h2 : row[i + 1]? = some y) : Wk.Nx k b x y := by
  cases row with
  | nil => exact False.elim h
  | cons s r => exact chain_at r s i x y h.2.2 h1 h2
theorem ok_is_walk (T : Tx K mg) : FnOk P w K mg base CX0 5 T.a_is_walk T.d_is_walk ["comers", "bound", "thing"] (spIsWalk K) := by
  refine T.F_is_walk.ok sc_is_walk (fun vs H Q E h => ?_) (fun cdv A outer s H vs Q E hr h => ?_)
  · obtain ⟨k, b, L, ps, row, κ, rfl, _⟩ := h
    rfl
  · obtain ⟨k, b, L, ps, row, κ, rfl, eL, tu, hw, h60, q⟩ := h
    have hne : row ≠ [] := fun e => by
      rw [e] at hw
      exact hw
    have hl1 : 1 ≤ row.length := by
      cases row with
      | nil => exact absurd rfl hne
      | cons _ _ => rw [List.length_cons]; omega
    refine ⟨_, ((pss_cons (ps_if (PW.pt (pw_or (pt_not (pt_val (pe_callB call_isiT (by rfl) T.m_isinstance (by decide +kernel) (pa_cons (pv 2) (pa_cons (pe_tup (pa_cons (pe_bltn (v := .ty "list") (by rfl) T.m_list (by decide +kernel) rfl) (pa_cons (pe_bltn (v := .ty "tuple") (by rfl) T.m_tuple (by decide +kernel) rfl) pa_nil))) pa_nil))))) (pw_or1 (pt_cmpR op_eq (pe_callB call_len_seq (by rfl) T.m_len PySem.boot_len (pa_cons (pv 2) pa_nil)) pe_int (nomark _))))) (pss_one (ps_ret pe_bl)) pss_nil)
  (pss_cons (ps_set (i := 3) sc_is_walk.nd rfl (.inl rfl) (pe_ix (ix_list.or ix_tup) (pv 2) pe_int (fun _ _ => rfl)))
  (pss_cons (ps_if (PW.pt (pw_or (pt_not (pt_val (pe_call (ok_is_spot T) (hr.mono (by decide)) (by rfl) T.g_is_spot T.F_is_spot.kp T.b_is_spot .nil pass0 (pa_cons (pv 0) (pa_cons (pv 1) (pa_cons (pv 3) pa_nil)))))) (pw_or1 (pt_cmpR op_ne (pe_ix ix_tup (pv 3) pe_int (fun _ _ => rfl)) pe_int (nomark _))))) (pss_one (ps_ret pe_bl)) pss_nil)
  (pss_cons (ps_for PassesOwn.never rfl (pi_range2 (by rfl) T.m_range (pa_cons pe_int (pa_cons (pe_callB call_len_seq (by rfl) T.m_len PySem.boot_len (pa_cons (pv 2) pa_nil)) pa_nil))) (pg_name (i := 4) sc_is_walk.nd rfl (.inl rfl))
   (pss_one (ps_if (pt_not (pt_val (pe_call (ok_is_next T) (hr.mono (by decide)) (by rfl) T.g_is_next T.F_is_next.kp T.b_is_next .nil pass0 (pa_cons (pv 0) (pa_cons (pv 1) (pa_cons (pe_ix (ix_list.or ix_tup) (pv 2) (pe_op op_sub (pv 4) pe_int) (fun _ _ => rfl)) (pa_cons (pe_ix (ix_list.or ix_tup) (pv 2) (pv 4) (fun _ _ => rfl)) pa_nil))))))) (pss_one (ps_ret pe_bl)) pss_nil)))
  (pss_one (ps_ret pe_bl))))))), ?_⟩
    refine ⟨.ref L, rfl, by show 2 ≤ sizeLine; decide, fun tp ntp => ?_⟩
    have s1 := same_upd (o := .tup [V.ty "list", .ty "tuple"]) ntp
    obtain ⟨ty, kt1, kt2⟩ := (eL.same s1).isi
    refine ⟨.ref L, tp, _, ty, [.type "list", .type "tuple"], true, rfl, upd_same, .cons (.ty _) (.cons (.ty _) .nil), kt1, kt2, true, rfl, iteF ?_⟩
    refine ⟨.ref L, rfl, L, _, rfl, (eL.same s1).len, rfl, false, ?_, iteF ?_⟩
    · rw [List.length_map, tu.length, decide_eq_false (fun z => by
        have := V.int.inj z
        omega)]
    · obtain ⟨s0, hs0⟩ : ∃ s0, row[0]? = some s0 := ⟨_, List.getElem?_eq_getElem (by omega)⟩
      obtain ⟨p0, hp0, e0⟩ := tu.at hs0
      have hsp : Wk.Spot k b s0 ∧ s0.2 = 1 := by
        cases row with
        | nil => exact absurd rfl hne
        | cons s r =>
          simp at hs0
          subst hs0
          exact ⟨hw.1, hw.2.1⟩
      refine ⟨.ref L, rfl, ixK (eL.same s1) (atI_nat (j := 0) hp0) ?_⟩
      have sb := spotB_iff.mpr hsp.1
      refine ⟨.int k, rfl, .int b, rfl, .ref p0, rfl, k, b, p0, s0, rfl, SqT.of (s1 _ _ e0), fun H2 s2 => ⟨true, congrArg V.bl sb, iteF ?_⟩⟩
      have s12 := s1.trans s2
      refine ⟨.ref p0, rfl, p0, _, 1, _, rfl, rfl, SqT.of (s12 _ _ e0), atI_nat (j := 1) rfl, rfl, false, ne_no hsp.2, iteF ?_⟩
      refine ⟨.ref L, rfl, L, _, rfl, (eL.same s12).len, 1, _, rfl, ⟨by omega, by omega, by omega, by rw [List.length_map, tu.length]; omega⟩, for_range (lo := 1) (n := ((((ps.map V.ref).length : Nat) : Int) - 1).toNat)
        (fun i σ H' => ∃ (y4 : Option V), σ = [some (.int k), some (.int b), some (.ref L), some (.ref p0), y4] ∧ Same H H') ⟨_, rfl, s12⟩ (fun i σ H' hi h => ?_) (fun σ H' h => ?_)⟩
      · obtain ⟨y4, rfl, sm⟩ := h
        rw [List.length_map, tu.length] at hi
        have hi' : i + 1 < row.length := by omega
        obtain ⟨x, hx⟩ : ∃ x, row[i]? = some x := ⟨_, List.getElem?_eq_getElem (by omega)⟩
        obtain ⟨y, hy⟩ : ∃ y, row[i + 1]? = some y := ⟨_, List.getElem?_eq_getElem hi'⟩
        obtain ⟨px, hpx, ex⟩ := tu.at hx
        obtain ⟨py, hpy, ey⟩ := tu.at hy
        refine ⟨.int k, rfl, .int b, rfl, .ref L, rfl, .int (1 + (i : Int)), rfl, _, _, rfl, rfl, ixK (eL.same sm) (atI_of (by show (0 : Int) ≤ 1 + (i : Int) - 1; omega) (by rw [show ((1 : Int) + (i : Int) - 1).toNat = i by omega]; exact hpx))
          ⟨.ref L, rfl, .int (1 + (i : Int)), rfl, ixK (eL.same sm) (atI_of (by omega) (by rw [show ((1 : Int) + (i : Int)).toNat = i + 1 by omega]; exact hpy)) ⟨k, b, px, py, x, y, rfl, SqT.of (sm _ _ ex), SqT.of (sm _ _ ey), walk_at hw hx hy, fun H3 s3 => ⟨true, rfl, iteF ?_⟩⟩⟩⟩
        exact ⟨_, rfl, sm.trans s3⟩
      · obtain ⟨y4, rfl, sm⟩ := h
        exact q H' sm
def spComFor (K : PySem.W.Frag) : Sp := fun vs H Q _ => ∃ (k b : Int) (L : Addr) (ps : List Addr) (row : List Wk.Spt) (κ : Bool), vs = [.int k, .int b, .ref L] ∧ Kd κ K H L (ps.map V.ref) ∧ Tups pv2 H ps row ∧ Wk.Walk k b row ∧ row.length ≤ 60 ∧ 2 ≤ k ∧ k ≤ 4 ∧ 1 ≤ b ∧ b ≤ 60 ∧
  ∀ p c H', Same H H' → H' p = some (.tup [.ref c, .int (2 * (row.headD (0, 0)).1)]) → H' c = some (.tup ((Wk.cf row).map V.int)) → Q (.ref p) H'
/-- the comings behind so many spots -/
def cfN (row : List Wk.Spt) : Nat → List Int
  | 0 => Wk.start (row.headD (0, 0)).1
  | i + 1 => Wk.grow (cfN row i) (row.getD i (0, 0)) (row.getD (i + 1) (0, 0))
theorem cfN_go : ∀ (r : List Wk.Spt) (row : List Wk.Spt) (i : Nat) (s : Wk.Spt), row.drop i = s :: r → Wk.cfGo (cfN row i) s r = cfN row (i + r.length)
  | [], row, i, s, _ => rfl
  | o :: r, row, i, s, h => by
    have h1 : row.getD i (0, 0) = s := by
      rw [List.getD_eq_getElem?_getD, ← List.head?_drop, h]
      rfl
    have h2 : row.drop (i + 1) = o :: r := by
      rw [← List.tail_drop, h]
      rfl
    have h3 : row.getD (i + 1) (0, 0) = o := by
      rw [List.getD_eq_getElem?_getD, ← List.head?_drop, h2]
      rfl
    show Wk.cfGo (Wk.grow (cfN row i) s o) o r = _
    have e : Wk.grow (cfN row i) s o = cfN row (i + 1) := by
      show _ = Wk.grow (cfN row i) (row.getD i (0, 0)) (row.getD (i + 1) (0, 0))
      rw [h1, h3]
    rw [e, cfN_go r row (i + 1) o h2, List.length_cons]
    congr 1
    omega
theorem cfN_all {row : List Wk.Spt} (h : row ≠ []) : cfN row (row.length - 1) = Wk.cf row := by
  cases row with
  | nil => exact absurd rfl h
  | cons s r =>
    have := cfN_go r (s :: r) 0 s rfl
    rw [Nat.zero_add] at this
    rw [List.length_cons, Nat.add_sub_cancel, ← this]
    rfl
theorem grow_len (cs : List Int) {s o : Wk.Spt} (hs : s.1 ≤ 60) (ho : 0 ≤ o.1) : (Wk.grow cs s o).length ≤ cs.length + 61 := by
  unfold Wk.grow
  split
  · have : ∀ l : List Int, (Wk.incL l).length = l.length := by
      intro l
      induction l with
      | nil => rfl
      | cons x l ih =>
        cases l with
        | nil => rfl
        | cons y l => show (Wk.incL (y :: l)).length + 1 = _; rw [ih]; rfl
    rw [this]
    omega
  · rw [List.length_append, List.length_append, List.length_replicate]
    show cs.length + ((s.1 - o.1).toNat + 1) ≤ _
    omega
theorem last_split {cs : List Int} (h : cs ≠ []) : ∃ ds x, cs = ds ++ [x] := ⟨cs.dropLast, cs.getLast h, (List.dropLast_concat_getLast h).symm⟩
theorem grow_ne (cs : List Int) (s o : Wk.Spt) (h : cs ≠ []) : Wk.grow cs s o ≠ [] := by
  obtain ⟨ds, x, rfl⟩ := last_split h
  unfold Wk.grow
  split
  · rw [Wk.incL_snoc]
    simp
  · simp
theorem cfN_ne (row : List Wk.Spt) : ∀ i, cfN row i ≠ []
  | 0 => by
    show Wk.start _ ≠ []
    unfold Wk.start
    simp
  | i + 1 => grow_ne _ _ _ (cfN_ne row i)
theorem walk_rng {k b : Int} : ∀ (r : List Wk.Spt) (s : Wk.Spt), Wk.Spot k b s → Wk.Chain k b s r → ∀ x ∈ s :: r, Wk.Spot k b x
  | [], s, hs, _, x, hx => by
    rw [List.mem_singleton.mp hx]
    exact hs
  | o :: r, s, hs, hc, x, hx => by
    rcases List.mem_cons.mp hx with e | hx
    · rw [e]
      exact hs
    · exact walk_rng r o hc.1.1 hc.2 x hx
theorem walk_spots {k b : Int} {row : List Wk.Spt} (h : Wk.Walk k b row) : ∀ x ∈ row, Wk.Spot k b x := by
  cases row with
  | nil => exact False.elim h
  | cons s r => exact walk_rng r s h.1 h.2.2
theorem cfN_len {k b : Int} {row : List Wk.Spt} (h : Wk.Walk k b row) (hb : b ≤ 60) : ∀ i, i < row.length → (cfN row i).length ≤ 61 * (i + 1)
  | 0, hi => by
    have hs : (row.headD (0, 0)).1 ≤ 60 := by
      cases row with
      | nil => exact False.elim h
      | cons s r => have := h.1.2.1; show s.1 ≤ 60; omega
    have e : (cfN row 0).length = (row.headD (0, 0)).1.toNat + 1 := by
      show (List.replicate (row.headD (0, 0)).1.toNat (2 : Int) ++ [(1 : Int)]).length = _
      rw [List.length_append, List.length_replicate]
      rfl
    rw [e]
    omega
  | i + 1, hi => by
    have ih := cfN_len h hb i (by omega)
    have h1 : row.getD i (0, 0) ∈ row := by
      rw [List.getD_eq_getElem?_getD, List.getElem?_eq_getElem (by omega)]
      exact List.getElem_mem _
    have h2 : row.getD (i + 1) (0, 0) ∈ row := by
      rw [List.getD_eq_getElem?_getD, List.getElem?_eq_getElem (by omega)]
      exact List.getElem_mem _
    have s1 := walk_spots h _ h1
    have s2 := walk_spots h _ h2
    have := grow_len (cfN row i) (s := row.getD i (0, 0)) (o := row.getD (i + 1) (0, 0)) (by have := s1.2.1; omega) s2.1
    show (Wk.grow _ _ _).length ≤ _
    omega
theorem set_last {ds : List Int} {x y : Int} : ((ds ++ [x]).map V.int).set ds.length (V.int y) = (ds ++ [y]).map V.int := by
  rw [List.map_append, List.map_append]
  have : ds.length = (ds.map V.int).length := by rw [List.length_map]
  rw [this]
  simp
theorem ok_comings_for (T : Tx K mg) : FnOk P w K mg base CX0 6 T.a_comings_for T.d_comings_for ["comers", "bound", "row"] (spComFor K) := by
  refine T.F_comings_for.ok sc_comings_for (fun vs H Q E h => ?_) (fun cdv A outer s H vs Q E hr h => ?_)
  · obtain ⟨k, b, L, ps, row, κ, rfl, _⟩ := h
    rfl
  · obtain ⟨k, b, L, ps, row, κ, rfl, eL, tu, hw, h60, hk2, hk4, hb1, hb60, q⟩ := h
    have hne : row ≠ [] := fun e => by
      rw [e] at hw
      exact hw
    obtain ⟨s0, r0, rfl⟩ : ∃ s0 r0, row = s0 :: r0 := by
      cases row with
      | nil => exact absurd rfl hne
      | cons s r => exact ⟨s, r, rfl⟩
    have hs0 := hw.1
    have hs01 := hs0.1
    have hs02 := hs0.2.1
    obtain ⟨p0, hp0, e0⟩ := tu.at (i := 0) (x := s0) rfl
    have el : ps.length = r0.length + 1 := tu.length
    refine ⟨_, ((pss_cons (ps_expr (pe_call (ok_check_comers T) (hr.mono (by decide)) (by rfl) T.g_check_comers T.F_check_comers.kp T.b_check_comers .nil pass0 (pa_cons (pv 0) pa_nil)))
  (pss_cons (ps_expr (pe_call (ok_check_bound T) (hr.mono (by decide)) (by rfl) T.g_check_bound T.F_check_bound.kp T.b_check_bound .nil pass0 (pa_cons (pv 1) pa_nil)))
  (pss_cons (ps_if (PW.pt (pw_or (pt_not (pt_val (pe_call (ok_is_walk T) (hr.mono (by decide)) (by rfl) T.g_is_walk T.F_is_walk.kp T.b_is_walk .nil pass0 (pa_cons (pv 0) (pa_cons (pv 1) (pa_cons (pv 2) pa_nil)))))) (pw_or1 (pt_cmpR op_gt (pe_callB call_len_seq (by rfl) T.m_len PySem.boot_len (pa_cons (pv 2) pa_nil)) (pe_glob (v := .int 60) rfl T.g_MOST_SPOTS ⟨_, rfl⟩) (nomark _))))) (pss_one ps_never) pss_nil)
  (pss_cons (ps_set (i := 3) sc_comings_for.nd rfl (.inl rfl) (pe_ix ix_tup (pe_ix (ix_list.or ix_tup) (pv 2) pe_int (fun _ _ => rfl)) pe_int (fun _ _ => rfl)))
  (pss_cons (ps_set (i := 4) sc_comings_for.nd rfl (.inl rfl) (pe_op op_cat (pe_op op_rep (pe_lst (pa_cons pe_int pa_nil)) (pv 3)) (pe_lst (pa_cons pe_int pa_nil))))
  (pss_cons (ps_for PassesOwn.never rfl (RZ.pi_zipA (by rfl) T.m_zip (pa_cons (pv 2) (pa_cons (pe_slice (sl_list.or sl_tupA) (pv 2) (po_some pe_int) po_none) pa_nil))) (pg_tup rfl (pgs_cons (pg_tup rfl (pgs_cons (pg_name (i := 5) sc_comings_for.nd rfl (.inl rfl)) (pgs_cons (pg_name (i := 6) sc_comings_for.nd rfl (.inl rfl)) pgs_nil))) (pgs_cons (pg_tup rfl (pgs_cons (pg_name (i := 7) sc_comings_for.nd rfl (.inl rfl)) (pgs_cons (pg_name (i := 8) sc_comings_for.nd rfl (.inl rfl)) pgs_nil))) pgs_nil)))
   (pss_one (ps_if (pt_cmpR op_gt (pv 8) pe_int (nomark _)) (pss_one (ps_augS (pv 4) (pe_un un_neg pe_int) pgetL pe_int ip_add set_list)) (pss_one (ps_expr (pe_bm PySem.F.plainAttrs_list PySem.F.slot_list_extend PySem.F.type_list_extend mt_extend (pv 4) (pa_cons (pe_op op_cat (pe_op op_rep (pe_lst (pa_cons pe_int pa_nil)) (pe_op op_sub (pv 5) (pv 7))) (pe_lst (pa_cons pe_int pa_nil))) pa_nil)))))))
  (pss_one (ps_ret (pe_tup (pa_cons (pe_callTy call_tuple_of (by rfl) T.m_tuple (by decide +kernel) (pa_cons (pv 4) pa_nil)) (pa_cons (pe_op op_mul pe_int (pv 3)) pa_nil)))))))))))), ?_⟩
    refine ⟨.int k, rfl, k, rfl, hk2, hk4, ?_⟩
    refine ⟨.int b, rfl, b, rfl, hb1, hb60, ?_⟩
    refine ⟨.int k, rfl, .int b, rfl, .ref L, rfl, k, b, L, ps, _, κ, rfl, eL, tu, hw, h60, fun H1 s1 => ⟨true, rfl, iteF ?_⟩⟩
    refine ⟨.ref L, rfl, L, _, rfl, (eL.same s1).len, _, _, rfl, rfl, false, ?_, iteF ?_⟩
    · rw [List.length_map]
      exact congrArg V.bl (decide_eq_false (by
        rw [List.length_cons] at h60
        omega))
    refine ⟨.ref L, rfl, ixK (eL.same s1) (atI_nat (j := 0) hp0) ⟨p0, _, 0, _, rfl, rfl, SqT.of (s1 _ _ e0), atI_nat (j := 0) rfl, ?_⟩⟩
    -- comings = [2] * start + [1]
    refine ⟨by show 1 ≤ sizeLine; decide, fun c1 n1 => ?_⟩
    have t1 := same_upd (o := .lst [V.int 2]) n1
    refine ⟨.int s0.1, rfl, c1, s0.1, _, rfl, rfl, upd_same, by omega, by omega, by show 1 * s0.1.toNat ≤ 2 ^ 24; omega, fun c2 n2 => ?_⟩
    have t2 := same_upd (o := .lst (List.replicate s0.1.toNat [V.int 2]).flatten) n2
    refine ⟨by show 1 ≤ sizeLine; decide, fun c3 n3 => ?_⟩
    have t3 := same_upd (o := .lst [V.int 1]) n3
    refine ⟨c2, c3, _, _, rfl, rfl, t3 _ _ upd_same, upd_same, ?_, fun C nC => ?_⟩
    · rw [flat_one, List.length_replicate]
      show s0.1.toNat + 1 ≤ 2 ^ 24
      omega
    have t4 := same_upd (o := .lst ((List.replicate s0.1.toNat [V.int 2]).flatten ++ [V.int 1])) nC
    have sA := (((s1.trans t1).trans t2).trans t3).trans t4
    have eC0 : (upd (upd (upd (upd H1 c1 (.lst [V.int 2])) c2 (.lst (List.replicate s0.1.toNat [V.int 2]).flatten)) c3 (.lst [V.int 1])) C (.lst ((List.replicate s0.1.toNat [V.int 2]).flatten ++ [V.int 1]))) C = some (.lst ((cfN (s0 :: r0) 0).map V.int)) := by
      rw [upd_same, flat_one]
      show _ = some (HO.lst ((List.replicate s0.1.toNat (2 : Int) ++ [(1 : Int)]).map V.int))
      rw [List.map_append, List.map_replicate]
      rfl
    have nHC : H C = none := Same.free (((s1.trans t1).trans t2).trans t3) nC
    -- zip(row, row[1:])
    refine ⟨.ref L, rfl, .ref L, rfl, 1, rfl, slK (eL.same sA) (by rw [List.length_map, el]; exact Nat.succ_pos _) fun c oc nc kc => ?_⟩
    rw [← List.map_drop] at kc
    have sc' := same_upd (o := oc) nc
    have sB := sA.trans sc'
    have hCc : C ≠ c := ne_of_none eC0 nc
    have hne' := hCc.symm
    refine ⟨L, c, _, _, rfl, for_zipK (K := K) (κ := κ) (xs := ps.map V.ref) (ys := (ps.drop 1).map V.ref) (by rw [List.length_map, List.length_map, List.length_drop]; omega)
      (fun i σ H' => ∃ (y5 y6 y7 y8 : Option V), σ = [some (.int k), some (.int b), some (.ref L), some (.int s0.1), some (.ref C), y5, y6, y7, y8] ∧ H' C = some (.lst ((cfN (s0 :: r0) i).map V.int)) ∧ Kd κ K H' c ((ps.drop 1).map V.ref) ∧ Same H H')
      ⟨_, _, _, _, rfl, sc' _ _ eC0, kc, sB⟩ (fun i σ H' h => ?_) (fun i x y X σ H' hx hy h nX => ?_) (fun σ H' h => ?_)⟩
    · obtain ⟨_, _, _, _, _, _, ec, sm⟩ := h
      exact ⟨eL.same sm, ec⟩
    · obtain ⟨y5, y6, y7, y8, rfl, eC, ec, sm⟩ := h
      obtain ⟨px, sx, rfl, hsx, ex⟩ := tu.get hx
      have hy' : (ps.map V.ref)[i + 1]? = some y := by
        rw [List.getElem?_map, List.getElem?_drop] at hy
        rw [List.getElem?_map, Nat.add_comm i 1]
        exact hy
      obtain ⟨py, sy, rfl, hsy, ey⟩ := tu.get hy'
      have g1 : (s0 :: r0).getD i (0, 0) = sx := by
        rw [List.getD_eq_getElem?_getD, hsx]
        rfl
      have g2 : (s0 :: r0).getD (i + 1) (0, 0) = sy := by
        rw [List.getD_eq_getElem?_getD, hsy]
        rfl
      have hi : i + 1 < (s0 :: r0).length := (List.getElem?_eq_some_iff.mp hsy).1
      have zc := cfN_len hw hb60 i (by omega)
      have spx := walk_spots hw _ (List.mem_of_getElem? hsx)
      have spy := walk_spots hw _ (List.mem_of_getElem? hsy)
      have zc' : (cfN (s0 :: r0) i).length ≤ 3660 := by
        rw [List.length_cons] at hi h60
        omega
      have sX := same_upd (o := .tup [V.ref px, .ref py]) nX
      have hnext : cfN (s0 :: r0) (i + 1) = Wk.grow (cfN (s0 :: r0) i) sx sy := by
        show Wk.grow (cfN (s0 :: r0) i) ((s0 :: r0).getD i (0, 0)) ((s0 :: r0).getD (i + 1) (0, 0)) = _
        rw [g1, g2]
      refine ⟨X, _, rfl, SqT.of upd_same, rfl, _, [_], rfl, px, _, rfl, SqT.of (sX _ _ (sm _ _ ex)), rfl, _, [_], rfl, _, [], rfl, rfl, _, [], rfl, py, _, rfl, SqT.of (sX _ _ (sm _ _ ey)), rfl, _, [_], rfl, _, [], rfl, rfl, rfl, ?_⟩
      refine ⟨.int sy.2, rfl, _, _, rfl, rfl, _, rfl, ite2 (fun c1 => ?_) (fun c1 => ?_)⟩
      · have c1' : sy.2 > 1 := of_decide_eq_true c1
        obtain ⟨ds, z, hds⟩ := last_split (cfN_ne (s0 :: r0) i)
        have eg : cfN (s0 :: r0) (i + 1) = ds ++ [z + 1] := by
          rw [hnext]
          unfold Wk.grow
          rw [if_pos c1', hds, Wk.incL_snoc]
        rw [hds] at eC
        have eCX := sX _ _ eC
        have hat : atI ((ds ++ [z]).map V.int) (-1) = some (.int z) := by
          rw [List.map_append]
          exact atI_last _ _
        refine ⟨.ref C, rfl, 1, rfl, C, _, -1, _, rfl, rfl, SqL.of eCX, hat, z, 1, rfl, rfl, C, _, -1, ds.length, rfl, rfl, eCX, ?_, ?_⟩
        · rw [List.length_map, List.length_append]
          unfold ixN
          rw [if_neg (by decide), if_pos (by show -((ds.length + 1 : Nat) : Int) ≤ -1; omega)]
          show some ((-1 : Int) + ((ds.length + 1 : Nat) : Int)).toNat = _
          congr 1
          omega
        · refine ⟨_, _, _, _, rfl, ?_, (ec.same sX).put (sX _ _ eC) hne', same_put (sm.trans sX) nHC⟩
          rw [upd_same, eg]
          exact congrArg (fun l => some (HO.lst l)) set_last
      · have c1' : ¬ sy.2 > 1 := fun z => c1 (decide_eq_true z)
        have eg : cfN (s0 :: r0) (i + 1) = cfN (s0 :: r0) i ++ (List.replicate (sx.1 - sy.1).toNat 0 ++ [1]) := by
          rw [hnext]
          unfold Wk.grow
          rw [if_neg c1']
        refine ⟨.ref C, rfl, .inl ⟨rfl, _, SqL.of (sX _ _ eC)⟩, by show 1 ≤ sizeLine; decide, fun d1 m1 => ?_⟩
        have u1 := same_upd (o := .lst [V.int 0]) m1
        refine ⟨.int sx.1, rfl, .int sy.1, rfl, _, _, rfl, rfl, d1, sx.1 - sy.1, _, rfl, rfl, upd_same, ?_, ?_, by show 1 * (sx.1 - sy.1).toNat ≤ 2 ^ 24; have := spx.2.1; have := spy.1; omega, fun d2 m2 => ?_⟩
        · have := spx.1
          have := spy.2.1
          omega
        · have := spx.2.1
          have := spy.1
          omega
        have u2 := same_upd (o := .lst (List.replicate (sx.1 - sy.1).toNat [V.int 0]).flatten) m2
        refine ⟨by show 1 ≤ sizeLine; decide, fun d3 m3 => ?_⟩
        have u3 := same_upd (o := .lst [V.int 1]) m3
        refine ⟨d2, d3, _, _, rfl, rfl, u3 _ _ upd_same, upd_same, ?_, fun d4 m4 => ?_⟩
        · rw [flat_one, List.length_replicate]
          show (sx.1 - sy.1).toNat + 1 ≤ 2 ^ 24
          have := spx.2.1
          have := spy.1
          omega
        have u4 := same_upd (o := .lst ((List.replicate (sx.1 - sy.1).toNat [V.int 0]).flatten ++ [V.int 1])) m4
        have sU := (((sX.trans u1).trans u2).trans u3).trans u4
        refine ⟨C, d4, _, _, rfl, rfl, sU _ _ eC, upd_same, ?_, ?_⟩
        · rw [List.length_map, List.length_append, flat_one, List.length_replicate]
          show (cfN (s0 :: r0) i).length + ((sx.1 - sy.1).toNat + 1) ≤ 2 ^ 24
          have := spx.2.1
          have := spy.1
          omega
        · refine ⟨_, _, _, _, rfl, ?_, (ec.same sU).put (sU _ _ eC) hne', same_put (sm.trans sU) nHC⟩
          rw [upd_same, eg, flat_one, List.map_append, List.map_append, List.map_replicate]
          rfl
    · obtain ⟨y5, y6, y7, y8, rfl, eC, ec, sm⟩ := h
      have elen : ((ps.drop 1).map V.ref).length = (s0 :: r0).length - 1 := by
        rw [List.length_map, List.length_drop, el, List.length_cons]
      rw [elen, cfN_all hne] at eC
      refine ⟨.ref C, rfl, C, _, rfl, .inl ⟨SqL.of eC, fun p np => ?_⟩⟩
      have s5 := same_upd (o := .tup ((Wk.cf (s0 :: r0)).map V.int)) np
      refine ⟨.int s0.1, rfl, 2, s0.1, rfl, rfl, .inl ⟨by decide, by decide⟩, by show 2 ≤ sizeLine; decide, fun u nu => ?_⟩
      have s6 := same_upd (o := .tup [V.ref p, .int (2 * s0.1)]) nu
      exact q u p _ ((sm.trans s5).trans s6) upd_same (s6 _ _ upd_same)
end

/-! ### the law of comings for walks -/
section
variable {P : Program} {w : World} {K : PySem.W.Frag} {mg : Str → Option Value} {base : Heap}
theorem moved_put {t : Addr} {H H' : Hp} {p : Addr} {o : HO} (mv : Moved t H H') (n : H p = none) : Moved t H (upd H' p o) := fun b x nb e => (upd_ne (ne_of_none e n)).trans (mv b x nb e)
theorem Tape.neT {H : Hp} {t s a : Addr} {xs : List V} (h : Tape H t s) (e : H a = some (.tup xs)) : a ≠ t := fun z => by
  obtain ⟨_, _, _, _, _, _, e2, _⟩ := h
  rw [z, e2] at e
  cases e
def spLWalk (K : PySem.W.Frag) : Sp := fun vs H Q _ => ∃ (t s : Addr) (k b m : Int), vs = [.ref t, .int k, .int b, .int m] ∧ 2 ≤ k ∧ k ≤ 4 ∧ 1 ≤ b ∧ b ≤ 60 ∧ 0 ≤ m ∧ m ≤ 59 ∧ Tape H t s ∧
  ∀ L ps row H', Wk.Walk k b row → row.length ≤ 60 → H L = none → Moved t H H' → Tape H' t s → H' L = some (.lst (ps.map V.ref)) → Tups pv2 H' ps row → Q (.ref L) H'
theorem ok__law_walk (T : Tx K mg) : FnOk P w K mg base CX0 2 T.a__law_walk T.d__law_walk ["tape", "comers", "bound", "most"] (spLWalk K) := by
  refine T.F__law_walk.ok sc__law_walk (fun vs H Q E h => ?_) (fun cdv A outer s H vs Q E hr h => ?_)
  · obtain ⟨t, sc, k, b, m, rfl, _⟩ := h
    rfl
  · obtain ⟨t, sc, k, b, m, rfl, hk2, hk4, hb1, hb60, hm0, hm1, tp, q⟩ := h
    refine ⟨_, ((pss_cons (ps_set (i := 4) sc__law_walk.nd rfl (.inl rfl) (pe_lst (pa_cons (pe_tup (pa_cons (pe_call (ok__law_pick T) (hr.mono (by decide)) (by rfl) T.g__law_pick T.F__law_pick.kp T.b__law_pick .nil pass0 (pa_cons (pv 0) (pa_cons (pe_op op_add (pv 2) pe_int) pa_nil))) (pa_cons pe_int pa_nil))) pa_nil)))
  (pss_cons (ps_for PassesOwn.never rfl (pi_range1 (by rfl) T.m_range (pa_cons (pv 3) pa_nil)) (pg_name (i := 5) sc__law_walk.nd rfl (.inl rfl))
   (pss_cons (ps_asg (pe_ix ix_list (pv 4) (pe_un un_neg pe_int) (fun _ _ => rfl)) (pg_tup rfl (pgs_cons (pg_name (i := 6) sc__law_walk.nd rfl (.inl rfl)) (pgs_cons (pg_name (i := 7) sc__law_walk.nd rfl (.inl rfl)) pgs_nil))))
  (pss_one (ps_if (PW.pt (pw_and (pt_cmpR op_eq (pe_call (ok__law_pick T) (hr.mono (by decide)) (by rfl) T.g__law_pick T.F__law_pick.kp T.b__law_pick .nil pass0 (pa_cons (pv 0) (pa_cons pe_int pa_nil))) pe_int (nomark _)) (pw_and (pt_cmpR op_lt (pv 7) (pv 1) (nomark _)) (pw_and1 (pt_cmpR op_lt (pv 6) (pv 2) (nomark _)))))) (pss_one (ps_expr (pe_bm PySem.F.plainAttrs_list PySem.F.slot_list_append PySem.F.type_list_append mt_append (pv 4) (pa_cons (pe_tup (pa_cons (pe_op op_add (pv 6) pe_int) (pa_cons (pe_op op_add (pv 7) pe_int) pa_nil))) pa_nil)))) (pss_one (ps_expr (pe_bm PySem.F.plainAttrs_list PySem.F.slot_list_append PySem.F.type_list_append mt_append (pv 4) (pa_cons (pe_tup (pa_cons (pe_callB (call_max2 rfl) (by rfl) T.m_max (by decide +kernel) (pa_cons pe_int (pa_cons (pe_op op_sub (pv 6) (pe_call (ok__law_pick T) (hr.mono (by decide)) (by rfl) T.g__law_pick T.F__law_pick.kp T.b__law_pick .nil pass0 (pa_cons (pv 0) (pa_cons pe_int pa_nil)))) pa_nil))) (pa_cons pe_int pa_nil))) pa_nil))))))))
  (pss_one (ps_ret (pv 4)))))), ?_⟩
    refine ⟨.ref t, rfl, .int b, rfl, _, _, rfl, rfl, t, sc, b + 1, rfl, ⟨by omega, by omega⟩, tp, fun x H1 hx0 hx1 mv1 tp1 => ?_⟩
    refine ⟨by show 2 ≤ sizeLine; decide, fun p np => ⟨by show 1 ≤ sizeLine; decide, fun L nL => ?_⟩⟩
    have sp := same_upd (o := .tup [V.int x, .int 1]) np
    have sL := same_upd (o := .lst [V.ref p]) nL
    have tp2 := (tp1.keep sp).keep sL
    have nHL : H L = none := mv1.free (tp1.keep sp |>.ne nL) (Same.free sp nL)
    have hLt : L ≠ t := (tp1.keep sp).ne nL
    have hLs : L ≠ sc := (tp1.keep sp).ne2 nL
    have mv0 : Moved t H (upd (upd H1 p (.tup [V.int x, .int 1])) L (.lst [V.ref p])) := (mv1.trans (Moved.same sp)).trans (Moved.same sL)
    refine ⟨.int m, rfl, m, rfl, by omega, by omega, for_range (lo := 0) (n := m.toNat)
      (fun i σ H' => ∃ (y5 y6 y7 : Option V) (ps : List Addr) (row : List Wk.Spt) (pp : Addr) (sp : Wk.Spt), σ = [some (.ref t), some (.int k), some (.int b), some (.int m), some (.ref L), y5, y6, y7] ∧ H' L = some (.lst ((ps ++ [pp]).map V.ref)) ∧ Tups pv2 H' ps row ∧ H' pp = some (.tup (pv2 sp)) ∧ Wk.Walk k b (row ++ [sp]) ∧ row.length = i ∧ Moved t H H' ∧ Tape H' t sc)
      ⟨_, _, _, [], [], p, (x, 1), rfl, upd_same, .nil, sL _ _ upd_same, ⟨⟨hx0, by show x ≤ b; omega, by show (1 : Int) ≤ 1; decide, by show (1 : Int) ≤ k; omega, by show (1 : Int) - 1 ≤ x; omega⟩, rfl, trivial⟩, rfl, mv0, tp2⟩ (fun i σ H' hi h => ?_) (fun σ H' h => ?_)⟩
    · obtain ⟨y5, y6, y7, ps, row, pp, ⟨wt, tu⟩, rfl, eL, tq, epp, hw, hl, mv, tpp⟩ := h
      have hsp := walk_spots hw (wt, tu) (by simp)
      have hs' := hsp
      unfold Wk.Spot at hs'
      simp only at hs'
      have hat : atI ((ps ++ [pp]).map V.ref) (-1) = some (.ref pp) := by
        rw [List.map_append]
        exact atI_last _ _
      refine ⟨.ref L, rfl, 1, rfl, L, _, -1, _, rfl, rfl, SqL.of eL, hat, pp, _, rfl, SqT.of epp, rfl, _, [_], rfl, _, [], rfl, rfl, ?_⟩
      have lst : ∀ y, (row ++ [(wt, tu)]).getLast? = some y → y = (wt, tu) := fun y hy => by
        rw [List.getLast?_append] at hy
        simpa using hy.symm
      have zl : ((ps ++ [pp]).map V.ref).length ≤ 60 := by
        rw [List.length_map, List.length_append, tq.length, hl]
        show i + 1 ≤ 60
        omega
      refine ⟨.ref t, rfl, t, sc, 2, rfl, ⟨by decide, by decide⟩, tpp, fun r H2 hr0 hr1 mv2 tp2 => ?_⟩
      by_cases c1 : V.int r = V.int 0
      · refine ⟨rfl, true, congrArg V.bl (decide_eq_true c1), iteT ?_⟩
        by_cases c2 : tu < k
        · refine ⟨.int tu, rfl, .int k, rfl, _, _, rfl, rfl, true, congrArg V.bl (decide_eq_true c2), iteT ?_⟩
          by_cases c3 : wt < b
          · refine ⟨.int wt, rfl, .int b, rfl, _, _, rfl, rfl, true, congrArg V.bl (decide_eq_true c3), iteT ?_⟩
            have e2 := mv2 L _ hLt eL
            refine ⟨.ref L, rfl, .inl ⟨rfl, _, SqL.of e2⟩, .int wt, rfl, _, _, rfl, rfl, .int tu, rfl, _, _, rfl, rfl, by show 2 ≤ sizeLine; decide, fun c nc => ?_⟩
            have s3 := same_upd (o := .tup [V.int (wt + 1), .int (tu + 1)]) nc
            refine ⟨L, _, _, rfl, rfl, s3 _ _ e2, small1000 (by omega), ?_⟩
            refine ⟨_, _, _, ps ++ [pp], row ++ [(wt, tu)], c, (wt + 1, tu + 1), rfl, by rw [upd_same, List.map_append (l₁ := ps ++ [pp])]; rfl, ?_, ?_, Wk.walk_snoc hw (fun y hy => ?_), by rw [List.length_append, hl]; rfl, moved_put ((mv.trans mv2).trans (Moved.same s3)) nHL, (tp2.keep s3).but hLt hLs⟩
            · exact (((mv2.tups tpp tq).new nc).snoc (s3 _ _ (mv2 _ _ (tpp.neT epp) epp))).put (s3 _ _ e2)
            · rw [upd_ne (fun z => by rw [z, e2] at nc; cases nc)]
              exact upd_same
            · rw [lst y hy]
              refine ⟨?_, .inl rfl⟩
              unfold Wk.Spot
              simp only
              omega
          · refine ⟨.int wt, rfl, .int b, rfl, _, _, rfl, rfl, false, congrArg V.bl (decide_eq_false c3), iteF ?_⟩
            have e2 := mv2 L _ hLt eL
            refine ⟨.ref L, rfl, .inl ⟨rfl, _, SqL.of e2⟩, .int wt, rfl, .ref t, rfl, t, sc, 4, rfl, ⟨by decide, by decide⟩, tp2, fun v0 H4 hv0 hv1 mv4 tp4 => ?_⟩
            refine ⟨_, _, rfl, rfl, 0, wt - v0, rfl, ?_⟩
            obtain ⟨v, hv⟩ : ∃ v : Int, (if wt - v0 > 0 then wt - v0 else 0) = v := ⟨_, rfl⟩
            have hvr : 0 ≤ v ∧ v ≤ wt := by
              rw [← hv]
              split <;> omega
            rw [hv]
            refine ⟨by show 2 ≤ sizeLine; decide, fun c nc => ?_⟩
            have e4 := mv4 L _ hLt e2
            have s3 := same_upd (o := .tup [V.int v, .int 1]) nc
            have mv24 := mv2.trans mv4
            refine ⟨L, _, _, rfl, rfl, s3 _ _ e4, small1000 (by omega), ?_⟩
            refine ⟨_, _, _, ps ++ [pp], row ++ [(wt, tu)], c, (v, 1), rfl, by rw [upd_same, List.map_append (l₁ := ps ++ [pp])]; rfl, ?_, ?_, Wk.walk_snoc hw (fun y hy => ?_), by rw [List.length_append, hl]; rfl, moved_put ((mv.trans mv24).trans (Moved.same s3)) nHL, (tp4.keep s3).but hLt hLs⟩
            · exact (((mv24.tups tpp tq).new nc).snoc (s3 _ _ (mv24 _ _ (tpp.neT epp) epp))).put (s3 _ _ e4)
            · rw [upd_ne (fun z => by rw [z, e4] at nc; cases nc)]
              exact upd_same
            · rw [lst y hy]
              refine ⟨?_, .inr ⟨rfl, ?_⟩⟩
              · unfold Wk.Spot
                simp only
                omega
              · show v ≤ wt
                omega
        · refine ⟨.int tu, rfl, .int k, rfl, _, _, rfl, rfl, false, congrArg V.bl (decide_eq_false c2), iteF ?_⟩
          have e2 := mv2 L _ hLt eL
          refine ⟨.ref L, rfl, .inl ⟨rfl, _, SqL.of e2⟩, .int wt, rfl, .ref t, rfl, t, sc, 4, rfl, ⟨by decide, by decide⟩, tp2, fun v0 H4 hv0 hv1 mv4 tp4 => ?_⟩
          refine ⟨_, _, rfl, rfl, 0, wt - v0, rfl, ?_⟩
          obtain ⟨v, hv⟩ : ∃ v : Int, (if wt - v0 > 0 then wt - v0 else 0) = v := ⟨_, rfl⟩
          have hvr : 0 ≤ v ∧ v ≤ wt := by
            rw [← hv]
            split <;> omega
          rw [hv]
          refine ⟨by show 2 ≤ sizeLine; decide, fun c nc => ?_⟩
          have e4 := mv4 L _ hLt e2
          have s3 := same_upd (o := .tup [V.int v, .int 1]) nc
          have mv24 := mv2.trans mv4
          refine ⟨L, _, _, rfl, rfl, s3 _ _ e4, small1000 (by omega), ?_⟩
          refine ⟨_, _, _, ps ++ [pp], row ++ [(wt, tu)], c, (v, 1), rfl, by rw [upd_same, List.map_append (l₁ := ps ++ [pp])]; rfl, ?_, ?_, Wk.walk_snoc hw (fun y hy => ?_), by rw [List.length_append, hl]; rfl, moved_put ((mv.trans mv24).trans (Moved.same s3)) nHL, (tp4.keep s3).but hLt hLs⟩
          · exact (((mv24.tups tpp tq).new nc).snoc (s3 _ _ (mv24 _ _ (tpp.neT epp) epp))).put (s3 _ _ e4)
          · rw [upd_ne (fun z => by rw [z, e4] at nc; cases nc)]
            exact upd_same
          · rw [lst y hy]
            refine ⟨?_, .inr ⟨rfl, ?_⟩⟩
            · unfold Wk.Spot
              simp only
              omega
            · show v ≤ wt
              omega
      · refine ⟨rfl, false, congrArg V.bl (decide_eq_false c1), iteF ?_⟩
        have e2 := mv2 L _ hLt eL
        refine ⟨.ref L, rfl, .inl ⟨rfl, _, SqL.of e2⟩, .int wt, rfl, .ref t, rfl, t, sc, 4, rfl, ⟨by decide, by decide⟩, tp2, fun v0 H4 hv0 hv1 mv4 tp4 => ?_⟩
        refine ⟨_, _, rfl, rfl, 0, wt - v0, rfl, ?_⟩
        obtain ⟨v, hv⟩ : ∃ v : Int, (if wt - v0 > 0 then wt - v0 else 0) = v := ⟨_, rfl⟩
        have hvr : 0 ≤ v ∧ v ≤ wt := by
          rw [← hv]
          split <;> omega
        rw [hv]
        refine ⟨by show 2 ≤ sizeLine; decide, fun c nc => ?_⟩
        have e4 := mv4 L _ hLt e2
        have s3 := same_upd (o := .tup [V.int v, .int 1]) nc
        have mv24 := mv2.trans mv4
        refine ⟨L, _, _, rfl, rfl, s3 _ _ e4, small1000 (by omega), ?_⟩
        refine ⟨_, _, _, ps ++ [pp], row ++ [(wt, tu)], c, (v, 1), rfl, by rw [upd_same, List.map_append (l₁ := ps ++ [pp])]; rfl, ?_, ?_, Wk.walk_snoc hw (fun y hy => ?_), by rw [List.length_append, hl]; rfl, moved_put ((mv.trans mv24).trans (Moved.same s3)) nHL, (tp4.keep s3).but hLt hLs⟩
        · exact (((mv24.tups tpp tq).new nc).snoc (s3 _ _ (mv24 _ _ (tpp.neT epp) epp))).put (s3 _ _ e4)
        · rw [upd_ne (fun z => by rw [z, e4] at nc; cases nc)]
          exact upd_same
        · rw [lst y hy]
          refine ⟨?_, .inr ⟨rfl, ?_⟩⟩
          · unfold Wk.Spot
            simp only
            omega
          · show v ≤ wt
            omega
    · obtain ⟨y5, y6, y7, ps, row, pp, sp, rfl, eL, tq, epp, hw, hl, mv, tpp⟩ := h
      refine ⟨.ref L, rfl, q L (ps ++ [pp]) (row ++ [sp]) H' hw ?_ nHL mv tpp eL (tq.snoc epp)⟩
      rw [List.length_append, hl]
      show m.toNat + 1 ≤ 60
      omega
/-- what the dict of numbers tells -/
def Rep (kvs : List (Key × V)) (cs : List Int) : Prop := ∀ n : Nat, (valV kvs (.inl (n : Int))).getD (.int 0) = .int (cs.getD n 0)
theorem Rep.nil : Rep [] [] := fun n => rfl
theorem Rep.put {kvs : List (Key × V)} {cs cs' : List Int} {t : Nat} {y : Int} (h : Rep kvs cs) (e : ∀ n : Nat, cs'.getD n 0 = if n = t then y else cs.getD n 0) : Rep (putK kvs (.inl (t : Int)) (.int y)) cs' := fun n => by
  rw [valV_put, e n]
  by_cases c : n = t
  · rw [if_pos (by rw [c]), if_pos c]
    rfl
  · rw [if_neg (fun z => c (by have := Sum.inl.inj z; omega)), if_neg c]
    exact h n
theorem put_len (kvs : List (Key × V)) (k : Key) (y : V) : (putK kvs k y).length ≤ kvs.length + 1 := by
  unfold putK
  split
  · rw [List.length_map]
    omega
  · rw [List.length_append]
    exact Nat.le_refl _
def spDue (K : PySem.W.Frag) : Sp := fun vs H Q _ => ∃ (L : Addr) (ps : List Addr) (row : List Wk.Spt) (k b : Int), vs = [.ref L] ∧ H L = some (.lst (ps.map V.ref)) ∧ Tups pv2 H ps row ∧ Wk.Walk k b row ∧ row.length ≤ 60 ∧ 2 ≤ k ∧ b ≤ 60 ∧
  ∀ p c H', Same H H' → H' p = some (.tup [.ref c, .int (2 * (row.headD (0, 0)).1)]) → H' c = some (.tup ((Wk.cf row).map V.int)) → Q (.ref p) H'
theorem ok__law_due (T : Tx K mg) : FnOk P w K mg base CX0 2 T.a__law_due T.d__law_due ["row"] (spDue K) := by
  refine T.F__law_due.ok sc__law_due (fun vs H Q E h => ?_) (fun cdv A outer s H vs Q E hr h => ?_)
  · obtain ⟨L, ps, row, k, b, rfl, _⟩ := h
    rfl
  · obtain ⟨L, ps, row, k, b, rfl, eL, tu, hw, h60, hk2, hb60, q⟩ := h
    obtain ⟨cl, ci⟩ := Wk.cf_right hk2 hw
    have sps := walk_spots hw
    cases row with
    | nil => exact False.elim hw
    | cons s0 r0 =>
    have hne : s0 :: r0 ≠ [] := List.cons_ne_nil _ _
    have h60' : r0.length + 1 ≤ 60 := h60
    have hs0 := sps s0 List.mem_cons_self
    have hs01 := hs0.1
    have hs02 := hs0.2.1
    obtain ⟨p0, hp0, e0⟩ := tu.at (i := 0) (x := s0) rfl
    obtain ⟨w0, hw0⟩ : ∃ w0 : Nat, s0.1 = (w0 : Int) := ⟨s0.1.toNat, by omega⟩
    refine ⟨_, ((pss_cons (ps_set (i := 1) sc__law_due.nd rfl (.inr rfl) pe_dnewK)
  (pss_cons (ps_set (i := 2) sc__law_due.nd rfl (.inl rfl) (pe_ix ix_tup (pe_ix ix_list (pv 0) pe_int (fun _ _ => rfl)) pe_int (fun _ _ => rfl)))
  (pss_cons (ps_for PassesOwn.never rfl (pi_range1 (by rfl) T.m_range (pa_cons (pv 2) pa_nil)) (pg_name (i := 3) sc__law_due.nd rfl (.inl rfl))
   (pss_one (ps_dput (by exact hu_of hr) (pv 1) (pv 3) pe_int rfl)))
  (pss_cons (ps_dput (by exact hu_of hr) (pv 1) (pv 2) pe_int rfl)
  (pss_cons (ps_for PassesOwn.never rfl (pi_range2 (by rfl) T.m_range (pa_cons pe_int (pa_cons (pe_callB call_len_seq (by rfl) T.m_len PySem.boot_len (pa_cons (pv 0) pa_nil)) pa_nil))) (pg_name (i := 4) sc__law_due.nd rfl (.inl rfl))
   (Evl.pss_cut (ps_if (pt_cmpR op_eq (pe_ix ix_tup (pe_ix ix_list (pv 0) (pv 4) (fun _ _ => rfl)) pe_int (fun _ _ => rfl)) pe_int (nomark _)) (pss_one (ps_set (i := 2) sc__law_due.nd rfl (.inl rfl) (pe_op op_sub (pe_op op_add (pe_op op_add (pv 2) (pe_ix ix_tup (pe_ix ix_list (pv 0) (pe_op op_sub (pv 4) pe_int) (fun _ _ => rfl)) pe_int (fun _ _ => rfl))) pe_int) (pe_ix ix_tup (pe_ix ix_list (pv 0) (pv 4) (fun _ _ => rfl)) pe_int (fun _ _ => rfl))))) pss_nil)
  (pss_one (ps_dput (by exact hu_of hr) (pv 1) (pv 2) (pe_op op_add (pe_dget2 (by exact hu_of hr) (pv 1) (pv 2) pe_int ⟨by rfl, by rfl, by rfl, by rfl⟩) pe_int) rfl))))
  (pss_one (ps_ret (pe_tup (pa_cons (pe_callTy call_tuple_of (by rfl) T.m_tuple (by decide +kernel) (pa_cons (pe_lc (own := [("k", 3)]) (g := (gName 3)) (tt := tYes) rfl sc__law_due.nd (pi_range1 (by rfl) T.m_range (pa_cons (pe_op op_add (pv 2) pe_int) pa_nil)) (blkOk_by (own := [("k", 3)]) (N := ["row", "numbers", "tick", "k", "at"]) (sc := defScope s__law_due) (by decide +kernel)) (fun _ _ _ _ _ => pg_name (i := 3) sc__law_due.nd rfl (.inl rfl)) (fun _ _ _ _ _ => pts_nil) (fun _ _ _ _ _ => (pe_dget2 (by exact hu_of hr) (pv 1) (pv 3) pe_int ⟨by rfl, by rfl, by rfl, by rfl⟩))) pa_nil)) (pa_cons (pe_op op_mul pe_int (pe_ix ix_tup (pe_ix ix_list (pv 0) pe_int (fun _ _ => rfl)) pe_int (fun _ _ => rfl))) pa_nil))))))))))), ?_⟩
    refine fun d nd => ?_
    have sd := same_upd (o := .dK []) nd
    refine ⟨.ref L, rfl, L, _, 0, .ref p0, rfl, rfl, SqL.of (sd _ _ eL), atI_nat (j := 0) hp0, p0, _, 0, _, rfl, rfl, SqT.of (sd _ _ e0), atI_nat (j := 0) rfl, ?_⟩
    refine ⟨.int s0.1, rfl, s0.1, rfl, by omega, by omega, for_range (lo := 0) (n := s0.1.toNat)
      (fun i σ H' => ∃ (y3 y4 : Option V) (kvs : List (Key × V)), σ = [some (.ref L), some (.ref d), some (.int s0.1), y3, y4] ∧ H' d = some (.dK kvs) ∧ Rep kvs (List.replicate i 2) ∧ kvs.length ≤ i ∧ Same H H')
      ⟨_, _, [], rfl, upd_same, .nil, Nat.le_refl _, sd⟩ (fun i σ H' hi h => ?_) (fun σ H' h => ?_)⟩
    · obtain ⟨y3, y4, kvs, rfl, ed, rp, zl, sm⟩ := h
      rw [Int.zero_add]
      refine ⟨.ref d, rfl, .int i, rfl, d, _, rfl, DPut.k (k := .inl (i : Int)) ed (small1000 (by omega)), ?_⟩
      exact ⟨_, _, _, rfl, upd_same, rp.put (Wk.rep_getD i), Nat.le_trans (put_len _ _ _) (Nat.succ_le_succ zl), same_put sm nd⟩
    · obtain ⟨y3, y4, kvs, rfl, ed, rp, zl, sm⟩ := h
      have ew : s0.1.toNat = w0 := by omega
      rw [ew] at rp zl
      refine ⟨.ref d, rfl, .int s0.1, rfl, d, _, rfl, DPut.k (k := .inl s0.1) ed (small1000 (by omega)), ?_⟩
      have ecf0 : cfN (s0 :: r0) 0 = Wk.start (w0 : Int) := by
        show Wk.start s0.1 = _
        rw [hw0]
      have rp1 : Rep (putK kvs (.inl s0.1) (.int 1)) (cfN (s0 :: r0) 0) := by
        rw [ecf0, hw0]
        exact rp.put (Wk.start_getD w0)
      have zl1 := put_len kvs (.inl s0.1) (.int 1)
      have elN : ((((ps.map V.ref).length : Nat) : Int) - 1).toNat = r0.length := by
        rw [List.length_map, tu.length, List.length_cons]
        omega
      refine ⟨.ref L, rfl, L, _, rfl, .inl (SqL.of ((upd_ne (ne_of_none eL nd)).trans (sm _ _ eL))), 1, _, rfl, ⟨by omega, by omega, by omega, by rw [List.length_map, tu.length]; omega⟩, for_range (lo := 1) (n := ((((ps.map V.ref).length : Nat) : Int) - 1).toNat)
        (fun i σ H' => ∃ (y3 y4 : Option V) (kvs : List (Key × V)), σ = [some (.ref L), some (.ref d), some (.int (((cfN (s0 :: r0) i).length : Int) - 1)), y3, y4] ∧ H' d = some (.dK kvs) ∧ Rep kvs (cfN (s0 :: r0) i) ∧ kvs.length ≤ 61 + i ∧ Same H H')
        ⟨y3, y4, _, ?_, upd_same, rp1, by omega, same_put sm nd⟩ (fun i σ H' hi h => ?_) (fun σ H' h => ?_)⟩
      · have e9 : (((cfN (s0 :: r0) 0).length : Int) - 1) = s0.1 := by
          rw [ecf0]
          unfold Wk.start
          rw [List.length_append, List.length_replicate]
          show (((w0 : Int).toNat + 1 : Nat) : Int) - 1 = _
          omega
        rw [e9]
      · obtain ⟨y3, y4, kvs, rfl, ed, rp, zl, sm⟩ := h
        rw [elN] at hi
        obtain ⟨x, hx⟩ : ∃ x, (s0 :: r0)[i]? = some x := ⟨_, List.getElem?_eq_getElem (by rw [List.length_cons]; omega)⟩
        obtain ⟨y, hy⟩ : ∃ y, (s0 :: r0)[i + 1]? = some y := ⟨_, List.getElem?_eq_getElem (by rw [List.length_cons]; omega)⟩
        obtain ⟨px, hpx, ex⟩ := tu.at hx
        obtain ⟨py, hpy, ey⟩ := tu.at hy
        have nxy := walk_at hw hx hy
        have sx := sps x (List.mem_of_getElem? hx)
        have sx' := sx
        have sy' := nxy.1
        unfold Wk.Spot at sx' sy'
        have g1 : (s0 :: r0).getD i (0, 0) = x := by
          rw [List.getD_eq_getElem?_getD, hx]
          rfl
        have g2 : (s0 :: r0).getD (i + 1) (0, 0) = y := by
          rw [List.getD_eq_getElem?_getD, hy]
          rfl
        have hnext : cfN (s0 :: r0) (i + 1) = Wk.grow (cfN (s0 :: r0) i) x y := by
          show Wk.grow (cfN (s0 :: r0) i) ((s0 :: r0).getD i (0, 0)) ((s0 :: r0).getD (i + 1) (0, 0)) = _
          rw [g1, g2]
        obtain ⟨gne, glen, gget⟩ := Wk.grow_getD (cfN_ne (s0 :: r0) i) sx nxy
        rw [← hnext] at gne glen gget
        have ats : ∀ H3, Same H H3 → SqL K H3 L (ps.map V.ref) := fun H3 s3 => SqL.of (s3 _ _ eL)
        have i1 : atI (ps.map V.ref) (1 + (i : Int)) = some (.ref py) := atI_of (by omega) (by rw [show ((1 : Int) + (i : Int)).toNat = i + 1 by omega]; exact hpy)
        have i0 : atI (ps.map V.ref) (1 + (i : Int) - 1) = some (.ref px) := atI_of (by omega) (by rw [show ((1 : Int) + (i : Int) - 1).toNat = i by omega]; exact hpx)
        refine ⟨fun σ' H2 => σ' = [some (.ref L), some (.ref d), some (.int (((cfN (s0 :: r0) (i + 1)).length : Int) - 1)), y3, some (.int (1 + (i : Int)))] ∧ H2 = H', ?_, fun σ' H2 hm => ?_⟩
        · refine ⟨.ref L, rfl, .int (1 + (i : Int)), rfl, L, _, _, .ref py, rfl, rfl, ats _ sm, i1, py, _, 1, _, rfl, rfl, SqT.of (sm _ _ ey), atI_nat (j := 1) rfl, rfl, _, rfl, ite2 (fun c1 => ?_) (fun c1 => ?_)⟩
          · have c1' : y.2 = 1 := V.int.inj (of_decide_eq_true c1)
            rw [if_pos c1'] at glen
            refine ⟨_, rfl, .ref L, rfl, .int (1 + (i : Int)), rfl, _, _, rfl, rfl, L, _, _, .ref px, rfl, rfl, ats _ sm, i0, px, _, 0, _, rfl, rfl, SqT.of (sm _ _ ex), atI_nat (j := 0) rfl, _, _, rfl, rfl, _, _, rfl, rfl, .ref L, rfl, .int (1 + (i : Int)), rfl, L, _, _, .ref py, rfl, rfl, ats _ sm, i1, py, _, 0, _, rfl, rfl, SqT.of (sm _ _ ey), atI_nat (j := 0) rfl, _, _, rfl, rfl, ?_⟩
            refine ⟨?_, rfl⟩
            have e9 : (((cfN (s0 :: r0) (i + 1)).length : Int) - 1) = ((cfN (s0 :: r0) i).length : Int) - 1 + x.1 + 1 - y.1 := by omega
            rw [e9]
            rfl
          · have c1' : ¬ y.2 = 1 := fun z => c1 (decide_eq_true (congrArg V.int z))
            rw [if_neg c1'] at glen
            refine ⟨?_, rfl⟩
            rw [glen]
            rfl
        · obtain ⟨rfl, rfl⟩ := hm
          have hpos : 1 ≤ (cfN (s0 :: r0) (i + 1)).length := by
            cases z : cfN (s0 :: r0) (i + 1) with
            | nil => exact absurd z gne
            | cons _ _ => rw [List.length_cons]; omega
          obtain ⟨tk, htk⟩ : ∃ tk : Nat, (cfN (s0 :: r0) (i + 1)).length - 1 = tk := ⟨_, rfl⟩
          have htk' : ((cfN (s0 :: r0) (i + 1)).length : Int) - 1 = (tk : Int) := by omega
          rw [htk] at gget
          rw [htk']
          refine ⟨.ref d, rfl, d, rfl, .inl ⟨kvs, .inl ed⟩, .int tk, rfl, _, DGet.k (k := .inl (tk : Int)) ed, ?_⟩
          rw [rp tk]
          refine ⟨_, _, rfl, rfl, ?_⟩
          refine ⟨.ref d, rfl, .int tk, rfl, d, _, rfl, DPut.k (k := .inl (tk : Int)) ed (small1000 (by omega)), ?_⟩
          refine ⟨_, _, _, rfl, upd_same, rp.put gget, ?_, same_put sm nd⟩
          exact Nat.le_trans (put_len _ _ _) (by omega)
      · obtain ⟨y3, y4, kvs, rfl, ed, rp, zl, sm⟩ := h
        rw [elN] at rp ⊢
        have eall : cfN (s0 :: r0) r0.length = Wk.cf (s0 :: r0) := by
          have := cfN_all hne
          rw [List.length_cons, Nat.add_sub_cancel] at this
          exact this
        rw [eall] at rp ⊢
        rw [List.length_cons] at cl h60
        have ez : ((Wk.cf (s0 :: r0)).length : Int) - 1 + 1 = ((Wk.cf (s0 :: r0)).length : Int) := by omega
        refine ⟨.int (((Wk.cf (s0 :: r0)).length : Int) - 1), rfl, _, _, rfl, rfl, ((Wk.cf (s0 :: r0)).length : Int) - 1 + 1, rfl, by omega, by omega, fun D nD => lc_range (lo := 0) (n := (((Wk.cf (s0 :: r0)).length : Int) - 1 + 1).toNat)
          (fun j H2 => Same H' H2 ∧ H2 D = some (.lst (((Wk.cf (s0 :: r0)).take j).map V.int))) ⟨same_upd nD, upd_same⟩ (fun j H2 hj h => ?_) (fun H2 h => ?_)⟩
        · obtain ⟨s2, eD⟩ := h
          rw [Int.zero_add]
          rw [ez, Int.toNat_natCast] at hj
          refine ⟨rfl, ?_⟩
          refine ⟨.ref d, rfl, d, rfl, .inl ⟨kvs, .inl (s2 _ _ ed)⟩, .int j, rfl, _, DGet.k (k := .inl (j : Int)) (s2 _ _ ed), ?_⟩
          rw [rp j]
          refine ⟨_, eD, ?_, same_put s2 nD, ?_⟩
          · rw [List.length_map, List.length_take]
            exact small1000 (by omega)
          · have hgj : (Wk.cf (s0 :: r0))[j]? = some ((Wk.cf (s0 :: r0)).getD j 0) := by
              rw [List.getD_eq_getElem?_getD, List.getElem?_eq_getElem hj]
              rfl
            rw [upd_same, take_snoc hgj, List.map_append]
            rfl
        · obtain ⟨s2, eD⟩ := h
          rw [ez, Int.toNat_natCast, List.take_of_length_le (Nat.le_refl _)] at eD
          refine ⟨D, _, rfl, .inl ⟨SqL.of eD, fun c nc => ?_⟩⟩
          have s3 := same_upd (o := .tup ((Wk.cf (s0 :: r0)).map V.int)) nc
          have sA := (sm.trans s2).trans s3
          refine ⟨.ref L, rfl, L, _, 0, .ref p0, rfl, rfl, SqL.of (sA _ _ eL), atI_nat (j := 0) hp0, p0, _, 0, _, rfl, rfl, SqT.of (sA _ _ e0), atI_nat (j := 0) rfl, 2, s0.1, rfl, rfl, .inl ⟨by decide, by decide⟩, by show 2 ≤ sizeLine; decide, fun u nu => ?_⟩
          have s4 := same_upd (o := .tup [V.ref c, .int (2 * s0.1)]) nu
          exact q u c _ (sA.trans s4) upd_same (s4 _ _ upd_same)
theorem cutN (xs : List V) (m : Nat) : cutV xs (some (m : Int)) none = xs.drop m := by
  unfold cutV
  rw [show HT.sIx xs.length 0 (some (m : Int)) = min m xs.length from HT.sIx_nat xs.length 0 m, HT.sIx_none]
  by_cases h : m ≤ xs.length
  · rw [Nat.min_eq_left h, List.take_of_length_le]
    rw [List.length_drop]
    exact Nat.le_refl _
  · rw [Nat.min_eq_right (by omega), List.drop_of_length_le (Nat.le_refl _), List.drop_of_length_le (by omega)]
    exact List.take_nil
theorem Tups.drop {α : Type} {f : α → List V} {H : Hp} {ps : List Addr} {xs : List α} (h : Tups f H ps xs) : ∀ m : Nat, Tups f H (ps.drop m) (xs.drop m) := by
  induction h with
  | nil =>
    intro m
    rw [List.drop_nil, List.drop_nil]
    exact .nil
  | cons a h ih =>
    intro m
    cases m with
    | zero => exact .cons a h
    | succ m => exact ih m
def dC (cs : List Int) (n : Int) : PyData := .tuple [dI cs, .int n]
theorem Shp.dC (cs : List Int) (n : Int) : Shp 3 (dC cs n) := .tupC (Shp.dI cs) (.tupC ((Shp.int n).up (by decide)) (Shp.tup0.up (by decide)))
theorem dp_C {H : Hp} {p c : Addr} {cs : List Int} {n : Int} (e : H p = some (.tup [.ref c, .int n])) (ec : H c = some (.tup (cs.map V.int))) : Dp K H (.ref p) (dC cs n) := .tup (SqT.of e) (.cons (dp_dI (SqT.of ec)) (.cons (.int n) .nil))
def lawLevel : Nat := 8
def spLaw (K : PySem.W.Frag) : Sp := fun vs H Q _ => ∃ (a : Addr) (ns : List Int), vs = [.ref a] ∧ SqL K H a (ns.map V.int) ∧ ns.length ≤ 63 ∧ ∀ H', Q (.bl true) H'
theorem ok_law (T : Tx K mg) : FnOk P w K mg base CX0 8 T.a_law T.d_law ["script"] (spLaw K) := by
  refine T.F_law.ok sc_law (fun vs H Q E h => ?_) (fun cdv A outer s H vs Q E hr h => ?_)
  · obtain ⟨a, ns, rfl, _⟩ := h
    rfl
  · obtain ⟨a', ns0, rfl, hS, hlen, q⟩ := h
    refine ⟨_, ((pss_cons (ps_set (i := 1) sc_law.nd rfl (.inl rfl) (pe_call (ok__law_tape T) (hr.mono (by decide)) (by rfl) T.g__law_tape T.F__law_tape.kp T.b__law_tape .nil pass0 (pa_cons (pv 0) pa_nil)))
  (pss_cons (ps_set (i := 2) sc_law.nd rfl (.inl rfl) (pe_op op_add pe_int (pe_call (ok__law_pick T) (hr.mono (by decide)) (by rfl) T.g__law_pick T.F__law_pick.kp T.b__law_pick .nil pass0 (pa_cons (pv 1) (pa_cons pe_int pa_nil)))))
  (pss_cons (ps_set (i := 3) sc_law.nd rfl (.inl rfl) (pe_op op_add pe_int (pe_call (ok__law_pick T) (hr.mono (by decide)) (by rfl) T.g__law_pick T.F__law_pick.kp T.b__law_pick .nil pass0 (pa_cons (pv 1) (pa_cons (pe_ix ix_list (pe_lst (pa_cons pe_int (pa_cons pe_int (pa_cons pe_int pa_nil)))) (pe_call (ok__law_pick T) (hr.mono (by decide)) (by rfl) T.g__law_pick T.F__law_pick.kp T.b__law_pick .nil pass0 (pa_cons (pv 1) (pa_cons pe_int pa_nil))) (fun _ _ => rfl)) pa_nil)))))
  (pss_cons (ps_set (i := 4) sc_law.nd rfl (.inl rfl) (pe_call (ok__law_pick T) (hr.mono (by decide)) (by rfl) T.g__law_pick T.F__law_pick.kp T.b__law_pick .nil pass0 (pa_cons (pv 1) (pa_cons pe_int pa_nil))))
  (Evl.pss_cut (ps_if (pt_cmpR op_eq (pe_call (ok__law_pick T) (hr.mono (by decide)) (by rfl) T.g__law_pick T.F__law_pick.kp T.b__law_pick .nil pass0 (pa_cons (pv 1) (pa_cons pe_int pa_nil))) pe_int (nomark _)) (pss_one (ps_set (i := 4) sc_law.nd rfl (.inl rfl) pe_int)) pss_nil)
  (pss_cons (ps_set (i := 5) sc_law.nd rfl (.inr rfl) (pe_call (ok__law_walk T) (hr.mono (by decide)) (by rfl) T.g__law_walk T.F__law_walk.kp T.b__law_walk .nil pass0 (pa_cons (pv 1) (pa_cons (pv 2) (pa_cons (pv 3) (pa_cons (pv 4) pa_nil))))))
  (pss_cons (ps_set (i := 6) sc_law.nd rfl (.inl rfl) (pe_call (ok_comings_for T) (hr.mono (by decide)) (by rfl) T.g_comings_for T.F_comings_for.kp T.b_comings_for .nil pass0 (pa_cons (pv 2) (pa_cons (pv 3) (pa_cons (pe_ix ix_list (pe_lst (pa_cons (pv 5) (pa_cons (pe_callTy call_tuple_of (by rfl) T.m_tuple (by decide +kernel) (pa_cons (pv 5) pa_nil)) pa_nil))) (pe_call (ok__law_pick T) (hr.mono (by decide)) (by rfl) T.g__law_pick T.F__law_pick.kp T.b__law_pick .nil pass0 (pa_cons (pv 1) (pa_cons pe_int pa_nil))) (fun _ _ => rfl)) pa_nil)))))
  (pss_cons (ps_if (PW.pt (pw_or (pt_cmpR (op_neD hr.units) (pv 6) (pe_call (ok__law_due T) (hr.mono (by decide)) (by rfl) T.g__law_due T.F__law_due.kp T.b__law_due .nil pass0 (pa_cons (pv 5) pa_nil)) (nomark _)) (pw_or (pt_not (pt_val (pe_callB call_isi (by rfl) T.m_isinstance (by decide +kernel) (pa_cons (pv 6) (pa_cons (pe_bltn (v := .ty "tuple") (by rfl) T.m_tuple (by decide +kernel) rfl) pa_nil))))) (pw_or1 (pt_not (pt_val (pe_callB call_isi (by rfl) T.m_isinstance (by decide +kernel) (pa_cons (pe_ix ix_tup (pv 6) pe_int (fun _ _ => rfl)) (pa_cons (pe_bltn (v := .ty "tuple") (by rfl) T.m_tuple (by decide +kernel) rfl) pa_nil))))))))) (pss_one (ps_ret pe_bl)) pss_nil)
  (pss_cons (ps_if (PW.pt (pw_or (pt_cmpR op_gt (pe_callB call_len_seq (by rfl) T.m_len PySem.boot_len (pa_cons (pe_lc (own := [("number", 9)]) (g := (gName 9)) rfl sc_law.nd (pi_tup (pe_ix ix_tup (pv 6) pe_int (fun _ _ => rfl))) (blkOk_by (own := [("number", 9)]) (N := ["script", "tape", "comers", "bound", "most", "row", "told", "firsts", "part", "number", "k"]) (sc := defScope s_law) (by decide +kernel)) (fun _ _ _ _ _ => pg_name (i := 9) sc_law.nd rfl (.inl rfl)) (fun _ _ _ _ _ => (pts_one (pt_val (pe_callB (isiK (K := K) (by rfl)) (by rfl) T.m_isinstance (by decide +kernel) (pa_cons (pv 9) (pa_cons (pe_bltn (v := .ty "bool") (by rfl) T.m_bool (by decide +kernel) rfl) pa_nil)))))) (fun _ _ _ _ _ => (pv 9))) pa_nil)) pe_int (nomark _)) (pw_or1 (pt_cmpR op_lt (pe_ix ix_tup (pe_ix ix_tup (pv 6) pe_int (fun _ _ => rfl)) (pe_un un_neg pe_int) (fun _ _ => rfl)) pe_int (nomark _))))) (pss_one (ps_ret pe_bl)) pss_nil)
  (pss_cons (ps_setLc (i := 7) (own := [("k", 10)]) (g := (gName 10)) rfl sc_law.nd rfl rfl (sw_true rfl rfl rfl (by decide +kernel)) (pi_range1 (by rfl) T.m_range (pa_cons (pe_callB call_len_seq (by rfl) T.m_len PySem.boot_len (pa_cons (pv 5) pa_nil)) pa_nil)) (blkOk_by (own := [("k", 10)]) (N := ["script", "tape", "comers", "bound", "most", "row", "told", "firsts", "part", "number", "k"]) (sc := defScope s_law) (by decide +kernel)) (fun _ _ _ _ _ => pg_name (i := 10) sc_law.nd rfl (.inl rfl)) (fun _ _ _ _ _ => (pts_one (pt_cmpR op_eq (pe_ix (ixTK (K := K) (by rfl)) (pe_ix (ixLK (K := K) (by rfl)) (pv 5) (pv 10) (fun _ _ => rfl)) pe_int (fun _ _ => rfl)) pe_int (nomark _)))) (fun _ _ _ _ _ => (pv 10)))
  (pss_cons (ps_set (i := 8) sc_law.nd rfl (.inl rfl) (pe_slice sl_list (pv 5) (po_some (pe_ix ix_list (pv 7) (pe_call (ok__law_pick T) (hr.mono (by decide)) (by rfl) T.g__law_pick T.F__law_pick.kp T.b__law_pick .nil pass0 (pa_cons (pv 1) (pa_cons (pe_callB call_len_seq (by rfl) T.m_len PySem.boot_len (pa_cons (pv 7) pa_nil)) pa_nil))) (fun _ _ => rfl))) po_none))
  (pss_one (ps_ret (pe_cmpR (op_eqD hr.units) (pe_call (ok_comings_for T) (hr.mono (by decide)) (by rfl) T.g_comings_for T.F_comings_for.kp T.b_comings_for .nil pass0 (pa_cons (pv 2) (pa_cons (pv 3) (pa_cons (pv 8) pa_nil)))) (pe_call (ok__law_due T) (hr.mono (by decide)) (by rfl) T.g__law_due T.F__law_due.kp T.b__law_due .nil pass0 (pa_cons (pv 8) pa_nil)) (nomark _)))))))))))))))), ?_⟩
    refine ⟨.ref a', rfl, a', ns0, rfl, hS, fun t sc H1 nt ns' sm tp => ?_⟩
    refine ⟨.ref t, rfl, t, sc, 3, rfl, ⟨by decide, by decide⟩, tp, fun d H2 hd0 hd1 mv2 tp2 => ⟨2, d, rfl, rfl, ?_⟩⟩
    refine ⟨.ref t, rfl, by show 3 ≤ sizeLine; decide, fun L3 n3 => ?_⟩
    have s3 := same_upd (o := .lst [V.int 5, .int 12, .int 60]) n3
    have tp3 := tp2.keep s3
    have hL3t : L3 ≠ t := tp2.ne n3
    refine ⟨.ref t, rfl, t, sc, 3, rfl, ⟨by decide, by decide⟩, tp3, fun e H4 he0 he1 mv4 tp4 => ?_⟩
    obtain ⟨v, hv, hv1, hv60⟩ : ∃ v : Int, atI [V.int 5, .int 12, .int 60] e = some (.int v) ∧ 1 ≤ v ∧ v ≤ 60 := by
      obtain ⟨j, rfl⟩ : ∃ j : Nat, e = (j : Int) := ⟨e.toNat, by omega⟩
      have hj : j = 0 ∨ j = 1 ∨ j = 2 := by omega
      rcases hj with rfl | rfl | rfl
      · exact ⟨5, atI_nat (j := 0) rfl, by decide, by decide⟩
      · exact ⟨12, atI_nat (j := 1) rfl, by decide, by decide⟩
      · exact ⟨60, atI_nat (j := 2) rfl, by decide, by decide⟩
    refine ⟨L3, _, _, .int v, rfl, rfl, SqL.of (mv4 _ _ hL3t upd_same), hv, t, sc, v, rfl, ⟨by omega, by omega⟩, tp4, fun bb H5 hb0 hb1 mv5 tp5 => ⟨1, bb, rfl, rfl, ?_⟩⟩
    refine ⟨.ref t, rfl, t, sc, 20, rfl, ⟨by decide, by decide⟩, tp5, fun m0 H6 hm0 hm1 mv6 tp6 => ?_⟩
    refine ⟨fun σ' H' => ∃ (m : Int), σ' = [some (.ref a'), some (.ref t), some (.int (2 + d)), some (.int (1 + bb)), some (.int m), none, none, none, none, none, none] ∧ 0 ≤ m ∧ m ≤ 59 ∧ Tape H' t sc, ?_, fun σ' H7 hm => ?_⟩
    · refine ⟨.ref t, rfl, t, sc, 12, rfl, ⟨by decide, by decide⟩, tp6, fun x H7 hx0 hx1 mv7 tp7 => ⟨rfl, _, rfl, ite2 (fun c1 => ?_) (fun c1 => ?_)⟩⟩
      · exact ⟨59, rfl, by decide, by decide, tp7⟩
      · exact ⟨m0, rfl, hm0, by omega, tp7⟩
    · obtain ⟨m, rfl, hm0, hm1, tp7⟩ := hm
      refine ⟨.ref t, rfl, .int (2 + d), rfl, .int (1 + bb), rfl, .int m, rfl, t, sc, 2 + d, 1 + bb, m, rfl, by omega, by omega, by omega, by omega, hm0, hm1, tp7, fun R ps row H8 hw hl60 nR mv8 tp8 eR tR => ?_⟩
      -- [row, tuple(row)][..]
      refine ⟨.int (2 + d), rfl, .int (1 + bb), rfl, .ref R, rfl, .ref R, rfl, R, _, rfl, .inl ⟨SqL.of eR, fun tr ntr => ?_⟩⟩
      have s9 := same_upd (o := .tup (ps.map V.ref)) ntr
      refine ⟨by show 2 ≤ sizeLine; decide, fun L2 nL2 => ?_⟩
      have s10 := same_upd (o := .lst [V.ref R, .ref tr]) nL2
      have sA := s9.trans s10
      have tp10 := tp8.keep sA
      have hRt : ∀ {H' : Hp} {b : Addr} {xs : List V}, Tape H' t sc → H' b = some (.lst xs) → (∀ x ∈ xs, ∃ r, x = V.ref r) → b ≠ t := fun tpz eb hx z => by
        obtain ⟨_, _, _, _, _, _, e2, _⟩ := tpz
        rw [z, e2] at eb
        have e3 := HO.lst.inj (Option.some.inj eb)
        obtain ⟨r, hr⟩ := hx (.int _) (by rw [← e3]; exact List.mem_cons_of_mem _ List.mem_cons_self)
        cases hr
      have hrs : ∀ x ∈ ps.map V.ref, ∃ r, x = V.ref r := fun x hx => by
        obtain ⟨r, _, rfl⟩ := List.mem_map.mp hx
        exact ⟨r, rfl⟩
      have nRt := hRt tp8 eR hrs
      refine ⟨.ref t, rfl, t, sc, 2, rfl, ⟨by decide, by decide⟩, tp10, fun x H11 hx0 hx1 mv11 tp11 => ?_⟩
      have eR11 := mv11 R _ nRt (sA _ _ eR)
      have tR11 := mv11.tups tp10 (tR.same sA)
      have eL11 : H11 L2 = some (.lst [V.ref R, .ref tr]) := mv11 L2 _ ((tp8.keep s9).ne nL2) upd_same
      have etr11 : SqT K H11 tr (ps.map V.ref) := mv11.sq tp10 (SqT.of (s10 _ _ upd_same))
      obtain ⟨z, κ, hz, kz⟩ : ∃ (z : Addr) (κ : Bool), atI [V.ref R, .ref tr] x = some (.ref z) ∧ Kd κ K H11 z (ps.map V.ref) := by
        have hx : x = 0 ∨ x = 1 := by omega
        rcases hx with rfl | rfl
        · exact ⟨R, true, atI_nat (j := 0) rfl, eR11⟩
        · exact ⟨tr, false, atI_nat (j := 1) rfl, etr11⟩
      refine ⟨L2, _, _, .ref z, rfl, rfl, SqL.of eL11, hz, ?_⟩
      refine ⟨2 + d, 1 + bb, z, ps, row, κ, rfl, kz, tR11, hw, hl60, by omega, by omega, by omega, by omega, fun p c H12 s12 ep ec => ?_⟩
      have eR12 := s12 _ _ eR11
      have tR12 := tR11.same s12
      have tp12 := tp11.keep s12
      obtain ⟨ds, xl, ecf, hxl⟩ := Wk.cf_last (by omega) hw
      obtain ⟨cl, ci⟩ := Wk.cf_right (by omega) hw
      -- told != _law_due(row)
      refine ⟨.ref p, rfl, .ref R, rfl, R, ps, row, 2 + d, 1 + bb, rfl, eR12, tR12, hw, hl60, by omega, by omega, fun p2 c2 H13 s13 ep2 ec2 => ?_⟩
      have ep13 := s13 _ _ ep
      have ec13 := s13 _ _ ec
      refine ⟨dC (Wk.cf row) (2 * (row.headD (0, 0)).1), dC (Wk.cf row) (2 * (row.headD (0, 0)).1), dp_C ep13 ec13, dp_C ep2 ec2, (Shp.dC _ _).ok (by decide), (Shp.dC _ _).ok (by decide), false, ne_same (Shp.dC _ _), iteF ?_⟩
      refine ⟨.ref p, rfl, .ref p, .ty "tuple", _, _, true, rfl, .ty _, tyTup (SqT.of ep13), kit_ty (by decide +kernel), true, rfl, iteF ?_⟩
      refine ⟨.ref p, rfl, p, _, 0, .ref c, rfl, rfl, SqT.of ep13, atI_nat (j := 0) rfl, .ref c, .ty "tuple", _, _, true, rfl, .ty _, tyTup (SqT.of ec13), kit_ty (by decide +kernel), true, rfl, iteF ?_⟩
      -- no flags
      refine ⟨.ref p, rfl, p, _, 0, .ref c, rfl, rfl, SqT.of ep13, atI_nat (j := 0) rfl, c, rfl, ⟨_, SqT.of ec13⟩, fun D hD => lc_tup (K := K) (a := c) (xs := (Wk.cf row).map V.int)
        (fun i H' => Same H13 H' ∧ H' D = some (.lst [])) ⟨same_upd hD, upd_same⟩ (fun i H' _ h => SqT.of (h.1 _ _ ec13)) (fun i y H' hy h => ?_) (fun H14 h => ?_)⟩
      · obtain ⟨s14, eD⟩ := h
        rw [List.getElem?_map] at hy
        obtain ⟨n, hn, rfl⟩ := Option.map_eq_some_iff.mp hy
        refine ⟨rfl, ?_⟩
        refine ⟨.int n, rfl, .int n, .ty "bool", _, _, false, rfl, .ty _, .base (.int n), kit_ty (by decide +kernel), false, rfl, iteF ?_⟩
        exact ⟨s14, eD⟩
      · obtain ⟨s14, eD⟩ := h
        refine ⟨D, _, rfl, .inl (SqL.of eD), _, _, rfl, rfl, false, rfl, iteF ?_⟩
        have ep14 := s14 _ _ ep13
        have ec14 := s14 _ _ ec13
        have hat : atI ((Wk.cf row).map V.int) (-1) = some (.int xl) := by
          rw [ecf, List.map_append]
          exact atI_last _ _
        refine ⟨.ref p, rfl, p, _, 0, .ref c, rfl, rfl, SqT.of ep14, atI_nat (j := 0) rfl, 1, rfl, c, _, -1, .int xl, rfl, rfl, SqT.of ec14, hat, _, _, rfl, rfl, false, congrArg V.bl (decide_eq_false (by omega)), iteF ?_⟩
        have sB := s13.trans s14
        have eR14 := sB _ _ eR12
        have tR14 := tR12.same sB
        have tp14 := tp12.keep sB
        -- firsts
        have e1 : (((ps.map V.ref).length : Nat) : Int) = (row.length : Int) := by rw [List.length_map, tR.length]
        refine ⟨.ref R, rfl, R, _, rfl, .inl (SqL.of eR14), _, rfl, by omega, by omega, fun F nF => lc_range (lo := 0) (n := ((((ps.map V.ref).length : Nat) : Int)).toNat)
          (fun i H' => ∃ fs : List Nat, H' F = some (.lst (fs.map fun f : Nat => V.int (f : Int))) ∧ (∀ f ∈ fs, ∃ x, row[f]? = some x ∧ x.2 = 1) ∧ (0 < i → fs ≠ []) ∧ fs.length ≤ i ∧ Same H14 H') ⟨[], upd_same, fun f hf => by simp at hf, fun h => absurd h (Nat.lt_irrefl _), Nat.le_refl _, same_upd nF⟩ (fun i H' hi h => ?_) (fun H15 h => ?_)⟩
        · obtain ⟨fs, eF, hfs, hpos, zl, sm⟩ := h
          rw [Int.zero_add]
          have hi' : i < row.length := by omega
          obtain ⟨y, hy⟩ : ∃ y, row[i]? = some y := ⟨_, List.getElem?_eq_getElem hi'⟩
          obtain ⟨py, hpy, ey⟩ := tR14.at hy
          refine ⟨rfl, ?_⟩
          refine ⟨.ref R, rfl, .int i, rfl, R, _, _, .ref py, rfl, rfl, SqL.of (sm _ _ eR14), atI_nat hpy, py, _, 1, _, rfl, rfl, SqT.of (sm _ _ ey), atI_nat (j := 1) rfl, rfl, ?_⟩
          by_cases c1 : y.2 = 1
          · refine ⟨true, congrArg V.bl (decide_eq_true (congrArg V.int c1)), iteT ?_⟩
            refine ⟨.int i, rfl, _, eF, by rw [List.length_map]; exact small1000 (by omega), fs ++ [i], by rw [upd_same, List.map_append]; rfl, fun f hf => ?_, fun _ => by simp, ?_, same_put sm nF⟩
            · rcases List.mem_append.mp hf with hf | hf
              · exact hfs f hf
              · rw [List.mem_singleton.mp hf]
                exact ⟨y, hy, c1⟩
            · rw [List.length_append]
              exact Nat.succ_le_succ zl
          · refine ⟨false, congrArg V.bl (decide_eq_false (fun z => c1 (V.int.inj z))), iteF ?_⟩
            refine ⟨fs, eF, hfs, fun _ => ?_, Nat.le_succ_of_le zl, sm⟩
            refine hpos ?_
            cases i with
            | zero =>
              exfalso
              cases row with
              | nil => exact hw
              | cons s r =>
                have e3 : s = y := by simpa using hy
                exact c1 (by rw [← e3]; exact hw.2.1)
            | succ i => exact Nat.succ_pos _
        · obtain ⟨fs, eF, hfs, hpos, zl, sm⟩ := h
          have hrl : 1 ≤ row.length := by
            cases row with
            | nil => exact False.elim hw
            | cons s r => rw [List.length_cons]; omega
          have hne := hpos (by omega)
          have hfl : 1 ≤ fs.length := by
            cases fs with
            | nil => exact absurd rfl hne
            | cons _ _ => rw [List.length_cons]; omega
          have tp15 := tp14.keep sm
          refine ⟨.ref R, rfl, .ref F, rfl, .ref t, rfl, .ref F, rfl, F, _, rfl, .inl (SqL.of eF), t, sc, _, rfl, ⟨by rw [List.length_map]; omega, by rw [List.length_map]; omega⟩, tp15, fun x2 H16 hx20 hx21 mv16 tp16 => ?_⟩
          have hFt : F ≠ t := fun z => by
            obtain ⟨_, _, _, _, _, _, e2, _⟩ := tp15
            rw [z, e2] at eF
            have e3 := HO.lst.inj (Option.some.inj eF)
            cases fs with
            | nil => exact hne rfl
            | cons f fs =>
              rw [List.map_cons] at e3
              have e4 := (List.cons.inj e3).1
              cases e4
          have eF16 := mv16 F _ hFt eF
          have nRt15 := hRt tp15 (sm _ _ eR14) hrs
          have eR16 := mv16 R _ nRt15 (sm _ _ eR14)
          have tR16 := mv16.tups tp15 (tR14.same sm)
          obtain ⟨f, hf⟩ : ∃ f, fs[x2.toNat]? = some f := ⟨_, List.getElem?_eq_getElem (by rw [List.length_map] at hx21; omega)⟩
          obtain ⟨o, ho, ho1⟩ := hfs f (List.mem_of_getElem? hf)
          refine ⟨F, _, _, .int (f : Int), rfl, rfl, SqL.of eF16, atI_of hx20 (by rw [List.getElem?_map, hf]; rfl), (f : Int), rfl, R, _, rfl, SqL.of eR16, fun c3 nc3 => ?_⟩
          have ecut : cutV (ps.map V.ref) (some (f : Int)) none = (ps.drop f).map V.ref := by
            rw [cutN, List.map_drop]
          rw [ecut]
          have s17 := same_upd (o := .lst ((ps.drop f).map V.ref)) nc3
          have t17 := (tR16.same s17).drop f
          have hwd := Wk.walk_drop hw ho ho1
          have hld : (row.drop f).length ≤ 60 := by
            rw [List.length_drop]
            omega
          refine ⟨.int (2 + d), rfl, .int (1 + bb), rfl, .ref c3, rfl, 2 + d, 1 + bb, c3, ps.drop f, row.drop f, true, rfl, upd_same, t17, hwd, hld, by omega, by omega, by omega, by omega, fun p4 c4 H18 s18 ep4 ec4 => ?_⟩
          refine ⟨.ref c3, rfl, c3, ps.drop f, row.drop f, 2 + d, 1 + bb, rfl, s18 _ _ upd_same, t17.same s18, hwd, hld, by omega, by omega, fun p5 c5 H19 s19 ep5 ec5 => ?_⟩
          refine ⟨dC (Wk.cf (row.drop f)) (2 * ((row.drop f).headD (0, 0)).1), dC (Wk.cf (row.drop f)) (2 * ((row.drop f).headD (0, 0)).1), dp_C (s19 _ _ ep4) (s19 _ _ ec4), dp_C ep5 ec5, (Shp.dC _ _).ok (by decide), (Shp.dC _ _).ok (by decide), ?_⟩
          rw [eqv_same (Shp.dC _ _)]
          exact q _
end

/-! ### the end -/
theorem fin_mk {l : PySem.W.OpenLaw} {w : World} {K : PySem.W.Frag} {h : Heap} {mg : Str → Option Value} {fa f_law : Addr} (KX : K.In h) (G : h.Ns mainGlobals mg) (hmg : mg "law" = some (.ref fa)) {an : Option Addr} {kV dc pm cd ct : Value}
    (hT : ∃ T : Tx K mg, T.a_law = f_law ∧ T.d_law = PySem.W.fnOf "law" "law" (defArgs s_law) (defBody s_law) (defScope s_law) .none kV dc pm an cd ct) :
    ∃ fd : FuncData, (∀ (s : Shared) (v : Value), BindsTo s fd ⟨[v], []⟩ [("script", v)]) ∧ ∀ base : Heap, K.In base → base.Ns mainGlobals mg → FnOk l.prog w K mg base CX0 lawLevel fa fd ["script"] (spLaw K) := by
  obtain ⟨T, ea, ed⟩ := hT
  have e := hmg.symm.trans T.g_law
  cases e
  exact ⟨T.d_law, fun s v => by rw [ed]; exact .of_eq rfl, fun base _ _ => ok_law T⟩

theorem all_mk {w : World} {K : PySem.W.Frag} {h : Heap} {mg : Str → Option Value} (X : K.In h) (G : h.Ns mainGlobals mg)
    {f_is_integer : Addr} {od_is_integer an_is_integer : Option Addr} {sl_is_integer : Array (Option Value)} {oc_is_integer kV_is_integer dc_is_integer pm_is_integer cd_is_integer ct_is_integer : Value}
    {f_is_number : Addr} {od_is_number an_is_number : Option Addr} {sl_is_number : Array (Option Value)} {oc_is_number kV_is_number dc_is_number pm_is_number cd_is_number ct_is_number : Value}
    {f_are_integers : Addr} {od_are_integers an_are_integers : Option Addr} {sl_are_integers : Array (Option Value)} {oc_are_integers kV_are_integers dc_are_integers pm_are_integers cd_are_integers ct_are_integers : Value}
    {f_check_comers : Addr} {od_check_comers an_check_comers : Option Addr} {sl_check_comers : Array (Option Value)} {oc_check_comers kV_check_comers dc_check_comers pm_check_comers cd_check_comers ct_check_comers : Value}
    {f_check_bound : Addr} {od_check_bound an_check_bound : Option Addr} {sl_check_bound : Array (Option Value)} {oc_check_bound kV_check_bound dc_check_bound pm_check_bound cd_check_bound ct_check_bound : Value}
    {f_is_spot : Addr} {od_is_spot an_is_spot : Option Addr} {sl_is_spot : Array (Option Value)} {oc_is_spot kV_is_spot dc_is_spot pm_is_spot cd_is_spot ct_is_spot : Value}
    {f_is_next : Addr} {od_is_next an_is_next : Option Addr} {sl_is_next : Array (Option Value)} {oc_is_next kV_is_next dc_is_next pm_is_next cd_is_next ct_is_next : Value}
    {f_is_walk : Addr} {od_is_walk an_is_walk : Option Addr} {sl_is_walk : Array (Option Value)} {oc_is_walk kV_is_walk dc_is_walk pm_is_walk cd_is_walk ct_is_walk : Value}
    {f_comings_for : Addr} {od_comings_for an_comings_for : Option Addr} {sl_comings_for : Array (Option Value)} {oc_comings_for kV_comings_for dc_comings_for pm_comings_for cd_comings_for ct_comings_for : Value}
    {f__law_tape : Addr} {od__law_tape an__law_tape : Option Addr} {sl__law_tape : Array (Option Value)} {oc__law_tape kV__law_tape dc__law_tape pm__law_tape cd__law_tape ct__law_tape : Value}
    {f__law_pick : Addr} {od__law_pick an__law_pick : Option Addr} {sl__law_pick : Array (Option Value)} {oc__law_pick kV__law_pick dc__law_pick pm__law_pick cd__law_pick ct__law_pick : Value}
    {f__law_walk : Addr} {od__law_walk an__law_walk : Option Addr} {sl__law_walk : Array (Option Value)} {oc__law_walk kV__law_walk dc__law_walk pm__law_walk cd__law_walk ct__law_walk : Value}
    {f__law_due : Addr} {od__law_due an__law_due : Option Addr} {sl__law_due : Array (Option Value)} {oc__law_due kV__law_due dc__law_due pm__law_due cd__law_due ct__law_due : Value}
    {f_law : Addr} {od_law an_law : Option Addr} {sl_law : Array (Option Value)} {oc_law kV_law dc_law pm_law cd_law ct_law : Value}
    {t_MOST_BOUND : Tok}
    {t_MOST_COMERS : Tok}
    {t_MOST_SPOTS : Tok}
    (a_is_integer : PySem.W.nsIn K mainGlobals "is_integer" = some (some (.ref f_is_integer))) (l_is_integer : K.lookup f_is_integer = some ⟨oc_is_integer, od_is_integer, .func (PySem.W.fnOf "is_integer" "is_integer" (defArgs s_is_integer) (defBody s_is_integer) (defScope s_is_integer) .none kV_is_integer dc_is_integer pm_is_integer an_is_integer cd_is_integer ct_is_integer), sl_is_integer⟩) (c_is_integer : PySem.W.codeIn K cd_is_integer "is_integer" = true) (k_is_integer : PySem.W.keepIn K (.ref f_is_integer) = true)
    (a_is_number : PySem.W.nsIn K mainGlobals "is_number" = some (some (.ref f_is_number))) (l_is_number : K.lookup f_is_number = some ⟨oc_is_number, od_is_number, .func (PySem.W.fnOf "is_number" "is_number" (defArgs s_is_number) (defBody s_is_number) (defScope s_is_number) .none kV_is_number dc_is_number pm_is_number an_is_number cd_is_number ct_is_number), sl_is_number⟩) (c_is_number : PySem.W.codeIn K cd_is_number "is_number" = true) (k_is_number : PySem.W.keepIn K (.ref f_is_number) = true)
    (a_are_integers : PySem.W.nsIn K mainGlobals "are_integers" = some (some (.ref f_are_integers))) (l_are_integers : K.lookup f_are_integers = some ⟨oc_are_integers, od_are_integers, .func (PySem.W.fnOf "are_integers" "are_integers" (defArgs s_are_integers) (defBody s_are_integers) (defScope s_are_integers) .none kV_are_integers dc_are_integers pm_are_integers an_are_integers cd_are_integers ct_are_integers), sl_are_integers⟩) (c_are_integers : PySem.W.codeIn K cd_are_integers "are_integers" = true) (k_are_integers : PySem.W.keepIn K (.ref f_are_integers) = true)
    (a_check_comers : PySem.W.nsIn K mainGlobals "check_comers" = some (some (.ref f_check_comers))) (l_check_comers : K.lookup f_check_comers = some ⟨oc_check_comers, od_check_comers, .func (PySem.W.fnOf "check_comers" "check_comers" (defArgs s_check_comers) (defBody s_check_comers) (defScope s_check_comers) .none kV_check_comers dc_check_comers pm_check_comers an_check_comers cd_check_comers ct_check_comers), sl_check_comers⟩) (c_check_comers : PySem.W.codeIn K cd_check_comers "check_comers" = true) (k_check_comers : PySem.W.keepIn K (.ref f_check_comers) = true)
    (a_check_bound : PySem.W.nsIn K mainGlobals "check_bound" = some (some (.ref f_check_bound))) (l_check_bound : K.lookup f_check_bound = some ⟨oc_check_bound, od_check_bound, .func (PySem.W.fnOf "check_bound" "check_bound" (defArgs s_check_bound) (defBody s_check_bound) (defScope s_check_bound) .none kV_check_bound dc_check_bound pm_check_bound an_check_bound cd_check_bound ct_check_bound), sl_check_bound⟩) (c_check_bound : PySem.W.codeIn K cd_check_bound "check_bound" = true) (k_check_bound : PySem.W.keepIn K (.ref f_check_bound) = true)
    (a_is_spot : PySem.W.nsIn K mainGlobals "is_spot" = some (some (.ref f_is_spot))) (l_is_spot : K.lookup f_is_spot = some ⟨oc_is_spot, od_is_spot, .func (PySem.W.fnOf "is_spot" "is_spot" (defArgs s_is_spot) (defBody s_is_spot) (defScope s_is_spot) .none kV_is_spot dc_is_spot pm_is_spot an_is_spot cd_is_spot ct_is_spot), sl_is_spot⟩) (c_is_spot : PySem.W.codeIn K cd_is_spot "is_spot" = true) (k_is_spot : PySem.W.keepIn K (.ref f_is_spot) = true)
    (a_is_next : PySem.W.nsIn K mainGlobals "is_next" = some (some (.ref f_is_next))) (l_is_next : K.lookup f_is_next = some ⟨oc_is_next, od_is_next, .func (PySem.W.fnOf "is_next" "is_next" (defArgs s_is_next) (defBody s_is_next) (defScope s_is_next) .none kV_is_next dc_is_next pm_is_next an_is_next cd_is_next ct_is_next), sl_is_next⟩) (c_is_next : PySem.W.codeIn K cd_is_next "is_next" = true) (k_is_next : PySem.W.keepIn K (.ref f_is_next) = true)
    (a_is_walk : PySem.W.nsIn K mainGlobals "is_walk" = some (some (.ref f_is_walk))) (l_is_walk : K.lookup f_is_walk = some ⟨oc_is_walk, od_is_walk, .func (PySem.W.fnOf "is_walk" "is_walk" (defArgs s_is_walk) (defBody s_is_walk) (defScope s_is_walk) .none kV_is_walk dc_is_walk pm_is_walk an_is_walk cd_is_walk ct_is_walk), sl_is_walk⟩) (c_is_walk : PySem.W.codeIn K cd_is_walk "is_walk" = true) (k_is_walk : PySem.W.keepIn K (.ref f_is_walk) = true)
    (a_comings_for : PySem.W.nsIn K mainGlobals "comings_for" = some (some (.ref f_comings_for))) (l_comings_for : K.lookup f_comings_for = some ⟨oc_comings_for, od_comings_for, .func (PySem.W.fnOf "comings_for" "comings_for" (defArgs s_comings_for) (defBody s_comings_for) (defScope s_comings_for) .none kV_comings_for dc_comings_for pm_comings_for an_comings_for cd_comings_for ct_comings_for), sl_comings_for⟩) (c_comings_for : PySem.W.codeIn K cd_comings_for "comings_for" = true) (k_comings_for : PySem.W.keepIn K (.ref f_comings_for) = true)
    (a__law_tape : PySem.W.nsIn K mainGlobals "_law_tape" = some (some (.ref f__law_tape))) (l__law_tape : K.lookup f__law_tape = some ⟨oc__law_tape, od__law_tape, .func (PySem.W.fnOf "_law_tape" "_law_tape" (defArgs s__law_tape) (defBody s__law_tape) (defScope s__law_tape) .none kV__law_tape dc__law_tape pm__law_tape an__law_tape cd__law_tape ct__law_tape), sl__law_tape⟩) (c__law_tape : PySem.W.codeIn K cd__law_tape "_law_tape" = true) (k__law_tape : PySem.W.keepIn K (.ref f__law_tape) = true)
    (a__law_pick : PySem.W.nsIn K mainGlobals "_law_pick" = some (some (.ref f__law_pick))) (l__law_pick : K.lookup f__law_pick = some ⟨oc__law_pick, od__law_pick, .func (PySem.W.fnOf "_law_pick" "_law_pick" (defArgs s__law_pick) (defBody s__law_pick) (defScope s__law_pick) .none kV__law_pick dc__law_pick pm__law_pick an__law_pick cd__law_pick ct__law_pick), sl__law_pick⟩) (c__law_pick : PySem.W.codeIn K cd__law_pick "_law_pick" = true) (k__law_pick : PySem.W.keepIn K (.ref f__law_pick) = true)
    (a__law_walk : PySem.W.nsIn K mainGlobals "_law_walk" = some (some (.ref f__law_walk))) (l__law_walk : K.lookup f__law_walk = some ⟨oc__law_walk, od__law_walk, .func (PySem.W.fnOf "_law_walk" "_law_walk" (defArgs s__law_walk) (defBody s__law_walk) (defScope s__law_walk) .none kV__law_walk dc__law_walk pm__law_walk an__law_walk cd__law_walk ct__law_walk), sl__law_walk⟩) (c__law_walk : PySem.W.codeIn K cd__law_walk "_law_walk" = true) (k__law_walk : PySem.W.keepIn K (.ref f__law_walk) = true)
    (a__law_due : PySem.W.nsIn K mainGlobals "_law_due" = some (some (.ref f__law_due))) (l__law_due : K.lookup f__law_due = some ⟨oc__law_due, od__law_due, .func (PySem.W.fnOf "_law_due" "_law_due" (defArgs s__law_due) (defBody s__law_due) (defScope s__law_due) .none kV__law_due dc__law_due pm__law_due an__law_due cd__law_due ct__law_due), sl__law_due⟩) (c__law_due : PySem.W.codeIn K cd__law_due "_law_due" = true) (k__law_due : PySem.W.keepIn K (.ref f__law_due) = true)
    (a_law : PySem.W.nsIn K mainGlobals "law" = some (some (.ref f_law))) (l_law : K.lookup f_law = some ⟨oc_law, od_law, .func (PySem.W.fnOf "law" "law" (defArgs s_law) (defBody s_law) (defScope s_law) .none kV_law dc_law pm_law an_law cd_law ct_law), sl_law⟩) (c_law : PySem.W.codeIn K cd_law "law" = true) (k_law : PySem.W.keepIn K (.ref f_law) = true)
    (z_all : PySem.W.nsIn K mainGlobals "all" = some none)
    (z_bool : PySem.W.nsIn K mainGlobals "bool" = some none)
    (z_int : PySem.W.nsIn K mainGlobals "int" = some none)
    (z_isinstance : PySem.W.nsIn K mainGlobals "isinstance" = some none)
    (z_len : PySem.W.nsIn K mainGlobals "len" = some none)
    (z_list : PySem.W.nsIn K mainGlobals "list" = some none)
    (z_max : PySem.W.nsIn K mainGlobals "max" = some none)
    (z_range : PySem.W.nsIn K mainGlobals "range" = some none)
    (z_tuple : PySem.W.nsIn K mainGlobals "tuple" = some none)
    (z_zip : PySem.W.nsIn K mainGlobals "zip" = some none)
    (y_MOST_BOUND : PySem.W.nsIn K mainGlobals "MOST_BOUND" = some (some (.int 60 t_MOST_BOUND)))
    (y_MOST_COMERS : PySem.W.nsIn K mainGlobals "MOST_COMERS" = some (some (.int 4 t_MOST_COMERS)))
    (y_MOST_SPOTS : PySem.W.nsIn K mainGlobals "MOST_SPOTS" = some (some (.int 60 t_MOST_SPOTS)))
    : ∃ T : Tx K mg, T.a_law = f_law ∧ T.d_law = PySem.W.fnOf "law" "law" (defArgs s_law) (defBody s_law) (defScope s_law) .none kV_law dc_law pm_law an_law cd_law ct_law :=
  ⟨{ a_is_integer := f_is_integer, d_is_integer := _, F_is_integer := fun_mk (st := s_is_integer) l_is_integer c_is_integer k_is_integer, b_is_integer := (fun_mk (st := s_is_integer) l_is_integer c_is_integer k_is_integer).binds (ps := ["thing"]) (fun _ _ _ _ _ _ us hl => match us, hl with | [_], _ => rfl), g_is_integer := PySem.W.mg_of X G a_is_integer,
     a_is_number := f_is_number, d_is_number := _, F_is_number := fun_mk (st := s_is_number) l_is_number c_is_number k_is_number, b_is_number := (fun_mk (st := s_is_number) l_is_number c_is_number k_is_number).binds (ps := ["thing", "least", "most"]) (fun _ _ _ _ _ _ us hl => match us, hl with | [_, _, _], _ => rfl), g_is_number := PySem.W.mg_of X G a_is_number,
     a_are_integers := f_are_integers, d_are_integers := _, F_are_integers := fun_mk (st := s_are_integers) l_are_integers c_are_integers k_are_integers, b_are_integers := (fun_mk (st := s_are_integers) l_are_integers c_are_integers k_are_integers).binds (ps := ["thing", "many"]) (fun _ _ _ _ _ _ us hl => match us, hl with | [_, _], _ => rfl), g_are_integers := PySem.W.mg_of X G a_are_integers,
     a_check_comers := f_check_comers, d_check_comers := _, F_check_comers := fun_mk (st := s_check_comers) l_check_comers c_check_comers k_check_comers, b_check_comers := (fun_mk (st := s_check_comers) l_check_comers c_check_comers k_check_comers).binds (ps := ["thing"]) (fun _ _ _ _ _ _ us hl => match us, hl with | [_], _ => rfl), g_check_comers := PySem.W.mg_of X G a_check_comers,
     a_check_bound := f_check_bound, d_check_bound := _, F_check_bound := fun_mk (st := s_check_bound) l_check_bound c_check_bound k_check_bound, b_check_bound := (fun_mk (st := s_check_bound) l_check_bound c_check_bound k_check_bound).binds (ps := ["thing"]) (fun _ _ _ _ _ _ us hl => match us, hl with | [_], _ => rfl), g_check_bound := PySem.W.mg_of X G a_check_bound,
     a_is_spot := f_is_spot, d_is_spot := _, F_is_spot := fun_mk (st := s_is_spot) l_is_spot c_is_spot k_is_spot, b_is_spot := (fun_mk (st := s_is_spot) l_is_spot c_is_spot k_is_spot).binds (ps := ["comers", "bound", "thing"]) (fun _ _ _ _ _ _ us hl => match us, hl with | [_, _, _], _ => rfl), g_is_spot := PySem.W.mg_of X G a_is_spot,
     a_is_next := f_is_next, d_is_next := _, F_is_next := fun_mk (st := s_is_next) l_is_next c_is_next k_is_next, b_is_next := (fun_mk (st := s_is_next) l_is_next c_is_next k_is_next).binds (ps := ["comers", "bound", "spot", "other"]) (fun _ _ _ _ _ _ us hl => match us, hl with | [_, _, _, _], _ => rfl), g_is_next := PySem.W.mg_of X G a_is_next,
     a_is_walk := f_is_walk, d_is_walk := _, F_is_walk := fun_mk (st := s_is_walk) l_is_walk c_is_walk k_is_walk, b_is_walk := (fun_mk (st := s_is_walk) l_is_walk c_is_walk k_is_walk).binds (ps := ["comers", "bound", "thing"]) (fun _ _ _ _ _ _ us hl => match us, hl with | [_, _, _], _ => rfl), g_is_walk := PySem.W.mg_of X G a_is_walk,
     a_comings_for := f_comings_for, d_comings_for := _, F_comings_for := fun_mk (st := s_comings_for) l_comings_for c_comings_for k_comings_for, b_comings_for := (fun_mk (st := s_comings_for) l_comings_for c_comings_for k_comings_for).binds (ps := ["comers", "bound", "row"]) (fun _ _ _ _ _ _ us hl => match us, hl with | [_, _, _], _ => rfl), g_comings_for := PySem.W.mg_of X G a_comings_for,
     a__law_tape := f__law_tape, d__law_tape := _, F__law_tape := fun_mk (st := s__law_tape) l__law_tape c__law_tape k__law_tape, b__law_tape := (fun_mk (st := s__law_tape) l__law_tape c__law_tape k__law_tape).binds (ps := ["script"]) (fun _ _ _ _ _ _ us hl => match us, hl with | [_], _ => rfl), g__law_tape := PySem.W.mg_of X G a__law_tape,
     a__law_pick := f__law_pick, d__law_pick := _, F__law_pick := fun_mk (st := s__law_pick) l__law_pick c__law_pick k__law_pick, b__law_pick := (fun_mk (st := s__law_pick) l__law_pick c__law_pick k__law_pick).binds (ps := ["tape", "size"]) (fun _ _ _ _ _ _ us hl => match us, hl with | [_, _], _ => rfl), g__law_pick := PySem.W.mg_of X G a__law_pick,
     a__law_walk := f__law_walk, d__law_walk := _, F__law_walk := fun_mk (st := s__law_walk) l__law_walk c__law_walk k__law_walk, b__law_walk := (fun_mk (st := s__law_walk) l__law_walk c__law_walk k__law_walk).binds (ps := ["tape", "comers", "bound", "most"]) (fun _ _ _ _ _ _ us hl => match us, hl with | [_, _, _, _], _ => rfl), g__law_walk := PySem.W.mg_of X G a__law_walk,
     a__law_due := f__law_due, d__law_due := _, F__law_due := fun_mk (st := s__law_due) l__law_due c__law_due k__law_due, b__law_due := (fun_mk (st := s__law_due) l__law_due c__law_due k__law_due).binds (ps := ["row"]) (fun _ _ _ _ _ _ us hl => match us, hl with | [_], _ => rfl), g__law_due := PySem.W.mg_of X G a__law_due,
     a_law := f_law, d_law := _, F_law := fun_mk (st := s_law) l_law c_law k_law, b_law := (fun_mk (st := s_law) l_law c_law k_law).binds (ps := ["script"]) (fun _ _ _ _ _ _ us hl => match us, hl with | [_], _ => rfl), g_law := PySem.W.mg_of X G a_law,
     m_all := PySem.W.mg_none_of X G z_all,
     m_bool := PySem.W.mg_none_of X G z_bool,
     m_int := PySem.W.mg_none_of X G z_int,
     m_isinstance := PySem.W.mg_none_of X G z_isinstance,
     m_len := PySem.W.mg_none_of X G z_len,
     m_list := PySem.W.mg_none_of X G z_list,
     m_max := PySem.W.mg_none_of X G z_max,
     m_range := PySem.W.mg_none_of X G z_range,
     m_tuple := PySem.W.mg_none_of X G z_tuple,
     m_zip := PySem.W.mg_none_of X G z_zip,
     t_MOST_BOUND := t_MOST_BOUND, g_MOST_BOUND := PySem.W.mg_of X G y_MOST_BOUND,
     t_MOST_COMERS := t_MOST_COMERS, g_MOST_COMERS := PySem.W.mg_of X G y_MOST_COMERS,
     t_MOST_SPOTS := t_MOST_SPOTS, g_MOST_SPOTS := PySem.W.mg_of X G y_MOST_SPOTS }, rfl, rfl⟩
end My
open PySem PySem.W PyProof.Rows
set_option maxHeartbeats 0 in
theorem PySem.Challenge.cw_loopstore_k05_whole_comings_of_walks_holds : PySem.Challenge.rw_loopstore_k05_whole_comings_of_walks.Holds := by
  w_on; o_law; k_head; (case hw => w_witness2)
  k_fill
  refine L2.walk_of (l := PySem.Challenge.rw_loopstore_k05_whole_comings_of_walks) (n := 63) (k := My.lawLevel) (x := "script") (CX := fun _ => L2.CX0) (sp := fun w => My.spLaw _) rfl (by decide) rfl ⟨rfl, by decide, by decide⟩ (fun w h Y => PySem.W.kIn_of Y) ?F (fun _ _ a ns hl _ hS => ⟨a, ns, rfl, hS, hl, fun _ => rfl⟩) (fun _ _ _ _ _ h => h)
  case F =>
    intro w mg fa h KX G hmg
    refine' My.fin_mk KX G hmg (My.all_mk (w := w) KX G ?a_is_integer ?l_is_integer ?c_is_integer ?k_is_integer ?a_is_number ?l_is_number ?c_is_number ?k_is_number ?a_are_integers ?l_are_integers ?c_are_integers ?k_are_integers ?a_check_comers ?l_check_comers ?c_check_comers ?k_check_comers ?a_check_bound ?l_check_bound ?c_check_bound ?k_check_bound ?a_is_spot ?l_is_spot ?c_is_spot ?k_is_spot ?a_is_next ?l_is_next ?c_is_next ?k_is_next ?a_is_walk ?l_is_walk ?c_is_walk ?k_is_walk ?a_comings_for ?l_comings_for ?c_comings_for ?k_comings_for ?a__law_tape ?l__law_tape ?c__law_tape ?k__law_tape ?a__law_pick ?l__law_pick ?c__law_pick ?k__law_pick ?a__law_walk ?l__law_walk ?c__law_walk ?k__law_walk ?a__law_due ?l__law_due ?c__law_due ?k__law_due ?a_law ?l_law ?c_law ?k_law ?z_all ?z_bool ?z_int ?z_isinstance ?z_len ?z_list ?z_max ?z_range ?z_tuple ?z_zip ?y_MOST_BOUND ?y_MOST_COMERS ?y_MOST_SPOTS)
    (case a_is_integer => k_is); (case l_is_integer => k_is); (case c_is_integer => k_is); (case k_is_integer => k_is); (case a_is_number => k_is); (case l_is_number => k_is); (case c_is_number => k_is); (case k_is_number => k_is); (case a_are_integers => k_is); (case l_are_integers => k_is); (case c_are_integers => k_is); (case k_are_integers => k_is); (case a_check_comers => k_is); (case l_check_comers => k_is); (case c_check_comers => k_is); (case k_check_comers => k_is); (case a_check_bound => k_is); (case l_check_bound => k_is); (case c_check_bound => k_is); (case k_check_bound => k_is); (case a_is_spot => k_is); (case l_is_spot => k_is); (case c_is_spot => k_is); (case k_is_spot => k_is); (case a_is_next => k_is); (case l_is_next => k_is); (case c_is_next => k_is); (case k_is_next => k_is); (case a_is_walk => k_is); (case l_is_walk => k_is); (case c_is_walk => k_is); (case k_is_walk => k_is); (case a_comings_for => k_is); (case l_comings_for => k_is); (case c_comings_for => k_is); (case k_comings_for => k_is); (case a__law_tape => k_is); (case l__law_tape => k_is); (case c__law_tape => k_is); (case k__law_tape => k_is); (case a__law_pick => k_is); (case l__law_pick => k_is); (case c__law_pick => k_is); (case k__law_pick => k_is); (case a__law_walk => k_is); (case l__law_walk => k_is); (case c__law_walk => k_is); (case k__law_walk => k_is); (case a__law_due => k_is); (case l__law_due => k_is); (case c__law_due => k_is); (case k__law_due => k_is); (case a_law => k_is); (case l_law => k_is); (case c_law => k_is); (case k_law => k_is); (case z_all => k_is); (case z_bool => k_is); (case z_int => k_is); (case z_isinstance => k_is); (case z_len => k_is); (case z_list => k_is); (case z_max => k_is); (case z_range => k_is); (case z_tuple => k_is); (case z_zip => k_is); (case y_MOST_BOUND => k_is); (case y_MOST_COMERS => k_is); (case y_MOST_SPOTS => k_is)

