import PyProof.Rows.All
import Wide.All
import OpenK.AllK
import Wide.FinOn
import HandS.ForMost
import HandS.Wide
import HandS.IsInst
import HandS.TupMul
import HandS.TupAny
import HandS.SortInts
import HandS.Style
import HandS.Evl
import PySem.Challenge.RW_loopstore_k02_whole_waits_and_lines
set_option Elab.async false
set_option linter.all false
set_option maxRecDepth 100000
set_option maxHeartbeats 4000000
/-! ## rules that the layer lacks -/
namespace RR
open PySem PySem.Spec PyProof.Rows L2 HT
section
variable {prog : Program} {w : World} {A : Around} {E : Value → Shared → Prop} {s : Shared}
/-- a tuple's items gathered -/
theorem collect_tuple {l : Addr} {vs : List Value} {Q : List Value → Shared → Prop} (hl : IsTup s.heap l vs.toArray)
    (h : Q vs { s with heap := (s.heap.push (seqObj "list" #[] 0)).update s.heap.objs.size (Obj.mapSeq (· ++ vs.toArray)) }) (hsz : vs.length ≤ sizeLine) :
    wpAny (model prog w) A (collect (.ref l)) Q E s := by
  obtain ⟨o, ho, hc, n, hd⟩ := id hl
  unfold collect
  refine wpAny_bind (wpAny_runValue (codeAny_builtin entry_proto_collect' ?_))
  show wpAny _ _ (do again (.builtin "list.__iadd__" ⟨[← newList [], .ref l], []⟩)) _ _ s
  refine wpAny_bind (wpAny_newList (wpAny_pure ⟨Code.quiet_builtin _ (by decide +kernel), codeAny_builtin entry_list_iadd' ?_⟩))
  show wpAny _ _ (Builtin.List.listExtendWith (.ref s.heap.objs.size) (.ref l) (.ref s.heap.objs.size)) _ _ { s with heap := s.heap.push (seqObj "list" #[] 0) }
  unfold Builtin.List.listExtendWith
  have ho' : (s.heap.push (seqObj "list" #[] 0)).get? l = some o := Heap.get?_push_of_some _ ho
  refine wpAny_bind (wpAny_typeOf (T := "tuple") ⟨o, ho', hc⟩ ?_)
  have ht : (Value.type "tuple" == Value.type "tuple") = true := by rfl
  rw [if_pos (by rw [ht]; simp)]
  refine wpAny_bind (listItems_at ho' hd ?_)
  refine wpAny_bind (listItems_at (xs := #[]) (n := 0) (Heap.get?_push_size _ rfl) rfl ?_)
  rw [if_neg (by simp)]
  refine wpAny_bind (listUpdate_at (xs := #[]) (n := 0) (Heap.get?_push_size _ rfl) rfl ?_ (Nat.zero_le _) (by show (#[] ++ vs.toArray).size ≤ sizeLine + 1; simp only [Array.size_append, List.size_toArray, List.length_nil]; omega))
  refine wpAny_pure ?_
  show wpAny (model prog w) A (do
      let o ← load s.heap.objs.size
      match o.data with
      | .seq xs _ => pure xs.toList
      | _ => unsupported "internal:collect") Q E { s with heap := (s.heap.push (seqObj "list" #[] 0)).update s.heap.objs.size (Obj.mapSeq (· ++ vs.toArray)) }
  refine wpAny_bind (wpAny_load (get?_update_seq (Heap.get?_push_size _ rfl) _) ?_)
  show wpAny _ _ (pure ((#[] : Array Value) ++ vs.toArray).toList) Q E _
  rw [show ((#[] : Array Value) ++ vs.toArray).toList = vs by simp]
  exact wpAny_pure h
theorem sorted_ordT {l : Addr} {vs : List Value} {ltv : Value → Value → Bool} {Q : Value → Shared → Prop} (O : SrtO.Swo ltv) (hl : IsTup s.heap l vs.toArray) (hz : vs.length ≤ sizeLine)
    (hS : 2 ≤ vs.length → ∀ (h₁ : Heap) (a : Addr), h₁.get? a = some (seqObj "list" vs.toArray 0) → (∀ b o, s.heap.get? b = some o → b ≠ a ∧ h₁.get? b = some o) → SrtO.SortableO prog w A.in1.in1 { s with heap := h₁ } a vs ltv)
    (h : ∀ out : List Value, SrtO.Srtd ltv out → SrtO.Stb ltv out vs → Q (.ref (s.heap.objs.size + 1)) { s with heap := sortedAll s.heap vs out.toArray }) :
    wpAny (model prog w) A (call (.builtin "sorted") [.ref l]) Q E s := by
  refine Calls.call_function_entry kind_sorted plain_sorted entry_sorted (args_sorted1 _) ?_
  unfold Builtin.«sorted»
  refine wpAny_bind (m := checkCount "sorted" 1 1 _) (wpAny_pure ?_)
  refine wpAny_bind (collect_tuple hl ?_ hz)
  refine wpAny_bind (wpAny_newList ?_ hz)
  have hsz : ((s.heap.push (seqObj "list" #[] 0)).update s.heap.objs.size (Obj.mapSeq (· ++ vs.toArray))).objs.size = s.heap.objs.size + 1 := by
    rw [Heap.size_update, size_push']
  have hoL : (((s.heap.push (seqObj "list" #[] 0)).update s.heap.objs.size (Obj.mapSeq (· ++ vs.toArray))).push (seqObj "list" vs.toArray 0)).get? (s.heap.objs.size + 1) = some (seqObj "list" vs.toArray 0) := by
    rw [← hsz]; exact Heap.get?_push_size _ rfl
  have keep : ∀ b o, s.heap.get? b = some o → b ≠ s.heap.objs.size + 1 ∧ (((s.heap.push (seqObj "list" #[] 0)).update s.heap.objs.size (Obj.mapSeq (· ++ vs.toArray))).push (seqObj "list" vs.toArray 0)).get? b = some o := fun b o q => by
    have hlt : b < s.heap.objs.size := Heap.lt_size q
    refine ⟨Nat.ne_of_lt (Nat.lt_succ_of_lt hlt), Heap.get?_push_of_some _ ?_⟩
    rw [Heap.get?_update_ne _ _ _ _ (Nat.ne_of_lt hlt)]
    exact Heap.get?_push_of_some _ q
  show wpAny _ _ _ _ _ { s with heap := ((s.heap.push (seqObj "list" #[] 0)).update s.heap.objs.size (Obj.mapSeq (· ++ vs.toArray))).push (seqObj "list" vs.toArray 0) }
  rw [hsz]
  refine wpAny_bind (wpAny_holding (wpAny_call_entry slot_list_sort ⟨_, hoL, rfl⟩ entry_list_sort (SrtO.list_sort_ord O hoL hz (fun h2 => hS h2 _ _ hoL keep) fun out hs hb => ⟨_, rfl, ?_⟩) (args_list_sort _)))
  exact wpAny_pure ⟨_, rfl, h out hs hb⟩
end
def rSortedU (K : PySem.W.Frag) : List V → Hp → VK → Prop := fun vs H Q => ∃ (a : Addr) (ns : List Int), vs = [V.ref a] ∧ SqT K H a (ns.map V.int) ∧
  ∀ (ns' : List Int) (p : Addr), ns'.Perm ns → ns'.Pairwise (· ≤ ·) → H p = none → Q (.ref p) (upd H p (.lst (ns'.map V.int)))
section
variable {X : Cx}
/-- sorted(t), t a tuple of ints -/
theorem cr_sortedU : CallR X (.builtin "sorted") (rSortedU X.K) := by
  intro pins s σ H vs us Q I r h
  obtain ⟨a, ns, rfl, hs, q⟩ := h
  obtain ⟨its, rv, hl, hz⟩ := I.tuple hs
  rw [Vals.ref1 r]
  have hi := rv.ints
  refine sorted_ordT SrtO.swo_int hl (by rw [← rv.length]; exact hz) (fun h2 h₁ a' _ _ => SrtO.ints_sortable hi h2) fun out h1 h2 => ?_
  obtain ⟨k1, k2, k3⟩ := SrtO.ints_out hi h1 h2
  obtain ⟨ep, he'⟩ := PyProof.Rows.sortedAll_at s.heap its out.toArray
  have hlen : ((out.map SrtO.iv).map V.int).length ≤ sizeLine := by
    rw [List.length_map, k2.length_eq]
    rw [List.length_map] at hz
    exact hz
  exact ⟨.ref _, upd H (s.heap.objs.size + 1) (.lst ((out.map SrtO.iv).map V.int)), I.laid (t' := s.toks) (fun _ _ => PyProof.Rows.sortedAll_old) (Nat.le_succ _) ⟨hlen, out, ep, vals_of_ints k1, he'⟩, rfl, q _ _ k2 k3 (I.hok.fresh (Nat.le_succ _))⟩
end
/-! ### t[::-1] -/
theorem adj_rev (n : Nat) : Builtin.Slice.sliceAdjust none none (-1) (n : Int) = ((n : Int) - 1, -1) := rfl
theorem pl_rev (n : Nat) : Builtin.Slice.slicePlaces ((n : Int) - 1) (-1) (-1) = n := by
  unfold Builtin.Slice.slicePlaces
  have h1 : ¬ ((-1 : Int) > 0) := by omega
  simp only [h1, if_false]
  split <;> simp <;> omega
theorem pick_rev (xs : List Value) : ((List.range xs.length).filterMap fun (m : Nat) => xs.toArray[(((xs.length : Int) - 1) + (m : Int) * (-1)).toNat]?) = xs.reverse := by
  have key : ∀ m, m ≤ xs.length → ((List.range m).filterMap fun (k : Nat) => xs.toArray[(((xs.length : Int) - 1) + (k : Int) * (-1)).toNat]?) = xs.reverse.take m := by
    intro m
    induction m with
    | zero => intro _; rfl
    | succ m ih =>
      intro hm
      rw [List.range_succ, List.filterMap_append, ih (by omega), List.take_add_one]
      have e : (((xs.length : Int) - 1) + (m : Int) * (-1)).toNat = xs.length - 1 - m := by omega
      have hl : m < xs.reverse.length := by rw [List.length_reverse]; omega
      have e2 : xs.toArray[xs.length - 1 - m]? = some (xs.reverse[m]) := by
        rw [List.getElem?_toArray, List.getElem_reverse, List.getElem?_eq_getElem]
      rw [List.getElem?_eq_getElem hl]
      simp only [List.filterMap_cons, List.filterMap_nil, e, e2, Option.toList_some]
  have := key xs.length (Nat.le_refl _)
  rw [this, List.take_of_length_le (by rw [List.length_reverse]; exact Nat.le_refl _)]
section
variable {prog : Program} {w : World} {A : Around} {E : Value → Shared → Prop} {s : Shared}
theorem sliceApplied_rev {sl : Addr} {vl vu vs : Value} {n : Nat} {Q : Int × Int × Nat → Shared → Prop} (hs : s.heap.IsSliceOf sl vl vu vs) (pl : IsPart vl none) (pu : IsPart vu none) (ps : IsPart vs (some (-1)))
    (h : Q ((n : Int) - 1, -1, n) s) : wpAny (model prog w) A (Builtin.Slice.sliceApplied (.ref sl) (pure (n : Int))) Q E s := by
  obtain ⟨os, hos, hcs, hds⟩ := id hs
  unfold Builtin.Slice.sliceApplied Builtin.Slice.sliceFields
  refine wpAny_bind (wpAny_bind (wpAny_field hos hds (x := vl) rfl (wpAny_bind (wpAny_field hos hds (x := vu) rfl (wpAny_bind (wpAny_field hos hds (x := vs) rfl (wpAny_pure ?_)))))))
  refine wpAny_bind (slicePart_ ps ?_)
  show wpAny _ _ (if ((-1 : Int) == 0) = true then _ else _) _ _ s
  rw [if_neg (by decide)]
  refine wpAny_bind (slicePart_ pl (wpAny_bind (slicePart_ pu (wpAny_bind (wpAny_pure ?_)))))
  show wpAny _ _ (match Builtin.Slice.sliceAdjust none none (-1) (n : Int) with | (lo, hi) => pure (lo, (-1 : Int), Builtin.Slice.slicePlaces lo hi (-1))) _ _ s
  rw [adj_rev n]
  show wpAny _ _ (pure ((n : Int) - 1, (-1 : Int), Builtin.Slice.slicePlaces ((n : Int) - 1) (-1) (-1))) _ _ s
  rw [pl_rev]
  exact wpAny_pure h
theorem getItem_tuple_rev {t sl : Addr} {items : List Value} {vl vu vs : Value} {Q : Value → Shared → Prop} (ht : IsTup s.heap t items.toArray) (hs : s.heap.IsSliceOf sl vl vu vs) (pl : IsPart vl none) (pu : IsPart vu none) (ps : IsPart vs (some (-1)))
    (h : Q (.ref s.heap.objs.size) { s with heap := s.heap.push { cls := .type "tuple", data := .seq items.reverse.toArray } })
    (hsz : items.length ≤ sizeLine) : wpAny (model prog w) A (getItem (.ref t) (.ref sl)) Q E s := by
  have htake : sizeOk (.seq items.reverse.toArray) := by
    show items.reverse.toArray.size ≤ sizeLine
    rw [List.size_toArray, List.length_reverse]
    omega
  obtain ⟨os, hos, hcs, hds⟩ := id hs
  have hTs : s.TypeIs (.ref sl) "slice" := ⟨os, hos, hcs⟩
  unfold getItem
  try with_reducible refine wpAny_holding ?_
  first | refine wpAny_bind (wpAny_pure ?_) | skip
  refine wpAny_bind (wpAny_sequenceKey ht.typeIs (by decide) ?_)
  refine wpAny_bind (wpAny_callSpecial?_slot (name := Str.ofString "__getitem__") ht.typeIs PyProof.Rows.slot_tuple_getitem
    (wpAny_call_entry PyProof.Rows.slot_tuple_getitem ht.typeIs entry_tuple_getitem ?_ (args_tuple_getitem _ _)))
  show wpAny _ _ (Builtin.Tuple.tupleItemsOf (.ref t) >>= _) _ _ s
  refine wpAny_bind (tupleItemsOf_ ht ?_)
  refine wpAny_bind (wpAny_typeOf hTs ?_)
  rw [if_pos (by decide)]
  rw [List.size_toArray]
  refine wpAny_bind (sliceApplied_rev hs pl pu ps ?_)
  have hno : ¬ ((((items.length : Int) - 1) == 0 && (-1 : Int) == 1 && items.length == items.length) = true) := by
    rw [show ((-1 : Int) == 1) = false from rfl, Bool.and_false, Bool.false_and]
    exact Bool.false_ne_true
  show wpAny _ _ (if (((items.length : Int) - 1) == 0 && (-1 : Int) == 1 && items.length == items.length) = true then _ else _) _ _ s
  rw [if_neg hno, pick_rev]
  first
    | exact wpAny_bind (m := Builtin.Tuple.tupleExact _) (wpAny_newObj_type (wpAny_pure ⟨_, rfl, wpAny_pure h⟩) htake)
    | exact wpAny_bind (m := Builtin.Tuple.tupleExact _) (wpAny_newObj_type (wpAny_bind (wpAny_pure (wpAny_pure ⟨_, rfl, wpAny_pure h⟩))) htake)
    | exact wpAny_bind (wpAny_bind (m := Builtin.Tuple.tupleExact _) (wpAny_newObj_type (wpAny_pure (wpAny_pure ⟨_, rfl, wpAny_pure h⟩)) htake))
    | exact wpAny_bind (wpAny_bind (m := Builtin.Tuple.tupleExact _) (wpAny_newObj_type (wpAny_pure ⟨_, rfl, wpAny_pure h⟩) htake))
end
def tRevT (K : PySem.W.Frag) (te : TE) : TE := fun σ H Q => te σ H fun x H1 => ∃ a xs, x = .ref a ∧ SqT K H1 a xs ∧ ∀ p, H1 p = none → Q (.ref p) (upd H1 p (.tup xs.reverse))
section
variable {X : Cx}
theorem pe_revT {e : Expr} {te : TE} {k : Nat} {p1 p2 p3 pos : Pos} (he : PE X e te) : PE X (.Subscript e (.Slice none none (some (.UnaryOp .USub (.Constant (.int 1) k p1) p2)) p3) pos) (tRevT X.K te) := by
  refine ⟨fun pins s σ H Q I h => ?_⟩
  refine Subscript_ (thn (he.run pins s σ H _ I h) fun v s1 ⟨x, H1, I1, r1, q1⟩ => ?_)
  obtain ⟨a, xs, ex, hx, q⟩ := q1
  subst ex
  cases r1
  have hst : PO X (some (.UnaryOp .USub (.Constant (.int 1) k p1) p2)) (tPart (tUn (rU fun i => .int (-i)) (tC (.int 1)))) := po_some (pe_un un_neg pe_int)
  refine wpAny_Slice (thn (po_none.run pins s1 σ H1 (fun o H2 => o = none ∧ H2 = H1) I1 ⟨rfl, rfl⟩) fun vl s2 ⟨l, H2, I2, pl, el, e2⟩ => ?_)
  subst el e2
  refine thn (po_none.run pins s2 σ H2 (fun o H3 => o = none ∧ H3 = H2) I2 ⟨rfl, rfl⟩) fun vu s3 ⟨u, H3, I3, pu, eu, e3⟩ => ?_
  subst eu e3
  refine thn (hst.run pins s3 σ H3 (fun o H4 => o = some (-1) ∧ H4 = H3) I3 ⟨1, rfl, -1, rfl, rfl, rfl⟩) fun vs s4 ⟨o, H4, I4, ps, eo, e4⟩ => ?_
  subst eo e4
  have I5 : Inv X pins σ H4 { s4 with heap := s4.heap.push { cls := .type "slice", data := .fields #[vl, vu, vs] } } := I4.kept (t' := s4.toks) fun b ob q => Heap.get?_push_of_some _ q
  obtain ⟨its, r, ht, hz⟩ := I5.tuple hx
  have hlen := r.length
  show wpAny (model X.prog X.w) X.A (subscriptTail e (.Slice none none (some (.UnaryOp .USub (.Constant (.int 1) k p1) p2)) p3) (.ref a) (.ref s4.heap.objs.size)) (EP X pins σ Q) X.xe { s4 with heap := s4.heap.push { cls := .type "slice", data := .fields #[vl, vu, vs] } }
  refine tail_any (ops := [.ref a, .ref s4.heap.objs.size]) ht.typeIs (PyProof.Rows.slot_tuple_getitem.lookup) ?_ (by with_unfolding_all rfl)
  refine getItem_tuple_rev ht (Heap.IsSliceOf.new _ vl vu vs) pl pu ps ?_ (by rw [← hlen]; exact hz)
  refine ⟨.ref _, _, I5.laid (t' := s4.toks) (o := .tup xs.reverse) (fun b ob q => Heap.get?_push_of_some _ q) (Nat.le_refl _) ?_, rfl, q _ (I5.hok.fresh (Nat.le_refl _))⟩
  exact ⟨by rw [List.length_reverse]; exact hz, _, r.reverse, IsTup.new _ _⟩
end
/-! ### t * k, k from 1 on -/
theorem tuple_mulW1 (l : Addr) (items : Array Value) (n : Nat) (dd : Option Addr) (sl : Array (Option Value)) (u : Tok) :
    Meets (Builtin.«tuple.__mul__» ⟨[.ref l, .int 1 u], []⟩) (fun _ R s => s.heap.get? l = some { cls := .type "tuple", dict := dd, data := .seq items n, slots := sl } ∧ R (.ok (.ret (Value.ref l))) s) :=
  .of_wp fun prog w A R s h => by
    obtain ⟨hp, g, d, tk, os⟩ := s
    obtain ⟨hl, h⟩ := h
    have f1 := AutoSeq1.idx_int
    have c0 : (decide ((1 : Int) < -(2 ^ 63)) || decide ((1 : Int) ≥ 2 ^ 63)) = false := by decide
    have c1 : (items.isEmpty || (1 : Int) == 1) = true := by rw [show ((1 : Int) == 1) = true from rfl, Bool.or_true]
    wp_walk using wpAny_loadPart' hl
    repeat (first
      | (refine wpAny_ite_false (decide_eq_false (by rw [c0]; exact Bool.false_ne_true)) ?_; wp_walk using wpAny_loadPart' hl)
      | (refine wpAny_ite_true (decide_eq_true c1) ?_; wp_walk using wpAny_loadPart' hl))
    exact ⟨_, rfl, h⟩
def rRepA (K : PySem.W.Frag) : R2 := fun x y H Q => ∃ l k xs, x = .ref l ∧ y = .int k ∧ SqT K H l xs ∧ xs ≠ [] ∧ 1 ≤ k ∧ k ≤ 1000 ∧ xs.length ≤ 1000 ∧ (k = 1 → Q (.ref l) H) ∧ (k ≠ 1 → ∀ p, H p = none → Q (.ref p) (upd H p (.tup (List.replicate k.toNat xs).flatten)))
section
variable {X : Cx}
theorem op_repA : OpR X (binaryOp .Mult) (rRepA X.K) := by
  intro pins s σ H x y v u Q I rx ry h
  obtain ⟨l, k, xs, rfl, rfl, hT, hne, h1, h2, hz, q1, q2⟩ := h
  by_cases hk : k = 1
  · subst hk
    cases rx
    obtain ⟨t, rfl⟩ := ry
    obtain ⟨its, r, ⟨⟨cls, dd, data, sl⟩, ho, hc, n, hd⟩, hs⟩ := I.tuple hT
    simp only at hc hd
    subst hc hd
    refine wpAny_binaryOp_repeat_ref (T := "tuple") (U := "int") (by decide) ⟨_, ho, rfl⟩ (fun s' => typeIs_int s' 1 t) noFill_tuple_mul F.fills_int_mul F.slot_int_rmul repeat_tuple F.slot_int_index.lookup
      (call_meets F.slot_int_rmul (typeIs_int s 1 t) F.entry_int_rmul (F.args_int_rmul_2 _ _) (int_rmul_tuple 1 t l its.toArray n dd sl)
        ⟨ho, rfl, ⟨_, ho, rfl⟩, call_meets F.slot_tuple_mul ⟨_, ho, rfl⟩ F.entry_tuple_mul (F.args_tuple_mul_2 _ _) (tuple_mulW1 l its.toArray n dd sl t) ⟨ho, ?_⟩⟩)
    exact ⟨.ref l, H, I, rfl, q1 rfl⟩
  · exact op_repT pins s σ H _ _ v u Q I rx ry ⟨l, k, xs, rfl, rfl, hT, hne, by omega, h2, hz, q2 hk⟩
end
end RR

/-! ## enumerate over a tuple; an empty tuple times k -/
namespace RR
open PySem PySem.Spec PyProof.Rows L2 HT
open Sem (wp)
open AutoSeq1 (wpAny_loadPart')
section
variable {prog : Program} {w : World} {A : Around} {E : Value → Shared → Prop} {s : Shared}
theorem next_tuple_item {it t : Addr} {i : Nat} {items} {x : Value} {Q : Value → Shared → Prop} (hit : s.heap.IsTupleIter it t i)
    (ht : s.heap.IsTuple t items) (hx : items[i]? = some x)
    (hQ : ∀ h', h'.IsTupleIter it t (i + 1) → Heap.SameBut it s.heap h' → Q x { s with heap := h' }) :
    wpAny (model prog w) A (Builtin.SmallTypes.nextOf (.ref it)) Q E s := by
  obtain ⟨o, ho, hc, hd⟩ := id hit
  obtain ⟨ol, hol, _, nl, hdl⟩ := ht
  unfold Builtin.SmallTypes.nextOf
  refine wpAny_bind (wpAny_callSpecial?_slot (name := Str.ofString "__next__") hit.typeIs F.slot_tuple_iterator_next
    (wpAny_call_entry F.slot_tuple_iterator_next hit.typeIs F.entry_tuple_iterator_next ?_ (F.args_tuple_iterator_next_1 _)))
  show wpAny _ _ (field (.ref it) 0 >>= _) _ _ s
  refine wpAny_bind (wpAny_field ho hd (x := .ref t) rfl ?_)
  show wpAny _ _ (if (Value.ref t == Value.none) = true then _ else _) _ _ s
  rw [if_neg (show ¬ ((Value.ref t == Value.none) = true) from Bool.false_ne_true)]
  show wpAny _ _ (field (.ref it) 1 >>= _) _ _ s
  refine wpAny_bind (wpAny_field ho hd (x := .int i 0) rfl ?_)
  show wpAny _ _ (seqItems? (.ref t) >>= _) _ _ s
  refine wpAny_bind (wpAny_seqItems hol hdl ?_)
  simp only [Int.toNat_natCast, hx]
  refine wpAny_bind (wpAny_setField ho hd (by simp) (wpAny_pure ⟨x, rfl, wpAny_pure (hQ _ ?_ (Heap.SameBut.update ..))⟩))
  exact ⟨_, Heap.get?_update_self _ ho (Obj.isFreed_of_fields (Obj.data_mapFields hd _)), (Obj.cls_mapFields ..).trans hc, by
    rw [Obj.data_mapFields hd]; simp [rawInt]⟩
theorem next_tuple_end {it t : Addr} {i : Nat} {items} {Q : Value → Shared → Prop} (hh : A.handled = none)
    (hit : s.heap.IsTupleIter it t i) (ht : s.heap.IsTuple t items) (hx : items[i]? = none)
    (hE : ∀ h' e, Heap.ExtBut it s.heap h' → (∃ o, h'.get? e = some o ∧ o.cls = .type "StopIteration") → E (.ref e) { s with heap := h' }) :
    wpAny (model prog w) A (Builtin.SmallTypes.nextOf (.ref it)) Q E s := by
  obtain ⟨o, ho, hc, hd⟩ := id hit
  obtain ⟨ol, hol, _, nl, hdl⟩ := ht
  unfold Builtin.SmallTypes.nextOf
  refine wpAny_bind (wpAny_callSpecial?_slot (name := Str.ofString "__next__") hit.typeIs F.slot_tuple_iterator_next
    (wpAny_call_entry F.slot_tuple_iterator_next hit.typeIs F.entry_tuple_iterator_next ?_ (F.args_tuple_iterator_next_1 _)))
  show wpAny _ _ (field (.ref it) 0 >>= _) _ _ s
  refine wpAny_bind (wpAny_field ho hd (x := .ref t) rfl ?_)
  show wpAny _ _ (if (Value.ref t == Value.none) = true then _ else _) _ _ s
  rw [if_neg (show ¬ ((Value.ref t == Value.none) = true) from Bool.false_ne_true)]
  show wpAny _ _ (field (.ref it) 1 >>= _) _ _ s
  refine wpAny_bind (wpAny_field ho hd (x := .int i 0) rfl ?_)
  show wpAny _ _ (seqItems? (.ref t) >>= _) _ _ s
  refine wpAny_bind (wpAny_seqItems hol hdl ?_)
  simp only [Int.toNat_natCast, hx]
  refine wpAny_bind (wpAny_rule (wpAny_bind (wpAny_setField ho hd (by simp) ?_)))
  show wpAny _ _ (newExc (.type "StopIteration") [] >>= _) _ _ _
  refine wpAny_bind ?_
  simp only [newExc, newTuple]
  refine wpAny_bind (wpAny_newObj_type ?_ (by size_fits))
  refine wpAny_bind (m := firstArgMember _ _) (wpAny_of_eq (a := Value.none) (by first | rfl | (simp only [firstArgMember]; rfl)) ?_)
  refine wpAny_newObj_type ?_ (by size_fits)
  simp only [raiseNew]
  refine wpAny_bind (wpAny_handled ?_)
  first | rw [show A.in1.handled = none from hh] | rw [hh]
  refine wpAny_bind (wpAny_pure (wpAny_throw ?_))
  exact hE _ _ (((Heap.SameBut.update ..).extBut.push _).push _) ⟨_, Heap.get?_push_size _ rfl, rfl⟩
end
theorem tup_at {h h' : Heap} {a : Addr} {items} (x : h.IsTuple a items) (e : ∀ o, h.get? a = some o → h'.get? a = some o) : h'.IsTuple a items := let ⟨o, ho, r⟩ := x; ⟨o, e _ ho, r⟩
theorem draws_tuple {prog : Program} {w : World} {A : Around} (hh : A.handled = none) (it l : Addr) (hne : l ≠ it) (items : Array Value) :
    Draws prog w A it [it, l] items.size (fun i v => items[i]? = some v) (fun i h => h.IsTupleIter it l i ∧ h.IsTuple l items) where
  live := fun _ _ st => let ⟨o, ho, _⟩ := st.1; ⟨o, ho⟩
  frame := fun _ _ _ st hk => ⟨st.1.at fun o e => hk it (by simp) o e, tup_at st.2 fun o e => hk l (by simp) o e⟩
  item := fun i s Q E hi st hQ => by
    refine next_tuple_item st.1 st.2 (x := items[i]) (by simp [hi]) fun h' hit' hs' => ?_
    exact hQ _ h' s.toks (by simp [hi]) ⟨hit', st.2.extBut hs'.extBut hne⟩ hs'
  done := fun s Q E st hE => next_tuple_end hh st.1 st.2 (by simp) hE
theorem enumerate_newT (l : Addr) (items : Array Value) (n : Nat) (dct : Option Addr) (sl : Array (Option Value)) :
    Meets (Builtin.«enumerate.__new__» ⟨[.type "enumerate", .ref l], []⟩) (fun _ R s => s.heap.get? l = some { cls := .type "tuple", dict := dct, data := .seq items n, slots := sl } ∧
      R (.ok (.ret (.ref (s.heap.push { cls := .type "tuple_iterator", data := .fields #[.ref l, .int 0 0] }).objs.size)))
        { s with heap := (s.heap.push { cls := .type "tuple_iterator", data := .fields #[.ref l, .int 0 0] }).push { cls := .type "enumerate", data := .fields #[.none, .bool false, .ref s.heap.objs.size, rawInt 0, .none, .none] } }) :=
  .of_wp fun prog w A R s h => by
    obtain ⟨hp, g, d, tk, os⟩ := s; obtain ⟨hl, h⟩ := h
    have hsub := sub_enumerate
    have hL : Heap.IsTuple (Shared.heap ⟨hp, g, d, tk, os⟩) l items := ⟨_, hl, rfl, n, rfl⟩
    wp_walk using wpAny_loadPart' hl
    refine wpAny_stack_any fun st => wpAny_pure ?_
    split
    · rename_i c _ _ _ _ _
      cases (c == Value.type "enumerate")
      · wp_walk using wpAny_loadPart' hl, wpAny_pyIter_tuple hL
        exact ⟨_, rfl, h⟩
      · wp_walk using wpAny_loadPart' hl, wpAny_pyIter_tuple hL
        exact ⟨_, rfl, h⟩
    · wp_walk using wpAny_loadPart' hl, wpAny_pyIter_tuple hL
      exact ⟨_, rfl, h⟩
section
variable {prog : Program} {w : World} {A : Around} {E : Value → Shared → Prop} {s : Shared}
theorem call_enumerate_tuple {l : Addr} {items : Array Value} {Q : Value → Shared → Prop} (hL : s.heap.IsTuple l items)
    (h : ∀ h', IsEnum h' (s.heap.objs.size + 1) s.heap.objs.size 0 .none → h'.IsTupleIter s.heap.objs.size l 0 → h'.objs.size = s.heap.objs.size + 2 →
      (∀ b o, s.heap.get? b = some o → h'.get? b = some o) → Q (.ref (s.heap.objs.size + 1)) { s with heap := h' }) :
    wpAny (model prog w) A (call (.type "enumerate") [.ref l]) Q E s := by
  obtain ⟨⟨c, dct, dt, sl⟩, hl, hc, n, hd⟩ := hL
  replace hc : c = .type "tuple" := hc
  replace hd : dt = .seq items n := hd
  subst hc hd
  refine callType_new F.called_enumerate (by decide) (F.typeCall_enumerate_1 _) (F.newCall_enumerate_1 _) (fun obj => F.args_object_init_2 obj _) F.entry_enumerate_new
    (enumerate_newT l items n dct sl) ⟨hl, ?_⟩
  have hz : (s.heap.push { cls := .type "tuple_iterator", data := .fields #[.ref l, .int 0 0] }).objs.size = s.heap.objs.size + 1 := Heap.size_push ..
  show _ ∧ _
  rw [hz]
  have he : IsEnum ((s.heap.push { cls := .type "tuple_iterator", data := .fields #[.ref l, .int 0 0] }).push
      { cls := .type "enumerate", data := .fields #[.none, .bool false, .ref s.heap.objs.size, rawInt 0, .none, .none] }) (s.heap.objs.size + 1) s.heap.objs.size 0 .none := by
    have := Heap.get?_push_size (s.heap.push { cls := .type "tuple_iterator", data := .fields #[.ref l, .int 0 0] })
      (o := { cls := .type "enumerate", data := .fields #[.none, .bool false, .ref s.heap.objs.size, rawInt 0, .none, .none] }) rfl
    rw [hz] at this; exact this
  refine ⟨⟨_, he, rfl⟩, h _ he ⟨_, Heap.get?_push_of_some _ (Heap.get?_push_size _ rfl), rfl, rfl⟩ (by rw [Heap.size_push, hz]) fun b o x => Heap.get?_push_of_some _ (Heap.get?_push_of_some _ x)⟩
end
/-- the tuple at a, each item in a new pair -/
def IteT (K : PySem.W.Frag) (a : Addr) : It :=
  ⟨fun i H => ∃ (xs : List V) (x : V), SqT K H a xs ∧ xs[i]? = some x, fun i H v H' => ∃ T x, v = .ref T ∧ H T = none ∧ H' = upd H T (.tup [.int (i : Nat), x]) ∧ ∀ xs, SqT K H a xs → xs[i]? = some x, fun i H => ∃ xs : List V, SqT K H a xs ∧ xs.length ≤ i⟩
theorem turn_enumT {P : Program} {w : World} {K : PySem.W.Frag} {elts : List Expr} {kk : Nat} {tpos : Pos} (a e it : Addr) :
    Turn P w K (.Tuple elts kk tpos) (IteT K a) [e, it] e (fun i h => (∃ old, IsEnum h e it ((i : Nat) : Int) old) ∧ h.IsTupleIter it a i ∧ e ≠ it ∧ a ≠ it ∧ a ≠ e) where
  mem := by simp
  obj := fun i h st b hb => by
    obtain ⟨⟨old, he⟩, ⟨o, ho, hc, hd⟩, _⟩ := st
    have e' : b = e ∨ b = it := by simpa using hb
    rcases e' with z | z
    · rw [z]; exact ⟨_, he, fun v q => nomatch q⟩
    · rw [z]; exact ⟨o, ho, fun v q => by rw [hd] at q; cases q⟩
  keep := fun i h h' st k => let ⟨⟨old, he⟩, hi, hne⟩ := st; ⟨⟨old, k e (by simp) _ he⟩, hi.at fun o q => k it (by simp) o q, hne⟩
  item := by
    intro X hP hw hK hc i pins s σ H E I hf st hg
    subst hP hw hK
    obtain ⟨⟨old, he⟩, hit, hne, hai, hae⟩ := st
    obtain ⟨xs, x, hq, hx⟩ := hg
    obtain ⟨its, rv, p, hz⟩ := I.tuple hq
    obtain ⟨u, hu, ru⟩ := rv.get hx
    have hel : e < s.heap.objs.size := Heap.lt_size he
    have hil : it < s.heap.objs.size := by obtain ⟨_, q, _⟩ := hit; exact Heap.lt_size q
    have hlt : i < its.toArray.size := by
      have := (List.getElem?_eq_some_iff.mp hu).1
      simpa using this
    refine wpAny_pyNext_enum_itemD (draws_tuple (prog := X.prog) (w := X.w) (A := X.A.in1) (show X.A.in1.handled = none from I.ok.hd hc) it a hai its.toArray) he ⟨hit, (show s.heap.IsTuple a its.toArray from p)⟩ hlt hne (by simp [hne, Ne.symm hae]) fun y h' tk hy ho hst' hT hsz hk => ?_
    have hyu : y = u := by
      have h2 : its.toArray[i]? = some u := by simpa using hu
      exact Option.some.inj (hy.symm.trans h2)
    subst hyu
    refine ⟨_, rfl, wpAny_letOwnedTupleGo_enum (s := { s with heap := h', toks := tk + 1 }) ho fun h'' he' sb => ?_⟩
    have hT2 : h''.get? s.heap.objs.size = some { cls := .type "tuple", data := .seq #[.int i tk, y] } := (sb.2 _ (Nat.ne_of_gt hel)).trans hT
    have new : ObjOk X.prog X.w (upd H s.heap.objs.size (.tup [.int (i : Nat), x])) h'' s.heap.objs.size (.tup [.int (i : Nat), x]) :=
      ⟨by show 2 ≤ sizeLine; decide, [.int i tk, y], .cons ⟨_, rfl⟩ (.cons ru .nil), ⟨_, hT2, rfl, _, rfl⟩⟩
    have I1 : Inv X pins σ (upd H s.heap.objs.size (.tup [.int (i : Nat), x])) { s with heap := h'', toks := tk + 1 } :=
      I.turnedNew (ch := [e, it]) (fun b ob hb q => (sb.2 b (fun z => hb (by simp [z]))).trans (hk b ob (fun z => hb (by simp [z])) (fun z => hb (by simp [z])) q)) hf (Nat.le_refl _) new
    refine ⟨.ref s.heap.objs.size, _, I1, rfl, ⟨_, x, rfl, I.hok.fresh (Nat.le_refl _), rfl, fun ys hy => by rw [I.tuple_inj hy hq]; exact hx⟩, ⟨⟨y, ?_⟩, hst'.1.at fun o q => (sb.2 it (Ne.symm hne)).trans q, hne, hai, hae⟩, fun b hb => ?_⟩
    · have e1 : ((i + 1 : Nat) : Int) = (i : Int) + 1 := by omega
      rw [e1]; exact he'
    · have hb' : b < s.heap.objs.size := by
        have e' : b = e ∨ b = it := by simpa using hb
        rcases e' with z | z
        · rw [z]; exact hel
        · rw [z]; exact hil
      rw [upd_ne (Nat.ne_of_lt hb')]
      exact (hf b hb).1
  done := by
    intro X hP hw hK hc i pins s σ H E I hf st hg
    subst hP hw hK
    obtain ⟨⟨old, he⟩, hit, hne, hai, hae⟩ := st
    obtain ⟨xs, hq, hx⟩ := hg
    obtain ⟨its, rv, p, hz⟩ := I.tuple hq
    obtain ⟨f0, f1, f2, f3, f4, f5⟩ := hf it (by simp)
    have hl := rv.length
    have hT : s.TypeIs (.ref e) "enumerate" := ⟨_, he, rfl⟩
    unfold pyNext
    refine wpAny_bind (wpAny_attempt (wpAny_callSpecial?_slot (name := Str.ofString "__next__") hT F.slot_enumerate_next
      (wpAny_call_entry F.slot_enumerate_next hT F.entry_enumerate_next ?_ (F.args_enumerate_next_1 _))))
    show wpAny _ _ (field (.ref e) 2 >>= _) _ _ _
    refine wpAny_bind (wpAny_field he rfl (x := .ref it) rfl ?_)
    refine wpAny_bind (next_tuple_end (I.ok.hd hc) hit (show s.heap.IsTuple a its.toArray from p) (by simp; omega) fun h' x eb hx' => ?_)
    obtain ⟨o, ho, hc'⟩ := hx'
    refine wpAny_bind (wpAny_isInstance (T := "StopIteration") (b := true) ⟨o, ho, hc'⟩ isSubtype_stop ?_)
    exact wpAny_pure ⟨rfl, I.turned (t' := s.toks) (fun b o hb q => eb b o hb q) f0 f1 f3 f4 f5⟩
  self := fun A i s Q E st h => let ⟨⟨_, he⟩, _⟩ := st; wpAny_pyIter_enum he h
def iEnumT (K : PySem.W.Frag) (ta : TA) : TI := fun σ H R => ta σ H fun vs H1 => ∃ a xs, vs = [.ref a] ∧ SqT K H1 a xs ∧ R (IteT K a) H1
theorem pi_enumT {X : Cx} {e : Expr} {ta : TA} {p pos tpos : Pos} {elts : List Expr} {kk : Nat} (hg : Gl X "enumerate") (hm : X.mg "enumerate" = none) (ha : PA X [e] ta) (hs : starEach [e] X.env = [(false, eval e X.env)] := by rfl) :
    PI X (.Tuple elts kk tpos) (.Call (.Name "enumerate" p) [e] [] pos) (iEnumT X.K ta) := by
  refine ⟨fun pins s σ H R I h => ?_⟩
  refine Call_ (ld_blt I hg hm boot_enumerate (PyProof.Rows.callWith_type1 (thn (ha.run pos pins s σ H _ I h) fun us s1 ⟨vs, H1, I1, r1, q1⟩ => ?_) hs rfl))
  obtain ⟨a, xs, ex, hq, q⟩ := q1
  subst ex
  cases r1 with
  | cons r rr =>
    cases rr
    cases r
    obtain ⟨its, rv, p', hz⟩ := I1.tuple hq
    have hp : s1.heap.IsTuple a its.toArray := p'
    have hal : a < s1.heap.objs.size := by obtain ⟨_, q, _⟩ := hp; exact Heap.lt_size q
    refine call_enumerate_tuple hp fun h' he hit hsz hk => wpAny_pyIter_enum he ?_
    have I2 : Inv X pins σ H1 { s1 with heap := h' } := I1.kept (t' := s1.toks) hk
    refine ⟨s1.heap.objs.size + 1, [s1.heap.objs.size + 1, s1.heap.objs.size], _, _, H1, rfl, I2, turn_enumT a (s1.heap.objs.size + 1) s1.heap.objs.size, ⟨⟨.none, he⟩, hit, Nat.succ_ne_self _, Nat.ne_of_lt hal, Nat.ne_of_lt (Nat.lt_succ_of_lt hal)⟩, fun b hb => ?_, q⟩
    have e' : b = s1.heap.objs.size + 1 ∨ b = s1.heap.objs.size := by simpa using hb
    have hle : s1.heap.objs.size ≤ b := by
      rcases e' with z | z
      · rw [z]; exact Nat.le_add_right _ _
      · rw [z]; exact Nat.le_refl _
    exact I1.fpOk hle (I1.hok.fresh hle)
theorem for_enumT {K : PySem.W.Frag} {a : Addr} {xs : List V} {g : TG} {tb : TS} {D : Ends} {σ : L2.St} {H : Hp} (Pv : Nat → L2.St → Hp → Prop) (h0 : Pv 0 σ H) (hl : ∀ i σ H, i ≤ xs.length → Pv i σ H → SqT K H a xs)
    (hs : ∀ i x T σ H, xs[i]? = some x → Pv i σ H → H T = none → g (.ref T) σ (upd H T (.tup [.int (i : Nat), x])) fun σ2 H2 => tb { D with nx := Pv (i + 1), ct := Pv (i + 1), bk := D.nx } σ2 H2) (hd : ∀ σ H, Pv xs.length σ H → D.nx σ H) :
    ∃ W : Nat → Nat → L2.St → Hp → Prop, (∃ m, W 0 m σ H) ∧ ∀ i m σ H, W i m σ H →
      ((IteT K a).stop i H ∧ D.nx σ H) ∨ ((IteT K a).go i H ∧ ∃ N : L2.St → Hp → Prop, (∀ σ' H', N σ' H' → ∃ m', m' < m ∧ W (i + 1) m' σ' H') ∧ ∀ x H', (IteT K a).yld i H x H' → g x σ H' fun σ2 H2 => tb { D with nx := N, ct := N, bk := D.nx } σ2 H2) := by
  refine ⟨fun i m σ H => m = xs.length - i ∧ i ≤ xs.length ∧ Pv i σ H, ⟨xs.length, by simp, Nat.zero_le _, h0⟩, ?_⟩
  rintro i m σ H ⟨rfl, hi, p⟩
  have hL := hl i σ H hi p
  by_cases h : i < xs.length
  · refine .inr ⟨⟨xs, xs[i], hL, List.getElem?_eq_getElem h⟩, Pv (i + 1), fun σ' H' n => ⟨xs.length - (i + 1), by omega, rfl, by omega, n⟩, ?_⟩
    rintro v H' ⟨T, x, rfl, nT, rfl, hx⟩
    exact hs i x T σ H (hx xs hL) p nT
  · have e : i = xs.length := by omega
    subst e
    exact .inl ⟨⟨xs, hL, Nat.le_refl _⟩, hd σ H p⟩
theorem for_enumL {K : PySem.W.Frag} {a : Addr} {xs : List V} {g : TG} {tb : TS} {D : Ends} {σ : L2.St} {H : Hp} (Pv : Nat → L2.St → Hp → Prop) (h0 : Pv 0 σ H) (hl : ∀ i σ H, i ≤ xs.length → Pv i σ H → SqL K H a xs)
    (hs : ∀ i x T σ H, xs[i]? = some x → Pv i σ H → H T = none → g (.ref T) σ (upd H T (.tup [.int (i : Nat), x])) fun σ2 H2 => tb { D with nx := Pv (i + 1), ct := Pv (i + 1), bk := D.nx } σ2 H2) (hd : ∀ σ H, Pv xs.length σ H → D.nx σ H) :
    ∃ W : Nat → Nat → L2.St → Hp → Prop, (∃ m, W 0 m σ H) ∧ ∀ i m σ H, W i m σ H →
      ((Ite K a).stop i H ∧ D.nx σ H) ∨ ((Ite K a).go i H ∧ ∃ N : L2.St → Hp → Prop, (∀ σ' H', N σ' H' → ∃ m', m' < m ∧ W (i + 1) m' σ' H') ∧ ∀ x H', (Ite K a).yld i H x H' → g x σ H' fun σ2 H2 => tb { D with nx := N, ct := N, bk := D.nx } σ2 H2) := by
  refine ⟨fun i m σ H => m = xs.length - i ∧ i ≤ xs.length ∧ Pv i σ H, ⟨xs.length, by simp, Nat.zero_le _, h0⟩, ?_⟩
  rintro i m σ H ⟨rfl, hi, p⟩
  have hL := hl i σ H hi p
  by_cases h : i < xs.length
  · refine .inr ⟨⟨xs, xs[i], hL, List.getElem?_eq_getElem h⟩, Pv (i + 1), fun σ' H' n => ⟨xs.length - (i + 1), by omega, rfl, by omega, n⟩, ?_⟩
    rintro v H' ⟨T, x, rfl, nT, rfl, hx⟩
    exact hs i x T σ H (hx xs hL) p nT
  · have e : i = xs.length := by omega
    subst e
    exact .inl ⟨⟨xs, hL, Nat.le_refl _⟩, hd σ H p⟩
/-! ### () * k -/
theorem tuple_mul0 (l : Addr) (n : Nat) (dd : Option Addr) (sl : Array (Option Value)) (x : Int) (u : Tok) (c0 : (decide (x < -(2 ^ 63)) || decide (x ≥ 2 ^ 63)) = false) :
    Meets (Builtin.«tuple.__mul__» ⟨[.ref l, .int x u], []⟩) (fun _ R s => s.heap.get? l = some { cls := .type "tuple", dict := dd, data := .seq #[] n, slots := sl } ∧ R (.ok (.ret (Value.ref l))) s) :=
  .of_wp fun prog w A R s h => by
    obtain ⟨hp, g, d, tk, os⟩ := s
    obtain ⟨hl, h⟩ := h
    have f1 := AutoSeq1.idx_int
    have c1 : ((#[] : Array Value).isEmpty || x == 1) = true := rfl
    wp_walk using wpAny_loadPart' hl
    repeat (first
      | (refine wpAny_ite_false (decide_eq_false (by rw [c0]; exact Bool.false_ne_true)) ?_; wp_walk using wpAny_loadPart' hl)
      | (refine wpAny_ite_true (decide_eq_true c1) ?_; wp_walk using wpAny_loadPart' hl))
    exact ⟨_, rfl, h⟩
def rRepZ (K : PySem.W.Frag) : R2 := fun x y H Q => ∃ l k xs, x = .ref l ∧ y = .int k ∧ SqT K H l xs ∧ 1 ≤ k ∧ k ≤ 1000 ∧ xs.length ≤ 1000 ∧ ∀ p H', (∀ b o, H b = some o → H' b = some o) → SqT K H' p (List.replicate k.toNat xs).flatten → Q (.ref p) H'
theorem flat_nil {α : Type} (k : Nat) : (List.replicate k ([] : List α)).flatten = [] := by
  induction k with
  | zero => rfl
  | succ k ih => rw [List.replicate_succ, List.flatten_cons, ih]; rfl
theorem op_repZ {X : Cx} : OpR X (binaryOp .Mult) (rRepZ X.K) := by
  intro pins s σ H x y v u Q I rx ry h
  obtain ⟨l, k, xs, rfl, rfl, hT, h1, h2, hz, q⟩ := h
  by_cases hne : xs = []
  · subst hne
    cases rx
    obtain ⟨t, rfl⟩ := ry
    obtain ⟨its, r, ⟨⟨cls, dd, data, sl⟩, ho, hc, n, hd⟩, hs⟩ := I.tuple hT
    simp only at hc hd
    subst hc hd
    cases r
    have c0 : (decide (k < -(2 ^ 63)) || decide (k ≥ 2 ^ 63)) = false := by
      rw [decide_eq_false (by omega), decide_eq_false (by omega)]
      rfl
    refine wpAny_binaryOp_repeat_ref (T := "tuple") (U := "int") (by decide) ⟨_, ho, rfl⟩ (fun s' => typeIs_int s' k t) noFill_tuple_mul F.fills_int_mul F.slot_int_rmul repeat_tuple F.slot_int_index.lookup
      (call_meets F.slot_int_rmul (typeIs_int s k t) F.entry_int_rmul (F.args_int_rmul_2 _ _) (int_rmul_tuple k t l #[] n dd sl)
        ⟨ho, rfl, ⟨_, ho, rfl⟩, call_meets F.slot_tuple_mul ⟨_, ho, rfl⟩ F.entry_tuple_mul (F.args_tuple_mul_2 _ _) (tuple_mul0 l n dd sl k t c0) ⟨ho, ?_⟩⟩)
    exact ⟨.ref l, H, I, rfl, q l H (fun _ _ h => h) (by rw [flat_nil]; exact hT)⟩
  · refine op_repA pins s σ H _ _ v u Q I rx ry ⟨l, k, xs, rfl, rfl, hT, hne, h1, h2, hz, fun e => ?_, fun e p np => ?_⟩
    · refine q l H (fun _ _ h => h) ?_
      subst e
      show SqT X.K H l ([xs]).flatten
      simpa using hT
    · refine q p _ (fun b o e => by rw [upd_ne (ne_of_none e np)]; exact e) (SqT.of upd_same)
end RR

/-! ### the mathematics of the line -/
namespace Ln
/-- tick, turn, wait -/
abbrev Let := Int × Int × Option Int
def step (b τ u : Int) (s : List Let × Int) : List Let × Int := if s.2 > b then (s.1 ++ [(τ, u, none)], s.2) else (s.1 ++ [(τ, u, some s.2)], s.2 + 1)
def turns (b τ : Int) : Nat → List Let × Int → List Let × Int
  | 0, s => s
  | k + 1, s => step b τ (1 + (k : Int)) (turns b τ k s)
def close (c : Int) : Int := if c > 0 then c - 1 else c
def pre (b : Int) (cs : List Int) : Nat → List Let × Int
  | 0 => ([], 0)
  | i + 1 => ((turns b (i : Int) (cs.getD i 0).toNat (pre b cs i)).1, close (turns b (i : Int) (cs.getD i 0).toNat (pre b cs i)).2)
def letts (b : Int) (cs : List Int) : List Let := (pre b cs cs.length).1
def behind (b : Int) (cs : List Int) : Nat → List Int
  | 0 => []
  | i + 1 => behind b cs i ++ [(pre b cs (i + 1)).2]
theorem step_len (b τ u : Int) (s : List Let × Int) : (step b τ u s).1.length = s.1.length + 1 := by
  unfold step
  split <;> simp
theorem turns_len (b τ : Int) : ∀ (k : Nat) (s : List Let × Int), (turns b τ k s).1.length = s.1.length + k
  | 0, _ => rfl
  | k + 1, s => by
    unfold turns
    rw [step_len, turns_len b τ k s, Nat.add_assoc]
theorem turns_rng {b τ : Int} : ∀ (k : Nat) (s : List Let × Int), 0 ≤ s.2 → s.2 ≤ b + 1 → 0 ≤ (turns b τ k s).2 ∧ (turns b τ k s).2 ≤ b + 1
  | 0, s, h0, h1 => ⟨h0, h1⟩
  | k + 1, s, h0, h1 => by
    have ih := turns_rng (τ := τ) k s h0 h1
    unfold turns step
    split
    · exact ih
    · show 0 ≤ (turns b τ k s).2 + 1 ∧ (turns b τ k s).2 + 1 ≤ b + 1
      omega
theorem close_rng {b c : Int} (hb : 0 ≤ b) (h0 : 0 ≤ c) (h1 : c ≤ b + 1) : 0 ≤ close c ∧ close c ≤ b := by
  unfold close
  split <;> omega
theorem pre_rng {b : Int} (hb : 0 ≤ b) (cs : List Int) : ∀ i, 0 ≤ (pre b cs i).2 ∧ (pre b cs i).2 ≤ b
  | 0 => ⟨Int.le_refl _, hb⟩
  | i + 1 => by
    have ih := pre_rng hb cs i
    have t := turns_rng (b := b) (τ := (i : Int)) (cs.getD i 0).toNat (pre b cs i) ih.1 (by omega)
    unfold pre
    exact close_rng hb t.1 t.2
theorem pre_len {b : Int} {cs : List Int} (hc : ∀ c ∈ cs, c ≤ 4) : ∀ i, (pre b cs i).1.length ≤ 4 * i
  | 0 => Nat.le_refl _
  | i + 1 => by
    have ih := pre_len (b := b) hc i
    unfold pre
    rw [turns_len]
    have : cs.getD i 0 ≤ 4 := by
      rw [List.getD_eq_getElem?_getD]
      cases h : cs[i]? with
      | none => decide
      | some c => exact hc c (List.mem_of_getElem? h)
    omega
theorem behind_len (b : Int) (cs : List Int) : ∀ i, (behind b cs i).length = i
  | 0 => rfl
  | i + 1 => by
    unfold behind
    rw [List.length_append, behind_len b cs i]
    rfl
theorem getD_of {cs : List Int} {i : Nat} {c : Int} (h : cs[i]? = some c) : cs.getD i 0 = c := by
  rw [List.getD_eq_getElem?_getD, h]
  rfl
/-! pairs of who goes out when -/
def one (l : Let) (n : Int) : List (Int × Int) := match l.2.2 with
  | none => []
  | some w => [(l.1 + w, n)]
def outsFrom : Int → List Let → List (Int × Int)
  | _, [] => []
  | n, l :: r => one l n ++ outsFrom (n + 1) r
theorem outs_snoc : ∀ (L : List Let) (n : Int) (l : Let), outsFrom n (L ++ [l]) = outsFrom n L ++ one l (n + (L.length : Int))
  | [], n, l => by
    show one l n ++ [] = [] ++ one l (n + ((0 : Nat) : Int))
    rw [List.append_nil, List.nil_append]
    congr 1
    omega
  | x :: L, n, l => by
    show one x n ++ outsFrom (n + 1) (L ++ [l]) = (one x n ++ outsFrom (n + 1) L) ++ one l _
    rw [outs_snoc L (n + 1) l, List.append_assoc]
    congr 3
    rw [List.length_cons]
    omega
theorem one_len (l : Let) (n : Int) : (one l n).length ≤ 1 := by
  unfold one
  split <;> simp
theorem outs_len : ∀ (L : List Let) (n : Int), (outsFrom n L).length ≤ L.length
  | [], _ => Nat.le_refl _
  | l :: r, n => by
    show (one l n ++ outsFrom (n + 1) r).length ≤ r.length + 1
    have := outs_len r (n + 1)
    have := one_len l n
    rw [List.length_append]
    omega
def qp : Int → List Int → List (Int × Int)
  | _, [] => []
  | τ, n :: r => (τ, n) :: qp (τ + 1) r
theorem qp_snoc : ∀ (q : List Int) (τ n : Int), qp τ (q ++ [n]) = qp τ q ++ [(τ + (q.length : Int), n)]
  | [], τ, n => by
    show [(τ, n)] = [(τ + ((0 : Nat) : Int), n)]
    rw [show τ + ((0 : Nat) : Int) = τ by omega]
  | x :: q, τ, n => by
    show (τ, x) :: qp (τ + 1) (q ++ [n]) = (τ, x) :: (qp (τ + 1) q ++ [_])
    rw [qp_snoc q (τ + 1) n, List.length_cons]
    congr 4
    omega
/-- a queue of the law's own line, by the letters that came -/
def Led (τ : Int) (s : List Let × Int) (q : List Int) (prs : List (Int × Int)) : Prop := (q.length : Int) = s.2 ∧ prs ++ qp τ q = outsFrom 0 s.1
theorem Led.no {b τ u : Int} {s : List Let × Int} {q : List Int} {prs} (h : Led τ s q prs) (hb : s.2 > b) : Led τ (step b τ u s) q prs ∧ step b τ u s = (s.1 ++ [(τ, u, none)], s.2) := by
  have e : step b τ u s = (s.1 ++ [(τ, u, none)], s.2) := by
    unfold step
    rw [if_pos hb]
  refine ⟨?_, e⟩
  rw [e]
  refine ⟨h.1, ?_⟩
  rw [outs_snoc, ← h.2]
  show _ = _ ++ []
  rw [List.append_nil]
theorem Led.yes {b τ u : Int} {s : List Let × Int} {q : List Int} {prs} (h : Led τ s q prs) (hb : ¬ s.2 > b) : Led τ (step b τ u s) (q ++ [(s.1.length : Int)]) prs ∧ step b τ u s = (s.1 ++ [(τ, u, some s.2)], s.2 + 1) := by
  have e : step b τ u s = (s.1 ++ [(τ, u, some s.2)], s.2 + 1) := by
    unfold step
    rw [if_neg hb]
  refine ⟨?_, e⟩
  rw [e]
  refine ⟨?_, ?_⟩
  · rw [List.length_append]
    show ((q.length + 1 : Nat) : Int) = s.2 + 1
    have := h.1
    omega
  · show _ = outsFrom 0 (s.1 ++ [(τ, u, some s.2)])
    rw [outs_snoc, ← h.2, qp_snoc, ← List.append_assoc, h.1]
    show _ = _ ++ [(τ + s.2, (0 : Int) + (s.1.length : Int))]
    rw [Int.zero_add]
/-- each one goes out in its time -/
def Due (τ : Int) (L : List Let) (q : List Int) (prs : List (Int × Int)) : Prop := prs ++ qp τ q = outsFrom 0 L
theorem Due.pop {τ : Int} {L : List Let} {x : Int} {q : List Int} {prs} (h : Due τ L (x :: q) prs) : Due (τ + 1) L q (prs ++ [(τ, x)]) := by
  unfold Due at *
  rw [← h, List.append_assoc]
  rfl
theorem Due.nil {τ τ' : Int} {L : List Let} {prs} (h : Due τ L [] prs) : Due τ' L [] prs := h
theorem ticks_turns (b τ : Int) : ∀ (k : Nat) (s : List Let × Int), (turns b τ k s).1.map (·.1) = s.1.map (·.1) ++ List.replicate k τ
  | 0, s => by simp [turns]
  | k + 1, s => by
    have ih := ticks_turns b τ k s
    have e : (step b τ (1 + (k : Int)) (turns b τ k s)).1.map (·.1) = (turns b τ k s).1.map (·.1) ++ [τ] := by
      unfold step
      split <;> simp
    unfold turns
    rw [e, ih, List.append_assoc, List.replicate_succ']
def ticksOf (cs : List Int) : Nat → List Int
  | 0 => []
  | i + 1 => ticksOf cs i ++ List.replicate (cs.getD i 0).toNat (i : Int)
theorem ticks_are (b : Int) (cs : List Int) : ∀ i, (pre b cs i).1.map (·.1) = ticksOf cs i
  | 0 => rfl
  | i + 1 => by
    show (turns b (i : Int) (cs.getD i 0).toNat (pre b cs i)).1.map (·.1) = ticksOf cs i ++ _
    rw [ticks_turns, ticks_are b cs i]
theorem ticks_len {cs : List Int} (hc : ∀ c ∈ cs, c ≤ 4) (i : Nat) : (ticksOf cs i).length ≤ 4 * i := by
  rw [← ticks_are 0 cs i, List.length_map]
  exact pre_len hc i
theorem getD_past {cs : List Int} {i : Nat} (h : cs.length ≤ i) : cs.getD i 0 = 0 := by
  rw [List.getD_eq_getElem?_getD, List.getElem?_eq_none h]
  rfl
theorem pre_past {b : Int} (hb : 0 ≤ b) (cs : List Int) : ∀ d : Nat, (pre b cs (cs.length + d)).1 = letts b cs ∧ ((pre b cs (cs.length + d)).2 ≤ b - d ∨ (pre b cs (cs.length + d)).2 ≤ 0)
  | 0 => ⟨rfl, .inl (by
    have := (pre_rng hb cs cs.length).2
    show (pre b cs cs.length).2 ≤ b - ((0 : Nat) : Int)
    omega)⟩
  | d + 1 => by
    have ih := pre_past hb cs d
    have e : turns b ((cs.length + d : Nat) : Int) (cs.getD (cs.length + d) 0).toNat (pre b cs (cs.length + d)) = pre b cs (cs.length + d) := by
      rw [getD_past (by omega)]
      rfl
    have e1 : (pre b cs (cs.length + (d + 1))).1 = (turns b ((cs.length + d : Nat) : Int) (cs.getD (cs.length + d) 0).toNat (pre b cs (cs.length + d))).1 := rfl
    have e2 : (pre b cs (cs.length + (d + 1))).2 = close (turns b ((cs.length + d : Nat) : Int) (cs.getD (cs.length + d) 0).toNat (pre b cs (cs.length + d))).2 := rfl
    rw [e] at e1 e2
    refine ⟨e1.trans ih.1, ?_⟩
    rw [e2]
    unfold close
    have := ih.2
    split <;> omega
end Ln

set_option Elab.async false
set_option linter.all false
set_option maxRecDepth 100000
set_option maxHeartbeats 4000000
namespace My
open PySem PySem.Spec PyProof.Rows L2
def topS (i : Nat) : Stmt := PySem.Challenge.pw_loopstore_k02_whole_waits_and_lines.main.body.getD i (.Pass ⟨0, 0, 0, 0⟩)
abbrev s_is_integer : Stmt := topS 9
theorem sc_is_integer : FnScope ["thing"] ["thing"] (defScope s_is_integer) := ⟨rfl, rfl, rfl, by decide +kernel, rfl, by decide +kernel, by decide +kernel⟩
abbrev s_is_number : Stmt := topS 10
theorem sc_is_number : FnScope ["thing", "least", "most"] ["thing", "least", "most"] (defScope s_is_number) := ⟨rfl, rfl, rfl, by decide +kernel, rfl, by decide +kernel, by decide +kernel⟩
abbrev s_are_numbers : Stmt := topS 11
theorem sc_are_numbers : FnScope ["things", "least", "most", "thing"] ["things", "least", "most"] (defScope s_are_numbers) := ⟨rfl, rfl, rfl, by decide +kernel, rfl, by decide +kernel, by decide +kernel⟩
abbrev s_is_comings : Stmt := topS 12
theorem sc_is_comings : FnScope ["comers", "thing"] ["comers", "thing"] (defScope s_is_comings) := ⟨rfl, rfl, rfl, by decide +kernel, rfl, by decide +kernel, by decide +kernel⟩
abbrev s_check_comers : Stmt := topS 13
theorem sc_check_comers : FnScope ["thing"] ["thing"] (defScope s_check_comers) := ⟨rfl, rfl, rfl, by decide +kernel, rfl, by decide +kernel, by decide +kernel⟩
abbrev s_check_bound : Stmt := topS 14
theorem sc_check_bound : FnScope ["thing"] ["thing"] (defScope s_check_bound) := ⟨rfl, rfl, rfl, by decide +kernel, rfl, by decide +kernel, by decide +kernel⟩
abbrev s_check_comings : Stmt := topS 15
theorem sc_check_comings : FnScope ["comers", "thing"] ["comers", "thing"] (defScope s_check_comings) := ⟨rfl, rfl, rfl, by decide +kernel, rfl, by decide +kernel, by decide +kernel⟩
abbrev s_follow_line : Stmt := topS 17
theorem sc_follow_line : FnScope ["bound", "line", "comings", "letters", "behind", "tick", "number", "turn"] ["bound", "line", "comings"] (defScope s_follow_line) := ⟨rfl, rfl, rfl, by decide +kernel, rfl, by decide +kernel, by decide +kernel⟩
abbrev s_letters_of : Stmt := topS 18
theorem sc_letters_of : FnScope ["bound", "comings", "letters", "_"] ["bound", "comings"] (defScope s_letters_of) := ⟨rfl, rfl, rfl, by decide +kernel, rfl, by decide +kernel, by decide +kernel⟩
abbrev s_comes : Stmt := topS 19
theorem sc_comes : FnScope ["comers", "comings", "ticks", "tick", "number"] ["comers", "comings"] (defScope s_comes) := ⟨rfl, rfl, rfl, by decide +kernel, rfl, by decide +kernel, by decide +kernel⟩
abbrev s_waits : Stmt := topS 20
theorem sc_waits : FnScope ["comers", "bound", "comings", "tick", "turn", "wait"] ["comers", "bound", "comings"] (defScope s_waits) := ⟨rfl, rfl, rfl, by decide +kernel, rfl, by decide +kernel, by decide +kernel⟩
abbrev s_lines : Stmt := topS 21
theorem sc_lines : FnScope ["comers", "bound", "comings", "_", "behind"] ["comers", "bound", "comings"] (defScope s_lines) := ⟨rfl, rfl, rfl, by decide +kernel, rfl, by decide +kernel, by decide +kernel⟩
abbrev s_outs : Stmt := topS 22
theorem sc_outs : FnScope ["comers", "bound", "comings", "found", "letter", "tick", "_", "wait"] ["comers", "bound", "comings"] (defScope s_outs) := ⟨rfl, rfl, rfl, by decide +kernel, rfl, by decide +kernel, by decide +kernel⟩
abbrev s__law_tape : Stmt := topS 24
theorem sc__law_tape : FnScope ["script"] ["script"] (defScope s__law_tape) := ⟨rfl, rfl, rfl, by decide +kernel, rfl, by decide +kernel, by decide +kernel⟩
abbrev s__law_pick : Stmt := topS 25
theorem sc__law_pick : FnScope ["tape", "size", "digit", "cell", "mixed"] ["tape", "size"] (defScope s__law_pick) := ⟨rfl, rfl, rfl, by decide +kernel, rfl, by decide +kernel, by decide +kernel⟩
abbrev s__law_comings : Stmt := topS 29
theorem sc__law_comings : FnScope ["tape", "comers", "most", "found", "greedy", "k", "number"] ["tape", "comers", "most"] (defScope s__law_comings) := ⟨rfl, rfl, rfl, by decide +kernel, rfl, by decide +kernel, by decide +kernel⟩
abbrev s__law_led : Stmt := topS 30
theorem sc__law_led : FnScope ["bound", "comings", "ticks", "told", "lengths", "out", "line", "tick", "number", "turn"] ["bound", "comings"] (defScope s__law_led) := ⟨rfl, rfl, rfl, by decide +kernel, rfl, by decide +kernel, by decide +kernel⟩
abbrev s_law : Stmt := topS 31
theorem sc_law : FnScope ["script", "tape", "comers", "bound", "comings", "due", "told", "row"] ["script"] (defScope s_law) := ⟨rfl, rfl, rfl, by decide +kernel, rfl, by decide +kernel, by decide +kernel⟩
structure Tx (K : PySem.W.Frag) (mg : Str → Option Value) where
  a_is_integer : Addr
  d_is_integer : FuncData
  F_is_integer : Fun K "is_integer" "is_integer" s_is_integer a_is_integer d_is_integer
  b_is_integer : Binds K d_is_integer ["thing"] []
  g_is_integer : mg "is_integer" = some (.ref a_is_integer)
  a_is_number : Addr
  d_is_number : FuncData
  F_is_number : Fun K "is_number" "is_number" s_is_number a_is_number d_is_number
  b_is_number : Binds K d_is_number ["thing", "least", "most"] []
  g_is_number : mg "is_number" = some (.ref a_is_number)
  a_are_numbers : Addr
  d_are_numbers : FuncData
  F_are_numbers : Fun K "are_numbers" "are_numbers" s_are_numbers a_are_numbers d_are_numbers
  b_are_numbers : Binds K d_are_numbers ["things", "least", "most"] []
  g_are_numbers : mg "are_numbers" = some (.ref a_are_numbers)
  a_is_comings : Addr
  d_is_comings : FuncData
  F_is_comings : Fun K "is_comings" "is_comings" s_is_comings a_is_comings d_is_comings
  b_is_comings : Binds K d_is_comings ["comers", "thing"] []
  g_is_comings : mg "is_comings" = some (.ref a_is_comings)
  a_check_comers : Addr
  d_check_comers : FuncData
  F_check_comers : Fun K "check_comers" "check_comers" s_check_comers a_check_comers d_check_comers
  b_check_comers : Binds K d_check_comers ["thing"] []
  g_check_comers : mg "check_comers" = some (.ref a_check_comers)
  a_check_bound : Addr
  d_check_bound : FuncData
  F_check_bound : Fun K "check_bound" "check_bound" s_check_bound a_check_bound d_check_bound
  b_check_bound : Binds K d_check_bound ["thing"] []
  g_check_bound : mg "check_bound" = some (.ref a_check_bound)
  a_check_comings : Addr
  d_check_comings : FuncData
  F_check_comings : Fun K "check_comings" "check_comings" s_check_comings a_check_comings d_check_comings
  b_check_comings : Binds K d_check_comings ["comers", "thing"] []
  g_check_comings : mg "check_comings" = some (.ref a_check_comings)
  a_follow_line : Addr
  d_follow_line : FuncData
  F_follow_line : Fun K "follow_line" "follow_line" s_follow_line a_follow_line d_follow_line
  b_follow_line : Binds K d_follow_line ["bound", "line", "comings"] []
  g_follow_line : mg "follow_line" = some (.ref a_follow_line)
  a_letters_of : Addr
  d_letters_of : FuncData
  F_letters_of : Fun K "letters_of" "letters_of" s_letters_of a_letters_of d_letters_of
  b_letters_of : Binds K d_letters_of ["bound", "comings"] []
  g_letters_of : mg "letters_of" = some (.ref a_letters_of)
  a_comes : Addr
  d_comes : FuncData
  F_comes : Fun K "comes" "comes" s_comes a_comes d_comes
  b_comes : Binds K d_comes ["comers", "comings"] []
  g_comes : mg "comes" = some (.ref a_comes)
  a_waits : Addr
  d_waits : FuncData
  F_waits : Fun K "waits" "waits" s_waits a_waits d_waits
  b_waits : Binds K d_waits ["comers", "bound", "comings"] []
  g_waits : mg "waits" = some (.ref a_waits)
  a_lines : Addr
  d_lines : FuncData
  F_lines : Fun K "lines" "lines" s_lines a_lines d_lines
  b_lines : Binds K d_lines ["comers", "bound", "comings"] []
  g_lines : mg "lines" = some (.ref a_lines)
  a_outs : Addr
  d_outs : FuncData
  F_outs : Fun K "outs" "outs" s_outs a_outs d_outs
  b_outs : Binds K d_outs ["comers", "bound", "comings"] []
  g_outs : mg "outs" = some (.ref a_outs)
  a__law_tape : Addr
  d__law_tape : FuncData
  F__law_tape : Fun K "_law_tape" "_law_tape" s__law_tape a__law_tape d__law_tape
  b__law_tape : Binds K d__law_tape ["script"] []
  g__law_tape : mg "_law_tape" = some (.ref a__law_tape)
  a__law_pick : Addr
  d__law_pick : FuncData
  F__law_pick : Fun K "_law_pick" "_law_pick" s__law_pick a__law_pick d__law_pick
  b__law_pick : Binds K d__law_pick ["tape", "size"] []
  g__law_pick : mg "_law_pick" = some (.ref a__law_pick)
  a__law_comings : Addr
  d__law_comings : FuncData
  F__law_comings : Fun K "_law_comings" "_law_comings" s__law_comings a__law_comings d__law_comings
  b__law_comings : Binds K d__law_comings ["tape", "comers", "most"] []
  g__law_comings : mg "_law_comings" = some (.ref a__law_comings)
  a__law_led : Addr
  d__law_led : FuncData
  F__law_led : Fun K "_law_led" "_law_led" s__law_led a__law_led d__law_led
  b__law_led : Binds K d__law_led ["bound", "comings"] []
  g__law_led : mg "_law_led" = some (.ref a__law_led)
  a_law : Addr
  d_law : FuncData
  F_law : Fun K "law" "law" s_law a_law d_law
  b_law : Binds K d_law ["script"] []
  g_law : mg "law" = some (.ref a_law)
  m_all : mg "all" = none
  m_bool : mg "bool" = none
  m_enumerate : mg "enumerate" = none
  m_int : mg "int" = none
  m_isinstance : mg "isinstance" = none
  m_len : mg "len" = none
  m_list : mg "list" = none
  m_range : mg "range" = none
  m_tuple : mg "tuple" = none
  t_MOST_BOUND : Tok
  g_MOST_BOUND : mg "MOST_BOUND" = some (.int 60 t_MOST_BOUND)
  t_MOST_COMERS : Tok
  g_MOST_COMERS : mg "MOST_COMERS" = some (.int 4 t_MOST_COMERS)
  t_MOST_TICKS : Tok
  g_MOST_TICKS : mg "MOST_TICKS" = some (.int 400 t_MOST_TICKS)
/-! ### heaps -/
theorem same_upd {H : Hp} {p : Addr} {o : HO} (h : H p = none) : Same H (upd H p o) := fun b x e => by
  rw [upd_ne (ne_of_none e h)]
  exact e
/-- all but t stays -/
def Moved (t : Addr) (H H' : Hp) : Prop := ∀ b o, b ≠ t → H b = some o → H' b = some o
theorem Moved.refl {t : Addr} {H : Hp} : Moved t H H := fun _ _ _ h => h
theorem Moved.trans {t : Addr} {H H1 H2 : Hp} (a : Moved t H H1) (b : Moved t H1 H2) : Moved t H H2 := fun c o n h => b c o n (a c o n h)
theorem Moved.upd {t : Addr} {H : Hp} {o : HO} : Moved t H (upd H t o) := fun b x n e => by
  rw [upd_ne n]
  exact e
theorem Moved.same {t : Addr} {H H' : Hp} (h : Same H H') : Moved t H H' := fun b o _ e => h b o e
theorem Moved.free {t : Addr} {H H' : Hp} (h : Moved t H H') {p : Addr} (n : p ≠ t) (e : H' p = none) : H p = none := by
  cases q : H p with
  | none => rfl
  | some o =>
    rw [h p o n q] at e
    cases e
/-! ### the tape: where the draws stand -/
def Tape (H : Hp) (t s : Addr) : Prop := ∃ (ns : List Int) (pos rest mx ct : Int), s ≠ t ∧ H t = some (.lst [.ref s, .int pos, .int rest, .int mx, .int ct]) ∧ H s = some (.lst (ns.map V.int)) ∧ 0 ≤ pos
theorem Tape.keep {t s : Addr} {H H' : Hp} (h : Tape H t s) (e : Same H H') : Tape H' t s := by
  obtain ⟨ns, a, b, c, d, h1, h2, h3, h4⟩ := h
  exact ⟨ns, a, b, c, d, h1, e _ _ h2, e _ _ h3, h4⟩
theorem Tape.ne {t s p : Addr} {H : Hp} (h : Tape H t s) (np : H p = none) : p ≠ t := fun e => by
  obtain ⟨ns, a, b, c, d, h1, h2, h3, h4⟩ := h
  rw [e, h2] at np
  cases np
theorem Tape.ne2 {t s p : Addr} {H : Hp} (h : Tape H t s) (np : H p = none) : p ≠ s := fun e => by
  obtain ⟨ns, a, b, c, d, h1, h2, h3, h4⟩ := h
  rw [e, h3] at np
  cases np
theorem Tape.but {t s r : Addr} {H : Hp} {o : HO} (h : Tape H t s) (n : r ≠ t) (n2 : r ≠ s) : Tape (upd H r o) t s := by
  obtain ⟨ns, a, b, c, d, h1, h2, h3, h4⟩ := h
  refine ⟨ns, a, b, c, d, h1, ?_, ?_, h4⟩
  · rw [upd_ne n.symm]
    exact h2
  · rw [upd_ne n2.symm]
    exact h3
section
variable {P : Program} {w : World} {K : PySem.W.Frag} {mg : Str → Option Value} {base : Heap}
def spTape (K : PySem.W.Frag) : Sp := fun vs H Q _ => ∃ (a : Addr) (ns : List Int), vs = [.ref a] ∧ SqL K H a (ns.map V.int) ∧ ∀ t s H', H t = none → H s = none → Same H H' → Tape H' t s → Q (.ref t) H'
theorem ok__law_tape (T : Tx K mg) : FnOk P w K mg base CX0 1 T.a__law_tape T.d__law_tape ["script"] (spTape K) := by
  refine T.F__law_tape.ok sc__law_tape (fun vs H Q E h => ?_) (fun cdv A outer s H vs Q E hr h => ?_)
  · obtain ⟨a, ns, rfl, _⟩ := h
    rfl
  · obtain ⟨a, ns, rfl, hS, q⟩ := h
    refine ⟨_, ((pss_one (ps_ret (pe_lst (pa_cons (pe_callTy call_list_of (by rfl) T.m_list (by decide +kernel) (pa_cons (pv 0) pa_nil)) (pa_cons pe_int (pa_cons pe_int (pa_cons pe_int (pa_cons pe_int pa_nil))))))))), ?_⟩
    refine ⟨.ref a, rfl, a, _, rfl, .inl hS, fun l nl => ?_⟩
    refine ⟨by show 5 ≤ sizeLine; decide, fun t nt => ?_⟩
    have nlt : l ≠ t := fun e => by
      rw [← e, upd_same] at nt
      cases nt
    have s1 : Same H (upd H l (.lst (ns.map V.int))) := same_upd nl
    refine q t l _ (Same.free s1 nt) nl (s1.trans (same_upd nt)) ⟨ns, 0, 0, 1, 0, nlt, upd_same, ?_, by decide⟩
    rw [upd_ne nlt, upd_same]
def spPick (K : PySem.W.Frag) : Sp := fun vs H Q _ => ∃ (t s : Addr) (n : Int), vs = [.ref t, .int n] ∧ (0 < n ∧ n < 2 ^ 60) ∧ Tape H t s ∧ ∀ r H', 0 ≤ r → r < n → Moved t H H' → Tape H' t s → Q (.int r) H'
theorem fm_of {a b : Int} (h : 0 < b) : 0 ≤ a.fmod b ∧ a.fmod b < b := by
  rw [Int.fmod_eq_emod_of_nonneg a (Int.le_of_lt h)]
  exact ⟨Int.emod_nonneg a (by omega), Int.emod_lt_of_pos a h⟩
theorem ok__law_pick (T : Tx K mg) : FnOk P w K mg base CX0 1 T.a__law_pick T.d__law_pick ["tape", "size"] (spPick K) := by
  refine T.F__law_pick.ok sc__law_pick (fun vs H Q E h => ?_) (fun cdv A outer s H vs Q E hr h => ?_)
  · obtain ⟨t, l, n, rfl, _⟩ := h
    rfl
  · obtain ⟨t, l, n, rfl, ⟨hn, hn2⟩, ⟨ns, pos, rest, mx, ct, hlt, ht, hl, hp⟩, q⟩ := h
    have wd : ∀ i : Int, CDivW i n := fun i => wide_div hn (b := 60) (by omega) (by decide) (by decide)
    refine ⟨_, ((pss_cons (ps_if (pt_cmpR op_gt (pe_ix ix_list (pv 0) pe_int (fun _ _ => rfl)) pe_int (nomark _)) (pss_cons (ps_set (i := 2) sc__law_pick.nd rfl (.inl rfl) (pe_op op_modN (pe_callTy call_int1 (by rfl) T.m_int (by decide +kernel) (pa_cons (pe_ix ix_list (pv 0) pe_int (fun _ _ => rfl)) pa_nil)) (pv 1)))
  (pss_cons (ps_asg (pe_op op_fdivW (pe_ix ix_list (pv 0) pe_int (fun _ _ => rfl)) (pv 1)) (pg_sub (pv 0) pe_int set_list))
  (pss_one (ps_ret (pv 2))))) pss_nil)
  (pss_cons (ps_asg (pe_op op_add (pe_ix ix_list (pv 0) pe_int (fun _ _ => rfl)) pe_int) (pg_sub (pv 0) pe_int set_list))
  (pss_cons (ps_set (i := 3) sc__law_pick.nd rfl (.inl rfl) pe_int)
  (Evl.pss_cut (ps_if (pt_cmpR op_lt (pe_ix ix_list (pv 0) pe_int (fun _ _ => rfl)) (pe_callB call_len_seq (by rfl) T.m_len PySem.boot_len (pa_cons (pe_ix ix_list (pv 0) pe_int (fun _ _ => rfl)) pa_nil)) (nomark _)) (pss_cons (ps_set (i := 3) sc__law_pick.nd rfl (.inl rfl) (pe_ix ix_list (pe_ix ix_list (pv 0) pe_int (fun _ _ => rfl)) (pe_ix ix_list (pv 0) pe_int (fun _ _ => rfl)) (fun _ _ => rfl)))
  (pss_one (ps_asg (pe_op op_add (pe_ix ix_list (pv 0) pe_int (fun _ _ => rfl)) pe_int) (pg_sub (pv 0) pe_int set_list)))) pss_nil)
  (pss_cons (ps_if (pt_cmpR op_ge (pv 3) (pe_op op_pow pe_int pe_int) (nomark _)) (pss_cons (ps_asg (pe_op op_fdivW (pv 3) (pv 1)) (pg_sub (pv 0) pe_int set_list))
  (pss_one (ps_ret (pe_op op_modN (pe_callTy call_int1 (by rfl) T.m_int (by decide +kernel) (pa_cons (pv 3) pa_nil)) (pv 1))))) pss_nil)
  (pss_cons (ps_set (i := 4) sc__law_pick.nd rfl (.inl rfl) (pe_op op_modN (pe_callTy call_int1 (by rfl) T.m_int (by decide +kernel) (pa_cons (pe_op op_add (pe_op op_add (pe_op op_mul (pe_ix ix_list (pv 0) pe_int (fun _ _ => rfl)) pe_int) (pe_op op_modN (pe_callTy call_int1 (by rfl) T.m_int (by decide +kernel) (pa_cons (pv 3) pa_nil)) pe_int)) (pe_op op_mul (pe_ix ix_list (pv 0) pe_int (fun _ _ => rfl)) pe_int)) pa_nil)) pe_int))
  (pss_cons (ps_set (i := 4) sc__law_pick.nd rfl (.inl rfl) (pe_op op_modN (pe_callTy call_int1 (by rfl) T.m_int (by decide +kernel) (pa_cons (pe_op op_mul (pv 4) (pe_op op_add (pe_op op_fdivW (pv 4) pe_int) pe_int)) pa_nil)) pe_int))
  (pss_cons (ps_asg (pv 4) (pg_sub (pv 0) pe_int set_list))
  (pss_one (ps_ret (pe_op op_modN (pe_callTy call_int1 (by rfl) T.m_int (by decide +kernel) (pa_cons (pe_op op_fdivW (pv 4) pe_int) pa_nil)) (pv 1))))))))))))), ?_⟩
    -- tape[2] > 1
    refine ⟨.ref t, rfl, t, _, 2, _, rfl, rfl, SqL.of ht, atI_nat (j := 2) rfl, _, _, rfl, rfl, _, rfl, ite2 (fun h1 => ?_) (fun h1 => ?_)⟩
    · -- digit
      refine ⟨.ref t, rfl, t, _, 2, _, rfl, rfl, SqL.of ht, atI_nat (j := 2) rfl, .inl ⟨_, rfl, ?_⟩⟩
      refine ⟨.int n, rfl, _, _, rfl, rfl, by omega, ?_⟩
      -- tape[2] = tape[2] // size
      refine ⟨.ref t, rfl, t, _, 2, _, rfl, rfl, SqL.of ht, atI_nat (j := 2) rfl, .int n, rfl, _, _, rfl, rfl, wd _, ?_⟩
      refine ⟨.ref t, rfl, t, _, 2, 2, rfl, rfl, ht, rfl, ?_⟩
      -- return digit
      refine ⟨_, rfl, ?_⟩
      refine q _ _ (fm_of hn).1 (fm_of hn).2 Moved.upd ⟨ns, pos, _, mx, ct, hlt, upd_same, ?_, hp⟩
      rw [upd_ne hlt]
      exact hl
    · -- tape[4] = tape[4] + 1
      refine ⟨.ref t, rfl, t, _, 4, _, rfl, rfl, SqL.of ht, atI_nat (j := 4) rfl, _, _, rfl, rfl, ?_⟩
      refine ⟨.ref t, rfl, t, _, 4, 4, rfl, rfl, ht, rfl, ?_⟩
      -- cell = 0; the first cut
      refine ⟨fun σ' H1 => ∃ (cell p2 : Int) (σ3 σ4 : Option V), σ' = [some (.ref t), some (.int n), σ3, some (.int cell), σ4] ∧ 0 ≤ p2 ∧ H1 t = some (.lst [.ref l, .int p2, .int rest, .int mx, .int (ct + 1)]) ∧ H1 l = some (.lst (ns.map V.int)) ∧ Moved t H H1, ?_, fun σ' H1 hm => ?_⟩
      · have hl1 : (upd H t (.lst [.ref l, .int pos, .int rest, .int mx, .int (ct + 1)])) l = some (.lst (ns.map V.int)) := by
          rw [upd_ne hlt]
          exact hl
        refine ⟨.ref t, rfl, t, _, 1, _, rfl, rfl, SqL.of upd_same, atI_nat (j := 1) rfl, .ref t, rfl, t, _, 0, _, rfl, rfl, SqL.of upd_same, atI_nat (j := 0) rfl, l, _, rfl, .inl (SqL.of hl1), _, _, rfl, rfl, _, rfl, ite2 (fun h2 => ?_) (fun h2 => ?_)⟩
        · have h3 : pos < ((ns.map V.int).length : Int) := of_decide_eq_true h2
          obtain ⟨j, rfl⟩ : ∃ j : Nat, pos = (j : Int) := ⟨pos.toNat, by omega⟩
          have hj : j < ns.length := by
            rw [List.length_map] at h3
            omega
          have gj : (ns.map V.int)[j]? = some (.int ns[j]) := by
            rw [List.getElem?_map, List.getElem?_eq_getElem hj]
            rfl
          -- cell = tape[0][tape[1]]
          refine ⟨.ref t, rfl, t, _, 0, _, rfl, rfl, SqL.of upd_same, atI_nat (j := 0) rfl, .ref t, rfl, t, _, 1, _, rfl, rfl, SqL.of upd_same, atI_nat (j := 1) rfl, l, _, _, _, rfl, rfl, SqL.of hl1, atI_nat gj, ?_⟩
          -- tape[1] = tape[1] + 1
          refine ⟨.ref t, rfl, t, _, 1, _, rfl, rfl, SqL.of upd_same, atI_nat (j := 1) rfl, _, _, rfl, rfl, ?_⟩
          refine ⟨.ref t, rfl, t, _, 1, 1, rfl, rfl, upd_same, rfl, ?_⟩
          rw [upd_upd]
          exact ⟨_, _, _, _, rfl, by omega, upd_same, (by rw [upd_ne hlt]; exact hl), Moved.upd⟩
        · exact ⟨_, _, _, _, rfl, hp, upd_same, hl1, Moved.upd⟩
      · obtain ⟨cell, p2, σ3, σ4, rfl, hp2, ht1, hl1, mv⟩ := hm
        -- cell >= 10 ** 18
        refine ⟨.int cell, rfl, 10, 18, rfl, rfl, ⟨by decide, by decide, by decide⟩, _, _, rfl, rfl, _, rfl, ite2 (fun h2 => ?_) (fun h2 => ?_)⟩
        · refine ⟨.int cell, rfl, .int n, rfl, _, _, rfl, rfl, wd _, .ref t, rfl, t, _, 2, 2, rfl, rfl, ht1, rfl, ?_⟩
          refine ⟨.int cell, rfl, .inl ⟨_, rfl, .int n, rfl, _, _, rfl, rfl, by omega, ?_⟩⟩
          refine q _ _ (fm_of hn).1 (fm_of hn).2 (mv.trans Moved.upd) ⟨ns, p2, _, mx, _, hlt, upd_same, ?_, hp2⟩
          rw [upd_ne hlt]
          exact hl1
        · -- mixed = ..
          refine ⟨.ref t, rfl, t, _, 3, _, rfl, rfl, SqL.of ht1, atI_nat (j := 3) rfl, _, _, rfl, rfl, .inr ⟨by decide, by decide⟩, ?_⟩
          refine ⟨.int cell, rfl, .inl ⟨_, rfl, _, _, rfl, rfl, (by show (2147483629 : Int) ≠ 0; decide), _, _, rfl, rfl, ?_⟩⟩
          refine ⟨.ref t, rfl, t, _, 4, _, rfl, rfl, SqL.of ht1, atI_nat (j := 4) rfl, _, _, rfl, rfl, .inr ⟨by decide, by decide⟩, _, _, rfl, rfl, ?_⟩
          refine .inl ⟨_, rfl, _, _, rfl, rfl, (by show (2147483647 : Int) ≠ 0; decide), ?_⟩
          have bm := fm_of (a := mx * 48271 + cell.fmod 2147483629 + (ct + 1) * 69621) (b := 2147483647) (by decide)
          -- mixed = int(mixed * ..) % ..
          refine ⟨_, rfl, _, rfl, _, _, rfl, rfl, ⟨by decide, by decide⟩, _, _, rfl, rfl, _, _, rfl, rfl, .inl ⟨Int.lt_of_lt_of_le (by decide) bm.1, Int.lt_trans bm.2 (by decide)⟩, .inl ⟨_, rfl, _, _, rfl, rfl, (by show (2147483399 : Int) ≠ 0; decide), ?_⟩⟩
          -- tape[3] = mixed
          refine ⟨_, rfl, .ref t, rfl, t, _, 3, 3, rfl, rfl, ht1, rfl, ?_⟩
          refine ⟨_, rfl, _, _, rfl, rfl, ⟨by decide, by decide⟩, .inl ⟨_, rfl, .int n, rfl, _, _, rfl, rfl, by omega, ?_⟩⟩
          refine q _ _ (fm_of hn).1 (fm_of hn).2 (mv.trans Moved.upd) ⟨ns, p2, _, _, _, hlt, upd_same, ?_, hp2⟩
          rw [upd_ne hlt]
          exact hl1
end

/-! ### what arguments may be: ints and tuples of ints -/
section
variable {K : PySem.W.Frag} {H : Hp}
theorem tyTup {a : Addr} {xs : List V} (h : SqT K H a xs) : TyX K H (.ref a) (.type "tuple") := by
  rcases h with (h | ⟨o, h⟩) | h
  · exact .base (.tup h)
  · exact .fTuple h
  · obtain ⟨o, n, vs, e, c, _⟩ := h
    exact .kTuple e c
theorem sT {H' : Hp} {a : Addr} {xs : List V} (e : Same H H') (h : SqT K H a xs) : SqT K H' a xs := by
  rcases h with (h | ⟨o, h⟩) | h
  · exact .inl (.inl (e _ _ h))
  · exact .inl (.inr ⟨o, e _ _ h⟩)
  · exact .inr h
end
section
variable {P : Program} {w : World} {K : PySem.W.Frag} {mg : Str → Option Value} {base : Heap}
def spIsInt (K : PySem.W.Frag) : Sp := fun vs H Q _ => ∃ i : Int, vs = [.int i] ∧ Q (.bl true) H
theorem ok_is_integer (T : Tx K mg) : FnOk P w K mg base CX0 1 T.a_is_integer T.d_is_integer ["thing"] (spIsInt K) := by
  refine T.F_is_integer.ok sc_is_integer (fun vs H Q E h => ?_) (fun cdv A outer s H vs Q E hr h => ?_)
  · obtain ⟨i, rfl, _⟩ := h
    rfl
  · obtain ⟨i, rfl, q⟩ := h
    refine ⟨_, ((pss_one (ps_ret (pe_and (pe_callB call_isi (by rfl) T.m_isinstance (by decide +kernel) (pa_cons (pv 0) (pa_cons (pe_bltn (v := .ty "int") (by rfl) T.m_int (by decide +kernel) rfl) pa_nil))) (pe_one (pe_not (pe_callB call_isi (by rfl) T.m_isinstance (by decide +kernel) (pa_cons (pv 0) (pa_cons (pe_bltn (v := .ty "bool") (by rfl) T.m_bool (by decide +kernel) rfl) pa_nil))))))))), ?_⟩
    refine ⟨.int i, rfl, .int i, .ty "int", _, _, true, rfl, .ty _, .base (.int i), kit_ty (by decide +kernel), true, rfl, iteT ?_⟩
    refine ⟨.int i, rfl, .int i, .ty "bool", _, _, false, rfl, .ty _, .base (.int i), kit_ty (by decide +kernel), false, rfl, ?_⟩
    exact q
def spIsNum (K : PySem.W.Frag) : Sp := fun vs H Q _ => ∃ i a b : Int, vs = [.int i, .int a, .int b] ∧ Q (.bl (decide (a ≤ i) && decide (i ≤ b))) H
theorem ok_is_number (T : Tx K mg) : FnOk P w K mg base CX0 2 T.a_is_number T.d_is_number ["thing", "least", "most"] (spIsNum K) := by
  refine T.F_is_number.ok sc_is_number (fun vs H Q E h => ?_) (fun cdv A outer s H vs Q E hr h => ?_)
  · obtain ⟨i, a, b, rfl, _⟩ := h
    rfl
  · obtain ⟨i, a, b, rfl, q⟩ := h
    refine ⟨_, ((pss_one (ps_ret (pe_and (pe_call (ok_is_integer T) (hr.mono (by decide)) (by rfl) T.g_is_integer T.F_is_integer.kp T.b_is_integer .nil pass0 (pa_cons (pv 0) pa_nil)) (pe_one (pe_chain op_le op_le (pv 1) (pv 0) (pv 2))))))), ?_⟩
    refine ⟨.int i, rfl, i, rfl, true, rfl, iteT ?_⟩
    refine ⟨.int a, rfl, .int i, rfl, a, i, rfl, rfl, _, rfl, ?_⟩
    by_cases h : a ≤ i
    · rw [decide_eq_true h] at q ⊢
      refine iteT ⟨.int b, rfl, i, b, rfl, rfl, ?_⟩
      exact q
    · rw [decide_eq_false h] at q ⊢
      exact iteF q
def spAreNums (K : PySem.W.Frag) : Sp := fun vs H Q _ => ∃ (a : Addr) (ns : List Int) (lo hi : Int), vs = [.ref a, .int lo, .int hi] ∧ SqT K H a (ns.map V.int) ∧ ns.length ≤ 1000 ∧
  ∀ H', Same H H' → Q (.bl (ns.all fun n => decide (lo ≤ n) && decide (n ≤ hi))) H'
theorem ok_are_numbers (T : Tx K mg) : FnOk P w K mg base CX0 3 T.a_are_numbers T.d_are_numbers ["things", "least", "most"] (spAreNums K) := by
  refine T.F_are_numbers.ok sc_are_numbers (fun vs H Q E h => ?_) (fun cdv A outer s H vs Q E hr h => ?_)
  · obtain ⟨a, ns, lo, hi, rfl, _⟩ := h
    rfl
  · obtain ⟨a, ns, lo, hi, rfl, hT, hlen, q⟩ := h
    refine ⟨_, ((pss_one (ps_ret (pe_callB (cr_all rfl) (by rfl) T.m_all (by decide +kernel) (pa_cons (pe_lc (own := [("thing", 3)]) (g := (gName 3)) (tt := tYes) rfl sc_are_numbers.nd (pi_tup (pv 0)) (blkOk_by (own := [("thing", 3)]) (N := ["things", "least", "most", "thing"]) (sc := defScope s_are_numbers) (by decide +kernel)) (fun _ _ _ _ _ => pg_name (i := 3) sc_are_numbers.nd rfl (.inl rfl)) (fun _ _ _ _ _ => pts_nil) (fun _ _ _ _ _ => (pe_call (ok_is_number T) (hr.mono (by decide)) (by rfl) T.g_is_number T.F_is_number.kp T.b_is_number .nil pass0 (pa_cons (pv 3) (pa_cons (pv 1) (pa_cons (pv 2) pa_nil)))))) pa_nil))))), ?_⟩
    refine ⟨.ref a, rfl, a, rfl, ⟨_, hT⟩, fun D hD => lc_tup (K := K) (a := a) (xs := ns.map V.int)
      (fun i H' => Same H H' ∧ H D = none ∧ H' D = some (.lst (((ns.take i).map fun n => decide (lo ≤ n) && decide (n ≤ hi)).map V.bl)))
      ⟨same_upd hD, hD, upd_same⟩ (fun i H' _ p => sT p.1 hT) (fun i x H' hx p => ?_) (fun H' p => ?_)⟩
    · obtain ⟨sm, nD, eD⟩ := p
      rw [List.getElem?_map] at hx
      obtain ⟨n, hn, rfl⟩ := Option.map_eq_some_iff.mp hx
      refine ⟨rfl, ?_⟩
      refine ⟨.int n, rfl, .int lo, rfl, .int hi, rfl, n, lo, hi, rfl, ?_⟩
      have hi' : i < ns.length := (List.getElem?_eq_some_iff.mp hn).1
      refine ⟨_, eD, ?_, ?_⟩
      · rw [List.length_map, List.length_map, List.length_take]
        exact small1000 (by omega)
      · refine ⟨fun b o e => ?_, nD, ?_⟩
        · rw [upd_ne (ne_of_none e nD)]
          exact sm b o e
        · rw [upd_same, List.take_add_one, hn, List.map_append, List.map_append]
          rfl
    · obtain ⟨sm, nD, eD⟩ := p
      rw [List.length_map, List.take_of_length_le (Nat.le_refl _)] at eD
      refine ⟨D, _, rfl, SqL.of eD, ?_⟩
      have e2 : ((ns.map fun n => decide (lo ≤ n) && decide (n ≤ hi)).all id) = ns.all fun n => decide (lo ≤ n) && decide (n ≤ hi) := by
        rw [List.all_map]
        rfl
      rw [e2]
      exact q H' sm
end

/-! ### new tuples, one for each -/
theorem small2000 {n : Nat} (h : n ≤ 2000) : n < sizeLine := by
  show n < 2 ^ 24
  omega
inductive Tups {α : Type} (f : α → List V) (H : Hp) : List Addr → List α → Prop
  | nil : Tups f H [] []
  | cons {p : Addr} {x : α} {ps : List Addr} {xs : List α} : H p = some (.tup (f x)) → Tups f H ps xs → Tups f H (p :: ps) (x :: xs)
section
variable {α : Type} {f : α → List V} {H H' : Hp}
theorem Tups.keep {ps : List Addr} {xs : List α} (h : Tups f H ps xs) (e : ∀ b ys, H b = some (.tup ys) → H' b = some (.tup ys)) : Tups f H' ps xs := by
  induction h with
  | nil => exact .nil
  | cons a _ ih => exact .cons (e _ _ a) ih
theorem Tups.same {ps : List Addr} {xs : List α} (h : Tups f H ps xs) (e : Same H H') : Tups f H' ps xs := h.keep fun b ys z => e _ _ z
theorem Tups.put {ps : List Addr} {xs : List α} (h : Tups f H ps xs) {L : Addr} {ys : List V} {o : HO} (e : H L = some (.lst ys)) : Tups f (upd H L o) ps xs := h.keep fun b zs z => by
  rw [upd_ne (fun q => by rw [q, e] at z; cases z)]
  exact z
theorem Tups.new {ps : List Addr} {xs : List α} (h : Tups f H ps xs) {p : Addr} {o : HO} (e : H p = none) : Tups f (upd H p o) ps xs := h.same (same_upd e)
theorem Tups.snoc {ps : List Addr} {xs : List α} {p : Addr} {x : α} (h : Tups f H ps xs) (e : H p = some (.tup (f x))) : Tups f H (ps ++ [p]) (xs ++ [x]) := by
  induction h with
  | nil => exact .cons e .nil
  | cons a _ ih => exact .cons a ih
theorem Tups.length {ps : List Addr} {xs : List α} (h : Tups f H ps xs) : ps.length = xs.length := by
  induction h with
  | nil => rfl
  | cons a _ ih => rw [List.length_cons, List.length_cons, ih]
theorem Tups.get {ps : List Addr} {xs : List α} (h : Tups f H ps xs) : ∀ {i : Nat} {v : V}, (ps.map V.ref)[i]? = some v → ∃ p x, v = .ref p ∧ xs[i]? = some x ∧ H p = some (.tup (f x)) := by
  induction h with
  | nil =>
    intro i v h
    simp at h
  | cons a _ ih =>
    intro i v h
    cases i with
    | zero =>
      simp at h
      exact ⟨_, _, h.symm, rfl, a⟩
    | succ i =>
      simp only [List.map_cons, List.getElem?_cons_succ] at h ⊢
      exact ih h
end
def wv : Option Int → V
  | none => .non
  | some w => .int w
def tv (l : Ln.Let) : List V := [.int l.1, .int l.2.1, wv l.2.2]
def pv2 (p : Int × Int) : List V := [.int p.1, .int p.2]
/-- comings that are right -/
def Rt (k : Int) (cs : List Int) : Prop := cs.length ≤ 400 ∧ ∀ c ∈ cs, 0 ≤ c ∧ c ≤ k
theorem Rt.four {k : Int} {cs : List Int} (h : Rt k cs) (hk : k ≤ 4) : ∀ c ∈ cs, c ≤ 4 := fun c hc => by
  have := h.2 c hc
  omega
theorem Rt.all {k : Int} {cs : List Int} (h : Rt k cs) : (cs.all fun n => decide (0 ≤ n) && decide (n ≤ k)) = true := by
  rw [List.all_eq_true]
  intro n hn
  have := h.2 n hn
  rw [Bool.and_eq_true]
  exact ⟨decide_eq_true this.1, decide_eq_true this.2⟩
/-! ### the checks -/
section
variable {P : Program} {w : World} {K : PySem.W.Frag} {mg : Str → Option Value} {base : Heap}
def spIsComings (K : PySem.W.Frag) : Sp := fun vs H Q _ => ∃ (a : Addr) (cs : List Int) (k : Int), vs = [.int k, .ref a] ∧ SqT K H a (cs.map V.int) ∧ Rt k cs ∧ ∀ H', Same H H' → Q (.bl true) H'
theorem ok_is_comings (T : Tx K mg) : FnOk P w K mg base CX0 4 T.a_is_comings T.d_is_comings ["comers", "thing"] (spIsComings K) := by
  refine T.F_is_comings.ok sc_is_comings (fun vs H Q E h => ?_) (fun cdv A outer s H vs Q E hr h => ?_)
  · obtain ⟨a, cs, k, rfl, _⟩ := h
    rfl
  · obtain ⟨a, cs, k, rfl, hT, g, q⟩ := h
    refine ⟨_, ((pss_one (ps_ret (pe_and (pe_callB call_isi (by rfl) T.m_isinstance (by decide +kernel) (pa_cons (pv 1) (pa_cons (pe_bltn (v := .ty "tuple") (by rfl) T.m_tuple (by decide +kernel) rfl) pa_nil))) (pe_and (pe_cmpR op_le (pe_callB call_len_seq (by rfl) T.m_len PySem.boot_len (pa_cons (pv 1) pa_nil)) (pe_glob (v := .int 400) rfl T.g_MOST_TICKS ⟨_, rfl⟩) (nomark _)) (pe_one (pe_call (ok_are_numbers T) (hr.mono (by decide)) (by rfl) T.g_are_numbers T.F_are_numbers.kp T.b_are_numbers .nil pass0 (pa_cons (pv 1) (pa_cons pe_int (pa_cons (pv 0) pa_nil)))))))))), ?_⟩
    refine ⟨.ref a, rfl, .ref a, .ty "tuple", _, _, true, rfl, .ty _, tyTup hT, kit_ty (by decide +kernel), true, rfl, iteT ?_⟩
    have g1 := g.1
    refine ⟨.ref a, rfl, a, _, rfl, .inr hT, _, 400, rfl, rfl, true, ?_, iteT ?_⟩
    · show V.bl (decide (((cs.map V.int).length : Int) ≤ (400 : Int))) = V.bl true
      rw [List.length_map, decide_eq_true (by omega)]
    · refine ⟨.ref a, rfl, .int k, rfl, a, cs, 0, k, rfl, hT, by omega, fun H' sm => ?_⟩
      have e := g.all
      rw [e]
      exact q H' sm
def spChkComings (K : PySem.W.Frag) : Sp := fun vs H Q _ => ∃ (a : Addr) (cs : List Int) (k : Int), vs = [.int k, .ref a] ∧ SqT K H a (cs.map V.int) ∧ Rt k cs ∧ ∀ H', Same H H' → Q .non H'
theorem ok_check_comings (T : Tx K mg) : FnOk P w K mg base CX0 5 T.a_check_comings T.d_check_comings ["comers", "thing"] (spChkComings K) := by
  refine T.F_check_comings.ok sc_check_comings (fun vs H Q E h => ?_) (fun cdv A outer s H vs Q E hr h => ?_)
  · obtain ⟨a, cs, k, rfl, _⟩ := h
    rfl
  · obtain ⟨a, cs, k, rfl, hT, g, q⟩ := h
    refine ⟨_, ((pss_one (ps_if (pt_not (pt_val (pe_call (ok_is_comings T) (hr.mono (by decide)) (by rfl) T.g_is_comings T.F_is_comings.kp T.b_is_comings .nil pass0 (pa_cons (pv 0) (pa_cons (pv 1) pa_nil))))) (pss_one ps_never) pss_nil))), ?_⟩
    refine ⟨.int k, rfl, .ref a, rfl, a, cs, k, rfl, hT, g, fun H' sm => ⟨true, rfl, iteF ?_⟩⟩
    exact q H' sm
def spChkNum (lo hi : Int) (K : PySem.W.Frag) : Sp := fun vs H Q _ => ∃ k : Int, vs = [.int k] ∧ lo ≤ k ∧ k ≤ hi ∧ Q .non H
theorem ok_check_comers (T : Tx K mg) : FnOk P w K mg base CX0 3 T.a_check_comers T.d_check_comers ["thing"] (spChkNum 2 4 K) := by
  refine T.F_check_comers.ok sc_check_comers (fun vs H Q E h => ?_) (fun cdv A outer s H vs Q E hr h => ?_)
  · obtain ⟨k, rfl, _⟩ := h
    rfl
  · obtain ⟨k, rfl, h1, h2, q⟩ := h
    refine ⟨_, ((pss_one (ps_if (pt_not (pt_val (pe_call (ok_is_number T) (hr.mono (by decide)) (by rfl) T.g_is_number T.F_is_number.kp T.b_is_number .nil pass0 (pa_cons (pv 0) (pa_cons pe_int (pa_cons (pe_glob (v := .int 4) rfl T.g_MOST_COMERS ⟨_, rfl⟩) pa_nil)))))) (pss_one ps_never) pss_nil))), ?_⟩
    refine ⟨.int k, rfl, k, 2, 4, rfl, true, ?_, iteF ?_⟩
    · rw [decide_eq_true h1, decide_eq_true h2]
      rfl
    · exact q
theorem ok_check_bound (T : Tx K mg) : FnOk P w K mg base CX0 3 T.a_check_bound T.d_check_bound ["thing"] (spChkNum 1 60 K) := by
  refine T.F_check_bound.ok sc_check_bound (fun vs H Q E h => ?_) (fun cdv A outer s H vs Q E hr h => ?_)
  · obtain ⟨k, rfl, _⟩ := h
    rfl
  · obtain ⟨k, rfl, h1, h2, q⟩ := h
    refine ⟨_, ((pss_one (ps_if (pt_not (pt_val (pe_call (ok_is_number T) (hr.mono (by decide)) (by rfl) T.g_is_number T.F_is_number.kp T.b_is_number .nil pass0 (pa_cons (pv 0) (pa_cons pe_int (pa_cons (pe_glob (v := .int 60) rfl T.g_MOST_BOUND ⟨_, rfl⟩) pa_nil)))))) (pss_one ps_never) pss_nil))), ?_⟩
    refine ⟨.int k, rfl, k, 1, 60, rfl, true, ?_, iteF ?_⟩
    · rw [decide_eq_true h1, decide_eq_true h2]
      rfl
    · exact q
/-! ### the line -/
def spFollow (K : PySem.W.Frag) : Sp := fun vs H Q _ => ∃ (a : Addr) (cs : List Int) (b k : Int), vs = [.int b, .int 0, .ref a] ∧ SqT K H a (cs.map V.int) ∧ Rt k cs ∧ k ≤ 4 ∧ 0 ≤ b ∧
  ∀ L B p ps H', Same H H' → H L = none → H B = none → L ≠ B → H' L = some (.lst (ps.map V.ref)) → Tups tv H' ps (Ln.letts b cs) → H' B = some (.lst ((Ln.behind b cs cs.length).map V.int)) → H' p = some (.tup [.ref L, .ref B]) → Q (.ref p) H'
theorem ok_follow_line (T : Tx K mg) : FnOk P w K mg base CX0 1 T.a_follow_line T.d_follow_line ["bound", "line", "comings"] (spFollow K) := by
  refine T.F_follow_line.ok sc_follow_line (fun vs H Q E h => ?_) (fun cdv A outer s H vs Q E hr h => ?_)
  · obtain ⟨a, cs, b, k, rfl, _⟩ := h
    rfl
  · obtain ⟨a, cs, b, k, rfl, hT, g, hk, hb, q⟩ := h
    have g4 := g.four hk
    have g1 := g.1
    refine ⟨_, ((pss_cons (ps_set (i := 3) sc_follow_line.nd rfl (.inl rfl) (pe_lst pa_nil))
  (pss_cons (ps_set (i := 4) sc_follow_line.nd rfl (.inl rfl) (pe_lst pa_nil))
  (pss_cons (ps_for PassesOwn.never rfl (RR.pi_enumT (by rfl) T.m_enumerate (pa_cons (pv 2) pa_nil)) (pg_tup rfl (pgs_cons (pg_name (i := 5) sc_follow_line.nd rfl (.inl rfl)) (pgs_cons (pg_name (i := 6) sc_follow_line.nd rfl (.inl rfl)) pgs_nil)))
   (pss_cons (ps_for PassesOwn.never rfl (pi_range2 (by rfl) T.m_range (pa_cons pe_int (pa_cons (pe_op op_add (pv 6) pe_int) pa_nil))) (pg_name (i := 7) sc_follow_line.nd rfl (.inl rfl))
   (pss_one (ps_if (pt_cmpR op_gt (pv 1) (pv 0) (nomark _)) (pss_one (ps_expr (pe_bm PySem.F.plainAttrs_list PySem.F.slot_list_append PySem.F.type_list_append mt_append (pv 3) (pa_cons (pe_tup (pa_cons (pv 5) (pa_cons (pv 7) (pa_cons pe_non pa_nil)))) pa_nil)))) (pss_cons (ps_expr (pe_bm PySem.F.plainAttrs_list PySem.F.slot_list_append PySem.F.type_list_append mt_append (pv 3) (pa_cons (pe_tup (pa_cons (pv 5) (pa_cons (pv 7) (pa_cons (pv 1) pa_nil)))) pa_nil)))
  (pss_one (ps_aug (i := 1) sc_follow_line.nd rfl (.inl rfl) pe_int ip_add))))))
  (Evl.pss_cut (ps_if (pt_cmpR op_gt (pv 1) pe_int (nomark _)) (pss_one (ps_aug (i := 1) sc_follow_line.nd rfl (.inl rfl) pe_int ip_sub)) pss_nil)
  (pss_one (ps_expr (pe_bm PySem.F.plainAttrs_list PySem.F.slot_list_append PySem.F.type_list_append mt_append (pv 4) (pa_cons (pv 1) pa_nil)))))))
  (pss_one (ps_ret (pe_tup (pa_cons (pv 3) (pa_cons (pv 4) pa_nil))))))))), ?_⟩
    refine ⟨Nat.zero_le _, fun L nL => ⟨Nat.zero_le _, fun B nB => ?_⟩⟩
    have hBL : B ≠ L := fun e => by
      rw [e, upd_same] at nB
      cases nB
    have hHB : H B = none := Same.free (same_upd nL) nB
    have s2 : Same H (upd (upd H L (.lst [])) B (.lst [])) := (same_upd nL).trans (same_upd nB)
    refine ⟨.ref a, rfl, a, _, rfl, sT s2 hT, RR.for_enumT (K := K) (xs := cs.map V.int)
      (fun i σ H' => ∃ y5 y6 y7 ps, σ = [some (.int b), some (.int (Ln.pre b cs i).2), some (.ref a), some (.ref L), some (.ref B), y5, y6, y7] ∧ H' L = some (.lst (ps.map V.ref)) ∧ Tups tv H' ps (Ln.pre b cs i).1 ∧ H' B = some (.lst ((Ln.behind b cs i).map V.int)) ∧ Same H H')
      ⟨_, _, _, [], rfl, by rw [upd_ne hBL.symm, upd_same]; rfl, .nil, upd_same, s2⟩ (fun i σ H' _ h => ?_) (fun i x T σ H' hx h nT => ?_) (fun σ H' h => ?_)⟩
    · obtain ⟨_, _, _, _, _, _, _, _, sm⟩ := h
      exact sT sm hT
    · obtain ⟨y5, y6, y7, ps, rfl, eL, tu, eB, sm⟩ := h
      rw [List.getElem?_map] at hx
      obtain ⟨c, hc, rfl⟩ := Option.map_eq_some_iff.mp hx
      have bc := g.2 c (List.mem_of_getElem? hc)
      have ec := Ln.getD_of hc
      have hi : i < cs.length := (List.getElem?_eq_some_iff.mp hc).1
      have smT : Same H' (upd H' T (.tup [.int (i : Nat), .int c])) := same_upd nT
      refine ⟨T, _, rfl, SqT.of upd_same, rfl, _, [_], rfl, _, [], rfl, rfl, ?_⟩
      refine ⟨.int c, rfl, _, _, rfl, rfl, 1, c + 1, rfl, ⟨by omega, by omega, by omega, by omega⟩, for_range (lo := 1) (n := (c + 1 - 1).toNat)
        (fun j σ H2 => ∃ y7 ps, σ = [some (.int b), some (.int (Ln.turns b (i : Int) j (Ln.pre b cs i)).2), some (.ref a), some (.ref L), some (.ref B), some (.int (i : Nat)), some (.int c), y7] ∧ H2 L = some (.lst (ps.map V.ref)) ∧ Tups tv H2 ps (Ln.turns b (i : Int) j (Ln.pre b cs i)).1 ∧ H2 B = some (.lst ((Ln.behind b cs i).map V.int)) ∧ Same H H2)
        ⟨_, ps, rfl, smT _ _ eL, tu.new nT, smT _ _ eB, sm.trans smT⟩ (fun j σ H2 hj h => ?_) (fun σ H2 h => ?_)⟩
      · obtain ⟨y7, ps, rfl, eL, tu, eB, sm⟩ := h
        have zl : ps.length ≤ 1640 := by
          rw [tu.length, Ln.turns_len]
          have := Ln.pre_len (b := b) g4 i
          omega
        refine ⟨_, rfl, _, rfl, _, _, rfl, rfl, _, rfl, ite2 (fun h1 => ?_) (fun h1 => ?_)⟩
        · have hb1 : (Ln.turns b (i : Int) j (Ln.pre b cs i)).2 > b := of_decide_eq_true h1
          have es : Ln.turns b (i : Int) (j + 1) (Ln.pre b cs i) = ((Ln.turns b (i : Int) j (Ln.pre b cs i)).1 ++ [((i : Int), 1 + (j : Int), none)], (Ln.turns b (i : Int) j (Ln.pre b cs i)).2) := if_pos hb1
          refine ⟨.ref L, rfl, .inl ⟨rfl, _, SqL.of eL⟩, _, rfl, _, rfl, by show 3 ≤ sizeLine; decide, fun p np => ?_⟩
          have s3 := same_upd (o := .tup (tv ((i : Int), 1 + (j : Int), none))) np
          refine ⟨L, _, _, rfl, rfl, s3 _ _ eL, by rw [List.length_map]; exact small2000 (by omega), ?_⟩
          refine ⟨_, ps ++ [p], by rw [es]; rfl, by rw [upd_same, List.map_append]; rfl, ?_, ?_, fun b o e => ?_⟩
          · rw [es]
            exact ((tu.new np).snoc (x := ((i : Int), 1 + (j : Int), none)) upd_same).put (s3 _ _ eL)
          · rw [upd_ne hBL]
            exact s3 _ _ eB
          · rw [upd_ne (ne_of_none e nL)]
            exact s3 _ _ (sm _ _ e)
        · have hb1 : ¬ (Ln.turns b (i : Int) j (Ln.pre b cs i)).2 > b := fun z => h1 (decide_eq_true z)
          have es : Ln.turns b (i : Int) (j + 1) (Ln.pre b cs i) = ((Ln.turns b (i : Int) j (Ln.pre b cs i)).1 ++ [((i : Int), 1 + (j : Int), some (Ln.turns b (i : Int) j (Ln.pre b cs i)).2)], (Ln.turns b (i : Int) j (Ln.pre b cs i)).2 + 1) := if_neg hb1
          refine ⟨.ref L, rfl, .inl ⟨rfl, _, SqL.of eL⟩, _, rfl, _, rfl, _, rfl, by show 3 ≤ sizeLine; decide, fun p np => ?_⟩
          have s3 := same_upd (o := .tup (tv ((i : Int), 1 + (j : Int), some (Ln.turns b (i : Int) j (Ln.pre b cs i)).2))) np
          refine ⟨L, _, _, rfl, rfl, s3 _ _ eL, by rw [List.length_map]; exact small2000 (by omega), ?_⟩
          refine ⟨_, rfl, _, _, rfl, rfl, ?_⟩
          refine ⟨_, ps ++ [p], by rw [es]; rfl, by rw [upd_same, List.map_append]; rfl, ?_, ?_, fun b o e => ?_⟩
          · rw [es]
            exact ((tu.new np).snoc (x := ((i : Int), 1 + (j : Int), some (Ln.turns b (i : Int) j (Ln.pre b cs i)).2)) upd_same).put (s3 _ _ eL)
          · rw [upd_ne hBL]
            exact s3 _ _ eB
          · rw [upd_ne (ne_of_none e nL)]
            exact s3 _ _ (sm _ _ e)
      · obtain ⟨y7, ps, rfl, eL, tu, eB, sm⟩ := h
        have en : (c + 1 - 1).toNat = (cs.getD i 0).toNat := by
          rw [ec]
          omega
        rw [en] at tu ⊢
        refine ⟨fun σ' H3 => ∃ y7, σ' = [some (.int b), some (.int (Ln.pre b cs (i + 1)).2), some (.ref a), some (.ref L), some (.ref B), some (.int (i : Nat)), some (.int c), y7] ∧ H3 = H2, ?_, fun σ' H3 hm => ?_⟩
        · refine ⟨_, rfl, _, _, rfl, rfl, _, rfl, ite2 (fun h1 => ?_) (fun h1 => ?_)⟩
          · refine ⟨_, rfl, _, _, rfl, rfl, ?_⟩
            refine ⟨y7, ?_, rfl⟩
            have e : (Ln.pre b cs (i + 1)).2 = (Ln.turns b (i : Int) (cs.getD i 0).toNat (Ln.pre b cs i)).2 - 1 := if_pos (of_decide_eq_true h1)
            rw [e]
            rfl
          · refine ⟨y7, ?_, rfl⟩
            have e : (Ln.pre b cs (i + 1)).2 = (Ln.turns b (i : Int) (cs.getD i 0).toNat (Ln.pre b cs i)).2 := if_neg (fun z => h1 (decide_eq_true z))
            rw [e]
        · obtain ⟨y7, rfl, rfl⟩ := hm
          refine ⟨.ref B, rfl, .inl ⟨rfl, _, SqL.of eB⟩, _, rfl, B, _, _, rfl, rfl, eB, by rw [List.length_map, Ln.behind_len]; exact small1000 (by omega), ?_⟩
          refine ⟨_, _, _, ps, rfl, by rw [upd_ne hBL.symm]; exact eL, tu.put eB, ?_, fun b o e => ?_⟩
          · rw [upd_same]
            show _ = some (HO.lst ((Ln.behind b cs i ++ [(Ln.pre b cs (i + 1)).2]).map V.int))
            rw [List.map_append]
            rfl
          · rw [upd_ne (ne_of_none e hHB)]
            exact sm _ _ e
    · obtain ⟨y5, y6, y7, ps, rfl, eL, tu, eB, sm⟩ := h
      rw [List.length_map] at tu eB
      refine ⟨.ref L, rfl, .ref B, rfl, by show 2 ≤ sizeLine; decide, fun p np => ?_⟩
      have s3 := same_upd (o := .tup [.ref L, .ref B]) np
      exact q L B p ps _ (sm.trans s3) nL hHB hBL.symm (s3 _ _ eL) (tu.new np) (s3 _ _ eB) upd_same
def spLetters (K : PySem.W.Frag) : Sp := fun vs H Q _ => ∃ (a : Addr) (cs : List Int) (b k : Int), vs = [.int b, .ref a] ∧ SqT K H a (cs.map V.int) ∧ Rt k cs ∧ k ≤ 4 ∧ 0 ≤ b ∧
  ∀ L ps H', Same H H' → H L = none → H' L = some (.lst (ps.map V.ref)) → Tups tv H' ps (Ln.letts b cs) → Q (.ref L) H'
theorem ok_letters_of (T : Tx K mg) : FnOk P w K mg base CX0 2 T.a_letters_of T.d_letters_of ["bound", "comings"] (spLetters K) := by
  refine T.F_letters_of.ok sc_letters_of (fun vs H Q E h => ?_) (fun cdv A outer s H vs Q E hr h => ?_)
  · obtain ⟨a, cs, b, k, rfl, _⟩ := h
    rfl
  · obtain ⟨a, cs, b, k, rfl, hT, g, hk, hb, q⟩ := h
    refine ⟨_, ((pss_cons (ps_asg (pe_call (ok_follow_line T) (hr.mono (by decide)) (by rfl) T.g_follow_line T.F_follow_line.kp T.b_follow_line .nil pass0 (pa_cons (pv 0) (pa_cons pe_int (pa_cons (pv 1) pa_nil)))) (pg_tup rfl (pgs_cons (pg_name (i := 2) sc_letters_of.nd rfl (.inl rfl)) (pgs_cons (pg_name (i := 3) sc_letters_of.nd rfl (.inl rfl)) pgs_nil))))
  (pss_one (ps_ret (pv 2))))), ?_⟩
    refine ⟨.int b, rfl, .ref a, rfl, a, cs, b, k, rfl, hT, g, hk, hb, fun L B p ps H' sm nL nB hLB eL tu eB ep => ?_⟩
    refine ⟨p, _, rfl, SqT.of ep, rfl, _, [_], rfl, _, [], rfl, rfl, ?_⟩
    exact ⟨.ref L, rfl, q L ps H' sm nL eL tu⟩
end

section
variable {P : Program} {w : World} {K : PySem.W.Frag} {mg : Str → Option Value} {base : Heap}
theorem flat_one {α : Type} (n : Nat) (x : α) : (List.replicate n [x]).flatten = List.replicate n x := by
  induction n with
  | zero => rfl
  | succ n ih => rw [List.replicate_succ, List.flatten_cons, ih]; rfl
def spComes (K : PySem.W.Frag) : Sp := fun vs H Q _ => ∃ (a : Addr) (cs : List Int) (k : Int), vs = [.int k, .ref a] ∧ SqT K H a (cs.map V.int) ∧ Rt k cs ∧ 2 ≤ k ∧ k ≤ 4 ∧
  ∀ L H', Same H H' → H L = none → H' L = some (.lst ((Ln.ticksOf cs cs.length).map V.int)) → Q (.ref L) H'
theorem ok_comes (T : Tx K mg) : FnOk P w K mg base CX0 6 T.a_comes T.d_comes ["comers", "comings"] (spComes K) := by
  refine T.F_comes.ok sc_comes (fun vs H Q E h => ?_) (fun cdv A outer s H vs Q E hr h => ?_)
  · obtain ⟨a, cs, k, rfl, _⟩ := h
    rfl
  · obtain ⟨a, cs, k, rfl, hT0, g, hk2, hk, q⟩ := h
    have g4 := g.four hk
    have g1 := g.1
    refine ⟨_, ((pss_cons (ps_expr (pe_call (ok_check_comers T) (hr.mono (by decide)) (by rfl) T.g_check_comers T.F_check_comers.kp T.b_check_comers .nil pass0 (pa_cons (pv 0) pa_nil)))
  (pss_cons (ps_expr (pe_call (ok_check_comings T) (hr.mono (by decide)) (by rfl) T.g_check_comings T.F_check_comings.kp T.b_check_comings .nil pass0 (pa_cons (pv 0) (pa_cons (pv 1) pa_nil))))
  (pss_cons (ps_set (i := 2) sc_comes.nd rfl (.inl rfl) (pe_lst pa_nil))
  (pss_cons (ps_for PassesOwn.never rfl (RR.pi_enumT (by rfl) T.m_enumerate (pa_cons (pv 1) pa_nil)) (pg_tup rfl (pgs_cons (pg_name (i := 3) sc_comes.nd rfl (.inl rfl)) (pgs_cons (pg_name (i := 4) sc_comes.nd rfl (.inl rfl)) pgs_nil)))
   (pss_one (ps_expr (pe_bm PySem.F.plainAttrs_list PySem.F.slot_list_extend PySem.F.type_list_extend mt_extend (pv 2) (pa_cons (pe_op op_rep (pe_lst (pa_cons (pv 3) pa_nil)) (pv 4)) pa_nil)))))
  (pss_one (ps_ret (pv 2)))))))), ?_⟩
    refine ⟨.int k, rfl, k, rfl, hk2, hk, ?_⟩
    refine ⟨.int k, rfl, .ref a, rfl, a, cs, k, rfl, hT0, g, fun H0 s0 => ?_⟩
    have hT := sT s0 hT0
    refine ⟨Nat.zero_le _, fun L nL => ?_⟩
    have s1 := same_upd (o := .lst []) nL
    refine ⟨.ref a, rfl, a, _, rfl, sT s1 hT, RR.for_enumT (K := K) (xs := cs.map V.int)
      (fun i σ H' => ∃ y3 y4, σ = [some (.int k), some (.ref a), some (.ref L), y3, y4] ∧ H' L = some (.lst ((Ln.ticksOf cs i).map V.int)) ∧ Same H0 H')
      ⟨_, _, rfl, upd_same, s1⟩ (fun i σ H' _ h => ?_) (fun i x T σ H' hx h nT => ?_) (fun σ H' h => ?_)⟩
    · obtain ⟨_, _, _, _, sm⟩ := h
      exact sT sm hT
    · obtain ⟨y3, y4, rfl, eL, sm⟩ := h
      rw [List.getElem?_map] at hx
      obtain ⟨c, hc, rfl⟩ := Option.map_eq_some_iff.mp hx
      have bc := g.2 c (List.mem_of_getElem? hc)
      have ec := Ln.getD_of hc
      have hi : i < cs.length := (List.getElem?_eq_some_iff.mp hc).1
      have zl := Ln.ticks_len g4 i
      have smT : Same H' (upd H' T (.tup [.int (i : Nat), .int c])) := same_upd nT
      refine ⟨T, _, rfl, SqT.of upd_same, rfl, _, [_], rfl, _, [], rfl, rfl, ?_⟩
      have e1 := smT _ _ eL
      refine ⟨.ref L, rfl, .inl ⟨rfl, _, SqL.of e1⟩, _, rfl, by show 1 ≤ sizeLine; decide, fun l nl => ?_⟩
      have s2 := same_upd (o := .lst [V.int (i : Nat)]) nl
      refine ⟨_, rfl, l, c, _, rfl, rfl, upd_same, by omega, by omega, ?_, fun p np => ?_⟩
      · show 1 * c.toNat ≤ 2 ^ 24
        omega
      · have s3 := same_upd (o := .lst (List.replicate c.toNat [V.int (i : Nat)]).flatten) np
        refine ⟨L, p, _, _, rfl, rfl, s3 _ _ (s2 _ _ e1), upd_same, ?_, ?_⟩
        · rw [flat_one, List.length_map, List.length_replicate]
          show _ ≤ 2 ^ 24
          omega
        · refine ⟨_, _, rfl, ?_, fun b o e => ?_⟩
          · rw [upd_same, flat_one]
            show _ = some (HO.lst ((Ln.ticksOf cs i ++ List.replicate (cs.getD i 0).toNat (i : Int)).map V.int))
            rw [List.map_append, List.map_replicate, ec]
          · rw [upd_ne (ne_of_none e nL)]
            exact s3 _ _ (s2 _ _ (smT _ _ (sm _ _ e)))
    · obtain ⟨y3, y4, rfl, eL, sm⟩ := h
      rw [List.length_map] at eL
      exact ⟨.ref L, rfl, q L H' (s0.trans sm) (Same.free s0 nL) eL⟩
def spWaits (K : PySem.W.Frag) : Sp := fun vs H Q _ => ∃ (a : Addr) (cs : List Int) (k b : Int), vs = [.int k, .int b, .ref a] ∧ SqT K H a (cs.map V.int) ∧ Rt k cs ∧ 2 ≤ k ∧ k ≤ 4 ∧ 1 ≤ b ∧ b ≤ 60 ∧
  ∀ L H', Same H H' → H L = none → H' L = some (.lst ((Ln.letts b cs).map fun l => wv l.2.2)) → Q (.ref L) H'
theorem letts_len {b : Int} {cs : List Int} (g4 : ∀ c ∈ cs, c ≤ 4) (g1 : cs.length ≤ 400) : (Ln.letts b cs).length ≤ 1600 := by
  have := Ln.pre_len (b := b) g4 cs.length
  unfold Ln.letts
  omega
theorem ok_waits (T : Tx K mg) : FnOk P w K mg base CX0 6 T.a_waits T.d_waits ["comers", "bound", "comings"] (spWaits K) := by
  refine T.F_waits.ok sc_waits (fun vs H Q E h => ?_) (fun cdv A outer s H vs Q E hr h => ?_)
  · obtain ⟨a, cs, k, b, rfl, _⟩ := h
    rfl
  · obtain ⟨a, cs, k, b, rfl, hT0, g, hk2, hk, hb1, hb2, q⟩ := h
    have g4 := g.four hk
    have zl := letts_len (b := b) g4 g.1
    refine ⟨_, ((pss_cons (ps_expr (pe_call (ok_check_comers T) (hr.mono (by decide)) (by rfl) T.g_check_comers T.F_check_comers.kp T.b_check_comers .nil pass0 (pa_cons (pv 0) pa_nil)))
  (pss_cons (ps_expr (pe_call (ok_check_bound T) (hr.mono (by decide)) (by rfl) T.g_check_bound T.F_check_bound.kp T.b_check_bound .nil pass0 (pa_cons (pv 1) pa_nil)))
  (pss_cons (ps_expr (pe_call (ok_check_comings T) (hr.mono (by decide)) (by rfl) T.g_check_comings T.F_check_comings.kp T.b_check_comings .nil pass0 (pa_cons (pv 0) (pa_cons (pv 2) pa_nil))))
  (pss_one (ps_ret (pe_lc (own := [("tick", 3), ("turn", 4), ("wait", 5)]) (g := (gTup K 3 (gCons (gName 3) (gCons (gName 4) (gCons (gName 5) gNil))))) (tt := tYes) rfl sc_waits.nd (pi_list (pe_call (ok_letters_of T) (hr.mono (by decide)) (by rfl) T.g_letters_of T.F_letters_of.kp T.b_letters_of .nil pass0 (pa_cons (pv 1) (pa_cons (pv 2) pa_nil)))) (blkOk_by (own := [("tick", 3), ("turn", 4), ("wait", 5)]) (N := ["comers", "bound", "comings", "tick", "turn", "wait"]) (sc := defScope s_waits) (by decide +kernel)) (fun _ _ _ _ _ => pg_tup rfl (pgs_cons (pg_name (i := 3) sc_waits.nd rfl (.inl rfl)) (pgs_cons (pg_name (i := 4) sc_waits.nd rfl (.inl rfl)) (pgs_cons (pg_name (i := 5) sc_waits.nd rfl (.inl rfl)) pgs_nil)))) (fun _ _ _ _ _ => pts_nil) (fun _ _ _ _ _ => (pv 5))))))))), ?_⟩
    refine ⟨.int k, rfl, k, rfl, hk2, hk, ?_⟩
    refine ⟨.int b, rfl, b, rfl, hb1, hb2, ?_⟩
    refine ⟨.int k, rfl, .ref a, rfl, a, cs, k, rfl, hT0, g, fun H0 s0 => ?_⟩
    have hT := sT s0 hT0
    refine ⟨.int b, rfl, .ref a, rfl, a, cs, b, k, rfl, hT, g, hk, by omega, fun L ps H1 s1 nL eL tu => ?_⟩
    refine ⟨L, rfl, ⟨_, SqL.of eL⟩, fun D hD => lc_list (K := K) (a := L) (xs := ps.map V.ref)
      (fun i H' => Same H1 H' ∧ H' D = some (.lst (((Ln.letts b cs).take i).map fun l => wv l.2.2)))
      ⟨same_upd hD, upd_same⟩ (fun i H' _ p => SqL.of (p.1 _ _ eL)) (fun i x H' hx p => ?_) (fun H' p => ?_)⟩
    · obtain ⟨sm, eD⟩ := p
      obtain ⟨r, l, rfl, hl, er⟩ := tu.get hx
      refine ⟨r, _, rfl, SqT.of (sm _ _ er), rfl, _, [_, _], rfl, _, [_], rfl, _, [], rfl, rfl, rfl, ?_⟩
      refine ⟨_, rfl, _, eD, ?_, fun b o e => ?_, ?_⟩
      · rw [List.length_map, List.length_take]
        exact small2000 (by omega)
      · rw [upd_ne (ne_of_none e hD)]
        exact sm _ _ e
      · rw [upd_same, List.take_add_one, hl, List.map_append]
        rfl
    · obtain ⟨sm, eD⟩ := p
      rw [List.length_map, tu.length, List.take_of_length_le (Nat.le_refl _)] at eD
      exact q D H' ((s0.trans s1).trans sm) (Same.free (s0.trans s1) hD) eD
def spLines (K : PySem.W.Frag) : Sp := fun vs H Q _ => ∃ (a : Addr) (cs : List Int) (k b : Int), vs = [.int k, .int b, .ref a] ∧ SqT K H a (cs.map V.int) ∧ Rt k cs ∧ 2 ≤ k ∧ k ≤ 4 ∧ 1 ≤ b ∧ b ≤ 60 ∧
  ∀ L H', Same H H' → H L = none → H' L = some (.lst ((Ln.behind b cs cs.length).map V.int)) → Q (.ref L) H'
theorem ok_lines (T : Tx K mg) : FnOk P w K mg base CX0 6 T.a_lines T.d_lines ["comers", "bound", "comings"] (spLines K) := by
  refine T.F_lines.ok sc_lines (fun vs H Q E h => ?_) (fun cdv A outer s H vs Q E hr h => ?_)
  · obtain ⟨a, cs, k, b, rfl, _⟩ := h
    rfl
  · obtain ⟨a, cs, k, b, rfl, hT0, g, hk2, hk, hb1, hb2, q⟩ := h
    refine ⟨_, ((pss_cons (ps_expr (pe_call (ok_check_comers T) (hr.mono (by decide)) (by rfl) T.g_check_comers T.F_check_comers.kp T.b_check_comers .nil pass0 (pa_cons (pv 0) pa_nil)))
  (pss_cons (ps_expr (pe_call (ok_check_bound T) (hr.mono (by decide)) (by rfl) T.g_check_bound T.F_check_bound.kp T.b_check_bound .nil pass0 (pa_cons (pv 1) pa_nil)))
  (pss_cons (ps_expr (pe_call (ok_check_comings T) (hr.mono (by decide)) (by rfl) T.g_check_comings T.F_check_comings.kp T.b_check_comings .nil pass0 (pa_cons (pv 0) (pa_cons (pv 2) pa_nil))))
  (pss_cons (ps_asg (pe_call (ok_follow_line T) (hr.mono (by decide)) (by rfl) T.g_follow_line T.F_follow_line.kp T.b_follow_line .nil pass0 (pa_cons (pv 1) (pa_cons pe_int (pa_cons (pv 2) pa_nil)))) (pg_tup rfl (pgs_cons (pg_name (i := 3) sc_lines.nd rfl (.inl rfl)) (pgs_cons (pg_name (i := 4) sc_lines.nd rfl (.inl rfl)) pgs_nil))))
  (pss_one (ps_ret (pv 4)))))))), ?_⟩
    refine ⟨.int k, rfl, k, rfl, hk2, hk, ?_⟩
    refine ⟨.int b, rfl, b, rfl, hb1, hb2, ?_⟩
    refine ⟨.int k, rfl, .ref a, rfl, a, cs, k, rfl, hT0, g, fun H0 s0 => ?_⟩
    have hT := sT s0 hT0
    refine ⟨.int b, rfl, .ref a, rfl, a, cs, b, k, rfl, hT, g, hk, by omega, fun L B p ps H' sm nL nB hLB eL tu eB ep => ?_⟩
    refine ⟨p, _, rfl, SqT.of ep, rfl, _, [_], rfl, _, [], rfl, rfl, ?_⟩
    exact ⟨.ref B, rfl, q B H' (s0.trans sm) (Same.free s0 nB) eB⟩
def spOuts (K : PySem.W.Frag) : Sp := fun vs H Q _ => ∃ (a : Addr) (cs : List Int) (k b : Int), vs = [.int k, .int b, .ref a] ∧ SqT K H a (cs.map V.int) ∧ Rt k cs ∧ 2 ≤ k ∧ k ≤ 4 ∧ 1 ≤ b ∧ b ≤ 60 ∧
  ∀ L ps H', Same H H' → H L = none → H' L = some (.lst (ps.map V.ref)) → Tups pv2 H' ps (Ln.outsFrom 0 (Ln.letts b cs)) → Q (.ref L) H'
theorem take_snoc {α : Type} {l : List α} {i : Nat} {x : α} (h : l[i]? = some x) : l.take (i + 1) = l.take i ++ [x] := by
  rw [List.take_add_one, h]
  rfl
theorem ok_outs (T : Tx K mg) : FnOk P w K mg base CX0 6 T.a_outs T.d_outs ["comers", "bound", "comings"] (spOuts K) := by
  refine T.F_outs.ok sc_outs (fun vs H Q E h => ?_) (fun cdv A outer s H vs Q E hr h => ?_)
  · obtain ⟨a, cs, k, b, rfl, _⟩ := h
    rfl
  · obtain ⟨a, cs, k, b, rfl, hT0, g, hk2, hk, hb1, hb2, q⟩ := h
    have g4 := g.four hk
    have zl := letts_len (b := b) g4 g.1
    refine ⟨_, ((pss_cons (ps_expr (pe_call (ok_check_comers T) (hr.mono (by decide)) (by rfl) T.g_check_comers T.F_check_comers.kp T.b_check_comers .nil pass0 (pa_cons (pv 0) pa_nil)))
  (pss_cons (ps_expr (pe_call (ok_check_bound T) (hr.mono (by decide)) (by rfl) T.g_check_bound T.F_check_bound.kp T.b_check_bound .nil pass0 (pa_cons (pv 1) pa_nil)))
  (pss_cons (ps_expr (pe_call (ok_check_comings T) (hr.mono (by decide)) (by rfl) T.g_check_comings T.F_check_comings.kp T.b_check_comings .nil pass0 (pa_cons (pv 0) (pa_cons (pv 2) pa_nil))))
  (pss_cons (ps_set (i := 3) sc_outs.nd rfl (.inl rfl) (pe_lst pa_nil))
  (pss_cons (ps_for PassesOwn.never rfl (pi_enum (by rfl) T.m_enumerate (pa_cons (pe_call (ok_letters_of T) (hr.mono (by decide)) (by rfl) T.g_letters_of T.F_letters_of.kp T.b_letters_of .nil pass0 (pa_cons (pv 1) (pa_cons (pv 2) pa_nil))) pa_nil)) (pg_tup rfl (pgs_cons (pg_name (i := 4) sc_outs.nd rfl (.inl rfl)) (pgs_cons (pg_tup rfl (pgs_cons (pg_name (i := 5) sc_outs.nd rfl (.inl rfl)) (pgs_cons (pg_name (i := 6) sc_outs.nd rfl (.inl rfl)) (pgs_cons (pg_name (i := 7) sc_outs.nd rfl (.inl rfl)) pgs_nil)))) pgs_nil)))
   (pss_one (ps_if (pt_cmpR op_notN (pv 7) pe_non (nomark _)) (pss_one (ps_expr (pe_bm PySem.F.plainAttrs_list PySem.F.slot_list_append PySem.F.type_list_append mt_append (pv 3) (pa_cons (pe_tup (pa_cons (pe_op op_add (pv 5) (pv 7)) (pa_cons (pv 4) pa_nil))) pa_nil)))) pss_nil)))
  (pss_one (ps_ret (pv 3))))))))), ?_⟩
    refine ⟨.int k, rfl, k, rfl, hk2, hk, ?_⟩
    refine ⟨.int b, rfl, b, rfl, hb1, hb2, ?_⟩
    refine ⟨.int k, rfl, .ref a, rfl, a, cs, k, rfl, hT0, g, fun H0 s0 => ?_⟩
    have hT := sT s0 hT0
    refine ⟨Nat.zero_le _, fun D nD => ?_⟩
    have sD := same_upd (o := .lst []) nD
    refine ⟨.int b, rfl, .ref a, rfl, a, cs, b, k, rfl, sT sD hT, g, hk, by omega, fun L ps H1 s1 nL eL tu => ?_⟩
    have hLD : L ≠ D := fun e => by
      rw [e, upd_same] at nL
      cases nL
    refine ⟨L, _, rfl, SqL.of eL, RR.for_enumL (K := K) (xs := ps.map V.ref)
      (fun i σ H' => ∃ y4 y5 y6 y7 qs, σ = [some (.int k), some (.int b), some (.ref a), some (.ref D), y4, y5, y6, y7] ∧ H' D = some (.lst (qs.map V.ref)) ∧ Tups pv2 H' qs (Ln.outsFrom 0 ((Ln.letts b cs).take i)) ∧ H' L = some (.lst (ps.map V.ref)) ∧ Tups tv H' ps (Ln.letts b cs) ∧ Same H0 H')
      ⟨_, _, _, _, [], rfl, s1 _ _ upd_same, .nil, eL, tu, sD.trans s1⟩ (fun i σ H' _ h => ?_) (fun i x T σ H' hx h nT => ?_) (fun σ H' h => ?_)⟩
    · obtain ⟨_, _, _, _, _, _, _, _, e, _⟩ := h
      exact SqL.of e
    · obtain ⟨y4, y5, y6, y7, qs, rfl, eD, tq, eL', tu', sm⟩ := h
      obtain ⟨r, l, rfl, hl, er⟩ := tu'.get hx
      have hi : i < (Ln.letts b cs).length := (List.getElem?_eq_some_iff.mp hl).1
      have smT : Same H' (upd H' T (.tup [.int (i : Nat), .ref r])) := same_upd nT
      have et : (Ln.letts b cs).take (i + 1) = (Ln.letts b cs).take i ++ [l] := take_snoc hl
      have eo : Ln.outsFrom 0 ((Ln.letts b cs).take (i + 1)) = Ln.outsFrom 0 ((Ln.letts b cs).take i) ++ Ln.one l (i : Int) := by
        rw [et, Ln.outs_snoc, List.length_take, Int.zero_add, Nat.min_eq_left (by omega)]
      have zq : qs.length ≤ 1600 := by
        rw [tq.length]
        have := Ln.outs_len ((Ln.letts b cs).take i) 0
        rw [List.length_take] at this
        omega
      refine ⟨T, _, rfl, SqT.of upd_same, rfl, _, [_], rfl, _, [], rfl, r, _, rfl, SqT.of (smT _ _ er), rfl, _, [_, _], rfl, _, [_], rfl, _, [], rfl, rfl, rfl, ?_⟩
      obtain ⟨lt, lu, lw⟩ := l
      cases lw with
      | none =>
        refine ⟨.non, rfl, rfl, false, rfl, iteF ?_⟩
        refine ⟨_, _, _, _, qs, rfl, smT _ _ eD, ?_, smT _ _ eL', tu'.new nT, sm.trans smT⟩
        rw [eo]
        show Tups pv2 _ qs (_ ++ [])
        rw [List.append_nil]
        exact tq.new nT
      | some wt =>
        refine ⟨.int wt, rfl, rfl, true, rfl, iteT ?_⟩
        refine ⟨.ref D, rfl, .inl ⟨rfl, _, SqL.of (smT _ _ eD)⟩, _, rfl, _, rfl, lt, wt, rfl, rfl, _, rfl, by show 2 ≤ sizeLine; decide, fun p np => ?_⟩
        have s3 := same_upd (o := .tup (pv2 (lt + wt, (i : Int)))) np
        have eD3 := s3 _ _ (smT _ _ eD)
        refine ⟨D, _, _, rfl, rfl, eD3, by rw [List.length_map]; exact small2000 (by omega), ?_⟩
        refine ⟨_, _, _, _, qs ++ [p], rfl, by rw [upd_same, List.map_append]; rfl, ?_, ?_, ?_, fun b o e => ?_⟩
        · rw [eo]
          exact (((tq.new nT).new np).snoc (x := (lt + wt, (i : Int))) upd_same).put eD3
        · rw [upd_ne hLD]
          exact s3 _ _ (smT _ _ eL')
        · exact ((tu'.new nT).new np).put eD3
        · rw [upd_ne (ne_of_none e nD)]
          exact s3 _ _ (smT _ _ (sm _ _ e))
    · obtain ⟨y4, y5, y6, y7, qs, rfl, eD, tq, eL', tu', sm⟩ := h
      rw [List.length_map, tu.length, List.take_of_length_le (Nat.le_refl _)] at tq
      exact ⟨.ref D, rfl, q D qs H' (s0.trans sm) (Same.free s0 nD) eD tq⟩
end

/-! ### drawn comings; the law's own line -/
section
variable {P : Program} {w : World} {K : PySem.W.Frag} {mg : Str → Option Value} {base : Heap}
def spComings (K : PySem.W.Frag) : Sp := fun vs H Q _ => ∃ (t s : Addr) (k m : Int), vs = [.ref t, .int k, .int m] ∧ (1 ≤ k ∧ k ≤ 1000) ∧ (0 ≤ m ∧ m ≤ 1000) ∧ Tape H t s ∧
  ∀ a (cs : List Int) H', (cs.length : Int) ≤ m → (∀ c ∈ cs, 0 ≤ c ∧ c ≤ k) → a ≠ t → H a = none → Moved t H H' → Tape H' t s → H' a = some (.tup (cs.map V.int)) → Q (.ref a) H'
theorem all_snoc {k : Int} {cs : List Int} (h : ∀ c ∈ cs, 0 ≤ c ∧ c ≤ k) {x : Int} (h0 : 0 ≤ x) (h1 : x ≤ k) : ∀ c ∈ cs ++ [x], 0 ≤ c ∧ c ≤ k := fun c hc => by
  rcases List.mem_append.mp hc with hc | hc
  · exact h c hc
  · rw [List.mem_singleton.mp hc]
    exact ⟨h0, h1⟩
theorem ok__law_comings (T : Tx K mg) : FnOk P w K mg base CX0 2 T.a__law_comings T.d__law_comings ["tape", "comers", "most"] (spComings K) := by
  refine T.F__law_comings.ok sc__law_comings (fun vs H Q E h => ?_) (fun cdv A outer s H vs Q E hr h => ?_)
  · obtain ⟨t, sc, k, m, rfl, _⟩ := h
    rfl
  · obtain ⟨t, sc, k, m, rfl, hk, hm, tp, q⟩ := h
    refine ⟨_, ((pss_cons (ps_set (i := 3) sc__law_comings.nd rfl (.inl rfl) (pe_lst pa_nil))
  (pss_cons (ps_set (i := 4) sc__law_comings.nd rfl (.inl rfl) (pe_call (ok__law_pick T) (hr.mono (by decide)) (by rfl) T.g__law_pick T.F__law_pick.kp T.b__law_pick .nil pass0 (pa_cons (pv 0) (pa_cons pe_int pa_nil))))
  (pss_cons (ps_for PassesOwn.never rfl (pi_range1 (by rfl) T.m_range (pa_cons (pe_call (ok__law_pick T) (hr.mono (by decide)) (by rfl) T.g__law_pick T.F__law_pick.kp T.b__law_pick .nil pass0 (pa_cons (pv 0) (pa_cons (pe_op op_add (pv 2) pe_int) pa_nil))) pa_nil)) (pg_name (i := 5) sc__law_comings.nd rfl (.inl rfl))
   (pss_cons (ps_set (i := 6) sc__law_comings.nd rfl (.inl rfl) (pe_call (ok__law_pick T) (hr.mono (by decide)) (by rfl) T.g__law_pick T.F__law_pick.kp T.b__law_pick .nil pass0 (pa_cons (pv 0) (pa_cons (pe_op op_add (pv 1) pe_int) pa_nil))))
  (Evl.pss_cut (ps_if (PW.pt (pw_and (pt_cmpR op_eq (pv 4) pe_int (nomark _)) (pw_and1 (pt_cmpR op_eq (pe_call (ok__law_pick T) (hr.mono (by decide)) (by rfl) T.g__law_pick T.F__law_pick.kp T.b__law_pick .nil pass0 (pa_cons (pv 0) (pa_cons pe_int pa_nil))) pe_int (nomark _))))) (pss_one (ps_set (i := 6) sc__law_comings.nd rfl (.inl rfl) (pv 1))) pss_nil)
  (pss_one (ps_expr (pe_bm PySem.F.plainAttrs_list PySem.F.slot_list_append PySem.F.type_list_append mt_append (pv 3) (pa_cons (pv 6) pa_nil)))))))
  (pss_one (ps_ret (pe_callTy call_tuple_of (by rfl) T.m_tuple (by decide +kernel) (pa_cons (pv 3) pa_nil)))))))), ?_⟩
    refine ⟨Nat.zero_le _, fun L nL => ?_⟩
    have hLt : L ≠ t := tp.ne nL
    have hLs : L ≠ sc := tp.ne2 nL
    have tp0 := tp.keep (same_upd (o := .lst []) nL)
    have mv0 : Moved t H (upd H L (.lst [])) := Moved.same (same_upd nL)
    refine ⟨.ref t, rfl, t, sc, 3, rfl, ⟨by decide, by decide⟩, tp0, fun gr H1 hg0 hg3 mv1 tp1 => ?_⟩
    refine ⟨.ref t, rfl, .int m, rfl, _, _, rfl, rfl, t, sc, m + 1, rfl, ⟨by omega, by omega⟩, tp1, fun n H2 hn0 hn1 mv2 tp2 => ?_⟩
    refine ⟨n, rfl, by omega, by omega, for_range (lo := 0) (n := n.toNat)
      (fun i σ H' => ∃ y5 y6 cs, σ = [some (.ref t), some (.int k), some (.int m), some (.ref L), some (.int gr), y5, y6] ∧ H' L = some (.lst (cs.map V.int)) ∧ cs.length = i ∧ (∀ c ∈ cs, 0 ≤ c ∧ c ≤ k) ∧ (∀ b o, b ≠ t → b ≠ L → H b = some o → H' b = some o) ∧ Tape H' t sc)
      ⟨_, _, [], rfl, mv2 _ _ hLt (mv1 _ _ hLt upd_same), rfl, fun _ h => by simp at h, fun b o n1 n2 e => mv2 b o n1 (mv1 b o n1 (mv0 b o n1 e)), tp2⟩ (fun i σ H' hi h => ?_) (fun σ H' h => ?_)⟩
    · obtain ⟨y5, y6, cs, rfl, eL, el, hc, kp, tp'⟩ := h
      refine ⟨.ref t, rfl, .int k, rfl, _, _, rfl, rfl, t, sc, k + 1, rfl, ⟨by omega, by omega⟩, tp', fun x H3 hx0 hx1 mv3 tp3 => ?_⟩
      refine ⟨fun σ' H4 => ∃ z y5, σ' = [some (.ref t), some (.int k), some (.int m), some (.ref L), some (.int gr), y5, some (.int z)] ∧ 0 ≤ z ∧ z ≤ k ∧ Moved t H3 H4 ∧ Tape H4 t sc, ?_, fun σ' H4 hm => ?_⟩
      · refine ⟨.int gr, rfl, rfl, _, rfl, ite2 (fun c1 => ?_) (fun c1 => ?_)⟩
        · refine ⟨.ref t, rfl, t, sc, 2, rfl, ⟨by decide, by decide⟩, tp3, fun x2 H4 _ _ mv4 tp4 => ?_⟩
          by_cases c2 : V.int x2 = V.int 0
          · refine ⟨rfl, true, congrArg V.bl (decide_eq_true c2), iteT ?_⟩
            exact ⟨.int k, rfl, k, _, rfl, by omega, Int.le_refl _, mv4, tp4⟩
          · refine ⟨rfl, false, congrArg V.bl (decide_eq_false c2), iteF ?_⟩
            exact ⟨x, _, rfl, hx0, by omega, mv4, tp4⟩
        · exact ⟨x, _, rfl, hx0, by omega, Moved.refl, tp3⟩
      · obtain ⟨z, y5, rfl, hz0, hz1, mv4, tp4⟩ := hm
        have eL4 : H4 L = some (.lst (cs.map V.int)) := mv4 L _ hLt (mv3 L _ hLt eL)
        refine ⟨.ref L, rfl, .inl ⟨rfl, _, SqL.of eL4⟩, _, rfl, L, _, _, rfl, rfl, eL4, by rw [List.length_map]; exact small1000 (by omega), ?_⟩
        refine ⟨_, _, cs ++ [z], rfl, by rw [upd_same, List.map_append]; rfl, by rw [List.length_append, el]; rfl, all_snoc hc hz0 hz1, fun b o n1 n2 e => ?_, tp4.but hLt hLs⟩
        rw [upd_ne n2]
        exact mv4 b o n1 (mv3 b o n1 (kp b o n1 n2 e))
    · obtain ⟨y5, y6, cs, rfl, eL, el, hc, kp, tp'⟩ := h
      refine ⟨.ref L, rfl, L, _, rfl, .inl ⟨SqL.of eL, fun p np => ?_⟩⟩
      have hpt : p ≠ t := tp'.ne np
      have hpL : p ≠ L := fun e => by
        rw [e, eL] at np
        cases np
      have hHp : H p = none := by
        cases z : H p with
        | none => rfl
        | some o =>
          rw [kp p o hpt hpL z] at np
          cases np
      refine q p cs _ (by omega) hc hpt hHp (fun b o n1 e => ?_) (tp'.keep (same_upd np)) upd_same
      rw [upd_ne (ne_of_none e hHp)]
      exact kp b o n1 (ne_of_none e nL) e
end

theorem cut1 (xs : List V) : cutV xs (some 1) none = xs.drop 1 := by
  unfold cutV
  rw [show HT.sIx xs.length 0 (some 1) = min 1 xs.length from HT.sIx_nat xs.length 0 1, HT.sIx_none]
  cases xs with
  | nil => rfl
  | cons x r =>
    rw [show min 1 (x :: r).length = 1 by
      rw [List.length_cons]
      omega]
    show (List.take ((x :: r).length - 1) r) = r
    rw [List.length_cons, Nat.add_sub_cancel]
    exact List.take_length
/-- the law's lists at one time -/
structure LedH (H H' : Hp) (TK TO LN OU l : Addr) (tk : List Int) (to : List (Option Int)) (ln : List Int) (qs : List Addr) (prs : List (Int × Int)) (q : List Int) : Prop where
  tk : H' TK = some (.lst (tk.map V.int))
  to : H' TO = some (.lst (to.map wv))
  ln : H' LN = some (.lst (ln.map V.int))
  ou : H' OU = some (.lst (qs.map V.ref))
  li : H' l = some (.lst (q.map V.int))
  tu : Tups pv2 H' qs prs
  sm : Same H H'
  nl : H l = none
  d1 : l ≠ TK
  d2 : l ≠ TO
  d3 : l ≠ LN
  d4 : l ≠ OU
structure Four (H : Hp) (TK TO LN OU : Addr) : Prop where
  n1 : H TK = none
  n2 : H TO = none
  n3 : H LN = none
  n4 : H OU = none
  e1 : TK ≠ TO
  e2 : TK ≠ LN
  e3 : TK ≠ OU
  e4 : TO ≠ LN
  e5 : TO ≠ OU
  e6 : LN ≠ OU
section
variable {H H' : Hp} {TK TO LN OU l : Addr} {tk : List Int} {to : List (Option Int)} {ln : List Int} {qs : List Addr} {prs : List (Int × Int)} {q : List Int}
theorem same_put {p : Addr} {o : HO} (sm : Same H H') (n : H p = none) : Same H (upd H' p o) := fun b x e => (upd_ne (ne_of_none e n)).trans (sm b x e)
theorem LedH.put_tk (h : LedH H H' TK TO LN OU l tk to ln qs prs q) (D : Four H TK TO LN OU) (x : Int) : LedH H (upd H' TK (.lst (tk.map V.int ++ [V.int x]))) TK TO LN OU l (tk ++ [x]) to ln qs prs q := by
  obtain ⟨a1, a2, a3, a4, a5, tu, sm, nl, d1, d2, d3, d4⟩ := h
  obtain ⟨n1, n2, n3, n4, e1, e2, e3, e4, e5, e6⟩ := D
  exact ⟨by rw [upd_same, List.map_append]; rfl, by first | exact upd_same | (refine (upd_ne ?_).trans ?_ <;> first | assumption | exact Ne.symm (by assumption)), by first | exact upd_same | (refine (upd_ne ?_).trans ?_ <;> first | assumption | exact Ne.symm (by assumption)), by first | exact upd_same | (refine (upd_ne ?_).trans ?_ <;> first | assumption | exact Ne.symm (by assumption)), by first | exact upd_same | (refine (upd_ne ?_).trans ?_ <;> first | assumption | exact Ne.symm (by assumption)), tu.put a1, same_put sm n1, nl, d1, d2, d3, d4⟩
theorem LedH.put_to (h : LedH H H' TK TO LN OU l tk to ln qs prs q) (D : Four H TK TO LN OU) (x : Option Int) : LedH H (upd H' TO (.lst (to.map wv ++ [wv x]))) TK TO LN OU l tk (to ++ [x]) ln qs prs q := by
  obtain ⟨a1, a2, a3, a4, a5, tu, sm, nl, d1, d2, d3, d4⟩ := h
  obtain ⟨n1, n2, n3, n4, e1, e2, e3, e4, e5, e6⟩ := D
  exact ⟨by first | exact upd_same | (refine (upd_ne ?_).trans ?_ <;> first | assumption | exact Ne.symm (by assumption)), by rw [upd_same, List.map_append]; rfl, by first | exact upd_same | (refine (upd_ne ?_).trans ?_ <;> first | assumption | exact Ne.symm (by assumption)), by first | exact upd_same | (refine (upd_ne ?_).trans ?_ <;> first | assumption | exact Ne.symm (by assumption)), by first | exact upd_same | (refine (upd_ne ?_).trans ?_ <;> first | assumption | exact Ne.symm (by assumption)), tu.put a2, same_put sm n2, nl, d1, d2, d3, d4⟩
theorem LedH.put_ln (h : LedH H H' TK TO LN OU l tk to ln qs prs q) (D : Four H TK TO LN OU) (x : Int) : LedH H (upd H' LN (.lst (ln.map V.int ++ [V.int x]))) TK TO LN OU l tk to (ln ++ [x]) qs prs q := by
  obtain ⟨a1, a2, a3, a4, a5, tu, sm, nl, d1, d2, d3, d4⟩ := h
  obtain ⟨n1, n2, n3, n4, e1, e2, e3, e4, e5, e6⟩ := D
  exact ⟨by first | exact upd_same | (refine (upd_ne ?_).trans ?_ <;> first | assumption | exact Ne.symm (by assumption)), by first | exact upd_same | (refine (upd_ne ?_).trans ?_ <;> first | assumption | exact Ne.symm (by assumption)), by rw [upd_same, List.map_append]; rfl, by first | exact upd_same | (refine (upd_ne ?_).trans ?_ <;> first | assumption | exact Ne.symm (by assumption)), by first | exact upd_same | (refine (upd_ne ?_).trans ?_ <;> first | assumption | exact Ne.symm (by assumption)), tu.put a3, same_put sm n3, nl, d1, d2, d3, d4⟩
theorem LedH.put_li (h : LedH H H' TK TO LN OU l tk to ln qs prs q) (x : Int) : LedH H (upd H' l (.lst (q.map V.int ++ [V.int x]))) TK TO LN OU l tk to ln qs prs (q ++ [x]) := by
  obtain ⟨a1, a2, a3, a4, a5, tu, sm, nl, d1, d2, d3, d4⟩ := h
  exact ⟨by first | exact upd_same | (refine (upd_ne ?_).trans ?_ <;> first | assumption | exact Ne.symm (by assumption)), by first | exact upd_same | (refine (upd_ne ?_).trans ?_ <;> first | assumption | exact Ne.symm (by assumption)), by first | exact upd_same | (refine (upd_ne ?_).trans ?_ <;> first | assumption | exact Ne.symm (by assumption)), by first | exact upd_same | (refine (upd_ne ?_).trans ?_ <;> first | assumption | exact Ne.symm (by assumption)), by rw [upd_same, List.map_append]; rfl, tu.put a5, same_put sm nl, nl, d1, d2, d3, d4⟩
theorem LedH.put_ou (h : LedH H H' TK TO LN OU l tk to ln qs prs q) (D : Four H TK TO LN OU) {p : Addr} {x : Int × Int} (ep : H' p = some (.tup (pv2 x))) : LedH H (upd H' OU (.lst (qs.map V.ref ++ [V.ref p]))) TK TO LN OU l tk to ln (qs ++ [p]) (prs ++ [x]) q := by
  obtain ⟨a1, a2, a3, a4, a5, tu, sm, nl, d1, d2, d3, d4⟩ := h
  obtain ⟨n1, n2, n3, n4, e1, e2, e3, e4, e5, e6⟩ := D
  exact ⟨by first | exact upd_same | (refine (upd_ne ?_).trans ?_ <;> first | assumption | exact Ne.symm (by assumption)), by first | exact upd_same | (refine (upd_ne ?_).trans ?_ <;> first | assumption | exact Ne.symm (by assumption)), by first | exact upd_same | (refine (upd_ne ?_).trans ?_ <;> first | assumption | exact Ne.symm (by assumption)), by rw [upd_same, List.map_append]; rfl, by first | exact upd_same | (refine (upd_ne ?_).trans ?_ <;> first | assumption | exact Ne.symm (by assumption)), (tu.snoc ep).put a4, same_put sm n4, nl, d1, d2, d3, d4⟩
theorem LedH.new (h : LedH H H' TK TO LN OU l tk to ln qs prs q) {p : Addr} {o : HO} (np : H' p = none) : LedH H (upd H' p o) TK TO LN OU l tk to ln qs prs q := by
  obtain ⟨a1, a2, a3, a4, a5, tu, sm, nl, d1, d2, d3, d4⟩ := h
  have s := same_upd (o := o) np
  exact ⟨s _ _ a1, s _ _ a2, s _ _ a3, s _ _ a4, s _ _ a5, tu.new np, sm.trans s, nl, d1, d2, d3, d4⟩
theorem LedH.line (h : LedH H H' TK TO LN OU l tk to ln qs prs q) {p : Addr} {q' : List Int} (np : H' p = none) : LedH H (upd H' p (.lst (q'.map V.int))) TK TO LN OU p tk to ln qs prs q' := by
  have h2 := h.new (o := .lst (q'.map V.int)) np
  have e : ∀ {b o}, H' b = some o → p ≠ b := fun {b o} e z => by
    rw [← z, np] at e
    cases e
  exact ⟨h2.tk, h2.to, h2.ln, h2.ou, upd_same, h2.tu, h2.sm, Same.free h.sm np, e h.tk, e h.to, e h.ln, e h.ou⟩
end
section
variable {P : Program} {w : World} {K : PySem.W.Frag} {mg : Str → Option Value} {base : Heap}
def spLed (K : PySem.W.Frag) : Sp := fun vs H Q _ => ∃ (a : Addr) (cs : List Int) (b k : Int), vs = [.int b, .ref a] ∧ SqT K H a (cs.map V.int) ∧ Rt k cs ∧ k ≤ 4 ∧ 0 ≤ b ∧ b ≤ 60 ∧
  ∀ TK TO LN OU p qs H', Same H H' → Four H TK TO LN OU → H' TK = some (.lst (((Ln.letts b cs).map (·.1)).map V.int)) → H' TO = some (.lst (((Ln.letts b cs).map (·.2.2)).map wv)) →
    H' LN = some (.lst ((Ln.behind b cs cs.length).map V.int)) → H' OU = some (.lst (qs.map V.ref)) → Tups pv2 H' qs (Ln.outsFrom 0 (Ln.letts b cs)) → H' p = some (.tup [.ref TK, .ref TO, .ref LN, .ref OU]) → Q (.ref p) H'
theorem ok__law_led (T : Tx K mg) : FnOk P w K mg base CX0 1 T.a__law_led T.d__law_led ["bound", "comings"] (spLed K) := by
  refine T.F__law_led.ok sc__law_led (fun vs H Q E h => ?_) (fun cdv A outer s H vs Q E hr h => ?_)
  · obtain ⟨a, cs, b, k, rfl, _⟩ := h
    rfl
  · obtain ⟨a, cs, b, k, rfl, hT, g, hk, hb, hb6, q⟩ := h
    have g4 := g.four hk
    have g1 := g.1
    refine ⟨_, ((pss_cons (ps_set (i := 2) sc__law_led.nd rfl (.inl rfl) (pe_lst pa_nil))
  (pss_cons (ps_set (i := 3) sc__law_led.nd rfl (.inl rfl) (pe_lst pa_nil))
  (pss_cons (ps_set (i := 4) sc__law_led.nd rfl (.inl rfl) (pe_lst pa_nil))
  (pss_cons (ps_set (i := 5) sc__law_led.nd rfl (.inl rfl) (pe_lst pa_nil))
  (pss_cons (ps_set (i := 6) sc__law_led.nd rfl (.inl rfl) (pe_lst pa_nil))
  (pss_cons (ps_for PassesOwn.never rfl (pi_range1 (by rfl) T.m_range (pa_cons (pe_op op_add (pe_op op_add (pe_callB call_len_seq (by rfl) T.m_len PySem.boot_len (pa_cons (pv 1) pa_nil)) (pv 0)) pe_int) pa_nil)) (pg_name (i := 7) sc__law_led.nd rfl (.inl rfl))
   (pss_cons (ps_set (i := 8) sc__law_led.nd rfl (.inl rfl) pe_int)
  (Evl.pss_cut (ps_if (pt_cmpR op_lt (pv 7) (pe_callB call_len_seq (by rfl) T.m_len PySem.boot_len (pa_cons (pv 1) pa_nil)) (nomark _)) (pss_one (ps_set (i := 8) sc__law_led.nd rfl (.inl rfl) (pe_ix ix_tup (pv 1) (pv 7) (fun _ _ => rfl)))) pss_nil)
  (pss_cons (ps_for PassesOwn.never rfl (pi_range1 (by rfl) T.m_range (pa_cons (pv 8) pa_nil)) (pg_name (i := 9) sc__law_led.nd rfl (.inl rfl))
   (pss_cons (ps_expr (pe_bm PySem.F.plainAttrs_list PySem.F.slot_list_append PySem.F.type_list_append mt_append (pv 2) (pa_cons (pv 7) pa_nil)))
  (pss_one (ps_if (pt_cmpR op_gt (pe_callB call_len_seq (by rfl) T.m_len PySem.boot_len (pa_cons (pv 6) pa_nil)) (pv 0) (nomark _)) (pss_one (ps_expr (pe_bm PySem.F.plainAttrs_list PySem.F.slot_list_append PySem.F.type_list_append mt_append (pv 3) (pa_cons pe_non pa_nil)))) (pss_cons (ps_expr (pe_bm PySem.F.plainAttrs_list PySem.F.slot_list_append PySem.F.type_list_append mt_append (pv 3) (pa_cons (pe_callB call_len_seq (by rfl) T.m_len PySem.boot_len (pa_cons (pv 6) pa_nil)) pa_nil)))
  (pss_one (ps_expr (pe_bm PySem.F.plainAttrs_list PySem.F.slot_list_append PySem.F.type_list_append mt_append (pv 6) (pa_cons (pe_op op_sub (pe_callB call_len_seq (by rfl) T.m_len PySem.boot_len (pa_cons (pv 3) pa_nil)) pe_int) pa_nil)))))))))
  (Evl.pss_cut (ps_if (pt_cmpR op_gt (pe_callB call_len_seq (by rfl) T.m_len PySem.boot_len (pa_cons (pv 6) pa_nil)) pe_int (nomark _)) (pss_cons (ps_expr (pe_bm PySem.F.plainAttrs_list PySem.F.slot_list_append PySem.F.type_list_append mt_append (pv 5) (pa_cons (pe_tup (pa_cons (pv 7) (pa_cons (pe_ix ix_list (pv 6) pe_int (fun _ _ => rfl)) pa_nil))) pa_nil)))
  (pss_one (ps_set (i := 6) sc__law_led.nd rfl (.inl rfl) (pe_slice sl_list (pv 6) (po_some pe_int) po_none)))) pss_nil)
  (pss_one (ps_if (pt_cmpR op_lt (pv 7) (pe_callB call_len_seq (by rfl) T.m_len PySem.boot_len (pa_cons (pv 1) pa_nil)) (nomark _)) (pss_one (ps_expr (pe_bm PySem.F.plainAttrs_list PySem.F.slot_list_append PySem.F.type_list_append mt_append (pv 4) (pa_cons (pe_callB call_len_seq (by rfl) T.m_len PySem.boot_len (pa_cons (pv 6) pa_nil)) pa_nil)))) pss_nil)))))))
  (pss_one (ps_ret (pe_tup (pa_cons (pv 2) (pa_cons (pv 3) (pa_cons (pv 4) (pa_cons (pv 5) pa_nil)))))))))))))), ?_⟩
    refine ⟨Nat.zero_le _, fun TK n1 => ⟨Nat.zero_le _, fun TO n2 => ⟨Nat.zero_le _, fun LN n3 => ⟨Nat.zero_le _, fun OU n4 => ⟨Nat.zero_le _, fun l n5 => ?_⟩⟩⟩⟩⟩
    have s1 := same_upd (o := .lst []) n1
    have s2 := same_upd (o := .lst []) n2
    have s3 := same_upd (o := .lst []) n3
    have s4 := same_upd (o := .lst []) n4
    have s5 := same_upd (o := .lst []) n5
    have ne : ∀ {A B : Addr} {X : Hp} {o : HO}, X A = some o → X B = none → A ≠ B := fun h1 h2 z => by
      rw [z, h2] at h1
      cases h1
    have D : Four H TK TO LN OU := ⟨n1, Same.free s1 n2, Same.free (s1.trans s2) n3, Same.free ((s1.trans s2).trans s3) n4,
      ne (upd_same) n2, ne (s2 _ _ upd_same) n3, ne (s3 _ _ (s2 _ _ upd_same)) n4, ne (upd_same) n3, ne (s3 _ _ upd_same) n4, ne upd_same n4⟩
    have L0 : LedH H (upd (upd (upd (upd (upd H TK (.lst [])) TO (.lst [])) LN (.lst [])) OU (.lst [])) l (.lst [])) TK TO LN OU l [] [] [] [] [] [] :=
      ⟨s5 _ _ (s4 _ _ (s3 _ _ (s2 _ _ upd_same))), s5 _ _ (s4 _ _ (s3 _ _ upd_same)), s5 _ _ (s4 _ _ upd_same), s5 _ _ upd_same, upd_same, .nil, (((s1.trans s2).trans s3).trans s4).trans s5,
        Same.free (((s1.trans s2).trans s3).trans s4) n5, (ne (s4 _ _ (s3 _ _ (s2 _ _ upd_same))) n5).symm, (ne (s4 _ _ (s3 _ _ upd_same)) n5).symm, (ne (s4 _ _ upd_same) n5).symm, (ne upd_same n5).symm⟩
    refine ⟨.ref a, rfl, a, _, rfl, .inr (sT L0.sm hT), .int b, rfl, _, _, rfl, rfl, _, _, rfl, rfl, _, rfl, ?_, ?_, for_range (lo := 0) (n := (((cs.map V.int).length : Int) + b + 1).toNat)
      (fun i σ H' => ∃ y7 y8 y9 l qs prs qu, σ = [some (.int b), some (.ref a), some (.ref TK), some (.ref TO), some (.ref LN), some (.ref OU), some (.ref l), y7, y8, y9] ∧
        LedH H H' TK TO LN OU l ((Ln.pre b cs i).1.map (·.1)) ((Ln.pre b cs i).1.map (·.2.2)) (Ln.behind b cs (min i cs.length)) qs prs qu ∧ Ln.Led (i : Int) (Ln.pre b cs i) qu prs)
      ⟨_, _, _, l, [], [], [], rfl, by rw [Nat.zero_min]; exact L0, rfl, rfl⟩ (fun i σ H' hi h => ?_) (fun σ H' h => ?_)⟩
    · rw [List.length_map]
      omega
    · rw [List.length_map]
      omega
    · obtain ⟨y7, y8, y9, l, qs, prs, qu, rfl, LH, le⟩ := h
      rw [List.length_map] at hi
      rw [Int.zero_add]
      -- number = comings[tick], if any
      refine ⟨fun σ' H1 => ∃ y9, σ' = [some (.int b), some (.ref a), some (.ref TK), some (.ref TO), some (.ref LN), some (.ref OU), some (.ref l), some (.int (i : Int)), some (.int (cs.getD i 0)), y9] ∧ H1 = H', ?_, fun σ' H1 hm => ?_⟩
      · refine ⟨_, rfl, .ref a, rfl, a, _, rfl, .inr (sT LH.sm hT), _, _, rfl, rfl, _, rfl, ite2 (fun h1 => ?_) (fun h1 => ?_)⟩
        · have h2 := of_decide_eq_true h1
          rw [List.length_map] at h2
          have h3 : i < cs.length := by omega
          have gc : (cs.map V.int)[i]? = some (.int (cs.getD i 0)) := by
            rw [List.getElem?_map, List.getD_eq_getElem?_getD, List.getElem?_eq_getElem h3]
            rfl
          refine ⟨.ref a, rfl, .int (i : Int), rfl, a, _, _, _, rfl, rfl, sT LH.sm hT, atI_nat gc, ?_⟩
          exact ⟨y9, rfl, rfl⟩
        · have h3 : ¬ i < cs.length := fun z => h1 (decide_eq_true (by
            rw [List.length_map]
            omega))
          refine ⟨y9, ?_, rfl⟩
          rw [Ln.getD_past (by omega)]
          rfl
      · obtain ⟨y9, rfl, rfl⟩ := hm
        have hc : 0 ≤ cs.getD i 0 ∧ cs.getD i 0 ≤ 4 := by
          rw [List.getD_eq_getElem?_getD]
          cases h : cs[i]? with
          | none => exact ⟨by decide, by decide⟩
          | some c => exact ⟨(g.2 c (List.mem_of_getElem? h)).1, g4 c (List.mem_of_getElem? h)⟩
        have zp := Ln.pre_len (b := b) g4 i
        refine ⟨.int _, rfl, _, rfl, by omega, by omega, for_range (lo := 0) (n := (cs.getD i 0).toNat)
          (fun j σ H2 => ∃ y9 qu, σ = [some (.int b), some (.ref a), some (.ref TK), some (.ref TO), some (.ref LN), some (.ref OU), some (.ref l), some (.int (i : Int)), some (.int (cs.getD i 0)), y9] ∧
            LedH H H2 TK TO LN OU l ((Ln.turns b (i : Int) j (Ln.pre b cs i)).1.map (·.1)) ((Ln.turns b (i : Int) j (Ln.pre b cs i)).1.map (·.2.2)) (Ln.behind b cs (min i cs.length)) qs prs qu ∧ Ln.Led (i : Int) (Ln.turns b (i : Int) j (Ln.pre b cs i)) qu prs)
          ⟨y9, qu, rfl, LH, le⟩ (fun j σ H2 hj h => ?_) (fun σ H2 h => ?_)⟩
        · obtain ⟨y9, qu, rfl, LH, le⟩ := h
          have zt := Ln.turns_len b (i : Int) j (Ln.pre b cs i)
          have ztr := Ln.turns_rng (b := b) (τ := (i : Int)) j (Ln.pre b cs i) (Ln.pre_rng hb cs i).1 (by have := (Ln.pre_rng hb cs i).2; omega)
          have zq := le.1
          refine ⟨.ref TK, rfl, .inl ⟨rfl, _, SqL.of LH.tk⟩, _, rfl, TK, _, _, rfl, rfl, LH.tk, by rw [List.length_map, List.length_map]; exact small2000 (by omega), ?_⟩
          have L1 := LH.put_tk D (i : Int)
          refine ⟨.ref l, rfl, l, _, rfl, .inl (SqL.of L1.li), _, rfl, _, _, rfl, rfl, _, rfl, ite2 (fun h1 => ?_) (fun h1 => ?_)⟩
          · have h2 := of_decide_eq_true h1
            rw [List.length_map] at h2
            obtain ⟨le', es⟩ := le.no (u := 1 + (j : Int)) (b := b) (by omega)
            refine ⟨.ref TO, rfl, .inl ⟨rfl, _, SqL.of L1.to⟩, TO, _, _, rfl, rfl, L1.to, by rw [List.length_map, List.length_map]; exact small2000 (by omega), ?_⟩
            have L2 := L1.put_to D none
            refine ⟨_, qu, rfl, ?_, le'⟩
            show LedH H _ TK TO LN OU l ((Ln.step b (i : Int) (1 + (j : Int)) (Ln.turns b (i : Int) j (Ln.pre b cs i))).1.map (·.1)) ((Ln.step b (i : Int) (1 + (j : Int)) (Ln.turns b (i : Int) j (Ln.pre b cs i))).1.map (·.2.2)) _ qs prs qu
            rw [es, List.map_append, List.map_append]
            exact L2
          · have h2 : ¬ ((qu.map V.int).length : Int) > b := fun z => h1 (decide_eq_true z)
            rw [List.length_map] at h2
            obtain ⟨le', es⟩ := le.yes (u := 1 + (j : Int)) (b := b) (by omega)
            refine ⟨.ref TO, rfl, .inl ⟨rfl, _, SqL.of L1.to⟩, .ref l, rfl, l, _, rfl, .inl (SqL.of L1.li), TO, _, _, rfl, rfl, L1.to, by rw [List.length_map, List.length_map]; exact small2000 (by omega), ?_⟩
            have L2 := L1.put_to D (some ((qu.map V.int).length : Int))
            have zt2 : (((((Ln.turns b (i : Int) j (Ln.pre b cs i)).1.map (·.2.2)).map wv ++ [wv (some ((qu.map V.int).length : Int))]).length : Nat) : Int) - 1 = ((Ln.turns b (i : Int) j (Ln.pre b cs i)).1.length : Int) := by
              rw [List.length_append, List.length_map, List.length_map]
              show (((Ln.turns b (i : Int) j (Ln.pre b cs i)).1.length + 1 : Nat) : Int) - 1 = _
              omega
            have eTO : ∀ o, (upd (upd H2 TK o) TO (.lst (((Ln.turns b (i : Int) j (Ln.pre b cs i)).1.map (·.2.2)).map wv ++ [wv (some ((qu.map V.int).length : Int))]))) TO = some (.lst (((Ln.turns b (i : Int) j (Ln.pre b cs i)).1.map (·.2.2)).map wv ++ [wv (some ((qu.map V.int).length : Int))])) := fun o => upd_same
            refine ⟨.ref l, rfl, .inl ⟨rfl, _, SqL.of L2.li⟩, .ref TO, rfl, TO, _, rfl, .inl (SqL.of (eTO _)), _, _, rfl, rfl, l, _, _, rfl, rfl, L2.li, by rw [List.length_map]; exact small2000 (by omega), ?_⟩
            have L3 := L2.put_li ((((((Ln.turns b (i : Int) j (Ln.pre b cs i)).1.map (·.2.2)).map wv ++ [wv (some ((qu.map V.int).length : Int))]).length : Nat) : Int) - 1)
            refine ⟨_, qu ++ [((Ln.turns b (i : Int) j (Ln.pre b cs i)).1.length : Int)], rfl, ?_, le'⟩
            show LedH H _ TK TO LN OU l ((Ln.step b (i : Int) (1 + (j : Int)) (Ln.turns b (i : Int) j (Ln.pre b cs i))).1.map (·.1)) ((Ln.step b (i : Int) (1 + (j : Int)) (Ln.turns b (i : Int) j (Ln.pre b cs i))).1.map (·.2.2)) _ qs prs _
            rw [es, List.map_append, List.map_append]
            have ew : ((qu.map V.int).length : Int) = (Ln.turns b (i : Int) j (Ln.pre b cs i)).2 := by
              rw [List.length_map]
              exact le.1
            rw [← zt2]
            have L4 := L3
            rw [show ((Ln.turns b (i : Int) j (Ln.pre b cs i)).1.map (·.2.2)) ++ [some ((qu.map V.int).length : Int)] = ((Ln.turns b (i : Int) j (Ln.pre b cs i)).1.map (·.2.2)) ++ [some (Ln.turns b (i : Int) j (Ln.pre b cs i)).2] by rw [ew]] at L4
            exact L4
        · obtain ⟨y9, qu, rfl, LH, le⟩ := h
          have zt := Ln.turns_len b (i : Int) (cs.getD i 0).toNat (Ln.pre b cs i)
          have zq := le.1
          -- the first one goes out
          refine ⟨fun σ' H3 => ∃ l qs prs qu, σ' = [some (.int b), some (.ref a), some (.ref TK), some (.ref TO), some (.ref LN), some (.ref OU), some (.ref l), some (.int (i : Int)), some (.int (cs.getD i 0)), y9] ∧
            LedH H H3 TK TO LN OU l ((Ln.pre b cs (i + 1)).1.map (·.1)) ((Ln.pre b cs (i + 1)).1.map (·.2.2)) (Ln.behind b cs (min i cs.length)) qs prs qu ∧ Ln.Led ((i : Int) + 1) (Ln.pre b cs (i + 1)) qu prs, ?_, fun σ' H3 hm => ?_⟩
          · refine ⟨.ref l, rfl, l, _, rfl, .inl (SqL.of LH.li), _, _, rfl, rfl, _, rfl, ite2 (fun h1 => ?_) (fun h1 => ?_)⟩
            · have h2 := of_decide_eq_true h1
              cases qu with
              | nil => exact absurd h2 (by decide)
              | cons x r =>
                refine ⟨.ref OU, rfl, .inl ⟨rfl, _, SqL.of LH.ou⟩, _, rfl, .ref l, rfl, l, _, 0, _, rfl, rfl, SqL.of LH.li, atI_nat (j := 0) rfl, by show 2 ≤ sizeLine; decide, fun p np => ?_⟩
                have L1 := LH.new (o := .tup (pv2 ((i : Int), x))) np
                have zqs : qs.length ≤ 1900 := by
                  rw [LH.tu.length]
                  have e := congrArg List.length le.2
                  rw [List.length_append] at e
                  have := Ln.outs_len (Ln.turns b (i : Int) (cs.getD i 0).toNat (Ln.pre b cs i)).1 0
                  omega
                refine ⟨OU, _, _, rfl, rfl, L1.ou, by rw [List.length_map]; exact small2000 (by omega), ?_⟩
                have L2 := L1.put_ou D (x := ((i : Int), x)) upd_same
                refine ⟨.ref l, rfl, 1, rfl, l, _, rfl, SqL.of L2.li, fun l2 nl2 => ?_⟩
                have ec : cutV ((x :: r).map V.int) (some 1) none = r.map V.int := cut1 _
                rw [ec]
                have L3 := L2.line (q' := r) nl2
                refine ⟨l2, _, _, r, rfl, L3, ?_, ?_⟩
                · show (r.length : Int) = Ln.close (Ln.turns b (i : Int) (cs.getD i 0).toNat (Ln.pre b cs i)).2
                  rw [List.length_cons] at zq
                  unfold Ln.close
                  rw [if_pos (by omega)]
                  omega
                · exact Ln.Due.pop le.2
            · have h2 : ¬ ((qu.map V.int).length : Int) > 0 := fun z => h1 (decide_eq_true z)
              rw [List.length_map] at h2
              cases qu with
              | cons x r =>
                rw [List.length_cons] at h2
                exact absurd (by omega) h2
              | nil =>
                refine ⟨l, qs, prs, [], rfl, LH, ?_, ?_⟩
                · show ((0 : Nat) : Int) = Ln.close (Ln.turns b (i : Int) (cs.getD i 0).toNat (Ln.pre b cs i)).2
                  rw [← zq]
                  rfl
                · exact le.2
          · obtain ⟨l, qs, prs, qu, rfl, LH, le⟩ := hm
            refine ⟨_, rfl, .ref a, rfl, a, _, rfl, .inr (sT LH.sm hT), _, _, rfl, rfl, _, rfl, ite2 (fun h1 => ?_) (fun h1 => ?_)⟩
            · have h2 := of_decide_eq_true h1
              rw [List.length_map] at h2
              have h3 : i < cs.length := by omega
              refine ⟨.ref LN, rfl, .inl ⟨rfl, _, SqL.of LH.ln⟩, .ref l, rfl, l, _, rfl, .inl (SqL.of LH.li), LN, _, _, rfl, rfl, LH.ln, by rw [List.length_map, Ln.behind_len]; exact small1000 (by omega), ?_⟩
              have L1 := LH.put_ln D ((qu.map V.int).length : Int)
              refine ⟨_, _, _, l, qs, prs, qu, rfl, ?_, by rw [show ((i + 1 : Nat) : Int) = (i : Int) + 1 by omega]; exact le⟩
              have em : min (i + 1) cs.length = i + 1 := by omega
              have em2 : min i cs.length = i := by omega
              rw [em2] at L1
              rw [em]
              show LedH H _ TK TO LN OU l _ _ (Ln.behind b cs i ++ [(Ln.pre b cs (i + 1)).2]) qs prs qu
              have ew : ((qu.map V.int).length : Int) = (Ln.pre b cs (i + 1)).2 := by
                rw [List.length_map]
                exact le.1
              rw [← ew]
              rw [em2]
              exact L1
            · have h3 : ¬ i < cs.length := fun z => h1 (decide_eq_true (by
                rw [List.length_map]
                omega))
              refine ⟨_, _, _, l, qs, prs, qu, rfl, ?_, by rw [show ((i + 1 : Nat) : Int) = (i : Int) + 1 by omega]; exact le⟩
              rw [show min (i + 1) cs.length = min i cs.length by omega]
              exact LH
    · obtain ⟨y7, y8, y9, l, qs, prs, qu, rfl, LH, le⟩ := h
      have ei : (((cs.map V.int).length : Int) + b + 1).toNat = cs.length + (b + 1).toNat := by
        rw [List.length_map]
        omega
      rw [ei] at LH le
      obtain ⟨p1, p2⟩ := Ln.pre_past hb cs (b + 1).toNat
      have pr := Ln.pre_rng hb cs (cs.length + (b + 1).toNat)
      have eq : qu = [] := by
        have := le.1
        cases qu with
        | nil => rfl
        | cons x r =>
          rw [List.length_cons] at this
          omega
      subst eq
      have e2 := le.2
      rw [p1] at LH e2
      rw [show min (cs.length + (b + 1).toNat) cs.length = cs.length by omega] at LH
      have e3 : prs = Ln.outsFrom 0 (Ln.letts b cs) := by
        rw [← e2]
        show prs = prs ++ []
        rw [List.append_nil]
      subst e3
      refine ⟨.ref TK, rfl, .ref TO, rfl, .ref LN, rfl, .ref OU, rfl, by show 4 ≤ sizeLine; decide, fun p np => ?_⟩
      have L1 := LH.new (o := .tup [.ref TK, .ref TO, .ref LN, .ref OU]) np
      exact q TK TO LN OU p qs _ L1.sm D L1.tk L1.to L1.ln L1.ou L1.tu upd_same
end

/-! ### data that is compared -/
def wd : Option Int → PyData
  | none => .none
  | some w => .int w
def pd2 (p : Int × Int) : PyData := .tuple [.int p.1, .int p.2]
def dInts (ns : List Int) : PyData := .list (ns.map PyData.int)
def dWs (ws : List (Option Int)) : PyData := .list (ws.map wd)
def dPrs (ps : List (Int × Int)) : PyData := .list (ps.map pd2)
section
variable {K : PySem.W.Frag} {H : Hp}
theorem dpa_ints : ∀ ns : List Int, DpAll K H (ns.map V.int) (ns.map PyData.int)
  | [] => .nil
  | n :: ns => .cons (.int n) (dpa_ints ns)
theorem dp_wd : ∀ w : Option Int, Dp K H (wv w) (wd w)
  | none => .non
  | some w => .int w
theorem dpa_ws : ∀ ws : List (Option Int), DpAll K H (ws.map wv) (ws.map wd)
  | [] => .nil
  | w :: ws => .cons (dp_wd w) (dpa_ws ws)
theorem dpa_prs {ps : List Addr} {xs : List (Int × Int)} (h : Tups pv2 H ps xs) : DpAll K H (ps.map V.ref) (xs.map pd2) := by
  induction h with
  | nil => exact .nil
  | cons a _ ih => exact .cons (.tup (SqT.of a) (.cons (.int _) (.cons (.int _) .nil))) ih
end
theorem lay_all {α : Type} {f : α → PyData} (h : ∀ x, (f x).canLay0 = true) : ∀ xs : List α, PyData.canLayAll0 (xs.map f) = true
  | [] => by simp [PyData.canLayAll0]
  | x :: xs => by
    rw [List.map_cons, PyData.canLayAll0, h x, lay_all h xs]
    rfl
theorem dep_all {α : Type} {f : α → PyData} {d : Nat} (h : ∀ x, (f x).depth ≤ d) : ∀ xs : List α, PyData.depthAll (xs.map f) ≤ d
  | [] => by simp [PyData.depthAll]
  | x :: xs => by
    have h1 := h x
    have h2 := dep_all h xs
    rw [List.map_cons, PyData.depthAll]
    omega
/-- can be laid, and is at most d deep -/
def Shp (d : Nat) (x : PyData) : Prop := x.canLay0 = true ∧ x.depth ≤ d
theorem Shp.ok {d : Nat} {x : PyData} (h : Shp d x) (hd : d ≤ 64) : SeqAt.shaped x = true := by
  show (x.canLay0 && decide (x.depth ≤ 64)) = true
  rw [Bool.and_eq_true]
  exact ⟨h.1, decide_eq_true (Nat.le_trans h.2 hd)⟩
theorem Shp.int (i : Int) : Shp 1 (.int i) := ⟨by simp [PyData.canLay0], by simp [PyData.depth]⟩
theorem Shp.wd (w : Option Int) : Shp 1 (wd w) := by
  cases w <;> exact ⟨by simp [My.wd, PyData.canLay0], by simp [My.wd, PyData.depth]⟩
theorem Shp.list {α : Type} {f : α → PyData} {d : Nat} (h : ∀ x, Shp d (f x)) (xs : List α) : Shp (d + 1) (.list (xs.map f)) := by
  have h1 := lay_all (fun x => (h x).1) xs
  have h2 := dep_all (fun x => (h x).2) xs
  exact ⟨by simp only [PyData.canLay0]; exact h1, by simp only [PyData.depth]; omega⟩
theorem Shp.tup0 : Shp 1 (.tuple []) := ⟨by simp [PyData.canLay0, PyData.canLayAll0], by simp [PyData.depth, PyData.depthAll]⟩
theorem Shp.tupC {d : Nat} {x : PyData} {xs : List PyData} (h : Shp d x) (t : Shp (d + 1) (.tuple xs)) : Shp (d + 1) (.tuple (x :: xs)) := by
  obtain ⟨a, b⟩ := h
  obtain ⟨c, e⟩ := t
  simp only [PyData.canLay0] at c
  simp only [PyData.depth] at e
  refine ⟨?_, ?_⟩
  · simp only [PyData.canLay0, PyData.canLayAll0, a, c, Bool.and_self]
  · simp only [PyData.depth, PyData.depthAll]
    omega
theorem Shp.up {d e : Nat} {x : PyData} (h : Shp d x) (le : d ≤ e) : Shp e x := ⟨h.1, Nat.le_trans h.2 le⟩
theorem Shp.pd2 (p : Int × Int) : Shp 2 (pd2 p) := .tupC (.int _) (.tupC (.int _) (Shp.tup0.up (by decide)))
theorem Shp.ints (ns : List Int) : Shp 2 (dInts ns) := .list Shp.int ns
theorem Shp.ws (ws : List (Option Int)) : Shp 2 (dWs ws) := .list Shp.wd ws
theorem Shp.prs (ps : List (Int × Int)) : Shp 3 (dPrs ps) := .list Shp.pd2 ps
theorem eqv_same {d : Nat} {x : PyData} (h : Shp d x) : PyData.eqv x x = true := SeqAt.eqv_refl x h.1
theorem iteNE {b : Bool} {A B : Prop} (hb : b = true) (h : B) : if (!b) = true then A else B := by
  subst hb
  exact iteF h
theorem ne_same {d : Nat} {x : PyData} (h : Shp d x) : V.bl (!PyData.eqv x x) = V.bl false := by
  rw [eqv_same h]
  rfl
theorem eq_same {d : Nat} {x : PyData} (h : Shp d x) : V.bl (PyData.eqv x x) = V.bl true := by
  rw [eqv_same h]

/-! ### the law -/
section
variable {P : Program} {w : World} {K : PySem.W.Frag} {mg : Str → Option Value} {base : Heap}
def lawLevel : Nat := 8
def spLaw (K : PySem.W.Frag) : Sp := fun vs H Q _ => ∃ (a : Addr) (ns : List Int), vs = [.ref a] ∧ SqL K H a (ns.map V.int) ∧ ns.length ≤ 63 ∧ ∀ H', Q (.bl true) H'
def dDue (b : Int) (cs : List Int) : PyData := .tuple [dInts ((Ln.letts b cs).map (·.1)), dWs ((Ln.letts b cs).map (·.2.2)), dInts (Ln.behind b cs cs.length), dPrs (Ln.outsFrom 0 (Ln.letts b cs))]
theorem shp_due (b : Int) (cs : List Int) : Shp 4 (dDue b cs) := .tupC ((Shp.ints _).up (by decide)) (.tupC ((Shp.ws _).up (by decide)) (.tupC ((Shp.ints _).up (by decide)) (.tupC (Shp.prs _) (Shp.tup0.up (by decide)))))
theorem dp_due {H : Hp} {b : Int} {cs : List Int} {p TK TO LN OU : Addr} {qs : List Addr} (ep : SqT K H p [.ref TK, .ref TO, .ref LN, .ref OU])
    (e1 : H TK = some (.lst (((Ln.letts b cs).map (·.1)).map V.int))) (e2 : H TO = some (.lst (((Ln.letts b cs).map (·.2.2)).map wv)))
    (e3 : H LN = some (.lst ((Ln.behind b cs cs.length).map V.int))) (e4 : H OU = some (.lst (qs.map V.ref))) (tu : Tups pv2 H qs (Ln.outsFrom 0 (Ln.letts b cs))) : Dp K H (.ref p) (dDue b cs) :=
  .tup ep (.cons (.lst (SqL.of e1) (dpa_ints _)) (.cons (.lst (SqL.of e2) (dpa_ws _)) (.cons (.lst (SqL.of e3) (dpa_ints _)) (.cons (.lst (SqL.of e4) (dpa_prs tu)) .nil))))
theorem ws_map (L : List Ln.Let) : (L.map fun l => wv l.2.2) = (L.map (·.2.2)).map wv := by
  rw [List.map_map]
  rfl
theorem sub_of {α : Type} {xs : List α} {n m : Nat} {x : α} (h : x ∈ (xs.drop n).take m) : x ∈ xs := List.mem_of_mem_drop (List.mem_of_mem_take h)
theorem Same.refl {H : Hp} : Same H H := fun _ _ h => h
/-- drawn comings made long -/
theorem long_rt {k : Int} {cs : List Int} (hk : 1 ≤ k) (h : ∀ c ∈ cs, 0 ≤ c ∧ c ≤ k) (m : Nat) : ∃ ds : List Int, cutV ((List.replicate m (cs.map V.int)).flatten ++ (List.replicate 400 [V.int k]).flatten) none (some 400) = ds.map V.int ∧ Rt k ds := by
  have e1 : ∀ m, (List.replicate m (cs.map V.int)).flatten = ((List.replicate m cs).flatten).map V.int := fun m => by
    induction m with
    | zero => rfl
    | succ m ih => rw [List.replicate_succ, List.flatten_cons, ih, List.replicate_succ, List.flatten_cons, List.map_append]
  have e2 : (List.replicate 400 [V.int k]).flatten = (List.replicate 400 k).map V.int := by
    rw [flat_one, List.map_replicate]
  rw [e1, e2, ← List.map_append]
  refine ⟨(((List.replicate m cs).flatten ++ List.replicate 400 k).take 400), ?_, ?_, ?_⟩
  · unfold cutV
    rw [HT.sIx_none, List.drop_zero, List.map_take]
    rw [show HT.sIx (((List.replicate m cs).flatten ++ List.replicate 400 k).map V.int).length (((List.replicate m cs).flatten ++ List.replicate 400 k).map V.int).length (some 400) = min 400 (((List.replicate m cs).flatten ++ List.replicate 400 k).map V.int).length from HT.sIx_nat _ _ 400]
    rw [Nat.min_eq_left (by rw [List.length_map, List.length_append, List.length_replicate]; omega)]
  · rw [List.length_take]
    omega
  · intro c hc
    rcases List.mem_append.mp (List.mem_of_mem_take hc) with hc | hc
    · obtain ⟨l, hl, hc⟩ := List.mem_flatten.mp hc
      rw [(List.mem_replicate.mp hl).2] at hc
      exact h c hc
    · rw [(List.mem_replicate.mp hc).2]
      exact ⟨by omega, Int.le_refl _⟩
theorem ok_law (T : Tx K mg) : FnOk P w K mg base CX0 8 T.a_law T.d_law ["script"] (spLaw K) := by
  refine T.F_law.ok sc_law (fun vs H Q E h => ?_) (fun cdv A outer s H vs Q E hr h => ?_)
  · obtain ⟨a, ns, rfl, _⟩ := h
    rfl
  · obtain ⟨a, ns0, rfl, hS, hlen, q⟩ := h
    refine ⟨_, ((pss_cons (ps_set (i := 1) sc_law.nd rfl (.inl rfl) (pe_call (ok__law_tape T) (hr.mono (by decide)) (by rfl) T.g__law_tape T.F__law_tape.kp T.b__law_tape .nil pass0 (pa_cons (pv 0) pa_nil)))
  (pss_cons (ps_set (i := 2) sc_law.nd rfl (.inl rfl) (pe_op op_add pe_int (pe_call (ok__law_pick T) (hr.mono (by decide)) (by rfl) T.g__law_pick T.F__law_pick.kp T.b__law_pick .nil pass0 (pa_cons (pv 1) (pa_cons pe_int pa_nil)))))
  (pss_cons (ps_set (i := 3) sc_law.nd rfl (.inl rfl) (pe_op op_add pe_int (pe_call (ok__law_pick T) (hr.mono (by decide)) (by rfl) T.g__law_pick T.F__law_pick.kp T.b__law_pick .nil pass0 (pa_cons (pv 1) (pa_cons (pe_ix ix_list (pe_lst (pa_cons pe_int (pa_cons pe_int pa_nil))) (pe_call (ok__law_pick T) (hr.mono (by decide)) (by rfl) T.g__law_pick T.F__law_pick.kp T.b__law_pick .nil pass0 (pa_cons (pv 1) (pa_cons pe_int pa_nil))) (fun _ _ => rfl)) pa_nil)))))
  (pss_cons (ps_set (i := 4) sc_law.nd rfl (.inl rfl) (pe_call (ok__law_comings T) (hr.mono (by decide)) (by rfl) T.g__law_comings T.F__law_comings.kp T.b__law_comings .nil pass0 (pa_cons (pv 1) (pa_cons (pv 2) (pa_cons pe_int pa_nil)))))
  (Evl.pss_cut (ps_if (pt_cmpR op_eq (pe_call (ok__law_pick T) (hr.mono (by decide)) (by rfl) T.g__law_pick T.F__law_pick.kp T.b__law_pick .nil pass0 (pa_cons (pv 1) (pa_cons pe_int pa_nil))) pe_int (nomark _)) (pss_one (ps_set (i := 4) sc_law.nd rfl (.inl rfl) (pe_slice sl_tupA (pe_op op_catA (pe_op RR.op_repZ (pv 4) pe_int) (pe_op RR.op_repZ (pe_tup (pa_cons (pv 2) pa_nil)) pe_int)) po_none (po_some pe_int)))) pss_nil)
  (pss_cons (ps_set (i := 5) sc_law.nd rfl (.inl rfl) (pe_call (ok__law_led T) (hr.mono (by decide)) (by rfl) T.g__law_led T.F__law_led.kp T.b__law_led .nil pass0 (pa_cons (pv 3) (pa_cons (pv 4) pa_nil))))
  (pss_cons (ps_set (i := 6) sc_law.nd rfl (.inl rfl) (pe_tup (pa_cons (pe_call (ok_comes T) (hr.mono (by decide)) (by rfl) T.g_comes T.F_comes.kp T.b_comes .nil pass0 (pa_cons (pv 2) (pa_cons (pv 4) pa_nil))) (pa_cons (pe_call (ok_waits T) (hr.mono (by decide)) (by rfl) T.g_waits T.F_waits.kp T.b_waits .nil pass0 (pa_cons (pv 2) (pa_cons (pv 3) (pa_cons (pv 4) pa_nil)))) (pa_cons (pe_call (ok_lines T) (hr.mono (by decide)) (by rfl) T.g_lines T.F_lines.kp T.b_lines .nil pass0 (pa_cons (pv 2) (pa_cons (pv 3) (pa_cons (pv 4) pa_nil)))) pa_nil)))))
  (pss_cons (ps_set (i := 6) sc_law.nd rfl (.inl rfl) (pe_op op_catT (pv 6) (pe_tup (pa_cons (pe_call (ok_outs T) (hr.mono (by decide)) (by rfl) T.g_outs T.F_outs.kp T.b_outs .nil pass0 (pa_cons (pv 2) (pa_cons (pv 3) (pa_cons (pv 4) pa_nil)))) pa_nil))))
  (pss_cons (ps_if (PW.pt (pw_or (pt_cmpR (op_neD hr.units) (pv 6) (pv 5) (nomark _)) (pw_or1 (pt_cmpR op_gt (pe_callB call_len_seq (by rfl) T.m_len PySem.boot_len (pa_cons (pe_lc (own := [("row", 7)]) (g := (gName 7)) (tt := tNot (tB (tCB (rIsi K) (tCons (tVar 7) (tCons (tC (V.ty "list")) tNil))))) rfl sc_law.nd (pi_tup (pv 6)) (blkOk_by (own := [("row", 7)]) (N := ["script", "tape", "comers", "bound", "comings", "due", "told", "row"]) (sc := defScope s_law) (by decide +kernel)) (fun _ _ _ _ _ => pg_name (i := 7) sc_law.nd rfl (.inl rfl)) (fun _ _ _ _ _ => (pts_one (pt_not (pt_val (pe_callB call_isi (by rfl) T.m_isinstance (by decide +kernel) (pa_cons (pv 7) (pa_cons (pe_bltn (v := .ty "list") (by rfl) T.m_list (by decide +kernel) rfl) pa_nil))))))) (fun _ _ _ _ _ => (pv 7))) pa_nil)) pe_int (nomark _))))) (pss_one (ps_ret pe_bl)) pss_nil)
  (pss_cons (ps_for PassesOwn.never rfl (pi_list (pe_op op_cat (pe_op op_cat (pe_ix ix_tup (pv 6) pe_int (fun _ _ => rfl)) (pe_ix ix_tup (pv 6) pe_int (fun _ _ => rfl))) (pe_ix ix_tup (pv 6) pe_int (fun _ _ => rfl)))) (pg_name (i := 7) sc_law.nd rfl (.inl rfl))
   (pss_one (ps_if (pt_val (pe_callB call_isi (by rfl) T.m_isinstance (by decide +kernel) (pa_cons (pv 7) (pa_cons (pe_bltn (v := .ty "bool") (by rfl) T.m_bool (by decide +kernel) rfl) pa_nil)))) (pss_one (ps_ret pe_bl)) pss_nil)))
  (pss_cons (ps_for PassesOwn.never rfl (pi_tup (pv 6)) (pg_name (i := 7) sc_law.nd rfl (.inl rfl))
   (pss_one (ps_expr (pe_bm PySem.F.plainAttrs_list PySem.F.slot_list_append PySem.F.type_list_append mt_append (pv 7) (pa_cons pe_non pa_nil)))))
  (pss_cons (ps_if (PW.pt (pw_or (pt_cmpR (op_neD hr.units) (pe_call (ok_comes T) (hr.mono (by decide)) (by rfl) T.g_comes T.F_comes.kp T.b_comes .nil pass0 (pa_cons (pv 2) (pa_cons (pv 4) pa_nil))) (pe_ix ix_tup (pv 5) pe_int (fun _ _ => rfl)) (nomark _)) (pw_or1 (pt_cmpR (op_neD hr.units) (pe_call (ok_waits T) (hr.mono (by decide)) (by rfl) T.g_waits T.F_waits.kp T.b_waits .nil pass0 (pa_cons (pv 2) (pa_cons (pv 3) (pa_cons (pv 4) pa_nil)))) (pe_ix ix_tup (pv 5) pe_int (fun _ _ => rfl)) (nomark _))))) (pss_one (ps_ret pe_bl)) pss_nil)
  (pss_one (ps_ret (pe_and (pe_cmpR (op_eqD hr.units) (pe_call (ok_lines T) (hr.mono (by decide)) (by rfl) T.g_lines T.F_lines.kp T.b_lines .nil pass0 (pa_cons (pv 2) (pa_cons (pv 3) (pa_cons (pv 4) pa_nil)))) (pe_ix ix_tup (pv 5) pe_int (fun _ _ => rfl)) (nomark _)) (pe_one (pe_cmpR (op_eqD hr.units) (pe_call (ok_outs T) (hr.mono (by decide)) (by rfl) T.g_outs T.F_outs.kp T.b_outs .nil pass0 (pa_cons (pv 2) (pa_cons (pv 3) (pa_cons (pv 4) pa_nil)))) (pe_ix ix_tup (pv 5) pe_int (fun _ _ => rfl)) (nomark _))))))))))))))))))), ?_⟩
    refine ⟨.ref a, rfl, a, ns0, rfl, hS, fun t sc H1 nt ns' sm tp => ?_⟩
    -- comers, bound
    refine ⟨.ref t, rfl, t, sc, 3, rfl, ⟨by decide, by decide⟩, tp, fun kd H2 hk0 hk3 mv2 tp2 => ?_⟩
    refine ⟨2, kd, rfl, rfl, ?_⟩
    refine ⟨.ref t, rfl, by show 2 ≤ sizeLine; decide, fun c nc => ?_⟩
    have hct : c ≠ t := tp2.ne nc
    have tpc := tp2.keep (same_upd (o := .lst [.int 6, .int 60]) nc)
    refine ⟨.ref t, rfl, t, sc, 2, rfl, ⟨by decide, by decide⟩, tpc, fun j H3 hj0 hj2 mv3 tp3 => ?_⟩
    have ec : H3 c = some (.lst [.int 6, .int 60]) := mv3 c _ hct upd_same
    obtain ⟨m, hm, gm⟩ : ∃ m : Int, (1 ≤ m ∧ m ≤ 60) ∧ atI [V.int 6, .int 60] j = some (.int m) := by
      rcases (by omega : j = 0 ∨ j = 1) with e | e <;> subst e
      · exact ⟨6, by decide, rfl⟩
      · exact ⟨60, by decide, rfl⟩
    refine ⟨c, _, j, _, rfl, rfl, SqL.of ec, gm, t, sc, m, rfl, ⟨by omega, by omega⟩, tp3, fun d H4 hd0 hd1 mv4 tp4 => ?_⟩
    refine ⟨1, d, rfl, rfl, ?_⟩
    obtain ⟨k, hk⟩ : ∃ k : Int, k = 2 + kd := ⟨_, rfl⟩
    obtain ⟨b, hb⟩ : ∃ b : Int, b = 1 + d := ⟨_, rfl⟩
    show gName 3 (V.int (1 + d)) (List.set _ 2 (some (V.int (2 + kd)))) H4 _
    rw [← hk, ← hb]
    have k2 : 2 ≤ k := by omega
    have k4 : k ≤ 4 := by omega
    have b1 : 1 ≤ b := by omega
    have b60 : b ≤ 60 := by omega
    clear hk hb gm hm
    -- comings
    refine ⟨.ref t, rfl, .int k, rfl, t, sc, k, 40, rfl, ⟨by omega, by omega⟩, ⟨by decide, by decide⟩, tp4, fun a5 cs5 H5 l5 in5 ha5 na5 mv5 tp5 e5 => ?_⟩
    refine ⟨fun σ' H6 => ∃ a6 cs, σ' = [some (.ref a), some (.ref t), some (.int k), some (.int b), some (.ref a6), none, none, none] ∧ SqT K H6 a6 (cs.map V.int) ∧ Rt k cs, ?_, fun σ' H6 hm => ?_⟩
    · refine ⟨.ref t, rfl, t, sc, 40, rfl, ⟨by decide, by decide⟩, tp5, fun x H6 hx0 hx1 mv6 tp6 => ?_⟩
      have e6 : H6 a5 = some (.tup (cs5.map V.int)) := mv6 a5 _ ha5 e5
      refine ⟨rfl, _, rfl, ite2 (fun c1 => ?_) (fun c1 => ?_)⟩
      · refine ⟨.ref a5, rfl, a5, 400, _, rfl, rfl, SqT.of e6, by decide, by decide, by rw [List.length_map]; omega, fun p7 H7 s7 t7 => ?_⟩
        refine ⟨.int k, rfl, by show 1 ≤ sizeLine; decide, fun c8 nc8 => ?_⟩
        refine ⟨c8, 400, _, rfl, rfl, SqT.of upd_same, by decide, by decide, by show 1 ≤ 1000; decide, fun p9 H9 s9 t9 => ?_⟩
        have t7' : SqT K H9 p7 (List.replicate (400 : Int).toNat (cs5.map V.int)).flatten := sT s9 (sT (same_upd nc8) t7)
        obtain ⟨ds, ed, rd⟩ := long_rt (by omega : 1 ≤ k) in5 400
        have zlen : ((List.replicate (400 : Int).toNat (cs5.map V.int)).flatten).length + ((List.replicate (400 : Int).toNat [V.int k]).flatten).length ≤ sizeLine := by
          rw [List.length_flatten, List.length_flatten, List.map_replicate, List.map_replicate, List.sum_replicate_nat, List.sum_replicate_nat, List.length_map]
          show 400 * cs5.length + 400 * 1 ≤ 2 ^ 24
          omega
        have fin : ∀ (q : Addr) (H : Hp) (xs : List V), xs = (List.replicate 400 (cs5.map V.int)).flatten ++ (List.replicate 400 [V.int k]).flatten → SqT K H q xs →
            (HT.sIx xs.length 0 none = 0 ∧ HT.sIx xs.length xs.length (some 400) = xs.length → SqT K H q (ds.map V.int)) := by
          intro q H xs ex hq hw
          have : cutV xs none (some 400) = xs := by
            unfold cutV
            rw [hw.1, hw.2, List.drop_zero, Nat.sub_zero, List.take_length]
          rw [← ed, ← ex, this]
          exact hq
        refine ⟨p7, p9, _, _, rfl, rfl, t7', t9, zlen, fun e0 => ?_, fun _ e0 => ?_, fun _ _ p10 np10 => ?_⟩
        · have ex : (List.replicate (400 : Int).toNat [V.int k]).flatten = (List.replicate 400 (cs5.map V.int)).flatten ++ (List.replicate 400 [V.int k]).flatten := by
            rw [show (List.replicate 400 (cs5.map V.int)).flatten = [] from e0]
            rfl
          refine ⟨400, rfl, p9, _, rfl, t9, fun hw => ⟨p9, ds, rfl, fin p9 H9 _ ex t9 hw, rd⟩, fun _ p np => ?_⟩
          refine ⟨p, ds, rfl, SqT.of ?_, rd⟩
          rw [upd_same, ← ed, ← ex]
        · exact absurd (congrArg List.length (e0 : (List.replicate 400 [V.int k]).flatten = [])) (by rw [flat_one, List.length_replicate]; decide)
        · refine ⟨400, rfl, p10, _, rfl, SqT.of upd_same, fun hw => ⟨p10, ds, rfl, fin p10 _ _ rfl (SqT.of upd_same) hw, rd⟩, fun _ p np => ?_⟩
          refine ⟨p, ds, rfl, SqT.of ?_, rd⟩
          rw [upd_same, ← ed]
          rfl
      · exact ⟨a5, cs5, rfl, SqT.of e6, by omega, in5⟩
    · obtain ⟨a6, cs, rfl, hT6, rt⟩ := hm
      -- due
      refine ⟨.int b, rfl, .ref a6, rfl, a6, cs, b, k, rfl, hT6, rt, k4, by omega, b60, fun TK TO LN OU p qs H7 s7 D e1 e2 e3 e4 tu ep => ?_⟩
      have hT7 := sT s7 hT6
      -- told
      refine ⟨.int k, rfl, .ref a6, rfl, a6, cs, k, rfl, hT7, rt, k2, k4, fun C H8 s8 nC eC => ?_⟩
      have hT8 := sT s8 hT7
      refine ⟨.int k, rfl, .int b, rfl, .ref a6, rfl, a6, cs, k, b, rfl, hT8, rt, k2, k4, b1, b60, fun W H9 s9 nW eW => ?_⟩
      have hT9 := sT s9 hT8
      refine ⟨.int k, rfl, .int b, rfl, .ref a6, rfl, a6, cs, k, b, rfl, hT9, rt, k2, k4, b1, b60, fun N H10 s10 nN eN => ?_⟩
      have hT10 := sT s10 hT9
      refine ⟨by show 3 ≤ sizeLine; decide, fun p11 np11 => ?_⟩
      have s11 := same_upd (o := .tup [.ref C, .ref W, .ref N]) np11
      have hT11 := sT s11 hT10
      refine ⟨.ref p11, rfl, .int k, rfl, .int b, rfl, .ref a6, rfl, a6, cs, k, b, rfl, hT11, rt, k2, k4, b1, b60, fun O os H12 s12 nO eO tO => ?_⟩
      have hT12 := sT s12 hT11
      have e11 : H12 p11 = some (.tup [.ref C, .ref W, .ref N]) := s12 _ _ upd_same
      refine ⟨by show 1 ≤ sizeLine; decide, fun p13 np13 => ?_⟩
      have s13 := same_upd (o := .tup [.ref O]) np13
      refine ⟨p11, p13, _, _, rfl, rfl, SqT.of (s13 _ _ e11), SqT.of upd_same, by simp, by show 4 ≤ sizeLine; decide, fun z => by simp at z, fun _ p14 np14 => ?_⟩
      have s14 := same_upd (o := .tup ([V.ref C, .ref W, .ref N] ++ [.ref O])) np14
      have sA : Same H8 (upd (upd H12 p13 (.tup [.ref O])) p14 (.tup ([V.ref C, .ref W, .ref N] ++ [.ref O]))) := ((((s9.trans s10).trans s11).trans s12).trans s13).trans s14
      have sB : Same H9 (upd (upd H12 p13 (.tup [.ref O])) p14 (.tup ([V.ref C, .ref W, .ref N] ++ [.ref O]))) := (((s10.trans s11).trans s12).trans s13).trans s14
      have sC : Same H10 (upd (upd H12 p13 (.tup [.ref O])) p14 (.tup ([V.ref C, .ref W, .ref N] ++ [.ref O]))) := ((s11.trans s12).trans s13).trans s14
      have sD : Same H12 (upd (upd H12 p13 (.tup [.ref O])) p14 (.tup ([V.ref C, .ref W, .ref N] ++ [.ref O]))) := s13.trans s14
      have s7A := s8.trans sA
      generalize eG : upd (upd H12 p13 (.tup [.ref O])) p14 (.tup ([V.ref C, .ref W, .ref N] ++ [.ref O])) = G at *
      have ep14 : G p14 = some (.tup [.ref C, .ref W, .ref N, .ref O]) := by
        rw [← eG]
        exact upd_same
      have eC' : G C = some (.lst (((Ln.letts b cs).map (·.1)).map V.int)) := by
        rw [sA _ _ eC]
        unfold Ln.letts
        rw [Ln.ticks_are]
      have eW' : G W = some (.lst (((Ln.letts b cs).map (·.2.2)).map wv)) := by
        rw [sB _ _ eW, ws_map]
      have eN' := sC _ _ eN
      have eO' := sD _ _ eO
      have tO' := tO.same sD
      have f1 := s7A _ _ e1
      have f2 := s7A _ _ e2
      have f3 := s7A _ _ e3
      have f4 := s7A _ _ e4
      have fu := tu.same s7A
      have fp := s7A _ _ ep
      have hTG := sT sD hT12
      have ne : ∀ {A B : Addr} {X : Hp} {o : HO}, X A = some o → X B = none → A ≠ B := fun h1 h2 z => by
        rw [z, h2] at h1
        cases h1
      have nW7 : H7 W = none := Same.free s8 nW
      have nN7 : H7 N = none := Same.free (s8.trans s9) nN
      have nO7 : H7 O = none := Same.free (((s8.trans s9).trans s10).trans s11) nO
      have nA : ∀ {A : Addr} {o : HO}, H7 A = some o → A ≠ C ∧ A ≠ W ∧ A ≠ N ∧ A ≠ O := fun e => ⟨ne e nC, ne e nW7, ne e nN7, ne e nO7⟩
      -- told != due
      refine ⟨.ref p14, rfl, .ref p, rfl, _, _, dp_due (SqT.of ep14) eC' eW' eN' eO' tO', dp_due (SqT.of fp) f1 f2 f3 f4 fu, (shp_due b cs).ok (by decide), (shp_due b cs).ok (by decide), false, ne_same (shp_due b cs), iteF ?_⟩
      -- len([row for row in told if not isinstance(row, list)]) > 0
      refine ⟨.ref p14, rfl, p14, rfl, ⟨_, SqT.of ep14⟩, fun D hD => lc_tup (K := K) (a := p14) (xs := [.ref C, .ref W, .ref N, .ref O])
        (fun i H' => Same G H' ∧ H' D = some (.lst [])) ⟨same_upd hD, upd_same⟩ (fun i H' _ p => SqT.of (p.1 _ _ ep14)) (fun i x H' hx p => ?_) (fun H' p => ?_)⟩
      · obtain ⟨sm', eD⟩ := p
        have hL : ∃ A ys, x = V.ref A ∧ H' A = some (.lst ys) := by
          have mx := List.mem_of_getElem? hx
          simp only [List.mem_cons, List.not_mem_nil, or_false] at mx
          rcases mx with e | e | e | e <;> subst e
          · exact ⟨C, _, rfl, sm' _ _ eC'⟩
          · exact ⟨W, _, rfl, sm' _ _ eW'⟩
          · exact ⟨N, _, rfl, sm' _ _ eN'⟩
          · exact ⟨O, _, rfl, sm' _ _ eO'⟩
        obtain ⟨A, ys, rfl, eA⟩ := hL
        refine ⟨rfl, ?_⟩
        refine ⟨.ref A, rfl, .ref A, .ty "list", _, _, true, rfl, .ty _, .base (.lst eA), kit_ty (by decide +kernel), true, rfl, iteF ?_⟩
        exact ⟨sm', eD⟩
      · obtain ⟨sm', eD⟩ := p
        refine ⟨D, _, rfl, .inl (SqL.of eD), _, _, rfl, rfl, false, rfl, iteF ?_⟩
        have sG := sm'
        have g14 := sG _ _ ep14
        have gC := sG _ _ eC'
        have gW := sG _ _ eW'
        have gN := sG _ _ eN'
        have gO := sG _ _ eO'
        -- for row in told[0] + told[1] + told[2]
        refine ⟨.ref p14, rfl, p14, _, 0, _, rfl, rfl, SqT.of g14, atI_nat (j := 0) rfl, .ref p14, rfl, p14, _, 1, _, rfl, rfl, SqT.of g14, atI_nat (j := 1) rfl, C, W, _, _, rfl, rfl, gC, gW, ?_, fun p15 np15 => ?_⟩
        · have z := letts_len (b := b) (rt.four k4) rt.1
          rw [List.length_map, List.length_map, List.length_map, List.length_map]
          show _ ≤ 2 ^ 24
          omega
        have s15 := same_upd (o := .lst (((Ln.letts b cs).map (·.1)).map V.int ++ ((Ln.letts b cs).map (·.2.2)).map wv)) np15
        refine ⟨.ref p14, rfl, p14, _, 2, _, rfl, rfl, SqT.of (s15 _ _ g14), atI_nat (j := 2) rfl, p15, N, _, _, rfl, rfl, upd_same, s15 _ _ gN, ?_, fun p16 np16 => ?_⟩
        · have z := letts_len (b := b) (rt.four k4) rt.1
          have z2 := rt.1
          rw [List.length_append, List.length_map, List.length_map, List.length_map, List.length_map, List.length_map, Ln.behind_len]
          show _ ≤ 2 ^ 24
          omega
        have s16 := same_upd (o := .lst ((((Ln.letts b cs).map (·.1)).map V.int ++ ((Ln.letts b cs).map (·.2.2)).map wv) ++ (Ln.behind b cs cs.length).map V.int)) np16
        have sX := s15.trans s16
        refine ⟨p16, rfl, ⟨_, SqL.of upd_same⟩, for_list (K := K) (xs := (((Ln.letts b cs).map (·.1)).map V.int ++ ((Ln.letts b cs).map (·.2.2)).map wv) ++ (Ln.behind b cs cs.length).map V.int)
          (fun i σ H2 => ∃ y, σ = [some (.ref a), some (.ref t), some (.int k), some (.int b), some (.ref a6), some (.ref p), some (.ref p14), y] ∧ H2 p16 = some (.lst ((((Ln.letts b cs).map (·.1)).map V.int ++ ((Ln.letts b cs).map (·.2.2)).map wv) ++ (Ln.behind b cs cs.length).map V.int)) ∧ Same H' H2)
          ⟨_, rfl, upd_same, sX⟩ (fun i σ H2 _ h => ?_) (fun i x σ H2 hx h => ?_) (fun σ H2 h => ?_)⟩
        · obtain ⟨_, _, e, _⟩ := h
          exact SqL.of e
        · obtain ⟨y, rfl, e16, sm2⟩ := h
          have mx := List.mem_of_getElem? hx
          have hty : x = V.non ∨ ∃ i, x = V.int i := by
            rcases List.mem_append.mp mx with mx | mx
            · rcases List.mem_append.mp mx with mx | mx
              · obtain ⟨i, _, rfl⟩ := List.mem_map.mp mx
                exact .inr ⟨i, rfl⟩
              · obtain ⟨i, _, rfl⟩ := List.mem_map.mp mx
                cases i with
                | none => exact .inl rfl
                | some i => exact .inr ⟨i, rfl⟩
            · obtain ⟨i, _, rfl⟩ := List.mem_map.mp mx
              exact .inr ⟨i, rfl⟩
          rcases hty with rfl | ⟨i, rfl⟩
          · refine ⟨.non, rfl, .non, .ty "bool", _, _, false, rfl, .ty _, .base .non, kit_ty (by decide +kernel), false, rfl, iteF ?_⟩
            exact ⟨_, rfl, e16, sm2⟩
          · refine ⟨.int i, rfl, .int i, .ty "bool", _, _, false, rfl, .ty _, .base (.int i), kit_ty (by decide +kernel), false, rfl, iteF ?_⟩
            exact ⟨_, rfl, e16, sm2⟩
        · obtain ⟨y, rfl, e16, sm2⟩ := h
          -- for row in told: row.append(None)
          have sGH := sG.trans sm2
          refine ⟨.ref p14, rfl, p14, rfl, ⟨_, SqT.of (sGH _ _ ep14)⟩, for_tup (K := K) (xs := [.ref C, .ref W, .ref N, .ref O])
            (fun i σ H3 => ∃ y, σ = [some (.ref a), some (.ref t), some (.int k), some (.int b), some (.ref a6), some (.ref p), some (.ref p14), y] ∧ (∀ A o, A ≠ C → A ≠ W → A ≠ N → A ≠ O → H2 A = some o → H3 A = some o) ∧
              ∀ A, (A = C ∨ A = W ∨ A = N ∨ A = O) → ∃ ys, H3 A = some (.lst ys) ∧ ys.length ≤ 5000 + i)
            ⟨_, rfl, fun _ _ _ _ _ _ e => e, fun A hA => ?_⟩ (fun i σ H3 _ h => ?_) (fun i x σ H3 hx h => ?_) (fun σ H3 h => ?_)⟩
          · have z := letts_len (b := b) (rt.four k4) rt.1
            have z2 := rt.1
            have z3 := Ln.outs_len (Ln.letts b cs) 0
            rcases hA with rfl | rfl | rfl | rfl
            · exact ⟨_, sGH _ _ eC', by rw [List.length_map, List.length_map]; omega⟩
            · exact ⟨_, sGH _ _ eW', by rw [List.length_map, List.length_map]; omega⟩
            · exact ⟨_, sGH _ _ eN', by rw [List.length_map, Ln.behind_len]; omega⟩
            · exact ⟨_, sGH _ _ eO', by rw [List.length_map, tO'.length]; omega⟩
          · obtain ⟨_, _, kp, _⟩ := h
            have t2 := sGH _ _ ep14
            have nl : ∀ {A : Addr} {ys : List V}, H2 A = some (.lst ys) → p14 ≠ A := fun e z => by
              rw [← z, t2] at e
              cases e
            exact SqT.of (kp _ _ (nl (sGH _ _ eC')) (nl (sGH _ _ eW')) (nl (sGH _ _ eN')) (nl (sGH _ _ eO')) t2)
          · obtain ⟨y, rfl, kp, ls⟩ := h
            have hA : ∃ A, x = V.ref A ∧ (A = C ∨ A = W ∨ A = N ∨ A = O) := by
              have mx := List.mem_of_getElem? hx
              simp only [List.mem_cons, List.not_mem_nil, or_false] at mx
              rcases mx with e | e | e | e <;> subst e
              · exact ⟨C, rfl, .inl rfl⟩
              · exact ⟨W, rfl, .inr (.inl rfl)⟩
              · exact ⟨N, rfl, .inr (.inr (.inl rfl))⟩
              · exact ⟨O, rfl, .inr (.inr (.inr rfl))⟩
            obtain ⟨A, rfl, hA⟩ := hA
            have hi4 : i < 4 := (List.getElem?_eq_some_iff.mp hx).1
            obtain ⟨ys, eA, zA⟩ := ls A hA
            refine ⟨.ref A, rfl, .inl ⟨rfl, _, SqL.of eA⟩, A, _, _, rfl, rfl, eA, by show _ < 2 ^ 24; omega, ?_⟩
            refine ⟨_, rfl, fun B o n1 n2 n3 n4 e => ?_, fun B hB => ?_⟩
            · have nBA : B ≠ A := by
                rcases hA with rfl | rfl | rfl | rfl <;> assumption
              rw [upd_ne nBA]
              exact kp B o n1 n2 n3 n4 e
            · by_cases eBA : B = A
              · subst eBA
                exact ⟨_, upd_same, by rw [List.length_append]; show ys.length + 1 ≤ _; omega⟩
              · obtain ⟨zs, eB, zB⟩ := ls B hB
                exact ⟨zs, by rw [upd_ne eBA]; exact eB, by omega⟩
          · obtain ⟨y, rfl, kp, _⟩ := h
            have sK : ∀ {A : Addr} {o : HO}, H7 A = some o → H3 A = some o := fun {A o} e => by
              obtain ⟨n1, n2, n3, n4⟩ := nA e
              exact kp A o n1 n2 n3 n4 (sGH _ _ (s7A _ _ e))
            have s73 : Same H7 H3 := fun _ _ e => sK e
            have hT3 := sT s73 hT7
            have x1 := s73 _ _ e1
            have x2 := s73 _ _ e2
            have x3 := s73 _ _ e3
            have x4 := s73 _ _ e4
            have xu := tu.same s73
            have xp := s73 _ _ ep
            refine ⟨.int k, rfl, .ref a6, rfl, a6, cs, k, rfl, hT3, rt, k2, k4, fun C2 H20 s20 _ eC2 => ?_⟩
            refine ⟨.ref p, rfl, p, _, 0, _, rfl, rfl, SqT.of (s20 _ _ xp), atI_nat (j := 0) rfl, ?_⟩
            have eC3 : H20 C2 = some (.lst (((Ln.letts b cs).map (·.1)).map V.int)) := by
              rw [eC2]
              unfold Ln.letts
              rw [Ln.ticks_are]
            refine ⟨_, _, .lst (SqL.of eC3) (dpa_ints _), .lst (SqL.of (s20 _ _ x1)) (dpa_ints _), (Shp.ints _).ok (by decide), (Shp.ints _).ok (by decide), false, ne_same (Shp.ints _), iteF ?_⟩
            refine ⟨.int k, rfl, .int b, rfl, .ref a6, rfl, a6, cs, k, b, rfl, sT s20 hT3, rt, k2, k4, b1, b60, fun W2 H21 s21 _ eW2 => ?_⟩
            have s321 := s20.trans s21
            refine ⟨.ref p, rfl, p, _, 1, _, rfl, rfl, SqT.of (s321 _ _ xp), atI_nat (j := 1) rfl, ?_⟩
            have eW3 : H21 W2 = some (.lst (((Ln.letts b cs).map (·.2.2)).map wv)) := by
              rw [eW2, ws_map]
            refine ⟨_, _, .lst (SqL.of eW3) (dpa_ws _), .lst (SqL.of (s321 _ _ x2)) (dpa_ws _), (Shp.ws _).ok (by decide), (Shp.ws _).ok (by decide), false, ne_same (Shp.ws _), iteF ?_⟩
            refine ⟨.int k, rfl, .int b, rfl, .ref a6, rfl, a6, cs, k, b, rfl, sT s321 hT3, rt, k2, k4, b1, b60, fun N2 H22 s22 _ eN2 => ?_⟩
            have s322 := s321.trans s22
            refine ⟨.ref p, rfl, p, _, 2, _, rfl, rfl, SqT.of (s322 _ _ xp), atI_nat (j := 2) rfl, ?_⟩
            refine ⟨_, _, .lst (SqL.of eN2) (dpa_ints _), .lst (SqL.of (s322 _ _ x3)) (dpa_ints _), (Shp.ints _).ok (by decide), (Shp.ints _).ok (by decide), true, eq_same (Shp.ints _), iteT ?_⟩
            refine ⟨.int k, rfl, .int b, rfl, .ref a6, rfl, a6, cs, k, b, rfl, sT s322 hT3, rt, k2, k4, b1, b60, fun O2 os2 H23 s23 _ eO2 tO2 => ?_⟩
            have s323 := s322.trans s23
            refine ⟨.ref p, rfl, p, _, 3, _, rfl, rfl, SqT.of (s323 _ _ xp), atI_nat (j := 3) rfl, ?_⟩
            refine ⟨_, _, .lst (SqL.of eO2) (dpa_prs tO2), .lst (SqL.of (s323 _ _ x4)) (dpa_prs (xu.same s323)), (Shp.prs _).ok (by decide), (Shp.prs _).ok (by decide), ?_⟩
            have ee : PyData.eqv (PyData.list (List.map pd2 (Ln.outsFrom 0 (Ln.letts b cs)))) (PyData.list (List.map pd2 (Ln.outsFrom 0 (Ln.letts b cs)))) = true := eqv_same (Shp.prs _)
            rw [ee]
            exact q _
end

/-! ### the end -/
theorem fin_mk {l : PySem.W.OpenLaw} {w : World} {K : PySem.W.Frag} {h : Heap} {mg : Str → Option Value} {fa f_law : Addr} (KX : K.In h) (G : h.Ns mainGlobals mg) (hmg : mg "law" = some (.ref fa)) {an : Option Addr} {kV dc pm cd ct : Value}
    (hT : ∃ T : Tx K mg, T.a_law = f_law ∧ T.d_law = PySem.W.fnOf "law" "law" (defArgs s_law) (defBody s_law) (defScope s_law) .none kV dc pm an cd ct) :
    ∃ fd : FuncData, (∀ (s : Shared) (v : Value), BindsTo s fd ⟨[v], []⟩ [("script", v)]) ∧ ∀ base : Heap, K.In base → base.Ns mainGlobals mg → FnOk l.prog w K mg base CX0 lawLevel fa fd ["script"] (spLaw K) := by
  obtain ⟨T, ea, ed⟩ := hT
  have e := hmg.symm.trans T.g_law
  cases e
  exact ⟨T.d_law, fun s v => by rw [ed]; exact .of_eq rfl, fun base _ _ => ok_law T⟩

theorem all_mk {w : World} {K : PySem.W.Frag} {h : Heap} {mg : Str → Option Value} (X : K.In h) (G : h.Ns mainGlobals mg)
    {f_is_integer : Addr} {od_is_integer an_is_integer : Option Addr} {sl_is_integer : Array (Option Value)} {oc_is_integer kV_is_integer dc_is_integer pm_is_integer cd_is_integer ct_is_integer : Value}
    {f_is_number : Addr} {od_is_number an_is_number : Option Addr} {sl_is_number : Array (Option Value)} {oc_is_number kV_is_number dc_is_number pm_is_number cd_is_number ct_is_number : Value}
    {f_are_numbers : Addr} {od_are_numbers an_are_numbers : Option Addr} {sl_are_numbers : Array (Option Value)} {oc_are_numbers kV_are_numbers dc_are_numbers pm_are_numbers cd_are_numbers ct_are_numbers : Value}
    {f_is_comings : Addr} {od_is_comings an_is_comings : Option Addr} {sl_is_comings : Array (Option Value)} {oc_is_comings kV_is_comings dc_is_comings pm_is_comings cd_is_comings ct_is_comings : Value}
    {f_check_comers : Addr} {od_check_comers an_check_comers : Option Addr} {sl_check_comers : Array (Option Value)} {oc_check_comers kV_check_comers dc_check_comers pm_check_comers cd_check_comers ct_check_comers : Value}
    {f_check_bound : Addr} {od_check_bound an_check_bound : Option Addr} {sl_check_bound : Array (Option Value)} {oc_check_bound kV_check_bound dc_check_bound pm_check_bound cd_check_bound ct_check_bound : Value}
    {f_check_comings : Addr} {od_check_comings an_check_comings : Option Addr} {sl_check_comings : Array (Option Value)} {oc_check_comings kV_check_comings dc_check_comings pm_check_comings cd_check_comings ct_check_comings : Value}
    {f_follow_line : Addr} {od_follow_line an_follow_line : Option Addr} {sl_follow_line : Array (Option Value)} {oc_follow_line kV_follow_line dc_follow_line pm_follow_line cd_follow_line ct_follow_line : Value}
    {f_letters_of : Addr} {od_letters_of an_letters_of : Option Addr} {sl_letters_of : Array (Option Value)} {oc_letters_of kV_letters_of dc_letters_of pm_letters_of cd_letters_of ct_letters_of : Value}
    {f_comes : Addr} {od_comes an_comes : Option Addr} {sl_comes : Array (Option Value)} {oc_comes kV_comes dc_comes pm_comes cd_comes ct_comes : Value}
    {f_waits : Addr} {od_waits an_waits : Option Addr} {sl_waits : Array (Option Value)} {oc_waits kV_waits dc_waits pm_waits cd_waits ct_waits : Value}
    {f_lines : Addr} {od_lines an_lines : Option Addr} {sl_lines : Array (Option Value)} {oc_lines kV_lines dc_lines pm_lines cd_lines ct_lines : Value}
    {f_outs : Addr} {od_outs an_outs : Option Addr} {sl_outs : Array (Option Value)} {oc_outs kV_outs dc_outs pm_outs cd_outs ct_outs : Value}
    {f__law_tape : Addr} {od__law_tape an__law_tape : Option Addr} {sl__law_tape : Array (Option Value)} {oc__law_tape kV__law_tape dc__law_tape pm__law_tape cd__law_tape ct__law_tape : Value}
    {f__law_pick : Addr} {od__law_pick an__law_pick : Option Addr} {sl__law_pick : Array (Option Value)} {oc__law_pick kV__law_pick dc__law_pick pm__law_pick cd__law_pick ct__law_pick : Value}
    {f__law_comings : Addr} {od__law_comings an__law_comings : Option Addr} {sl__law_comings : Array (Option Value)} {oc__law_comings kV__law_comings dc__law_comings pm__law_comings cd__law_comings ct__law_comings : Value}
    {f__law_led : Addr} {od__law_led an__law_led : Option Addr} {sl__law_led : Array (Option Value)} {oc__law_led kV__law_led dc__law_led pm__law_led cd__law_led ct__law_led : Value}
    {f_law : Addr} {od_law an_law : Option Addr} {sl_law : Array (Option Value)} {oc_law kV_law dc_law pm_law cd_law ct_law : Value}
    {t_MOST_BOUND : Tok}
    {t_MOST_COMERS : Tok}
    {t_MOST_TICKS : Tok}
    (a_is_integer : PySem.W.nsIn K mainGlobals "is_integer" = some (some (.ref f_is_integer))) (l_is_integer : K.lookup f_is_integer = some ⟨oc_is_integer, od_is_integer, .func (PySem.W.fnOf "is_integer" "is_integer" (defArgs s_is_integer) (defBody s_is_integer) (defScope s_is_integer) .none kV_is_integer dc_is_integer pm_is_integer an_is_integer cd_is_integer ct_is_integer), sl_is_integer⟩) (c_is_integer : PySem.W.codeIn K cd_is_integer "is_integer" = true) (k_is_integer : PySem.W.keepIn K (.ref f_is_integer) = true)
    (a_is_number : PySem.W.nsIn K mainGlobals "is_number" = some (some (.ref f_is_number))) (l_is_number : K.lookup f_is_number = some ⟨oc_is_number, od_is_number, .func (PySem.W.fnOf "is_number" "is_number" (defArgs s_is_number) (defBody s_is_number) (defScope s_is_number) .none kV_is_number dc_is_number pm_is_number an_is_number cd_is_number ct_is_number), sl_is_number⟩) (c_is_number : PySem.W.codeIn K cd_is_number "is_number" = true) (k_is_number : PySem.W.keepIn K (.ref f_is_number) = true)
    (a_are_numbers : PySem.W.nsIn K mainGlobals "are_numbers" = some (some (.ref f_are_numbers))) (l_are_numbers : K.lookup f_are_numbers = some ⟨oc_are_numbers, od_are_numbers, .func (PySem.W.fnOf "are_numbers" "are_numbers" (defArgs s_are_numbers) (defBody s_are_numbers) (defScope s_are_numbers) .none kV_are_numbers dc_are_numbers pm_are_numbers an_are_numbers cd_are_numbers ct_are_numbers), sl_are_numbers⟩) (c_are_numbers : PySem.W.codeIn K cd_are_numbers "are_numbers" = true) (k_are_numbers : PySem.W.keepIn K (.ref f_are_numbers) = true)
    (a_is_comings : PySem.W.nsIn K mainGlobals "is_comings" = some (some (.ref f_is_comings))) (l_is_comings : K.lookup f_is_comings = some ⟨oc_is_comings, od_is_comings, .func (PySem.W.fnOf "is_comings" "is_comings" (defArgs s_is_comings) (defBody s_is_comings) (defScope s_is_comings) .none kV_is_comings dc_is_comings pm_is_comings an_is_comings cd_is_comings ct_is_comings), sl_is_comings⟩) (c_is_comings : PySem.W.codeIn K cd_is_comings "is_comings" = true) (k_is_comings : PySem.W.keepIn K (.ref f_is_comings) = true)
    (a_check_comers : PySem.W.nsIn K mainGlobals "check_comers" = some (some (.ref f_check_comers))) (l_check_comers : K.lookup f_check_comers = some ⟨oc_check_comers, od_check_comers, .func (PySem.W.fnOf "check_comers" "check_comers" (defArgs s_check_comers) (defBody s_check_comers) (defScope s_check_comers) .none kV_check_comers dc_check_comers pm_check_comers an_check_comers cd_check_comers ct_check_comers), sl_check_comers⟩) (c_check_comers : PySem.W.codeIn K cd_check_comers "check_comers" = true) (k_check_comers : PySem.W.keepIn K (.ref f_check_comers) = true)
    (a_check_bound : PySem.W.nsIn K mainGlobals "check_bound" = some (some (.ref f_check_bound))) (l_check_bound : K.lookup f_check_bound = some ⟨oc_check_bound, od_check_bound, .func (PySem.W.fnOf "check_bound" "check_bound" (defArgs s_check_bound) (defBody s_check_bound) (defScope s_check_bound) .none kV_check_bound dc_check_bound pm_check_bound an_check_bound cd_check_bound ct_check_bound), sl_check_bound⟩) (c_check_bound : PySem.W.codeIn K cd_check_bound "check_bound" = true) (k_check_bound : PySem.W.keepIn K (.ref f_check_bound) = true)
    (a_check_comings : PySem.W.nsIn K mainGlobals "check_comings" = some (some (.ref f_check_comings))) (l_check_comings : K.lookup f_check_comings = some ⟨oc_check_comings, od_check_comings, .func (PySem.W.fnOf "check_comings" "check_comings" (defArgs s_check_comings) (defBody s_check_comings) (defScope s_check_comings) .none kV_check_comings dc_check_comings pm_check_comings an_check_comings cd_check_comings ct_check_comings), sl_check_comings⟩) (c_check_comings : PySem.W.codeIn K cd_check_comings "check_comings" = true) (k_check_comings : PySem.W.keepIn K (.ref f_check_comings) = true)
    (a_follow_line : PySem.W.nsIn K mainGlobals "follow_line" = some (some (.ref f_follow_line))) (l_follow_line : K.lookup f_follow_line = some ⟨oc_follow_line, od_follow_line, .func (PySem.W.fnOf "follow_line" "follow_line" (defArgs s_follow_line) (defBody s_follow_line) (defScope s_follow_line) .none kV_follow_line dc_follow_line pm_follow_line an_follow_line cd_follow_line ct_follow_line), sl_follow_line⟩) (c_follow_line : PySem.W.codeIn K cd_follow_line "follow_line" = true) (k_follow_line : PySem.W.keepIn K (.ref f_follow_line) = true)
    (a_letters_of : PySem.W.nsIn K mainGlobals "letters_of" = some (some (.ref f_letters_of))) (l_letters_of : K.lookup f_letters_of = some ⟨oc_letters_of, od_letters_of, .func (PySem.W.fnOf "letters_of" "letters_of" (defArgs s_letters_of) (defBody s_letters_of) (defScope s_letters_of) .none kV_letters_of dc_letters_of pm_letters_of an_letters_of cd_letters_of ct_letters_of), sl_letters_of⟩) (c_letters_of : PySem.W.codeIn K cd_letters_of "letters_of" = true) (k_letters_of : PySem.W.keepIn K (.ref f_letters_of) = true)
    (a_comes : PySem.W.nsIn K mainGlobals "comes" = some (some (.ref f_comes))) (l_comes : K.lookup f_comes = some ⟨oc_comes, od_comes, .func (PySem.W.fnOf "comes" "comes" (defArgs s_comes) (defBody s_comes) (defScope s_comes) .none kV_comes dc_comes pm_comes an_comes cd_comes ct_comes), sl_comes⟩) (c_comes : PySem.W.codeIn K cd_comes "comes" = true) (k_comes : PySem.W.keepIn K (.ref f_comes) = true)
    (a_waits : PySem.W.nsIn K mainGlobals "waits" = some (some (.ref f_waits))) (l_waits : K.lookup f_waits = some ⟨oc_waits, od_waits, .func (PySem.W.fnOf "waits" "waits" (defArgs s_waits) (defBody s_waits) (defScope s_waits) .none kV_waits dc_waits pm_waits an_waits cd_waits ct_waits), sl_waits⟩) (c_waits : PySem.W.codeIn K cd_waits "waits" = true) (k_waits : PySem.W.keepIn K (.ref f_waits) = true)
    (a_lines : PySem.W.nsIn K mainGlobals "lines" = some (some (.ref f_lines))) (l_lines : K.lookup f_lines = some ⟨oc_lines, od_lines, .func (PySem.W.fnOf "lines" "lines" (defArgs s_lines) (defBody s_lines) (defScope s_lines) .none kV_lines dc_lines pm_lines an_lines cd_lines ct_lines), sl_lines⟩) (c_lines : PySem.W.codeIn K cd_lines "lines" = true) (k_lines : PySem.W.keepIn K (.ref f_lines) = true)
    (a_outs : PySem.W.nsIn K mainGlobals "outs" = some (some (.ref f_outs))) (l_outs : K.lookup f_outs = some ⟨oc_outs, od_outs, .func (PySem.W.fnOf "outs" "outs" (defArgs s_outs) (defBody s_outs) (defScope s_outs) .none kV_outs dc_outs pm_outs an_outs cd_outs ct_outs), sl_outs⟩) (c_outs : PySem.W.codeIn K cd_outs "outs" = true) (k_outs : PySem.W.keepIn K (.ref f_outs) = true)
    (a__law_tape : PySem.W.nsIn K mainGlobals "_law_tape" = some (some (.ref f__law_tape))) (l__law_tape : K.lookup f__law_tape = some ⟨oc__law_tape, od__law_tape, .func (PySem.W.fnOf "_law_tape" "_law_tape" (defArgs s__law_tape) (defBody s__law_tape) (defScope s__law_tape) .none kV__law_tape dc__law_tape pm__law_tape an__law_tape cd__law_tape ct__law_tape), sl__law_tape⟩) (c__law_tape : PySem.W.codeIn K cd__law_tape "_law_tape" = true) (k__law_tape : PySem.W.keepIn K (.ref f__law_tape) = true)
    (a__law_pick : PySem.W.nsIn K mainGlobals "_law_pick" = some (some (.ref f__law_pick))) (l__law_pick : K.lookup f__law_pick = some ⟨oc__law_pick, od__law_pick, .func (PySem.W.fnOf "_law_pick" "_law_pick" (defArgs s__law_pick) (defBody s__law_pick) (defScope s__law_pick) .none kV__law_pick dc__law_pick pm__law_pick an__law_pick cd__law_pick ct__law_pick), sl__law_pick⟩) (c__law_pick : PySem.W.codeIn K cd__law_pick "_law_pick" = true) (k__law_pick : PySem.W.keepIn K (.ref f__law_pick) = true)
    (a__law_comings : PySem.W.nsIn K mainGlobals "_law_comings" = some (some (.ref f__law_comings))) (l__law_comings : K.lookup f__law_comings = some ⟨oc__law_comings, od__law_comings, .func (PySem.W.fnOf "_law_comings" "_law_comings" (defArgs s__law_comings) (defBody s__law_comings) (defScope s__law_comings) .none kV__law_comings dc__law_comings pm__law_comings an__law_comings cd__law_comings ct__law_comings), sl__law_comings⟩) (c__law_comings : PySem.W.codeIn K cd__law_comings "_law_comings" = true) (k__law_comings : PySem.W.keepIn K (.ref f__law_comings) = true)
    (a__law_led : PySem.W.nsIn K mainGlobals "_law_led" = some (some (.ref f__law_led))) (l__law_led : K.lookup f__law_led = some ⟨oc__law_led, od__law_led, .func (PySem.W.fnOf "_law_led" "_law_led" (defArgs s__law_led) (defBody s__law_led) (defScope s__law_led) .none kV__law_led dc__law_led pm__law_led an__law_led cd__law_led ct__law_led), sl__law_led⟩) (c__law_led : PySem.W.codeIn K cd__law_led "_law_led" = true) (k__law_led : PySem.W.keepIn K (.ref f__law_led) = true)
    (a_law : PySem.W.nsIn K mainGlobals "law" = some (some (.ref f_law))) (l_law : K.lookup f_law = some ⟨oc_law, od_law, .func (PySem.W.fnOf "law" "law" (defArgs s_law) (defBody s_law) (defScope s_law) .none kV_law dc_law pm_law an_law cd_law ct_law), sl_law⟩) (c_law : PySem.W.codeIn K cd_law "law" = true) (k_law : PySem.W.keepIn K (.ref f_law) = true)
    (z_all : PySem.W.nsIn K mainGlobals "all" = some none)
    (z_bool : PySem.W.nsIn K mainGlobals "bool" = some none)
    (z_enumerate : PySem.W.nsIn K mainGlobals "enumerate" = some none)
    (z_int : PySem.W.nsIn K mainGlobals "int" = some none)
    (z_isinstance : PySem.W.nsIn K mainGlobals "isinstance" = some none)
    (z_len : PySem.W.nsIn K mainGlobals "len" = some none)
    (z_list : PySem.W.nsIn K mainGlobals "list" = some none)
    (z_range : PySem.W.nsIn K mainGlobals "range" = some none)
    (z_tuple : PySem.W.nsIn K mainGlobals "tuple" = some none)
    (y_MOST_BOUND : PySem.W.nsIn K mainGlobals "MOST_BOUND" = some (some (.int 60 t_MOST_BOUND)))
    (y_MOST_COMERS : PySem.W.nsIn K mainGlobals "MOST_COMERS" = some (some (.int 4 t_MOST_COMERS)))
    (y_MOST_TICKS : PySem.W.nsIn K mainGlobals "MOST_TICKS" = some (some (.int 400 t_MOST_TICKS)))
    : ∃ T : Tx K mg, T.a_law = f_law ∧ T.d_law = PySem.W.fnOf "law" "law" (defArgs s_law) (defBody s_law) (defScope s_law) .none kV_law dc_law pm_law an_law cd_law ct_law :=
  ⟨{ a_is_integer := f_is_integer, d_is_integer := _, F_is_integer := fun_mk (st := s_is_integer) l_is_integer c_is_integer k_is_integer, b_is_integer := (fun_mk (st := s_is_integer) l_is_integer c_is_integer k_is_integer).binds (ps := ["thing"]) (fun _ _ _ _ _ _ us hl => match us, hl with | [_], _ => rfl), g_is_integer := PySem.W.mg_of X G a_is_integer,
     a_is_number := f_is_number, d_is_number := _, F_is_number := fun_mk (st := s_is_number) l_is_number c_is_number k_is_number, b_is_number := (fun_mk (st := s_is_number) l_is_number c_is_number k_is_number).binds (ps := ["thing", "least", "most"]) (fun _ _ _ _ _ _ us hl => match us, hl with | [_, _, _], _ => rfl), g_is_number := PySem.W.mg_of X G a_is_number,
     a_are_numbers := f_are_numbers, d_are_numbers := _, F_are_numbers := fun_mk (st := s_are_numbers) l_are_numbers c_are_numbers k_are_numbers, b_are_numbers := (fun_mk (st := s_are_numbers) l_are_numbers c_are_numbers k_are_numbers).binds (ps := ["things", "least", "most"]) (fun _ _ _ _ _ _ us hl => match us, hl with | [_, _, _], _ => rfl), g_are_numbers := PySem.W.mg_of X G a_are_numbers,
     a_is_comings := f_is_comings, d_is_comings := _, F_is_comings := fun_mk (st := s_is_comings) l_is_comings c_is_comings k_is_comings, b_is_comings := (fun_mk (st := s_is_comings) l_is_comings c_is_comings k_is_comings).binds (ps := ["comers", "thing"]) (fun _ _ _ _ _ _ us hl => match us, hl with | [_, _], _ => rfl), g_is_comings := PySem.W.mg_of X G a_is_comings,
     a_check_comers := f_check_comers, d_check_comers := _, F_check_comers := fun_mk (st := s_check_comers) l_check_comers c_check_comers k_check_comers, b_check_comers := (fun_mk (st := s_check_comers) l_check_comers c_check_comers k_check_comers).binds (ps := ["thing"]) (fun _ _ _ _ _ _ us hl => match us, hl with | [_], _ => rfl), g_check_comers := PySem.W.mg_of X G a_check_comers,
     a_check_bound := f_check_bound, d_check_bound := _, F_check_bound := fun_mk (st := s_check_bound) l_check_bound c_check_bound k_check_bound, b_check_bound := (fun_mk (st := s_check_bound) l_check_bound c_check_bound k_check_bound).binds (ps := ["thing"]) (fun _ _ _ _ _ _ us hl => match us, hl with | [_], _ => rfl), g_check_bound := PySem.W.mg_of X G a_check_bound,
     a_check_comings := f_check_comings, d_check_comings := _, F_check_comings := fun_mk (st := s_check_comings) l_check_comings c_check_comings k_check_comings, b_check_comings := (fun_mk (st := s_check_comings) l_check_comings c_check_comings k_check_comings).binds (ps := ["comers", "thing"]) (fun _ _ _ _ _ _ us hl => match us, hl with | [_, _], _ => rfl), g_check_comings := PySem.W.mg_of X G a_check_comings,
     a_follow_line := f_follow_line, d_follow_line := _, F_follow_line := fun_mk (st := s_follow_line) l_follow_line c_follow_line k_follow_line, b_follow_line := (fun_mk (st := s_follow_line) l_follow_line c_follow_line k_follow_line).binds (ps := ["bound", "line", "comings"]) (fun _ _ _ _ _ _ us hl => match us, hl with | [_, _, _], _ => rfl), g_follow_line := PySem.W.mg_of X G a_follow_line,
     a_letters_of := f_letters_of, d_letters_of := _, F_letters_of := fun_mk (st := s_letters_of) l_letters_of c_letters_of k_letters_of, b_letters_of := (fun_mk (st := s_letters_of) l_letters_of c_letters_of k_letters_of).binds (ps := ["bound", "comings"]) (fun _ _ _ _ _ _ us hl => match us, hl with | [_, _], _ => rfl), g_letters_of := PySem.W.mg_of X G a_letters_of,
     a_comes := f_comes, d_comes := _, F_comes := fun_mk (st := s_comes) l_comes c_comes k_comes, b_comes := (fun_mk (st := s_comes) l_comes c_comes k_comes).binds (ps := ["comers", "comings"]) (fun _ _ _ _ _ _ us hl => match us, hl with | [_, _], _ => rfl), g_comes := PySem.W.mg_of X G a_comes,
     a_waits := f_waits, d_waits := _, F_waits := fun_mk (st := s_waits) l_waits c_waits k_waits, b_waits := (fun_mk (st := s_waits) l_waits c_waits k_waits).binds (ps := ["comers", "bound", "comings"]) (fun _ _ _ _ _ _ us hl => match us, hl with | [_, _, _], _ => rfl), g_waits := PySem.W.mg_of X G a_waits,
     a_lines := f_lines, d_lines := _, F_lines := fun_mk (st := s_lines) l_lines c_lines k_lines, b_lines := (fun_mk (st := s_lines) l_lines c_lines k_lines).binds (ps := ["comers", "bound", "comings"]) (fun _ _ _ _ _ _ us hl => match us, hl with | [_, _, _], _ => rfl), g_lines := PySem.W.mg_of X G a_lines,
     a_outs := f_outs, d_outs := _, F_outs := fun_mk (st := s_outs) l_outs c_outs k_outs, b_outs := (fun_mk (st := s_outs) l_outs c_outs k_outs).binds (ps := ["comers", "bound", "comings"]) (fun _ _ _ _ _ _ us hl => match us, hl with | [_, _, _], _ => rfl), g_outs := PySem.W.mg_of X G a_outs,
     a__law_tape := f__law_tape, d__law_tape := _, F__law_tape := fun_mk (st := s__law_tape) l__law_tape c__law_tape k__law_tape, b__law_tape := (fun_mk (st := s__law_tape) l__law_tape c__law_tape k__law_tape).binds (ps := ["script"]) (fun _ _ _ _ _ _ us hl => match us, hl with | [_], _ => rfl), g__law_tape := PySem.W.mg_of X G a__law_tape,
     a__law_pick := f__law_pick, d__law_pick := _, F__law_pick := fun_mk (st := s__law_pick) l__law_pick c__law_pick k__law_pick, b__law_pick := (fun_mk (st := s__law_pick) l__law_pick c__law_pick k__law_pick).binds (ps := ["tape", "size"]) (fun _ _ _ _ _ _ us hl => match us, hl with | [_, _], _ => rfl), g__law_pick := PySem.W.mg_of X G a__law_pick,
     a__law_comings := f__law_comings, d__law_comings := _, F__law_comings := fun_mk (st := s__law_comings) l__law_comings c__law_comings k__law_comings, b__law_comings := (fun_mk (st := s__law_comings) l__law_comings c__law_comings k__law_comings).binds (ps := ["tape", "comers", "most"]) (fun _ _ _ _ _ _ us hl => match us, hl with | [_, _, _], _ => rfl), g__law_comings := PySem.W.mg_of X G a__law_comings,
     a__law_led := f__law_led, d__law_led := _, F__law_led := fun_mk (st := s__law_led) l__law_led c__law_led k__law_led, b__law_led := (fun_mk (st := s__law_led) l__law_led c__law_led k__law_led).binds (ps := ["bound", "comings"]) (fun _ _ _ _ _ _ us hl => match us, hl with | [_, _], _ => rfl), g__law_led := PySem.W.mg_of X G a__law_led,
     a_law := f_law, d_law := _, F_law := fun_mk (st := s_law) l_law c_law k_law, b_law := (fun_mk (st := s_law) l_law c_law k_law).binds (ps := ["script"]) (fun _ _ _ _ _ _ us hl => match us, hl with | [_], _ => rfl), g_law := PySem.W.mg_of X G a_law,
     m_all := PySem.W.mg_none_of X G z_all,
     m_bool := PySem.W.mg_none_of X G z_bool,
     m_enumerate := PySem.W.mg_none_of X G z_enumerate,
     m_int := PySem.W.mg_none_of X G z_int,
     m_isinstance := PySem.W.mg_none_of X G z_isinstance,
     m_len := PySem.W.mg_none_of X G z_len,
     m_list := PySem.W.mg_none_of X G z_list,
     m_range := PySem.W.mg_none_of X G z_range,
     m_tuple := PySem.W.mg_none_of X G z_tuple,
     t_MOST_BOUND := t_MOST_BOUND, g_MOST_BOUND := PySem.W.mg_of X G y_MOST_BOUND,
     t_MOST_COMERS := t_MOST_COMERS, g_MOST_COMERS := PySem.W.mg_of X G y_MOST_COMERS,
     t_MOST_TICKS := t_MOST_TICKS, g_MOST_TICKS := PySem.W.mg_of X G y_MOST_TICKS }, rfl, rfl⟩
end My
open PySem PySem.W PyProof.Rows
set_option maxHeartbeats 0 in
theorem PySem.Challenge.cw_loopstore_k02_whole_waits_and_lines_holds : PySem.Challenge.rw_loopstore_k02_whole_waits_and_lines.Holds := by
  w_on; o_law; k_head; (case hw => w_witness2)
  k_fill
  refine L2.walk_of (l := PySem.Challenge.rw_loopstore_k02_whole_waits_and_lines) (n := 63) (k := My.lawLevel) (x := "script") (CX := fun _ => L2.CX0) (sp := fun w => My.spLaw _) rfl (by decide) rfl ⟨rfl, by decide, by decide⟩ (fun w h Y => PySem.W.kIn_of Y) ?F (fun _ _ a ns hl _ hS => ⟨a, ns, rfl, hS, hl, fun _ => rfl⟩) (fun _ _ _ _ _ h => h)
  case F =>
    intro w mg fa h KX G hmg
    refine' My.fin_mk KX G hmg (My.all_mk (w := w) KX G ?a_is_integer ?l_is_integer ?c_is_integer ?k_is_integer ?a_is_number ?l_is_number ?c_is_number ?k_is_number ?a_are_numbers ?l_are_numbers ?c_are_numbers ?k_are_numbers ?a_is_comings ?l_is_comings ?c_is_comings ?k_is_comings ?a_check_comers ?l_check_comers ?c_check_comers ?k_check_comers ?a_check_bound ?l_check_bound ?c_check_bound ?k_check_bound ?a_check_comings ?l_check_comings ?c_check_comings ?k_check_comings ?a_follow_line ?l_follow_line ?c_follow_line ?k_follow_line ?a_letters_of ?l_letters_of ?c_letters_of ?k_letters_of ?a_comes ?l_comes ?c_comes ?k_comes ?a_waits ?l_waits ?c_waits ?k_waits ?a_lines ?l_lines ?c_lines ?k_lines ?a_outs ?l_outs ?c_outs ?k_outs ?a__law_tape ?l__law_tape ?c__law_tape ?k__law_tape ?a__law_pick ?l__law_pick ?c__law_pick ?k__law_pick ?a__law_comings ?l__law_comings ?c__law_comings ?k__law_comings ?a__law_led ?l__law_led ?c__law_led ?k__law_led ?a_law ?l_law ?c_law ?k_law ?z_all ?z_bool ?z_enumerate ?z_int ?z_isinstance ?z_len ?z_list ?z_range ?z_tuple ?y_MOST_BOUND ?y_MOST_COMERS ?y_MOST_TICKS)
    (case a_is_integer => k_is); (case l_is_integer => k_is); (case c_is_integer => k_is); (case k_is_integer => k_is); (case a_is_number => k_is); (case l_is_number => k_is); (case c_is_number => k_is); (case k_is_number => k_is); (case a_are_numbers => k_is); (case l_are_numbers => k_is); (case c_are_numbers => k_is); (case k_are_numbers => k_is); (case a_is_comings => k_is); (case l_is_comings => k_is); (case c_is_comings => k_is); (case k_is_comings => k_is); (case a_check_comers => k_is); (case l_check_comers => k_is); (case c_check_comers => k_is); (case k_check_comers => k_is); (case a_check_bound => k_is); (case l_check_bound => k_is); (case c_check_bound => k_is); (case k_check_bound => k_is); (case a_check_comings => k_is); (case l_check_comings => k_is); (case c_check_comings => k_is); (case k_check_comings => k_is); (case a_follow_line => k_is); (case l_follow_line => k_is); (case c_follow_line => k_is); (case k_follow_line => k_is); (case a_letters_of => k_is); (case l_letters_of => k_is); (case c_letters_of => k_is); (case k_letters_of => k_is); (case a_comes => k_is); (case l_comes => k_is); (case c_comes => k_is); (case k_comes => k_is); (case a_waits => k_is); (case l_waits => k_is); (case c_waits => k_is); (case k_waits => k_is); (case a_lines => k_is); (case l_lines => k_is); (case c_lines => k_is); (case k_lines => k_is); (case a_outs => k_is); (case l_outs => k_is); (case c_outs => k_is); (case k_outs => k_is); (case a__law_tape => k_is); (case l__law_tape => k_is); (case c__law_tape => k_is); (case k__law_tape => k_is); (case a__law_pick => k_is); (case l__law_pick => k_is); (case c__law_pick => k_is); (case k__law_pick => k_is); (case a__law_comings => k_is); (case l__law_comings => k_is); (case c__law_comings => k_is); (case k__law_comings => k_is); (case a__law_led => k_is); (case l__law_led => k_is); (case c__law_led => k_is); (case k__law_led => k_is); (case a_law => k_is); (case l_law => k_is); (case c_law => k_is); (case k_law => k_is); (case z_all => k_is); (case z_bool => k_is); (case z_enumerate => k_is); (case z_int => k_is); (case z_isinstance => k_is); (case z_len => k_is); (case z_list => k_is); (case z_range => k_is); (case z_tuple => k_is); (case y_MOST_BOUND => k_is); (case y_MOST_COMERS => k_is); (case y_MOST_TICKS => k_is)

