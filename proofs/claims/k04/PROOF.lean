import PyProof.Rows.All
import Wide.All
import OpenK.AllK
import Wide.FinOn
import HandS.ForMost
import HandS.Wide
import HandS.IsInst
import HandS.TupMul
import HandS.TupAny
import HandS.SortInts
import HandS.SortRule
import HandS.Strs
import HandS.Deep
import HandS.Style
import HandS.Evl
import PySem.Challenge.RW_loopstore_k04_whole_walks_are_what_lette
set_option Elab.async false
set_option linter.all false
set_option maxRecDepth 100000
set_option maxHeartbeats 4000000
/-! ## rules that the layer lacks -/
namespace RR
open PySem PySem.Spec PyProof.Rows L2 HT
section
variable {prog : Program} {w : World} {A : Around} {E : Value → Shared → Prop} {s : Shared}
/-- a tuple's items gathered -/
theorem collect_tuple {l : Addr} {vs : List Value} {Q : List Value → Shared → Prop} (hl : IsTup s.heap l vs.toArray)
    (h : Q vs { s with heap := (s.heap.push (seqObj "list" #[] 0)).update s.heap.objs.size (Obj.mapSeq (· ++ vs.toArray)) }) (hsz : vs.length ≤ sizeLine) :
    wpAny (model prog w) A (collect (.ref l)) Q E s := by
  obtain ⟨o, ho, hc, n, hd⟩ := id hl
  unfold collect
  refine wpAny_bind (wpAny_runValue (codeAny_builtin entry_proto_collect' ?_))
  show wpAny _ _ (do again (.builtin "list.__iadd__" ⟨[← newList [], .ref l], []⟩)) _ _ s
  refine wpAny_bind (wpAny_newList (wpAny_pure ⟨Code.quiet_builtin _ (by decide +kernel), codeAny_builtin entry_list_iadd' ?_⟩))
  show wpAny _ _ (Builtin.List.listExtendWith (.ref s.heap.objs.size) (.ref l) (.ref s.heap.objs.size)) _ _ { s with heap := s.heap.push (seqObj "list" #[] 0) }
  unfold Builtin.List.listExtendWith
  have ho' : (s.heap.push (seqObj "list" #[] 0)).get? l = some o := Heap.get?_push_of_some _ ho
  refine wpAny_bind (wpAny_typeOf (T := "tuple") ⟨o, ho', hc⟩ ?_)
  have ht : (Value.type "tuple" == Value.type "tuple") = true := by rfl
  rw [if_pos (by rw [ht]; simp)]
  refine wpAny_bind (listItems_at ho' hd ?_)
  refine wpAny_bind (listItems_at (xs := #[]) (n := 0) (Heap.get?_push_size _ rfl) rfl ?_)
  rw [if_neg (by simp)]
  refine wpAny_bind (listUpdate_at (xs := #[]) (n := 0) (Heap.get?_push_size _ rfl) rfl ?_ (Nat.zero_le _) (by show (#[] ++ vs.toArray).size ≤ sizeLine + 1; simp only [Array.size_append, List.size_toArray, List.length_nil]; omega))
  refine wpAny_pure ?_
  show wpAny (model prog w) A (do
      let o ← load s.heap.objs.size
      match o.data with
      | .seq xs _ => pure xs.toList
      | _ => unsupported "internal:collect") Q E { s with heap := (s.heap.push (seqObj "list" #[] 0)).update s.heap.objs.size (Obj.mapSeq (· ++ vs.toArray)) }
  refine wpAny_bind (wpAny_load (get?_update_seq (Heap.get?_push_size _ rfl) _) ?_)
  show wpAny _ _ (pure ((#[] : Array Value) ++ vs.toArray).toList) Q E _
  rw [show ((#[] : Array Value) ++ vs.toArray).toList = vs by simp]
  exact wpAny_pure h
theorem sorted_ordT {l : Addr} {vs : List Value} {ltv : Value → Value → Bool} {Q : Value → Shared → Prop} (O : SrtO.Swo ltv) (hl : IsTup s.heap l vs.toArray) (hz : vs.length ≤ sizeLine)
    (hS : 2 ≤ vs.length → ∀ (h₁ : Heap) (a : Addr), h₁.get? a = some (seqObj "list" vs.toArray 0) → (∀ b o, s.heap.get? b = some o → b ≠ a ∧ h₁.get? b = some o) → SrtO.SortableO prog w A.in1.in1 { s with heap := h₁ } a vs ltv)
    (h : ∀ out : List Value, SrtO.Srtd ltv out → SrtO.Stb ltv out vs → Q (.ref (s.heap.objs.size + 1)) { s with heap := sortedAll s.heap vs out.toArray }) :
    wpAny (model prog w) A (call (.builtin "sorted") [.ref l]) Q E s := by
  refine Calls.call_function_entry kind_sorted plain_sorted entry_sorted (args_sorted1 _) ?_
  unfold Builtin.«sorted»
  refine wpAny_bind (m := checkCount "sorted" 1 1 _) (wpAny_pure ?_)
  refine wpAny_bind (collect_tuple hl ?_ hz)
  refine wpAny_bind (wpAny_newList ?_ hz)
  have hsz : ((s.heap.push (seqObj "list" #[] 0)).update s.heap.objs.size (Obj.mapSeq (· ++ vs.toArray))).objs.size = s.heap.objs.size + 1 := by
    rw [Heap.size_update, size_push']
  have hoL : (((s.heap.push (seqObj "list" #[] 0)).update s.heap.objs.size (Obj.mapSeq (· ++ vs.toArray))).push (seqObj "list" vs.toArray 0)).get? (s.heap.objs.size + 1) = some (seqObj "list" vs.toArray 0) := by
    rw [← hsz]; exact Heap.get?_push_size _ rfl
  have keep : ∀ b o, s.heap.get? b = some o → b ≠ s.heap.objs.size + 1 ∧ (((s.heap.push (seqObj "list" #[] 0)).update s.heap.objs.size (Obj.mapSeq (· ++ vs.toArray))).push (seqObj "list" vs.toArray 0)).get? b = some o := fun b o q => by
    have hlt : b < s.heap.objs.size := Heap.lt_size q
    refine ⟨Nat.ne_of_lt (Nat.lt_succ_of_lt hlt), Heap.get?_push_of_some _ ?_⟩
    rw [Heap.get?_update_ne _ _ _ _ (Nat.ne_of_lt hlt)]
    exact Heap.get?_push_of_some _ q
  show wpAny _ _ _ _ _ { s with heap := ((s.heap.push (seqObj "list" #[] 0)).update s.heap.objs.size (Obj.mapSeq (· ++ vs.toArray))).push (seqObj "list" vs.toArray 0) }
  rw [hsz]
  refine wpAny_bind (wpAny_holding (wpAny_call_entry slot_list_sort ⟨_, hoL, rfl⟩ entry_list_sort (SrtO.list_sort_ord O hoL hz (fun h2 => hS h2 _ _ hoL keep) fun out hs hb => ⟨_, rfl, ?_⟩) (args_list_sort _)))
  exact wpAny_pure ⟨_, rfl, h out hs hb⟩
end
def rSortedU (K : PySem.W.Frag) : List V → Hp → VK → Prop := fun vs H Q => ∃ (a : Addr) (ns : List Int), vs = [V.ref a] ∧ SqT K H a (ns.map V.int) ∧
  ∀ (ns' : List Int) (p : Addr), ns'.Perm ns → ns'.Pairwise (· ≤ ·) → H p = none → Q (.ref p) (upd H p (.lst (ns'.map V.int)))
section
variable {X : Cx}
/-- sorted(t), t a tuple of ints -/
theorem cr_sortedU : CallR X (.builtin "sorted") (rSortedU X.K) := by
  intro pins s σ H vs us Q I r h
  obtain ⟨a, ns, rfl, hs, q⟩ := h
  obtain ⟨its, rv, hl, hz⟩ := I.tuple hs
  rw [Vals.ref1 r]
  have hi := rv.ints
  refine sorted_ordT SrtO.swo_int hl (by rw [← rv.length]; exact hz) (fun h2 h₁ a' _ _ => SrtO.ints_sortable hi h2) fun out h1 h2 => ?_
  obtain ⟨k1, k2, k3⟩ := SrtO.ints_out hi h1 h2
  obtain ⟨ep, he'⟩ := PyProof.Rows.sortedAll_at s.heap its out.toArray
  have hlen : ((out.map SrtO.iv).map V.int).length ≤ sizeLine := by
    rw [List.length_map, k2.length_eq]
    rw [List.length_map] at hz
    exact hz
  exact ⟨.ref _, upd H (s.heap.objs.size + 1) (.lst ((out.map SrtO.iv).map V.int)), I.laid (t' := s.toks) (fun _ _ => PyProof.Rows.sortedAll_old) (Nat.le_succ _) ⟨hlen, out, ep, vals_of_ints k1, he'⟩, rfl, q _ _ k2 k3 (I.hok.fresh (Nat.le_succ _))⟩
end
/-! ### t[::-1] -/
theorem adj_rev (n : Nat) : Builtin.Slice.sliceAdjust none none (-1) (n : Int) = ((n : Int) - 1, -1) := rfl
theorem pl_rev (n : Nat) : Builtin.Slice.slicePlaces ((n : Int) - 1) (-1) (-1) = n := by
  unfold Builtin.Slice.slicePlaces
  have h1 : ¬ ((-1 : Int) > 0) := by omega
  simp only [h1, if_false]
  split <;> simp <;> omega
theorem pick_rev (xs : List Value) : ((List.range xs.length).filterMap fun (m : Nat) => xs.toArray[(((xs.length : Int) - 1) + (m : Int) * (-1)).toNat]?) = xs.reverse := by
  have key : ∀ m, m ≤ xs.length → ((List.range m).filterMap fun (k : Nat) => xs.toArray[(((xs.length : Int) - 1) + (k : Int) * (-1)).toNat]?) = xs.reverse.take m := by
    intro m
    induction m with
    | zero => intro _; rfl
    | succ m ih =>
      intro hm
      rw [List.range_succ, List.filterMap_append, ih (by omega), List.take_add_one]
      have e : (((xs.length : Int) - 1) + (m : Int) * (-1)).toNat = xs.length - 1 - m := by omega
      have hl : m < xs.reverse.length := by rw [List.length_reverse]; omega
      have e2 : xs.toArray[xs.length - 1 - m]? = some (xs.reverse[m]) := by
        rw [List.getElem?_toArray, List.getElem_reverse, List.getElem?_eq_getElem]
      rw [List.getElem?_eq_getElem hl]
      simp only [List.filterMap_cons, List.filterMap_nil, e, e2, Option.toList_some]
  have := key xs.length (Nat.le_refl _)
  rw [this, List.take_of_length_le (by rw [List.length_reverse]; exact Nat.le_refl _)]
section
variable {prog : Program} {w : World} {A : Around} {E : Value → Shared → Prop} {s : Shared}
theorem sliceApplied_rev {sl : Addr} {vl vu vs : Value} {n : Nat} {Q : Int × Int × Nat → Shared → Prop} (hs : s.heap.IsSliceOf sl vl vu vs) (pl : IsPart vl none) (pu : IsPart vu none) (ps : IsPart vs (some (-1)))
    (h : Q ((n : Int) - 1, -1, n) s) : wpAny (model prog w) A (Builtin.Slice.sliceApplied (.ref sl) (pure (n : Int))) Q E s := by
  obtain ⟨os, hos, hcs, hds⟩ := id hs
  unfold Builtin.Slice.sliceApplied Builtin.Slice.sliceFields
  refine wpAny_bind (wpAny_bind (wpAny_field hos hds (x := vl) rfl (wpAny_bind (wpAny_field hos hds (x := vu) rfl (wpAny_bind (wpAny_field hos hds (x := vs) rfl (wpAny_pure ?_)))))))
  refine wpAny_bind (slicePart_ ps ?_)
  show wpAny _ _ (if ((-1 : Int) == 0) = true then _ else _) _ _ s
  rw [if_neg (by decide)]
  refine wpAny_bind (slicePart_ pl (wpAny_bind (slicePart_ pu (wpAny_bind (wpAny_pure ?_)))))
  show wpAny _ _ (match Builtin.Slice.sliceAdjust none none (-1) (n : Int) with | (lo, hi) => pure (lo, (-1 : Int), Builtin.Slice.slicePlaces lo hi (-1))) _ _ s
  rw [adj_rev n]
  show wpAny _ _ (pure ((n : Int) - 1, (-1 : Int), Builtin.Slice.slicePlaces ((n : Int) - 1) (-1) (-1))) _ _ s
  rw [pl_rev]
  exact wpAny_pure h
theorem getItem_tuple_rev {t sl : Addr} {items : List Value} {vl vu vs : Value} {Q : Value → Shared → Prop} (ht : IsTup s.heap t items.toArray) (hs : s.heap.IsSliceOf sl vl vu vs) (pl : IsPart vl none) (pu : IsPart vu none) (ps : IsPart vs (some (-1)))
    (h : Q (.ref s.heap.objs.size) { s with heap := s.heap.push { cls := .type "tuple", data := .seq items.reverse.toArray } })
    (hsz : items.length ≤ sizeLine) : wpAny (model prog w) A (getItem (.ref t) (.ref sl)) Q E s := by
  have htake : sizeOk (.seq items.reverse.toArray) := by
    show items.reverse.toArray.size ≤ sizeLine
    rw [List.size_toArray, List.length_reverse]
    omega
  obtain ⟨os, hos, hcs, hds⟩ := id hs
  have hTs : s.TypeIs (.ref sl) "slice" := ⟨os, hos, hcs⟩
  unfold getItem
  try with_reducible refine wpAny_holding ?_
  first | refine wpAny_bind (wpAny_pure ?_) | skip
  refine wpAny_bind (wpAny_sequenceKey ht.typeIs (by decide) ?_)
  refine wpAny_bind (wpAny_callSpecial?_slot (name := Str.ofString "__getitem__") ht.typeIs PyProof.Rows.slot_tuple_getitem
    (wpAny_call_entry PyProof.Rows.slot_tuple_getitem ht.typeIs entry_tuple_getitem ?_ (args_tuple_getitem _ _)))
  show wpAny _ _ (Builtin.Tuple.tupleItemsOf (.ref t) >>= _) _ _ s
  refine wpAny_bind (tupleItemsOf_ ht ?_)
  refine wpAny_bind (wpAny_typeOf hTs ?_)
  rw [if_pos (by decide)]
  rw [List.size_toArray]
  refine wpAny_bind (sliceApplied_rev hs pl pu ps ?_)
  have hno : ¬ ((((items.length : Int) - 1) == 0 && (-1 : Int) == 1 && items.length == items.length) = true) := by
    rw [show ((-1 : Int) == 1) = false from rfl, Bool.and_false, Bool.false_and]
    exact Bool.false_ne_true
  show wpAny _ _ (if (((items.length : Int) - 1) == 0 && (-1 : Int) == 1 && items.length == items.length) = true then _ else _) _ _ s
  rw [if_neg hno, pick_rev]
  first
    | exact wpAny_bind (m := Builtin.Tuple.tupleExact _) (wpAny_newObj_type (wpAny_pure ⟨_, rfl, wpAny_pure h⟩) htake)
    | exact wpAny_bind (m := Builtin.Tuple.tupleExact _) (wpAny_newObj_type (wpAny_bind (wpAny_pure (wpAny_pure ⟨_, rfl, wpAny_pure h⟩))) htake)
    | exact wpAny_bind (wpAny_bind (m := Builtin.Tuple.tupleExact _) (wpAny_newObj_type (wpAny_pure (wpAny_pure ⟨_, rfl, wpAny_pure h⟩)) htake))
    | exact wpAny_bind (wpAny_bind (m := Builtin.Tuple.tupleExact _) (wpAny_newObj_type (wpAny_pure ⟨_, rfl, wpAny_pure h⟩) htake))
end
def tRevT (K : PySem.W.Frag) (te : TE) : TE := fun σ H Q => te σ H fun x H1 => ∃ a xs, x = .ref a ∧ SqT K H1 a xs ∧ ∀ p, H1 p = none → Q (.ref p) (upd H1 p (.tup xs.reverse))
section
variable {X : Cx}
theorem pe_revT {e : Expr} {te : TE} {k : Nat} {p1 p2 p3 pos : Pos} (he : PE X e te) : PE X (.Subscript e (.Slice none none (some (.UnaryOp .USub (.Constant (.int 1) k p1) p2)) p3) pos) (tRevT X.K te) := by
  refine ⟨fun pins s σ H Q I h => ?_⟩
  refine Subscript_ (thn (he.run pins s σ H _ I h) fun v s1 ⟨x, H1, I1, r1, q1⟩ => ?_)
  obtain ⟨a, xs, ex, hx, q⟩ := q1
  subst ex
  cases r1
  have hst : PO X (some (.UnaryOp .USub (.Constant (.int 1) k p1) p2)) (tPart (tUn (rU fun i => .int (-i)) (tC (.int 1)))) := po_some (pe_un un_neg pe_int)
  refine wpAny_Slice (thn (po_none.run pins s1 σ H1 (fun o H2 => o = none ∧ H2 = H1) I1 ⟨rfl, rfl⟩) fun vl s2 ⟨l, H2, I2, pl, el, e2⟩ => ?_)
  subst el e2
  refine thn (po_none.run pins s2 σ H2 (fun o H3 => o = none ∧ H3 = H2) I2 ⟨rfl, rfl⟩) fun vu s3 ⟨u, H3, I3, pu, eu, e3⟩ => ?_
  subst eu e3
  refine thn (hst.run pins s3 σ H3 (fun o H4 => o = some (-1) ∧ H4 = H3) I3 ⟨1, rfl, -1, rfl, rfl, rfl⟩) fun vs s4 ⟨o, H4, I4, ps, eo, e4⟩ => ?_
  subst eo e4
  have I5 : Inv X pins σ H4 { s4 with heap := s4.heap.push { cls := .type "slice", data := .fields #[vl, vu, vs] } } := I4.kept (t' := s4.toks) fun b ob q => Heap.get?_push_of_some _ q
  obtain ⟨its, r, ht, hz⟩ := I5.tuple hx
  have hlen := r.length
  show wpAny (model X.prog X.w) X.A (subscriptTail e (.Slice none none (some (.UnaryOp .USub (.Constant (.int 1) k p1) p2)) p3) (.ref a) (.ref s4.heap.objs.size)) (EP X pins σ Q) X.xe { s4 with heap := s4.heap.push { cls := .type "slice", data := .fields #[vl, vu, vs] } }
  refine tail_any (ops := [.ref a, .ref s4.heap.objs.size]) ht.typeIs (PyProof.Rows.slot_tuple_getitem.lookup) ?_ (by with_unfolding_all rfl)
  refine getItem_tuple_rev ht (Heap.IsSliceOf.new _ vl vu vs) pl pu ps ?_ (by rw [← hlen]; exact hz)
  refine ⟨.ref _, _, I5.laid (t' := s4.toks) (o := .tup xs.reverse) (fun b ob q => Heap.get?_push_of_some _ q) (Nat.le_refl _) ?_, rfl, q _ (I5.hok.fresh (Nat.le_refl _))⟩
  exact ⟨by rw [List.length_reverse]; exact hz, _, r.reverse, IsTup.new _ _⟩
end
/-! ### t * k, k from 1 on -/
theorem tuple_mulW1 (l : Addr) (items : Array Value) (n : Nat) (dd : Option Addr) (sl : Array (Option Value)) (u : Tok) :
    Meets (Builtin.«tuple.__mul__» ⟨[.ref l, .int 1 u], []⟩) (fun _ R s => s.heap.get? l = some { cls := .type "tuple", dict := dd, data := .seq items n, slots := sl } ∧ R (.ok (.ret (Value.ref l))) s) :=
  .of_wp fun prog w A R s h => by
    obtain ⟨hp, g, d, tk, os⟩ := s
    obtain ⟨hl, h⟩ := h
    have f1 := AutoSeq1.idx_int
    have c0 : (decide ((1 : Int) < -(2 ^ 63)) || decide ((1 : Int) ≥ 2 ^ 63)) = false := by decide
    have c1 : (items.isEmpty || (1 : Int) == 1) = true := by rw [show ((1 : Int) == 1) = true from rfl, Bool.or_true]
    wp_walk using wpAny_loadPart' hl
    repeat (first
      | (refine wpAny_ite_false (decide_eq_false (by rw [c0]; exact Bool.false_ne_true)) ?_; wp_walk using wpAny_loadPart' hl)
      | (refine wpAny_ite_true (decide_eq_true c1) ?_; wp_walk using wpAny_loadPart' hl))
    exact ⟨_, rfl, h⟩
def rRepA (K : PySem.W.Frag) : R2 := fun x y H Q => ∃ l k xs, x = .ref l ∧ y = .int k ∧ SqT K H l xs ∧ xs ≠ [] ∧ 1 ≤ k ∧ k ≤ 1000 ∧ xs.length ≤ 1000 ∧ (k = 1 → Q (.ref l) H) ∧ (k ≠ 1 → ∀ p, H p = none → Q (.ref p) (upd H p (.tup (List.replicate k.toNat xs).flatten)))
section
variable {X : Cx}
theorem op_repA : OpR X (binaryOp .Mult) (rRepA X.K) := by
  intro pins s σ H x y v u Q I rx ry h
  obtain ⟨l, k, xs, rfl, rfl, hT, hne, h1, h2, hz, q1, q2⟩ := h
  by_cases hk : k = 1
  · subst hk
    cases rx
    obtain ⟨t, rfl⟩ := ry
    obtain ⟨its, r, ⟨⟨cls, dd, data, sl⟩, ho, hc, n, hd⟩, hs⟩ := I.tuple hT
    simp only at hc hd
    subst hc hd
    refine wpAny_binaryOp_repeat_ref (T := "tuple") (U := "int") (by decide) ⟨_, ho, rfl⟩ (fun s' => typeIs_int s' 1 t) noFill_tuple_mul F.fills_int_mul F.slot_int_rmul repeat_tuple F.slot_int_index.lookup
      (call_meets F.slot_int_rmul (typeIs_int s 1 t) F.entry_int_rmul (F.args_int_rmul_2 _ _) (int_rmul_tuple 1 t l its.toArray n dd sl)
        ⟨ho, rfl, ⟨_, ho, rfl⟩, call_meets F.slot_tuple_mul ⟨_, ho, rfl⟩ F.entry_tuple_mul (F.args_tuple_mul_2 _ _) (tuple_mulW1 l its.toArray n dd sl t) ⟨ho, ?_⟩⟩)
    exact ⟨.ref l, H, I, rfl, q1 rfl⟩
  · exact op_repT pins s σ H _ _ v u Q I rx ry ⟨l, k, xs, rfl, rfl, hT, hne, by omega, h2, hz, q2 hk⟩
end
end RR

/-! ## enumerate over a tuple; an empty tuple times k -/
namespace RR
open PySem PySem.Spec PyProof.Rows L2 HT
open Sem (wp)
open AutoSeq1 (wpAny_loadPart')
section
variable {prog : Program} {w : World} {A : Around} {E : Value → Shared → Prop} {s : Shared}
theorem next_tuple_item {it t : Addr} {i : Nat} {items} {x : Value} {Q : Value → Shared → Prop} (hit : s.heap.IsTupleIter it t i)
    (ht : s.heap.IsTuple t items) (hx : items[i]? = some x)
    (hQ : ∀ h', h'.IsTupleIter it t (i + 1) → Heap.SameBut it s.heap h' → Q x { s with heap := h' }) :
    wpAny (model prog w) A (Builtin.SmallTypes.nextOf (.ref it)) Q E s := by
  obtain ⟨o, ho, hc, hd⟩ := id hit
  obtain ⟨ol, hol, _, nl, hdl⟩ := ht
  unfold Builtin.SmallTypes.nextOf
  refine wpAny_bind (wpAny_callSpecial?_slot (name := Str.ofString "__next__") hit.typeIs F.slot_tuple_iterator_next
    (wpAny_call_entry F.slot_tuple_iterator_next hit.typeIs F.entry_tuple_iterator_next ?_ (F.args_tuple_iterator_next_1 _)))
  show wpAny _ _ (field (.ref it) 0 >>= _) _ _ s
  refine wpAny_bind (wpAny_field ho hd (x := .ref t) rfl ?_)
  show wpAny _ _ (if (Value.ref t == Value.none) = true then _ else _) _ _ s
  rw [if_neg (show ¬ ((Value.ref t == Value.none) = true) from Bool.false_ne_true)]
  show wpAny _ _ (field (.ref it) 1 >>= _) _ _ s
  refine wpAny_bind (wpAny_field ho hd (x := .int i 0) rfl ?_)
  show wpAny _ _ (seqItems? (.ref t) >>= _) _ _ s
  refine wpAny_bind (wpAny_seqItems hol hdl ?_)
  simp only [Int.toNat_natCast, hx]
  refine wpAny_bind (wpAny_setField ho hd (by simp) (wpAny_pure ⟨x, rfl, wpAny_pure (hQ _ ?_ (Heap.SameBut.update ..))⟩))
  exact ⟨_, Heap.get?_update_self _ ho (Obj.isFreed_of_fields (Obj.data_mapFields hd _)), (Obj.cls_mapFields ..).trans hc, by
    rw [Obj.data_mapFields hd]; simp [rawInt]⟩
theorem next_tuple_end {it t : Addr} {i : Nat} {items} {Q : Value → Shared → Prop} (hh : A.handled = none)
    (hit : s.heap.IsTupleIter it t i) (ht : s.heap.IsTuple t items) (hx : items[i]? = none)
    (hE : ∀ h' e, Heap.ExtBut it s.heap h' → (∃ o, h'.get? e = some o ∧ o.cls = .type "StopIteration") → E (.ref e) { s with heap := h' }) :
    wpAny (model prog w) A (Builtin.SmallTypes.nextOf (.ref it)) Q E s := by
  obtain ⟨o, ho, hc, hd⟩ := id hit
  obtain ⟨ol, hol, _, nl, hdl⟩ := ht
  unfold Builtin.SmallTypes.nextOf
  refine wpAny_bind (wpAny_callSpecial?_slot (name := Str.ofString "__next__") hit.typeIs F.slot_tuple_iterator_next
    (wpAny_call_entry F.slot_tuple_iterator_next hit.typeIs F.entry_tuple_iterator_next ?_ (F.args_tuple_iterator_next_1 _)))
  show wpAny _ _ (field (.ref it) 0 >>= _) _ _ s
  refine wpAny_bind (wpAny_field ho hd (x := .ref t) rfl ?_)
  show wpAny _ _ (if (Value.ref t == Value.none) = true then _ else _) _ _ s
  rw [if_neg (show ¬ ((Value.ref t == Value.none) = true) from Bool.false_ne_true)]
  show wpAny _ _ (field (.ref it) 1 >>= _) _ _ s
  refine wpAny_bind (wpAny_field ho hd (x := .int i 0) rfl ?_)
  show wpAny _ _ (seqItems? (.ref t) >>= _) _ _ s
  refine wpAny_bind (wpAny_seqItems hol hdl ?_)
  simp only [Int.toNat_natCast, hx]
  refine wpAny_bind (wpAny_rule (wpAny_bind (wpAny_setField ho hd (by simp) ?_)))
  show wpAny _ _ (newExc (.type "StopIteration") [] >>= _) _ _ _
  refine wpAny_bind ?_
  simp only [newExc, newTuple]
  refine wpAny_bind (wpAny_newObj_type ?_ (by size_fits))
  refine wpAny_bind (m := firstArgMember _ _) (wpAny_of_eq (a := Value.none) (by first | rfl | (simp only [firstArgMember]; rfl)) ?_)
  refine wpAny_newObj_type ?_ (by size_fits)
  simp only [raiseNew]
  refine wpAny_bind (wpAny_handled ?_)
  first | rw [show A.in1.handled = none from hh] | rw [hh]
  refine wpAny_bind (wpAny_pure (wpAny_throw ?_))
  exact hE _ _ (((Heap.SameBut.update ..).extBut.push _).push _) ⟨_, Heap.get?_push_size _ rfl, rfl⟩
end
theorem tup_at {h h' : Heap} {a : Addr} {items} (x : h.IsTuple a items) (e : ∀ o, h.get? a = some o → h'.get? a = some o) : h'.IsTuple a items := let ⟨o, ho, r⟩ := x; ⟨o, e _ ho, r⟩
theorem draws_tuple {prog : Program} {w : World} {A : Around} (hh : A.handled = none) (it l : Addr) (hne : l ≠ it) (items : Array Value) :
    Draws prog w A it [it, l] items.size (fun i v => items[i]? = some v) (fun i h => h.IsTupleIter it l i ∧ h.IsTuple l items) where
  live := fun _ _ st => let ⟨o, ho, _⟩ := st.1; ⟨o, ho⟩
  frame := fun _ _ _ st hk => ⟨st.1.at fun o e => hk it (by simp) o e, tup_at st.2 fun o e => hk l (by simp) o e⟩
  item := fun i s Q E hi st hQ => by
    refine next_tuple_item st.1 st.2 (x := items[i]) (by simp [hi]) fun h' hit' hs' => ?_
    exact hQ _ h' s.toks (by simp [hi]) ⟨hit', st.2.extBut hs'.extBut hne⟩ hs'
  done := fun s Q E st hE => next_tuple_end hh st.1 st.2 (by simp) hE
theorem enumerate_newT (l : Addr) (items : Array Value) (n : Nat) (dct : Option Addr) (sl : Array (Option Value)) :
    Meets (Builtin.«enumerate.__new__» ⟨[.type "enumerate", .ref l], []⟩) (fun _ R s => s.heap.get? l = some { cls := .type "tuple", dict := dct, data := .seq items n, slots := sl } ∧
      R (.ok (.ret (.ref (s.heap.push { cls := .type "tuple_iterator", data := .fields #[.ref l, .int 0 0] }).objs.size)))
        { s with heap := (s.heap.push { cls := .type "tuple_iterator", data := .fields #[.ref l, .int 0 0] }).push { cls := .type "enumerate", data := .fields #[.none, .bool false, .ref s.heap.objs.size, rawInt 0, .none, .none] } }) :=
  .of_wp fun prog w A R s h => by
    obtain ⟨hp, g, d, tk, os⟩ := s; obtain ⟨hl, h⟩ := h
    have hsub := sub_enumerate
    have hL : Heap.IsTuple (Shared.heap ⟨hp, g, d, tk, os⟩) l items := ⟨_, hl, rfl, n, rfl⟩
    wp_walk using wpAny_loadPart' hl
    refine wpAny_stack_any fun st => wpAny_pure ?_
    split
    · rename_i c _ _ _ _ _
      cases (c == Value.type "enumerate")
      · wp_walk using wpAny_loadPart' hl, wpAny_pyIter_tuple hL
        exact ⟨_, rfl, h⟩
      · wp_walk using wpAny_loadPart' hl, wpAny_pyIter_tuple hL
        exact ⟨_, rfl, h⟩
    · wp_walk using wpAny_loadPart' hl, wpAny_pyIter_tuple hL
      exact ⟨_, rfl, h⟩
section
variable {prog : Program} {w : World} {A : Around} {E : Value → Shared → Prop} {s : Shared}
theorem call_enumerate_tuple {l : Addr} {items : Array Value} {Q : Value → Shared → Prop} (hL : s.heap.IsTuple l items)
    (h : ∀ h', IsEnum h' (s.heap.objs.size + 1) s.heap.objs.size 0 .none → h'.IsTupleIter s.heap.objs.size l 0 → h'.objs.size = s.heap.objs.size + 2 →
      (∀ b o, s.heap.get? b = some o → h'.get? b = some o) → Q (.ref (s.heap.objs.size + 1)) { s with heap := h' }) :
    wpAny (model prog w) A (call (.type "enumerate") [.ref l]) Q E s := by
  obtain ⟨⟨c, dct, dt, sl⟩, hl, hc, n, hd⟩ := hL
  replace hc : c = .type "tuple" := hc
  replace hd : dt = .seq items n := hd
  subst hc hd
  refine callType_new F.called_enumerate (by decide) (F.typeCall_enumerate_1 _) (F.newCall_enumerate_1 _) (fun obj => F.args_object_init_2 obj _) F.entry_enumerate_new
    (enumerate_newT l items n dct sl) ⟨hl, ?_⟩
  have hz : (s.heap.push { cls := .type "tuple_iterator", data := .fields #[.ref l, .int 0 0] }).objs.size = s.heap.objs.size + 1 := Heap.size_push ..
  show _ ∧ _
  rw [hz]
  have he : IsEnum ((s.heap.push { cls := .type "tuple_iterator", data := .fields #[.ref l, .int 0 0] }).push
      { cls := .type "enumerate", data := .fields #[.none, .bool false, .ref s.heap.objs.size, rawInt 0, .none, .none] }) (s.heap.objs.size + 1) s.heap.objs.size 0 .none := by
    have := Heap.get?_push_size (s.heap.push { cls := .type "tuple_iterator", data := .fields #[.ref l, .int 0 0] })
      (o := { cls := .type "enumerate", data := .fields #[.none, .bool false, .ref s.heap.objs.size, rawInt 0, .none, .none] }) rfl
    rw [hz] at this; exact this
  refine ⟨⟨_, he, rfl⟩, h _ he ⟨_, Heap.get?_push_of_some _ (Heap.get?_push_size _ rfl), rfl, rfl⟩ (by rw [Heap.size_push, hz]) fun b o x => Heap.get?_push_of_some _ (Heap.get?_push_of_some _ x)⟩
end
/-- the tuple at a, each item in a new pair -/
def IteT (K : PySem.W.Frag) (a : Addr) : It :=
  ⟨fun i H => ∃ (xs : List V) (x : V), SqT K H a xs ∧ xs[i]? = some x, fun i H v H' => ∃ T x, v = .ref T ∧ H T = none ∧ H' = upd H T (.tup [.int (i : Nat), x]) ∧ ∀ xs, SqT K H a xs → xs[i]? = some x, fun i H => ∃ xs : List V, SqT K H a xs ∧ xs.length ≤ i⟩
theorem turn_enumT {P : Program} {w : World} {K : PySem.W.Frag} {elts : List Expr} {kk : Nat} {tpos : Pos} (a e it : Addr) :
    Turn P w K (.Tuple elts kk tpos) (IteT K a) [e, it] e (fun i h => (∃ old, IsEnum h e it ((i : Nat) : Int) old) ∧ h.IsTupleIter it a i ∧ e ≠ it ∧ a ≠ it ∧ a ≠ e) where
  mem := by simp
  obj := fun i h st b hb => by
    obtain ⟨⟨old, he⟩, ⟨o, ho, hc, hd⟩, _⟩ := st
    have e' : b = e ∨ b = it := by simpa using hb
    rcases e' with z | z
    · rw [z]; exact ⟨_, he, fun v q => nomatch q⟩
    · rw [z]; exact ⟨o, ho, fun v q => by rw [hd] at q; cases q⟩
  keep := fun i h h' st k => let ⟨⟨old, he⟩, hi, hne⟩ := st; ⟨⟨old, k e (by simp) _ he⟩, hi.at fun o q => k it (by simp) o q, hne⟩
  item := by
    intro X hP hw hK hc i pins s σ H E I hf st hg
    subst hP hw hK
    obtain ⟨⟨old, he⟩, hit, hne, hai, hae⟩ := st
    obtain ⟨xs, x, hq, hx⟩ := hg
    obtain ⟨its, rv, p, hz⟩ := I.tuple hq
    obtain ⟨u, hu, ru⟩ := rv.get hx
    have hel : e < s.heap.objs.size := Heap.lt_size he
    have hil : it < s.heap.objs.size := by obtain ⟨_, q, _⟩ := hit; exact Heap.lt_size q
    have hlt : i < its.toArray.size := by
      have := (List.getElem?_eq_some_iff.mp hu).1
      simpa using this
    refine wpAny_pyNext_enum_itemD (draws_tuple (prog := X.prog) (w := X.w) (A := X.A.in1) (show X.A.in1.handled = none from I.ok.hd hc) it a hai its.toArray) he ⟨hit, (show s.heap.IsTuple a its.toArray from p)⟩ hlt hne (by simp [hne, Ne.symm hae]) fun y h' tk hy ho hst' hT hsz hk => ?_
    have hyu : y = u := by
      have h2 : its.toArray[i]? = some u := by simpa using hu
      exact Option.some.inj (hy.symm.trans h2)
    subst hyu
    refine ⟨_, rfl, wpAny_letOwnedTupleGo_enum (s := { s with heap := h', toks := tk + 1 }) ho fun h'' he' sb => ?_⟩
    have hT2 : h''.get? s.heap.objs.size = some { cls := .type "tuple", data := .seq #[.int i tk, y] } := (sb.2 _ (Nat.ne_of_gt hel)).trans hT
    have new : ObjOk X.prog X.w (upd H s.heap.objs.size (.tup [.int (i : Nat), x])) h'' s.heap.objs.size (.tup [.int (i : Nat), x]) :=
      ⟨by show 2 ≤ sizeLine; decide, [.int i tk, y], .cons ⟨_, rfl⟩ (.cons ru .nil), ⟨_, hT2, rfl, _, rfl⟩⟩
    have I1 : Inv X pins σ (upd H s.heap.objs.size (.tup [.int (i : Nat), x])) { s with heap := h'', toks := tk + 1 } :=
      I.turnedNew (ch := [e, it]) (fun b ob hb q => (sb.2 b (fun z => hb (by simp [z]))).trans (hk b ob (fun z => hb (by simp [z])) (fun z => hb (by simp [z])) q)) hf (Nat.le_refl _) new
    refine ⟨.ref s.heap.objs.size, _, I1, rfl, ⟨_, x, rfl, I.hok.fresh (Nat.le_refl _), rfl, fun ys hy => by rw [I.tuple_inj hy hq]; exact hx⟩, ⟨⟨y, ?_⟩, hst'.1.at fun o q => (sb.2 it (Ne.symm hne)).trans q, hne, hai, hae⟩, fun b hb => ?_⟩
    · have e1 : ((i + 1 : Nat) : Int) = (i : Int) + 1 := by omega
      rw [e1]; exact he'
    · have hb' : b < s.heap.objs.size := by
        have e' : b = e ∨ b = it := by simpa using hb
        rcases e' with z | z
        · rw [z]; exact hel
        · rw [z]; exact hil
      rw [upd_ne (Nat.ne_of_lt hb')]
      exact (hf b hb).1
  done := by
    intro X hP hw hK hc i pins s σ H E I hf st hg
    subst hP hw hK
    obtain ⟨⟨old, he⟩, hit, hne, hai, hae⟩ := st
    obtain ⟨xs, hq, hx⟩ := hg
    obtain ⟨its, rv, p, hz⟩ := I.tuple hq
    obtain ⟨f0, f1, f2, f3, f4, f5⟩ := hf it (by simp)
    have hl := rv.length
    have hT : s.TypeIs (.ref e) "enumerate" := ⟨_, he, rfl⟩
    unfold pyNext
    refine wpAny_bind (wpAny_attempt (wpAny_callSpecial?_slot (name := Str.ofString "__next__") hT F.slot_enumerate_next
      (wpAny_call_entry F.slot_enumerate_next hT F.entry_enumerate_next ?_ (F.args_enumerate_next_1 _))))
    show wpAny _ _ (field (.ref e) 2 >>= _) _ _ _
    refine wpAny_bind (wpAny_field he rfl (x := .ref it) rfl ?_)
    refine wpAny_bind (next_tuple_end (I.ok.hd hc) hit (show s.heap.IsTuple a its.toArray from p) (by simp; omega) fun h' x eb hx' => ?_)
    obtain ⟨o, ho, hc'⟩ := hx'
    refine wpAny_bind (wpAny_isInstance (T := "StopIteration") (b := true) ⟨o, ho, hc'⟩ isSubtype_stop ?_)
    exact wpAny_pure ⟨rfl, I.turned (t' := s.toks) (fun b o hb q => eb b o hb q) f0 f1 f3 f4 f5⟩
  self := fun A i s Q E st h => let ⟨⟨_, he⟩, _⟩ := st; wpAny_pyIter_enum he h
def iEnumT (K : PySem.W.Frag) (ta : TA) : TI := fun σ H R => ta σ H fun vs H1 => ∃ a xs, vs = [.ref a] ∧ SqT K H1 a xs ∧ R (IteT K a) H1
theorem pi_enumT {X : Cx} {e : Expr} {ta : TA} {p pos tpos : Pos} {elts : List Expr} {kk : Nat} (hg : Gl X "enumerate") (hm : X.mg "enumerate" = none) (ha : PA X [e] ta) (hs : starEach [e] X.env = [(false, eval e X.env)] := by rfl) :
    PI X (.Tuple elts kk tpos) (.Call (.Name "enumerate" p) [e] [] pos) (iEnumT X.K ta) := by
  refine ⟨fun pins s σ H R I h => ?_⟩
  refine Call_ (ld_blt I hg hm boot_enumerate (PyProof.Rows.callWith_type1 (thn (ha.run pos pins s σ H _ I h) fun us s1 ⟨vs, H1, I1, r1, q1⟩ => ?_) hs rfl))
  obtain ⟨a, xs, ex, hq, q⟩ := q1
  subst ex
  cases r1 with
  | cons r rr =>
    cases rr
    cases r
    obtain ⟨its, rv, p', hz⟩ := I1.tuple hq
    have hp : s1.heap.IsTuple a its.toArray := p'
    have hal : a < s1.heap.objs.size := by obtain ⟨_, q, _⟩ := hp; exact Heap.lt_size q
    refine call_enumerate_tuple hp fun h' he hit hsz hk => wpAny_pyIter_enum he ?_
    have I2 : Inv X pins σ H1 { s1 with heap := h' } := I1.kept (t' := s1.toks) hk
    refine ⟨s1.heap.objs.size + 1, [s1.heap.objs.size + 1, s1.heap.objs.size], _, _, H1, rfl, I2, turn_enumT a (s1.heap.objs.size + 1) s1.heap.objs.size, ⟨⟨.none, he⟩, hit, Nat.succ_ne_self _, Nat.ne_of_lt hal, Nat.ne_of_lt (Nat.lt_succ_of_lt hal)⟩, fun b hb => ?_, q⟩
    have e' : b = s1.heap.objs.size + 1 ∨ b = s1.heap.objs.size := by simpa using hb
    have hle : s1.heap.objs.size ≤ b := by
      rcases e' with z | z
      · rw [z]; exact Nat.le_add_right _ _
      · rw [z]; exact Nat.le_refl _
    exact I1.fpOk hle (I1.hok.fresh hle)
theorem for_enumT {K : PySem.W.Frag} {a : Addr} {xs : List V} {g : TG} {tb : TS} {D : Ends} {σ : L2.St} {H : Hp} (Pv : Nat → L2.St → Hp → Prop) (h0 : Pv 0 σ H) (hl : ∀ i σ H, i ≤ xs.length → Pv i σ H → SqT K H a xs)
    (hs : ∀ i x T σ H, xs[i]? = some x → Pv i σ H → H T = none → g (.ref T) σ (upd H T (.tup [.int (i : Nat), x])) fun σ2 H2 => tb { D with nx := Pv (i + 1), ct := Pv (i + 1), bk := D.nx } σ2 H2) (hd : ∀ σ H, Pv xs.length σ H → D.nx σ H) :
    ∃ W : Nat → Nat → L2.St → Hp → Prop, (∃ m, W 0 m σ H) ∧ ∀ i m σ H, W i m σ H →
      ((IteT K a).stop i H ∧ D.nx σ H) ∨ ((IteT K a).go i H ∧ ∃ N : L2.St → Hp → Prop, (∀ σ' H', N σ' H' → ∃ m', m' < m ∧ W (i + 1) m' σ' H') ∧ ∀ x H', (IteT K a).yld i H x H' → g x σ H' fun σ2 H2 => tb { D with nx := N, ct := N, bk := D.nx } σ2 H2) := by
  refine ⟨fun i m σ H => m = xs.length - i ∧ i ≤ xs.length ∧ Pv i σ H, ⟨xs.length, by simp, Nat.zero_le _, h0⟩, ?_⟩
  rintro i m σ H ⟨rfl, hi, p⟩
  have hL := hl i σ H hi p
  by_cases h : i < xs.length
  · refine .inr ⟨⟨xs, xs[i], hL, List.getElem?_eq_getElem h⟩, Pv (i + 1), fun σ' H' n => ⟨xs.length - (i + 1), by omega, rfl, by omega, n⟩, ?_⟩
    rintro v H' ⟨T, x, rfl, nT, rfl, hx⟩
    exact hs i x T σ H (hx xs hL) p nT
  · have e : i = xs.length := by omega
    subst e
    exact .inl ⟨⟨xs, hL, Nat.le_refl _⟩, hd σ H p⟩
theorem for_enumL {K : PySem.W.Frag} {a : Addr} {xs : List V} {g : TG} {tb : TS} {D : Ends} {σ : L2.St} {H : Hp} (Pv : Nat → L2.St → Hp → Prop) (h0 : Pv 0 σ H) (hl : ∀ i σ H, i ≤ xs.length → Pv i σ H → SqL K H a xs)
    (hs : ∀ i x T σ H, xs[i]? = some x → Pv i σ H → H T = none → g (.ref T) σ (upd H T (.tup [.int (i : Nat), x])) fun σ2 H2 => tb { D with nx := Pv (i + 1), ct := Pv (i + 1), bk := D.nx } σ2 H2) (hd : ∀ σ H, Pv xs.length σ H → D.nx σ H) :
    ∃ W : Nat → Nat → L2.St → Hp → Prop, (∃ m, W 0 m σ H) ∧ ∀ i m σ H, W i m σ H →
      ((Ite K a).stop i H ∧ D.nx σ H) ∨ ((Ite K a).go i H ∧ ∃ N : L2.St → Hp → Prop, (∀ σ' H', N σ' H' → ∃ m', m' < m ∧ W (i + 1) m' σ' H') ∧ ∀ x H', (Ite K a).yld i H x H' → g x σ H' fun σ2 H2 => tb { D with nx := N, ct := N, bk := D.nx } σ2 H2) := by
  refine ⟨fun i m σ H => m = xs.length - i ∧ i ≤ xs.length ∧ Pv i σ H, ⟨xs.length, by simp, Nat.zero_le _, h0⟩, ?_⟩
  rintro i m σ H ⟨rfl, hi, p⟩
  have hL := hl i σ H hi p
  by_cases h : i < xs.length
  · refine .inr ⟨⟨xs, xs[i], hL, List.getElem?_eq_getElem h⟩, Pv (i + 1), fun σ' H' n => ⟨xs.length - (i + 1), by omega, rfl, by omega, n⟩, ?_⟩
    rintro v H' ⟨T, x, rfl, nT, rfl, hx⟩
    exact hs i x T σ H (hx xs hL) p nT
  · have e : i = xs.length := by omega
    subst e
    exact .inl ⟨⟨xs, hL, Nat.le_refl _⟩, hd σ H p⟩
/-! ### () * k -/
theorem tuple_mul0 (l : Addr) (n : Nat) (dd : Option Addr) (sl : Array (Option Value)) (x : Int) (u : Tok) (c0 : (decide (x < -(2 ^ 63)) || decide (x ≥ 2 ^ 63)) = false) :
    Meets (Builtin.«tuple.__mul__» ⟨[.ref l, .int x u], []⟩) (fun _ R s => s.heap.get? l = some { cls := .type "tuple", dict := dd, data := .seq #[] n, slots := sl } ∧ R (.ok (.ret (Value.ref l))) s) :=
  .of_wp fun prog w A R s h => by
    obtain ⟨hp, g, d, tk, os⟩ := s
    obtain ⟨hl, h⟩ := h
    have f1 := AutoSeq1.idx_int
    have c1 : ((#[] : Array Value).isEmpty || x == 1) = true := rfl
    wp_walk using wpAny_loadPart' hl
    repeat (first
      | (refine wpAny_ite_false (decide_eq_false (by rw [c0]; exact Bool.false_ne_true)) ?_; wp_walk using wpAny_loadPart' hl)
      | (refine wpAny_ite_true (decide_eq_true c1) ?_; wp_walk using wpAny_loadPart' hl))
    exact ⟨_, rfl, h⟩
def rRepZ (K : PySem.W.Frag) : R2 := fun x y H Q => ∃ l k xs, x = .ref l ∧ y = .int k ∧ SqT K H l xs ∧ 1 ≤ k ∧ k ≤ 1000 ∧ xs.length ≤ 1000 ∧ ∀ p H', (∀ b o, H b = some o → H' b = some o) → SqT K H' p (List.replicate k.toNat xs).flatten → Q (.ref p) H'
theorem flat_nil {α : Type} (k : Nat) : (List.replicate k ([] : List α)).flatten = [] := by
  induction k with
  | zero => rfl
  | succ k ih => rw [List.replicate_succ, List.flatten_cons, ih]; rfl
theorem op_repZ {X : Cx} : OpR X (binaryOp .Mult) (rRepZ X.K) := by
  intro pins s σ H x y v u Q I rx ry h
  obtain ⟨l, k, xs, rfl, rfl, hT, h1, h2, hz, q⟩ := h
  by_cases hne : xs = []
  · subst hne
    cases rx
    obtain ⟨t, rfl⟩ := ry
    obtain ⟨its, r, ⟨⟨cls, dd, data, sl⟩, ho, hc, n, hd⟩, hs⟩ := I.tuple hT
    simp only at hc hd
    subst hc hd
    cases r
    have c0 : (decide (k < -(2 ^ 63)) || decide (k ≥ 2 ^ 63)) = false := by
      rw [decide_eq_false (by omega), decide_eq_false (by omega)]
      rfl
    refine wpAny_binaryOp_repeat_ref (T := "tuple") (U := "int") (by decide) ⟨_, ho, rfl⟩ (fun s' => typeIs_int s' k t) noFill_tuple_mul F.fills_int_mul F.slot_int_rmul repeat_tuple F.slot_int_index.lookup
      (call_meets F.slot_int_rmul (typeIs_int s k t) F.entry_int_rmul (F.args_int_rmul_2 _ _) (int_rmul_tuple k t l #[] n dd sl)
        ⟨ho, rfl, ⟨_, ho, rfl⟩, call_meets F.slot_tuple_mul ⟨_, ho, rfl⟩ F.entry_tuple_mul (F.args_tuple_mul_2 _ _) (tuple_mul0 l n dd sl k t c0) ⟨ho, ?_⟩⟩)
    exact ⟨.ref l, H, I, rfl, q l H (fun _ _ h => h) (by rw [flat_nil]; exact hT)⟩
  · refine op_repA pins s σ H _ _ v u Q I rx ry ⟨l, k, xs, rfl, rfl, hT, hne, h1, h2, hz, fun e => ?_, fun e p np => ?_⟩
    · refine q l H (fun _ _ h => h) ?_
      subst e
      show SqT X.K H l ([xs]).flatten
      simpa using hT
    · refine q p _ (fun b o e => by rw [upd_ne (ne_of_none e np)]; exact e) (SqT.of upd_same)
end RR

/-! ## heaps, tuples, data, sorts -/
namespace My
open PySem PySem.Spec PyProof.Rows L2
--ANN _law_pick | cut if tape[1] < len(tape[0]): | cut
/-! ### heaps -/
theorem same_upd {H : Hp} {p : Addr} {o : HO} (h : H p = none) : Same H (upd H p o) := fun b x e => by
  rw [upd_ne (ne_of_none e h)]
  exact e
/-- all but t stays -/
def Moved (t : Addr) (H H' : Hp) : Prop := ∀ b o, b ≠ t → H b = some o → H' b = some o
theorem Moved.refl {t : Addr} {H : Hp} : Moved t H H := fun _ _ _ h => h
theorem Moved.trans {t : Addr} {H H1 H2 : Hp} (a : Moved t H H1) (b : Moved t H1 H2) : Moved t H H2 := fun c o n h => b c o n (a c o n h)
theorem Moved.upd {t : Addr} {H : Hp} {o : HO} : Moved t H (upd H t o) := fun b x n e => by
  rw [upd_ne n]
  exact e
theorem Moved.same {t : Addr} {H H' : Hp} (h : Same H H') : Moved t H H' := fun b o _ e => h b o e
theorem Moved.free {t : Addr} {H H' : Hp} (h : Moved t H H') {p : Addr} (n : p ≠ t) (e : H' p = none) : H p = none := by
  cases q : H p with
  | none => rfl
  | some o =>
    rw [h p o n q] at e
    cases e
/-! ### the tape: where the draws stand -/
def Tape (H : Hp) (t s : Addr) : Prop := ∃ (ns : List Int) (pos rest mx ct : Int), s ≠ t ∧ H t = some (.lst [.ref s, .int pos, .int rest, .int mx, .int ct]) ∧ H s = some (.lst (ns.map V.int)) ∧ 0 ≤ pos
theorem Tape.keep {t s : Addr} {H H' : Hp} (h : Tape H t s) (e : Same H H') : Tape H' t s := by
  obtain ⟨ns, a, b, c, d, h1, h2, h3, h4⟩ := h
  exact ⟨ns, a, b, c, d, h1, e _ _ h2, e _ _ h3, h4⟩
theorem Tape.ne {t s p : Addr} {H : Hp} (h : Tape H t s) (np : H p = none) : p ≠ t := fun e => by
  obtain ⟨ns, a, b, c, d, h1, h2, h3, h4⟩ := h
  rw [e, h2] at np
  cases np
theorem Tape.ne2 {t s p : Addr} {H : Hp} (h : Tape H t s) (np : H p = none) : p ≠ s := fun e => by
  obtain ⟨ns, a, b, c, d, h1, h2, h3, h4⟩ := h
  rw [e, h3] at np
  cases np
theorem Tape.but {t s r : Addr} {H : Hp} {o : HO} (h : Tape H t s) (n : r ≠ t) (n2 : r ≠ s) : Tape (upd H r o) t s := by
  obtain ⟨ns, a, b, c, d, h1, h2, h3, h4⟩ := h
  refine ⟨ns, a, b, c, d, h1, ?_, ?_, h4⟩
  · rw [upd_ne n.symm]
    exact h2
  · rw [upd_ne n2.symm]
    exact h3
section
variable {K : PySem.W.Frag} {H : Hp}
theorem tyTup {a : Addr} {xs : List V} (h : SqT K H a xs) : TyX K H (.ref a) (.type "tuple") := by
  rcases h with (h | ⟨o, h⟩) | h
  · exact .base (.tup h)
  · exact .fTuple h
  · obtain ⟨o, n, vs, e, c, _⟩ := h
    exact .kTuple e c
theorem sT {H' : Hp} {a : Addr} {xs : List V} (e : Same H H') (h : SqT K H a xs) : SqT K H' a xs := by
  rcases h with (h | ⟨o, h⟩) | h
  · exact .inl (.inl (e _ _ h))
  · exact .inl (.inr ⟨o, e _ _ h⟩)
  · exact .inr h
end
/-! ### new tuples, one for each -/
theorem small2000 {n : Nat} (h : n ≤ 2000) : n < sizeLine := by
  show n < 2 ^ 24
  omega
inductive Tups {α : Type} (f : α → List V) (H : Hp) : List Addr → List α → Prop
  | nil : Tups f H [] []
  | cons {p : Addr} {x : α} {ps : List Addr} {xs : List α} : H p = some (.tup (f x)) → Tups f H ps xs → Tups f H (p :: ps) (x :: xs)
section
variable {α : Type} {f : α → List V} {H H' : Hp}
theorem Tups.keep {ps : List Addr} {xs : List α} (h : Tups f H ps xs) (e : ∀ b ys, H b = some (.tup ys) → H' b = some (.tup ys)) : Tups f H' ps xs := by
  induction h with
  | nil => exact .nil
  | cons a _ ih => exact .cons (e _ _ a) ih
theorem Tups.same {ps : List Addr} {xs : List α} (h : Tups f H ps xs) (e : Same H H') : Tups f H' ps xs := h.keep fun b ys z => e _ _ z
theorem Tups.put {ps : List Addr} {xs : List α} (h : Tups f H ps xs) {L : Addr} {ys : List V} {o : HO} (e : H L = some (.lst ys)) : Tups f (upd H L o) ps xs := h.keep fun b zs z => by
  rw [upd_ne (fun q => by rw [q, e] at z; cases z)]
  exact z
theorem Tups.new {ps : List Addr} {xs : List α} (h : Tups f H ps xs) {p : Addr} {o : HO} (e : H p = none) : Tups f (upd H p o) ps xs := h.same (same_upd e)
theorem Tups.snoc {ps : List Addr} {xs : List α} {p : Addr} {x : α} (h : Tups f H ps xs) (e : H p = some (.tup (f x))) : Tups f H (ps ++ [p]) (xs ++ [x]) := by
  induction h with
  | nil => exact .cons e .nil
  | cons a _ ih => exact .cons a ih
theorem Tups.append {ps qs : List Addr} {xs ys : List α} (h : Tups f H ps xs) (k : Tups f H qs ys) : Tups f H (ps ++ qs) (xs ++ ys) := by
  induction h with
  | nil => exact k
  | cons a _ ih => exact .cons a ih
theorem Tups.length {ps : List Addr} {xs : List α} (h : Tups f H ps xs) : ps.length = xs.length := by
  induction h with
  | nil => rfl
  | cons a _ ih => rw [List.length_cons, List.length_cons, ih]
theorem Tups.get {ps : List Addr} {xs : List α} (h : Tups f H ps xs) : ∀ {i : Nat} {v : V}, (ps.map V.ref)[i]? = some v → ∃ p x, v = .ref p ∧ xs[i]? = some x ∧ H p = some (.tup (f x)) := by
  induction h with
  | nil =>
    intro i v h
    simp at h
  | cons a _ ih =>
    intro i v h
    cases i with
    | zero =>
      simp at h
      exact ⟨_, _, h.symm, rfl, a⟩
    | succ i =>
      simp only [List.map_cons, List.getElem?_cons_succ] at h ⊢
      exact ih h
end
def wv : Option Int → V
  | none => .non
  | some w => .int w
def pv2 (p : Int × Int) : List V := [.int p.1, .int p.2]
/-! ### data that is compared -/
def wd : Option Int → PyData
  | none => .none
  | some w => .int w
def pd2 (p : Int × Int) : PyData := .tuple [.int p.1, .int p.2]
def dInts (ns : List Int) : PyData := .list (ns.map PyData.int)
def dWs (ws : List (Option Int)) : PyData := .list (ws.map wd)
def dPrs (ps : List (Int × Int)) : PyData := .list (ps.map pd2)
section
variable {K : PySem.W.Frag} {H : Hp}
theorem dpa_ints : ∀ ns : List Int, DpAll K H (ns.map V.int) (ns.map PyData.int)
  | [] => .nil
  | n :: ns => .cons (.int n) (dpa_ints ns)
theorem dp_wd : ∀ w : Option Int, Dp K H (wv w) (wd w)
  | none => .non
  | some w => .int w
theorem dpa_ws : ∀ ws : List (Option Int), DpAll K H (ws.map wv) (ws.map wd)
  | [] => .nil
  | w :: ws => .cons (dp_wd w) (dpa_ws ws)
theorem dpa_prs {ps : List Addr} {xs : List (Int × Int)} (h : Tups pv2 H ps xs) : DpAll K H (ps.map V.ref) (xs.map pd2) := by
  induction h with
  | nil => exact .nil
  | cons a _ ih => exact .cons (.tup (SqT.of a) (.cons (.int _) (.cons (.int _) .nil))) ih
end
theorem lay_all {α : Type} {f : α → PyData} (h : ∀ x, (f x).canLay0 = true) : ∀ xs : List α, PyData.canLayAll0 (xs.map f) = true
  | [] => by simp [PyData.canLayAll0]
  | x :: xs => by
    rw [List.map_cons, PyData.canLayAll0, h x, lay_all h xs]
    rfl
theorem dep_all {α : Type} {f : α → PyData} {d : Nat} (h : ∀ x, (f x).depth ≤ d) : ∀ xs : List α, PyData.depthAll (xs.map f) ≤ d
  | [] => by simp [PyData.depthAll]
  | x :: xs => by
    have h1 := h x
    have h2 := dep_all h xs
    rw [List.map_cons, PyData.depthAll]
    omega
/-- can be laid, and is at most d deep -/
def Shp (d : Nat) (x : PyData) : Prop := x.canLay0 = true ∧ x.depth ≤ d
theorem Shp.ok {d : Nat} {x : PyData} (h : Shp d x) (hd : d ≤ 64) : SeqAt.shaped x = true := by
  show (x.canLay0 && decide (x.depth ≤ 64)) = true
  rw [Bool.and_eq_true]
  exact ⟨h.1, decide_eq_true (Nat.le_trans h.2 hd)⟩
theorem Shp.int (i : Int) : Shp 1 (.int i) := ⟨by simp [PyData.canLay0], by simp [PyData.depth]⟩
theorem Shp.wd (w : Option Int) : Shp 1 (wd w) := by
  cases w <;> exact ⟨by simp [My.wd, PyData.canLay0], by simp [My.wd, PyData.depth]⟩
theorem Shp.list {α : Type} {f : α → PyData} {d : Nat} (h : ∀ x, Shp d (f x)) (xs : List α) : Shp (d + 1) (.list (xs.map f)) := by
  have h1 := lay_all (fun x => (h x).1) xs
  have h2 := dep_all (fun x => (h x).2) xs
  exact ⟨by simp only [PyData.canLay0]; exact h1, by simp only [PyData.depth]; omega⟩
theorem Shp.tup0 : Shp 1 (.tuple []) := ⟨by simp [PyData.canLay0, PyData.canLayAll0], by simp [PyData.depth, PyData.depthAll]⟩
theorem Shp.tupC {d : Nat} {x : PyData} {xs : List PyData} (h : Shp d x) (t : Shp (d + 1) (.tuple xs)) : Shp (d + 1) (.tuple (x :: xs)) := by
  obtain ⟨a, b⟩ := h
  obtain ⟨c, e⟩ := t
  simp only [PyData.canLay0] at c
  simp only [PyData.depth] at e
  refine ⟨?_, ?_⟩
  · simp only [PyData.canLay0, PyData.canLayAll0, a, c, Bool.and_self]
  · simp only [PyData.depth, PyData.depthAll]
    omega
theorem Shp.up {d e : Nat} {x : PyData} (h : Shp d x) (le : d ≤ e) : Shp e x := ⟨h.1, Nat.le_trans h.2 le⟩
theorem Shp.pd2 (p : Int × Int) : Shp 2 (pd2 p) := .tupC (.int _) (.tupC (.int _) (Shp.tup0.up (by decide)))
theorem Shp.ints (ns : List Int) : Shp 2 (dInts ns) := .list Shp.int ns
theorem Shp.ws (ws : List (Option Int)) : Shp 2 (dWs ws) := .list Shp.wd ws
theorem Shp.prs (ps : List (Int × Int)) : Shp 3 (dPrs ps) := .list Shp.pd2 ps
theorem eqv_same {d : Nat} {x : PyData} (h : Shp d x) : PyData.eqv x x = true := SeqAt.eqv_refl x h.1
theorem iteNE {b : Bool} {A B : Prop} (hb : b = true) (h : B) : if (!b) = true then A else B := by
  subst hb
  exact iteF h
theorem ne_same {d : Nat} {x : PyData} (h : Shp d x) : V.bl (!PyData.eqv x x) = V.bl false := by
  rw [eqv_same h]
  rfl
theorem eq_same {d : Nat} {x : PyData} (h : Shp d x) : V.bl (PyData.eqv x x) = V.bl true := by
  rw [eqv_same h]

theorem flat_one {α : Type} (n : Nat) (x : α) : (List.replicate n [x]).flatten = List.replicate n x := by
  induction n with
  | zero => rfl
  | succ n ih => rw [List.replicate_succ, List.flatten_cons, ih]; rfl
theorem take_snoc {α : Type} {l : List α} {i : Nat} {x : α} (h : l[i]? = some x) : l.take (i + 1) = l.take i ++ [x] := by
  rw [List.take_add_one, h]
  rfl
theorem same_put {H H' : Hp} {p : Addr} {o : HO} (sm : Same H H') (n : H p = none) : Same H (upd H' p o) := fun b x e => (upd_ne (ne_of_none e n)).trans (sm b x e)
theorem ne_no {a b : Int} (h : a = b) : V.bl (!decide (V.int a = V.int b)) = V.bl false := by
  subst h
  rw [decide_eq_true rfl]
  rfl
theorem ixN_nat {n : Nat} {p : Int} (h0 : 0 ≤ p) (h1 : p < (n : Int)) : ixN n p = some p.toNat := by
  unfold ixN
  rw [if_pos h0, if_pos h1]
theorem atI_of {xs : List V} {p : Int} {v : V} (h0 : 0 ≤ p) (h : xs[p.toNat]? = some v) : atI xs p = some v := by
  have e := atI_nat h
  rw [show ((p.toNat : Nat) : Int) = p by omega] at e
  exact e
theorem ixTK {X : Cx} {K : PySem.W.Frag} (h : X.K = K) : IxR X (rIxT K) := h ▸ ix_tup
theorem ixLK {X : Cx} {K : PySem.W.Frag} (h : X.K = K) : IxR X (rIxL K) := h ▸ ix_list
def rLenS (K : PySem.W.Frag) : List V → Hp → VK → Prop := fun xs H Q => ∃ p ys, xs = [.ref p] ∧ (SqL K H p ys ∨ SqT K H p ys) ∧ Q (.int ys.length) H
theorem lenK {X : Cx} {K : PySem.W.Frag} (h : X.K = K) : CallR X (.builtin "len") (rLenS K) := h ▸ call_len_seq
theorem isiK {X : Cx} {K : PySem.W.Frag} (h : X.K = K) : CallR X (.builtin "isinstance") (rIsi K) := h ▸ call_isi
theorem notInK {X : Cx} {K : PySem.W.Frag} (h : X.K = K) : OpR X (compareOp .NotIn) (rIn K true) := h ▸ op_notIn_seq
theorem inK {X : Cx} {K : PySem.W.Frag} (h : X.K = K) : OpR X (compareOp .In) (rIn K false) := h ▸ op_in_seq
/-! ### tuples of ints as data -/
def fI (r : List Int) : List V := r.map V.int
def dI (r : List Int) : PyData := .tuple (r.map PyData.int)
def dT (rs : List (List Int)) : PyData := .list (rs.map dI)
theorem units65 {k : Nat} {A : Around} (r : Room k A) : A.units + 65 < cLine := by
  have := r.un
  omega
theorem Shp.tuple {α : Type} {f : α → PyData} {d : Nat} (h : ∀ x, Shp d (f x)) (xs : List α) : Shp (d + 1) (.tuple (xs.map f)) := by
  have h1 := lay_all (fun x => (h x).1) xs
  have h2 := dep_all (fun x => (h x).2) xs
  exact ⟨by simp only [PyData.canLay0]; exact h1, by simp only [PyData.depth]; omega⟩
theorem Shp.dI (r : List Int) : Shp 2 (dI r) := .tuple Shp.int r
theorem Shp.dT (rs : List (List Int)) : Shp 3 (dT rs) := .list Shp.dI rs
theorem dp_dI {K : PySem.W.Frag} {H : Hp} {p : Addr} {r : List Int} (h : SqT K H p (r.map V.int)) : Dp K H (.ref p) (My.dI r) := .tup h (dpa_ints r)
theorem dpa_dT {K : PySem.W.Frag} {H : Hp} {ps : List Addr} {rs : List (List Int)} (h : Tups fI H ps rs) : DpAll K H (ps.map V.ref) (rs.map My.dI) := by
  induction h with
  | nil => exact .nil
  | cons a _ ih => exact .cons (dp_dI (SqT.of a)) ih
theorem dp_dT {K : PySem.W.Frag} {H : Hp} {L : Addr} {ps : List Addr} {rs : List (List Int)} (e : H L = some (.lst (ps.map V.ref))) (h : Tups fI H ps rs) : Dp K H (.ref L) (My.dT rs) := .lst (SqL.of e) (dpa_dT h)
theorem eqvA : ∀ a b : List Int, PyData.eqvAll (a.map PyData.int) (b.map PyData.int) = decide (a = b)
  | [], [] => by simp [PyData.eqvAll]
  | [], _ :: _ => by simp [PyData.eqvAll]
  | _ :: _, [] => by simp [PyData.eqvAll]
  | x :: a, y :: b => by
    rw [List.map_cons, List.map_cons, PyData.eqvAll, eqvA a b]
    simp only [PyData.eqv]
    by_cases h : x = y
    · subst h
      simp
    · simp [h]
theorem eqvI (a b : List Int) : PyData.eqv (My.dI a) (My.dI b) = decide (a = b) := by
  unfold My.dI
  rw [PyData.eqv]
  exact eqvA a b
theorem not_any {rs : List (List Int)} {r : List Int} (h : r ∉ rs) : ((rs.map My.dI).any fun z => PyData.eqv z (My.dI r)) = false := by
  rw [List.any_map, List.any_eq_false]
  intro x hx
  show ¬ PyData.eqv (My.dI x) (My.dI r) = true
  rw [eqvI]
  intro z
  exact h (of_decide_eq_true z ▸ hx)
/-! ### a tuple whose object is known: its methods -/
def Frz (H : Hp) (p : Addr) (xs : List V) : Prop := ∃ o : Obj, H p = some (.frz o (.tup xs)) ∧ o.dict = none
theorem Frz.sq {K : PySem.W.Frag} {H : Hp} {p : Addr} {xs : List V} (h : Frz H p xs) : SqT K H p xs := let ⟨o, e, _⟩ := h; .inl (.inr ⟨o, e⟩)
theorem Frz.same {H H' : Hp} {p : Addr} {xs : List V} (h : Frz H p xs) (e : Same H H') : Frz H' p xs := let ⟨o, a, b⟩ := h; ⟨o, e _ _ a, b⟩
theorem Frz.moved {t : Addr} {H H' : Hp} {p : Addr} {xs : List V} (h : Frz H p xs) (n : p ≠ t) (e : Moved t H H') : Frz H' p xs := let ⟨o, a, b⟩ := h; ⟨o, e _ _ n a, b⟩
theorem Frz.of {H H' : Hp} {p : Addr} {xs : List V} (h : Frz H p xs) (e : ∀ o, H p = some o → H' p = some o) : Frz H' p xs := let ⟨o, a, b⟩ := h; ⟨o, e _ a, b⟩
theorem Frz.ne {H : Hp} {p q : Addr} {xs : List V} (h : Frz H p xs) (n : H q = none) : p ≠ q := let ⟨_, a, _⟩ := h; ne_of_none a n
theorem Frz.tape {H : Hp} {p t s : Addr} {xs : List V} (h : Frz H p xs) (tp : Tape H t s) : p ≠ t := fun e => by
  obtain ⟨o, a, _⟩ := h
  obtain ⟨_, _, _, _, _, _, e2, _⟩ := tp
  rw [e, e2] at a
  cases a
theorem call_tupleF {X : Cx} : CallR X (.type "tuple") (fun xs H Q => ∃ p ys, xs = [.ref p] ∧ SqL X.K H p ys ∧ ∀ l H', H l = none → Same H H' → Frz H' l ys → (∀ b, b ≠ l → H' b = H b) → Q (.ref l) H') := by
  intro pins s σ H xs us Q I r h
  obtain ⟨p, ys, rfl, hq, q⟩ := h
  obtain ⟨u, rfl, rx⟩ := vals1 r
  cases rx
  obtain ⟨its, r', pl, hz⟩ := I.list hq
  have hlen := r'.length
  refine call_tuple_list pl.isList (fun h' kp => ?_) (by simp only [List.size_toArray] <;> omega)
  have I1 : Inv X pins σ H { s with heap := h' } := I.kept (t' := s.toks) kp
  have I2 : Inv X pins σ (upd H h'.objs.size (.frz { cls := .type "tuple", data := .seq its.toArray } (.tup ys))) { s with heap := h'.push { cls := .type "tuple", data := .seq its.toArray } } :=
    I1.laid (t' := s.toks) (fun b o e => Heap.get?_push_of_some _ e) (Nat.le_refl _) (show ObjOk X.prog X.w _ _ _ (.frz _ (.tup ys)) from ⟨Heap.get?_push_size _ rfl, hz, its, r', IsTup.new _ _⟩)
  have nl := I1.hok.fresh (Nat.le_refl _)
  exact ⟨.ref h'.objs.size, _, I2, rfl, q _ _ nl (same_upd nl) ⟨_, upd_same, rfl⟩ fun b n => upd_ne n⟩
def tTM (r : V → List V → Hp → VK → Prop) (to : TE) (t : TA) : TE := fun σ H Q => to σ H fun x H1 => (∃ p xs, x = .ref p ∧ Frz H1 p xs) ∧ t σ H1 fun xs H2 => r x xs H2 Q
theorem pe_tm {X : Cx} {o e : Expr} {es : List Expr} {to : TE} {t : TA} {name : Str} {apos cpos : Pos} {id : String} {r : V → List V → Hp → VK → Prop} (pa : PlainAttrs "tuple") (slot : Slot "tuple" name id) (hty : typeOf (.builtin id) = pure (.type "method_descriptor")) (hm : MtR X id r) (ho : PE X o to) (ha : PA X (e :: es) t)
    (hbase : attributeBase o name X.env (eval o X.env) = eval o X.env := by rfl)
    (hfew : ((backTo cpos (starEach (e :: es) X.env)).all (fun x => !x.1) && (backToKw cpos (keywordEach [] X.env)).all (fun x => x.1.isSome)
      && decide ((e :: es).length + ([] : List Keyword).length + (if ([] : List Keyword).isEmpty then 0 else 1) < 30)) = true := by rfl)
    (hline : (apos.endLine == cpos.line) = true := by rfl) (hs : starEach (e :: es) X.env = (false, eval e X.env) :: starEach es X.env := by rfl) (hplain : (backTo cpos (starEach es X.env)).any (·.1) = false := by rfl) :
    PE X (.Call (.Attribute o name apos) (e :: es) [] cpos) (tTM r to t) := by
  refine ⟨fun pins s σ H Q I h => ?_⟩
  refine wpAny_Call_method_late hbase hfew hline rfl (thn (ho.run pins s σ H _ I h) fun v s1 ⟨x, H1, I1, r1, ty, q1⟩ => ?_)
  obtain ⟨p, xs, rfl, ob, hp, hd⟩ := ty
  cases r1
  obtain ⟨hob, _, its, _, ⟨o2, ho2, hc2, _⟩⟩ := I1.hok _ _ hp
  have eo : o2 = ob := Option.some.inj (ho2.symm.trans hob)
  subst eo
  refine ⟨"tuple", id, pa, slot, hty, ⟨_, hob, hc2⟩, fun a ea => ?_, ?_⟩
  · cases ea
    exact ⟨_, hob, hd⟩
  have hA := ha.run cpos pins s1 σ H1 _ I1 q1
  rw [hs] at hA ⊢
  refine Calls.callWith_builtin (by show (false || (backTo cpos (starEach es X.env)).any (·.1)) = false; rw [hplain] <;> rfl) (Calls.evalArgs_plain ?_)
  exact thn hA fun us s2 ⟨vs, H2, I2, r2, q2⟩ => hm pins s2 σ H2 (.ref p) vs _ us Q I2 rfl r2 q2
/-! ### t.index(k), t a tuple of ints -/
theorem flat_ints (ys : List Int) : (ys.map V.int).all flatV = true := by
  rw [List.all_map]
  exact List.all_eq_true.mpr fun _ _ => rfl
def rTIndex (K : PySem.W.Frag) : V → List V → Hp → VK → Prop := fun x xs H Q => ∃ p, ∃ ys : List Int, ∃ z j, x = .ref p ∧ xs = [.int z] ∧ SqT K H p (ys.map V.int) ∧ ys[j]? = some z ∧ (∀ m, m < j → ys[m]? ≠ some z) ∧ Q (.int (j : Nat)) H
theorem mt_tindex {X : Cx} : MtR X "tuple.index" (rTIndex X.K) := by
  intro pins s σ H x xs v us Q I rx rs h
  obtain ⟨p, ys, z, j, rfl, rfl, hq, hy, hno, q⟩ := h
  cases rx
  obtain ⟨u, rfl, t, rfl⟩ := vals1 rs
  obtain ⟨its, r, pl, hz⟩ := I.tuple hq
  obtain ⟨⟨cls, dd, dt, sl⟩, ho, hc, n, hd⟩ := pl
  simp only at hc hd
  subst hc
  subst hd
  have hl : its.toArray.size = ys.length := by rw [List.size_toArray, ← r.length, List.length_map]
  have hj : j < its.toArray.size := by rw [hl]; exact (List.getElem?_eq_some_iff.mp hy).1
  have at' : ∀ (m : Nat) (hm : m < its.toArray.size), ∃ y t', ys[m]? = some y ∧ its.toArray[m] = Value.int y t' := fun m hm => by
    have hm' : m < ys.length := by rw [← hl]; exact hm
    obtain ⟨w, hw, t', hw'⟩ := r.get (i := m) (x := .int ys[m]) (by simp [hm'])
    refine ⟨ys[m], t', List.getElem?_eq_getElem hm', ?_⟩
    have e := (List.getElem?_eq_some_iff.mp hw).2
    rw [← hw', ← e]
    simp
  refine call_meets PySem.F.slot_tuple_index ⟨_, ho, rfl⟩ PySem.F.entry_tuple_index (PySem.F.args_tuple_index_2 _ _) (TI.tuple_indexAt p its.toArray n dd sl (.int z t) (eqU (.int z)) j hj ?_ ?_)
    ⟨ho, fun w hw => mem_eqAt (x := .int z) ⟨t, rfl⟩ rfl r (flat_ints ys) w (by simpa using hw), ⟨.int (j : Nat), H, I.tok _, ⟨_, rfl⟩, q⟩⟩
  · obtain ⟨y, t', h1, h2⟩ := at' j hj
    rw [hy] at h1
    cases h1
    rw [h2]
    show (z == z) = true
    exact beq_self_eq_true z
  · intro m hm hmj
    obtain ⟨y, t', h1, h2⟩ := at' m hm
    rw [h2]
    show (y == z) = false
    exact beq_eq_false_iff_ne.mpr fun e => hno m hmj (e ▸ h1)
/-! ### sorted(xs), xs a list of tuples of d ints from 0 to B, of any length -/
/-- the ints of a tuple that H tracks -/
def intsV (H : Hp) : V → List Int
  | .ref a => match H a with
    | some (.tup xs) => xs.filterMap fun v => match v with
      | .int i => some i
      | _ => none
    | _ => []
  | _ => []
theorem ints_fI (r : List Int) : ((fI r).filterMap fun v => match v with
      | V.int i => some i
      | _ => none) = r := by
  unfold fI
  induction r with
  | nil => rfl
  | cons x r ih => simp [ih]
theorem intsV_of {H : Hp} {a : Addr} {r : List Int} (h : H a = some (.tup (fI r))) : intsV H (.ref a) = r := by
  show (match H a with
    | some (.tup xs) => xs.filterMap fun v => match v with
      | V.int i => some i
      | _ => none
    | _ => []) = r
  rw [h]
  exact ints_fI r
abbrev ltC (B : Int) (k : V → List Int) (x y : V) : Bool := decide (TS.code B (k x) < TS.code B (k y))
theorem swoC {α : Type} (f : α → Int) : SrtO.Swo fun x y => decide (f x < f y) := by
  refine ⟨fun x y h => ?_, fun x y z h1 h2 => ?_⟩
  · have a := of_decide_eq_true h
    exact decide_eq_false (by omega)
  · have a := of_decide_eq_false h1
    have b := of_decide_eq_false h2
    exact decide_eq_false (by omega)
def rSortC (K : PySem.W.Frag) (B : Int) (d : Nat) : List V → Hp → VK → Prop := fun vs H Q => ∃ (a : Addr) (ps : List Addr) (rs : List (List Int)), vs = [V.ref a] ∧ SqL K H a (ps.map V.ref) ∧ Tups fI H ps rs ∧ (∀ r ∈ rs, r.length = d ∧ TS.Bd B r) ∧
  ∀ ps' rs' p, Tups fI H ps' rs' → rs'.Perm rs → rs'.Pairwise (fun x y => TS.code B x ≤ TS.code B y) → H p = none → Q (.ref p) (upd H p (.lst (ps'.map V.ref)))
theorem tups_of {H : Hp} : ∀ {ps : List Addr}, (∀ p ∈ ps, ∃ r, H p = some (.tup (fI r))) → Tups fI H ps (ps.map fun p => intsV H (.ref p))
  | [], _ => .nil
  | p :: ps, h => by
    obtain ⟨r, hr⟩ := h p List.mem_cons_self
    refine .cons ?_ (tups_of fun q hq => h q (List.mem_cons_of_mem _ hq))
    show H p = some (.tup (fI (intsV H (.ref p))))
    rw [intsV_of hr]
    exact hr
theorem Tups.ints {H : Hp} {ps : List Addr} {rs : List (List Int)} (h : Tups fI H ps rs) : rs = ps.map fun p => intsV H (.ref p) := by
  induction h with
  | nil => rfl
  | cons a _ ih => rw [List.map_cons, intsV_of a, ← ih]
theorem Tups.mem {α : Type} {f : α → List V} {H : Hp} {ps : List Addr} {rs : List α} (h : Tups f H ps rs) : ∀ p ∈ ps, ∃ r ∈ rs, H p = some (.tup (f r)) := by
  induction h with
  | nil => exact fun _ h => absurd h (by simp)
  | cons a _ ih =>
    intro p hp
    rcases List.mem_cons.mp hp with rfl | hp
    · exact ⟨_, List.mem_cons_self, a⟩
    · obtain ⟨r, hr, e⟩ := ih p hp
      exact ⟨r, List.mem_cons_of_mem _ hr, e⟩
theorem cr_sortC {X : Cx} {B : Int} {d : Nat} (hd : 1 ≤ d) : CallR X (.builtin "sorted") (rSortC X.K B d) := by
  intro pins s σ H vs us Q I r h
  obtain ⟨a, ps, rs, rfl, hs, tu, hb, q⟩ := h
  obtain ⟨its, rv, hl, hz⟩ := I.list hs
  obtain ⟨u, rfl, ru⟩ := vals1 r
  obtain rfl : u = Value.ref a := ru
  obtain ⟨e1, e2⟩ := refs_back rv fun x m => by
    obtain ⟨t, _, e⟩ := List.mem_map.mp m
    exact ⟨t, e.symm⟩
  have key : ∀ v ∈ its, ∃ p, v = Value.ref p ∧ p ∈ ps := fun v hv => by
    obtain ⟨t, rfl⟩ := e2 v hv
    have hm : V.ref t ∈ ps.map V.ref := by rw [e1]; exact List.mem_map.mpr ⟨_, hv, rfl⟩
    obtain ⟨p, hp, e⟩ := List.mem_map.mp hm
    cases e
    exact ⟨t, rfl, hp⟩
  have tin : ∀ v ∈ its, TS.TupInts s.heap v (intsV H (backV v)) ∧ (intsV H (backV v)).length = d ∧ TS.Bd B (intsV H (backV v)) := fun v hv => by
    obtain ⟨p, rfl, hp⟩ := key v hv
    obtain ⟨r, hr, ep⟩ := tu.mem p hp
    have ei : intsV H (backV (Value.ref p)) = r := intsV_of ep
    rw [ei]
    obtain ⟨its2, r2, pt, _⟩ := I.tuple (SqT.of ep)
    have hb' := hb r hr
    exact ⟨⟨p, its2.toArray, rfl, pt, intsAre_of r2⟩, hb'.1, hb'.2⟩
  refine SrtO.sorted_ord (ltv := fun v u => decide (TS.code B (intsV H (backV v)) < TS.code B (intsV H (backV u)))) (swoC fun v => TS.code B (intsV H (backV v))) hl.isList (by rw [← rv.length]; exact hz) (fun h2 h₁ a' ha' kk => ?_) fun out h1 h2 => ?_
  · intro h' keep
    have keep2 : ∀ b o, s.heap.get? b = some o → o.cls = .type "tuple" → h'.get? b = some o := fun b o e c => keep b o (kk b o e).1 (kk b o e).2
    have tin' : ∀ v ∈ its, TS.TupInts h' v (intsV H (backV v)) ∧ (intsV H (backV v)).length = d ∧ TS.Bd B (intsV H (backV v)) := fun v hv => let ⟨x, y, z⟩ := tin v hv; ⟨x.keeps keep2, y, z⟩
    obtain ⟨fs, k1, k2, k3⟩ := TS.firsts_of (h := h') (d := d) (B := B) hd its fun v hv => ⟨_, tin' v hv⟩
    refine ⟨tuples' true, fun Q E hq => ?_, ?_⟩
    · refine PySem.W.kat_kind (T := .type "int") k1 (by omega) (fun f hm => ?_) (by rfl) ?_
      · obtain ⟨x, t, rfl⟩ := k3 f hm
        exact PySem.W.Looks.now
      · have e : (Value.type "int" != Value.type "tuple") = true := by first | decide +kernel | rfl | decide
        rw [e]
        exact hq
    · intro p q hm hm'
      obtain ⟨⟨a1, xs, x1, ⟨o1, ho1, hc1, n1, hd1⟩, i1⟩, l1, b1⟩ := tin' _ hm
      obtain ⟨⟨a2, ys, x2, ⟨o2, ho2, hc2, n2, hd2⟩, i2⟩, l2, b2⟩ := tin' _ hm'
      show wpAny _ _ (keyLt' _ p.1 q.1) (fun r s' => s' = _ ∧ r = decide (TS.code B (intsV H (backV p.1)) < TS.code B (intsV H (backV q.1)))) (fun _ _ => False) _
      generalize intsV H (backV p.1) = ns at *
      generalize intsV H (backV q.1) = ms at *
      rw [x1, x2]
      refine PySem.W.kat_lt ho1 hd1 ho2 hd2 ?_
      have el : xs.size = ys.size := by
        have z1 := i1.length
        have z2 := i2.length
        simp at z1 z2
        omega
      rw [el, decide_eq_false (Nat.lt_irrefl _)]
      exact TS.lex_ints 0 i1 i2 (by omega) b1 b2 ⟨rfl, rfl⟩
  · obtain ⟨ep, he'⟩ := PyProof.Rows.sortedAll_at s.heap its out.toArray
    have h3 : ∀ u ∈ out, ∃ p, u = Value.ref p ∧ p ∈ ps := fun u hu => key u (h2.perm.mem_iff.mp hu)
    have eo : out.map backV = (out.map fun u => match u with
      | Value.ref a => a
      | _ => 0).map V.ref := by
      rw [List.map_map]
      refine List.map_congr_left fun u hu => ?_
      obtain ⟨p, rfl, _⟩ := h3 u hu
      rfl
    have hp : (out.map backV).Perm (ps.map V.ref) := by
      rw [e1]
      exact h2.perm.map backV
    have hlen : (out.map backV).length ≤ sizeLine := by
      rw [hp.length_eq]
      exact hz
    generalize eps : (out.map fun u => match u with
      | Value.ref a => a
      | _ => 0) = ps' at eo
    have pp : ps'.Perm ps := by
      rw [eo] at hp
      have z := hp.map fun v => match v with
        | V.ref a => a
        | _ => 0
      rw [List.map_map, List.map_map] at z
      have id1 : ∀ l : List Addr, l.map ((fun v => match v with
        | V.ref a => a
        | _ => 0) ∘ V.ref) = l := fun l => by
        induction l with
        | nil => rfl
        | cons x l ih => rw [List.map_cons, ih]; rfl
      rw [id1, id1] at z
      exact z
    have tu' : Tups fI H ps' (ps'.map fun p => intsV H (.ref p)) := tups_of fun p hp => by
      obtain ⟨r, _, e⟩ := tu.mem p (pp.mem_iff.mp hp)
      exact ⟨r, e⟩
    have pw : (ps'.map fun p => intsV H (.ref p)).Pairwise (fun x y => TS.code B x ≤ TS.code B y) := by
      have z : (out.map backV).Pairwise (fun x y => TS.code B (intsV H x) ≤ TS.code B (intsV H y)) := List.pairwise_map.mpr (h1.imp fun {x y} h => Int.not_lt.mp (of_decide_eq_false h))
      rw [eo] at z
      rw [List.pairwise_map] at z ⊢
      exact z
    rw [eo] at hlen
    refine ⟨.ref _, upd H (s.heap.objs.size + 1) (.lst (ps'.map V.ref)), I.laid (t' := s.toks) (fun _ _ => PyProof.Rows.sortedAll_old) (Nat.le_succ _) ⟨hlen, out, ep, ?_, he'⟩, rfl, q ps' _ _ tu' ?_ pw (I.hok.fresh (Nat.le_succ _))⟩
    · rw [← eo]
      exact vals_back fun u hu => by
        obtain ⟨p, e, _⟩ := h3 u hu
        exact ⟨p, e⟩
    · rw [tu.ints]
      exact pp.map _
/-- there is just one such list -/
theorem code_inj {B : Int} : ∀ {d : Nat} {x y : List Int}, x.length = d → y.length = d → TS.Bd B x → TS.Bd B y → TS.code B x = TS.code B y → x = y
  | _, [], [], _, _, _, _, _ => rfl
  | _, [], _ :: _, h1, h2, _, _, _ => by
    subst h1
    cases h2
  | _, _ :: _, [], h1, h2, _, _, _ => by
    subst h2
    cases h1
  | _, a :: x, b :: y, h1, h2, b1, b2, e => by
    have hl : x.length = y.length := by
      rw [List.length_cons] at h1 h2
      omega
    rcases Int.lt_trichotomy a b with z | z | z
    · have := TS.code_lt hl b1.tail b2.tail z
      omega
    · subst z
      have e' : TS.code B x = TS.code B y := by
        have n1 := (TS.code_same (B := B) (d := a) hl).symm
        have n2 := (TS.code_same (B := B) (d := a) hl.symm).symm
        have k1 : ¬ TS.code B x < TS.code B y := fun z => by
          have := n1.mp z
          omega
        have k2 : ¬ TS.code B y < TS.code B x := fun z => by
          have := n2.mp z
          omega
        omega
      rw [code_inj (d := x.length) rfl hl.symm b1.tail b2.tail e']
    · have := TS.code_lt hl.symm b2.tail b1.tail z
      omega
theorem sorted_uniq {B : Int} {d : Nat} : ∀ {l m : List (List Int)}, l.Perm m → (∀ r ∈ m, r.length = d ∧ TS.Bd B r) → l.Pairwise (fun x y => TS.code B x ≤ TS.code B y) → m.Pairwise (fun x y => TS.code B x ≤ TS.code B y) → l = m
  | [], m, p, _, _, _ => (List.nil_perm.mp p).symm
  | x :: l, [], p, _, _, _ => absurd p.length_eq (by simp)
  | x :: l, y :: m, p, hb, a, b => by
    have a' := List.pairwise_cons.mp a
    have b' := List.pairwise_cons.mp b
    have hx : x ∈ y :: m := p.mem_iff.mp List.mem_cons_self
    have hy : y ∈ x :: l := p.mem_iff.mpr List.mem_cons_self
    have e1 : TS.code B x ≤ TS.code B y := by
      rcases List.mem_cons.mp hy with e | h
      · rw [e]
        exact Int.le_refl _
      · exact a'.1 y h
    have e2 : TS.code B y ≤ TS.code B x := by
      rcases List.mem_cons.mp hx with e | h
      · rw [e]
        exact Int.le_refl _
      · exact b'.1 x h
    have e : x = y := code_inj (hb x hx).1 (hb y List.mem_cons_self).1 (hb x hx).2 (hb y List.mem_cons_self).2 (Int.le_antisymm e1 e2)
    subst e
    rw [sorted_uniq (List.Perm.cons_inv p) (fun r hr => hb r (List.mem_cons_of_mem _ hr)) a'.2 b'.2]
end My

/-! ### the mathematics of reach -/
namespace Rch
def ins (x : Int) : List Int → List Int
  | [] => [x]
  | y :: r => if x ≤ y then x :: y :: r else y :: ins x r
def isort : List Int → List Int
  | [] => []
  | x :: r => ins x (isort r)
theorem ins_perm (x : Int) : ∀ l : List Int, (ins x l).Perm (x :: l)
  | [] => .refl _
  | y :: r => by
    unfold ins
    split
    · exact .refl _
    · exact ((ins_perm x r).cons y).trans (.swap x y r)
theorem isort_perm : ∀ l : List Int, (isort l).Perm l
  | [] => .refl _
  | x :: r => (ins_perm x (isort r)).trans ((isort_perm r).cons x)
theorem ins_sorted (x : Int) : ∀ l : List Int, l.Pairwise (· ≤ ·) → (ins x l).Pairwise (· ≤ ·)
  | [], _ => List.pairwise_singleton _ _
  | y :: r, h => by
    unfold ins
    have h' := List.pairwise_cons.mp h
    split
    · next hx =>
      refine List.pairwise_cons.mpr ⟨fun z hz => ?_, h⟩
      rcases List.mem_cons.mp hz with e | hz
      · subst e
        exact hx
      · exact Int.le_trans hx (h'.1 z hz)
    · next hx =>
      refine List.pairwise_cons.mpr ⟨fun z hz => ?_, ins_sorted x r h'.2⟩
      rcases List.mem_cons.mp ((ins_perm x r).mem_iff.mp hz) with e | hz
      · subst e
        omega
      · exact h'.1 z hz
theorem isort_sorted : ∀ l : List Int, (isort l).Pairwise (· ≤ ·)
  | [] => .nil
  | x :: r => ins_sorted x _ (isort_sorted r)
theorem uniq : ∀ {l m : List Int}, l.Perm m → l.Pairwise (· ≤ ·) → m.Pairwise (· ≤ ·) → l = m
  | [], m, p, _, _ => (List.nil_perm.mp p).symm
  | x :: l, [], p, _, _ => absurd p.length_eq (by simp)
  | x :: l, y :: m, p, a, b => by
    have a' := List.pairwise_cons.mp a
    have b' := List.pairwise_cons.mp b
    have e : x = y := by
      have h1 : x ∈ y :: m := p.mem_iff.mp List.mem_cons_self
      have h2 : y ∈ x :: l := p.mem_iff.mpr List.mem_cons_self
      rcases List.mem_cons.mp h1 with e | h1
      · exact e
      · rcases List.mem_cons.mp h2 with e | h2
        · exact e.symm
        · exact Int.le_antisymm (a'.1 y h2) (b'.1 x h1)
    subst e
    rw [uniq (List.Perm.cons_inv p) a'.2 b'.2]
theorem isort_of {l m : List Int} (p : m.Perm l) (h : m.Pairwise (· ≤ ·)) : m = isort l := uniq (p.trans (isort_perm l).symm) h (isort_sorted l)
def greedy : Int → List Int → Int
  | T, [] => T
  | T, l :: r => if l > T + 1 then T else greedy (T + l) r
def reachOf (ns : List Int) : Int := greedy 0 (isort ns)
theorem greedy_ge : ∀ (ls : List Int) (T : Int), (∀ x ∈ ls, 0 ≤ x) → T ≤ greedy T ls
  | [], T, _ => Int.le_refl _
  | l :: r, T, h => by
    unfold greedy
    have h0 := h l List.mem_cons_self
    split
    · exact Int.le_refl _
    · have := greedy_ge r (T + l) fun x hx => h x (List.mem_cons_of_mem _ hx)
      omega
theorem greedy_le : ∀ (ls : List Int) (T : Int), (∀ x ∈ ls, 0 ≤ x ∧ x ≤ 40) → greedy T ls ≤ T + 40 * (ls.length : Int)
  | [], T, _ => by
    show T ≤ T + 40 * ((0 : Nat) : Int)
    omega
  | l :: r, T, h => by
    unfold greedy
    have h0 := h l List.mem_cons_self
    rw [List.length_cons]
    split
    · omega
    · have := greedy_le r (T + l) fun x hx => h x (List.mem_cons_of_mem _ hx)
      omega
def Good (ns : List Int) : Prop := 1 ≤ ns.length ∧ ns.length ≤ 8 ∧ ∀ n ∈ ns, 1 ≤ n ∧ n ≤ 40
theorem Good.perm {l m : List Int} (g : Good l) (p : m.Perm l) : Good m := ⟨by rw [p.length_eq]; exact g.1, by rw [p.length_eq]; exact g.2.1, fun n h => g.2.2 n (p.mem_iff.mp h)⟩
theorem isort_congr {l m : List Int} (p : m.Perm l) : isort m = isort l := uniq (((isort_perm m).trans p).trans (isort_perm l).symm) (isort_sorted m) (isort_sorted l)
theorem reach_perm {l m : List Int} (p : m.Perm l) : reachOf m = reachOf l := by
  unfold reachOf
  rw [isort_congr p]
theorem reach_bd {ns : List Int} (g : Good ns) : 0 ≤ reachOf ns ∧ reachOf ns ≤ 320 := by
  have g' := g.perm (isort_perm ns)
  have h1 := greedy_ge (isort ns) 0 fun x hx => by have := g'.2.2 x hx; omega
  have h2 := greedy_le (isort ns) 0 fun x hx => by have := g'.2.2 x hx; omega
  have h3 := g'.2.1
  refine ⟨h1, ?_⟩
  show greedy 0 (isort ns) ≤ 320
  omega
/-- n is a sum of some of ls, and of a number from 0 to T -/
def reps (T : Int) : List Int → Int → Prop
  | [], n => 0 ≤ n ∧ n ≤ T
  | l :: r, n => reps T r n ∨ reps T r (n - l)
theorem reps_perm {T : Int} {l m : List Int} (p : l.Perm m) : ∀ n, reps T l n ↔ reps T m n := by
  induction p with
  | nil => exact fun _ => Iff.rfl
  | cons x _ ih =>
    intro n
    show (reps T _ n ∨ reps T _ (n - x)) ↔ (reps T _ n ∨ reps T _ (n - x))
    rw [ih n, ih (n - x)]
  | swap x y r =>
    intro n
    show ((reps T r n ∨ reps T r (n - x)) ∨ (reps T r (n - y) ∨ reps T r (n - y - x))) ↔ ((reps T r n ∨ reps T r (n - y)) ∨ (reps T r (n - x) ∨ reps T r (n - x - y)))
    rw [show n - y - x = n - x - y by omega]
    constructor
    · rintro ((a | a) | (a | a))
      · exact .inl (.inl a)
      · exact .inr (.inl a)
      · exact .inl (.inr a)
      · exact .inr (.inr a)
    · rintro ((a | a) | (a | a))
      · exact .inl (.inl a)
      · exact .inr (.inl a)
      · exact .inl (.inr a)
      · exact .inr (.inr a)
  | trans _ _ h1 h2 => exact fun n => (h1 n).trans (h2 n)
theorem reps_up {T l : Int} (h0 : 0 ≤ T) (h1 : 1 ≤ l) (h2 : l ≤ T + 1) : ∀ (r : List Int) (n : Int), reps (T + l) r n ↔ reps T (l :: r) n
  | [], n => by
    show (0 ≤ n ∧ n ≤ T + l) ↔ ((0 ≤ n ∧ n ≤ T) ∨ (0 ≤ n - l ∧ n - l ≤ T))
    omega
  | x :: r, n => by
    show (reps (T + l) r n ∨ reps (T + l) r (n - x)) ↔ _
    rw [reps_up h0 h1 h2 r n, reps_up h0 h1 h2 r (n - x)]
    exact (reps_perm (.swap l x r) n)
theorem reps_low {T : Int} : ∀ (ls : List Int) (n : Int), 0 ≤ n → n ≤ T → reps T ls n
  | [], n, a, b => ⟨a, b⟩
  | _ :: r, n, a, b => .inl (reps_low r n a b)
theorem reps_nonneg {T : Int} : ∀ (ls : List Int) (n : Int), (∀ x ∈ ls, 0 ≤ x) → reps T ls n → 0 ≤ n
  | [], n, _, h => h.1
  | l :: r, n, hp, h => by
    have h0 := hp l List.mem_cons_self
    have hr : ∀ x ∈ r, 0 ≤ x := fun x hx => hp x (List.mem_cons_of_mem _ hx)
    rcases h with h | h
    · exact reps_nonneg r n hr h
    · have := reps_nonneg r _ hr h
      omega
theorem reps_not {T : Int} (h0 : 0 ≤ T) : ∀ (ls : List Int) (n : Int), (∀ x ∈ ls, T + 1 < x) → n ≤ T + 1 → reps T ls n → n ≤ T
  | [], n, _, _, h => h.2
  | l :: r, n, hp, hn, h => by
    have hl := hp l List.mem_cons_self
    have hr : ∀ x ∈ r, T + 1 < x := fun x hx => hp x (List.mem_cons_of_mem _ hx)
    rcases h with h | h
    · exact reps_not h0 r n hr hn h
    · have := reps_nonneg r _ (fun x hx => by have := hr x hx; omega) h
      omega
theorem greedy_is : ∀ (ls : List Int) (T : Int), 0 ≤ T → (∀ x ∈ ls, 1 ≤ x) → ls.Pairwise (· ≤ ·) → (∀ n, 0 ≤ n → n ≤ greedy T ls → reps T ls n) ∧ ¬ reps T ls (greedy T ls + 1)
  | [], T, h0, _, _ => ⟨fun n a b => ⟨a, b⟩, fun h => by
    have := h.2
    unfold greedy at this
    omega⟩
  | l :: r, T, h0, hp, hs => by
    have hl := hp l List.mem_cons_self
    have hr : ∀ x ∈ r, 1 ≤ x := fun x hx => hp x (List.mem_cons_of_mem _ hx)
    have hs' := List.pairwise_cons.mp hs
    unfold greedy
    by_cases hc : l > T + 1
    · rw [if_pos hc]
      refine ⟨fun n a b => reps_low _ n a b, fun h => ?_⟩
      have := reps_not h0 (l :: r) (T + 1) (fun x hx => by
        rcases List.mem_cons.mp hx with e | hx
        · omega
        · have := hs'.1 x hx
          omega) (Int.le_refl _) h
      omega
    · rw [if_neg hc]
      have ih := greedy_is r (T + l) (by omega) hr hs'.2
      have up := reps_up h0 hl (by omega : l ≤ T + 1) r
      exact ⟨fun n a b => (up n).mp (ih.1 n a b), fun h => ih.2 ((up _).mpr h)⟩
theorem reach_is {ns : List Int} (g : Good ns) : (∀ n, 0 ≤ n → n ≤ reachOf ns → reps 0 ns n) ∧ ¬ reps 0 ns (reachOf ns + 1) := by
  have g' := g.perm (isort_perm ns)
  have k := greedy_is (isort ns) 0 (Int.le_refl _) (fun x hx => (g'.2.2 x hx).1) (isort_sorted ns)
  exact ⟨fun n a b => (reps_perm (isort_perm ns) n).mp (k.1 n a b), fun h => k.2 ((reps_perm (isort_perm ns) _).mpr h)⟩
/-! ### sums as bits -/
def sumsF (S : Nat) : List Int → Nat
  | [] => S
  | l :: r => sumsF (S ||| S * 2 ^ l.toNat) r
theorem bits_step {S : Nat} {ls : List Int} {l : Int} (hl : 0 ≤ l) (hp : ∀ x ∈ ls, 0 ≤ x) (h : ∀ n : Nat, S.testBit n = true ↔ reps 0 ls (n : Int)) (n : Nat) : (S ||| S * 2 ^ l.toNat).testBit n = true ↔ reps 0 (l :: ls) (n : Int) := by
  rw [← Nat.shiftLeft_eq, Nat.testBit_or, Nat.testBit_shiftLeft, Bool.or_eq_true, Bool.and_eq_true, decide_eq_true_eq, h n, h (n - l.toNat)]
  show _ ↔ (reps 0 ls (n : Int) ∨ reps 0 ls ((n : Int) - l))
  constructor
  · rintro (a | ⟨a, b⟩)
    · exact .inl a
    · refine .inr ?_
      rw [show (n : Int) - l = ((n - l.toNat : Nat) : Int) by omega]
      exact b
  · rintro (a | a)
    · exact .inl a
    · have := reps_nonneg ls _ hp a
      refine .inr ⟨by omega, ?_⟩
      rw [show ((n - l.toNat : Nat) : Int) = (n : Int) - l by omega]
      exact a
theorem bits_all : ∀ (ls acc : List Int) (S : Nat), (∀ x ∈ ls, 0 ≤ x) → (∀ x ∈ acc, 0 ≤ x) → (∀ n : Nat, S.testBit n = true ↔ reps 0 acc (n : Int)) → ∀ n : Nat, (sumsF S ls).testBit n = true ↔ reps 0 (ls.reverse ++ acc) (n : Int)
  | [], acc, S, _, _, h => h
  | l :: r, acc, S, hl, ha, h => by
    intro n
    rw [List.reverse_cons, List.append_assoc]
    exact bits_all r (l :: acc) _ (fun x hx => hl x (List.mem_cons_of_mem _ hx)) (fun x hx => by
      rcases List.mem_cons.mp hx with e | hx
      · subst e
        exact hl x List.mem_cons_self
      · exact ha x hx) (bits_step (hl l List.mem_cons_self) ha h) n
theorem bit_one (n : Nat) : (1 : Nat).testBit n = true ↔ reps 0 [] (n : Int) := by
  show _ ↔ (0 ≤ (n : Int) ∧ (n : Int) ≤ 0)
  cases n with
  | zero => exact ⟨fun _ => ⟨by decide, by decide⟩, fun _ => by decide⟩
  | succ n =>
    rw [Nat.testBit_succ, show 1 / 2 = 0 from rfl, Nat.zero_testBit]
    exact ⟨fun h => absurd h Bool.false_ne_true, fun h => by omega⟩
theorem sums_is {ns : List Int} (g : Good ns) (n : Nat) : (sumsF 1 ns).testBit n = true ↔ reps 0 ns (n : Int) := by
  rw [bits_all ns [] 1 (fun x hx => by have := g.2.2 x hx; omega) (fun _ h => by simp at h) bit_one n, List.append_nil]
  exact reps_perm (List.reverse_perm ns) n
/-- sums // (1 << n) % 2 -/
theorem bit_of (S n : Nat) : (((S : Nat) : Int) / (1 * 2 ^ ((n : Int).toNat))).fmod 2 = if S.testBit n then 1 else 0 := by
  rw [Int.toNat_natCast, Int.one_mul, Int.fmod_eq_emod_of_nonneg _ (by decide), show ((2 : Int) ^ n) = ((2 ^ n : Nat) : Int) by simp, ← Int.natCast_ediv, show ((2 : Int)) = ((2 : Nat) : Int) from rfl, ← Int.natCast_emod, Nat.testBit_eq_decide_div_mod_eq]
  rcases Nat.mod_two_eq_zero_or_one (S / 2 ^ n) with e | e
  · rw [e]; rfl
  · rw [e]; rfl
end Rch

/-! ### the mathematics of tables -/
namespace Tb
def len1 (ls : List Int) (k : Int) : Int := ls.getD k.toNat 0
def rsum (ls : List Int) (r : List Int) : Int := (r.map (len1 ls)).sum
def InR (ls r : List Int) : Prop := ∀ k ∈ r, 0 ≤ k ∧ k < (ls.length : Int)
def Right (ls : List Int) (rs : List (List Int)) : Prop := Rch.Good ls ∧ 1 ≤ rs.length ∧ rs.length ≤ 60 ∧ ∀ (i : Nat) (r : List Int), rs[i]? = some r → InR ls r ∧ r.length ≤ 60 ∧ rsum ls r = (i : Int) + 1
theorem len_at {ls : List Int} {k : Int} (h0 : 0 ≤ k) (h1 : k < (ls.length : Int)) : ls[k.toNat]? = some (len1 ls k) := by
  have h : k.toNat < ls.length := by omega
  unfold len1
  rw [List.getD_eq_getElem?_getD, List.getElem?_eq_getElem h]
  rfl
theorem len_pos {ls : List Int} (g : Rch.Good ls) {k : Int} (h0 : 0 ≤ k) (h1 : k < (ls.length : Int)) : 1 ≤ len1 ls k ∧ len1 ls k ≤ 40 := g.2.2 _ (List.mem_of_getElem? (len_at h0 h1))
theorem rsum_cons (ls : List Int) (k : Int) (r : List Int) : rsum ls (k :: r) = len1 ls k + rsum ls r := by
  unfold rsum
  rw [List.map_cons, List.sum_cons]
theorem rsum_snoc (ls : List Int) (r : List Int) (k : Int) : rsum ls (r ++ [k]) = rsum ls r + len1 ls k := by
  unfold rsum
  rw [List.map_append, List.sum_append]
  simp
theorem rsum_len {ls : List Int} (g : Rch.Good ls) : ∀ {r : List Int}, InR ls r → (r.length : Int) ≤ rsum ls r
  | [], _ => by simp [rsum]
  | k :: r, h => by
    have h1 := h k List.mem_cons_self
    have := (len_pos g h1.1 h1.2).1
    have ih := rsum_len g (r := r) fun x hx => h x (List.mem_cons_of_mem _ hx)
    rw [rsum_cons, List.length_cons]
    omega
/-- when gone, into which loop -/
def go (ls : List Int) : Int → List Int → List (Int × Int)
  | _, [] => []
  | g, k :: r => (g, k) :: go ls (g + len1 ls k) r
theorem go_len (ls : List Int) : ∀ (r : List Int) (g : Int), (go ls g r).length = r.length
  | [], _ => rfl
  | k :: r, g => by
    show (go ls (g + len1 ls k) r).length + 1 = r.length + 1
    rw [go_len ls r]
theorem go_take (ls : List Int) : ∀ (r : List Int) (g : Int) (j : Nat), (go ls g r)[j]? = (r[j]?).map fun k => (g + rsum ls (r.take j), k)
  | [], g, j => by simp [go]
  | k :: r, g, 0 => by
    show some (g, k) = some (g + rsum ls [], k)
    simp [rsum]
  | k :: r, g, j + 1 => by
    show (go ls (g + len1 ls k) r)[j]? = (r[j]?).map fun x => (g + rsum ls (k :: r.take j), x)
    rw [go_take ls r, rsum_cons]
    congr 1
    funext x
    rw [Int.add_assoc]
theorem go_snd (ls : List Int) : ∀ (r : List Int) (g : Int), (go ls g r).map (·.2) = r
  | [], _ => rfl
  | k :: r, g => by
    show k :: (go ls (g + len1 ls k) r).map (·.2) = k :: r
    rw [go_snd ls r]
theorem go_rng {ls : List Int} (G : Rch.Good ls) : ∀ (r : List Int) (g : Int), InR ls r → ∀ p ∈ go ls g r, g ≤ p.1 ∧ p.1 < g + rsum ls r ∧ 0 ≤ p.2 ∧ p.2 < (ls.length : Int)
  | [], _, _, p, hp => absurd hp (by simp [go])
  | k :: r, g, h, p, hp => by
    have hk := h k List.mem_cons_self
    have l1 := (len_pos G hk.1 hk.2).1
    have hr : InR ls r := fun x hx => h x (List.mem_cons_of_mem _ hx)
    have n0 := rsum_len G hr
    rw [rsum_cons]
    rcases List.mem_cons.mp hp with e | hp
    · rw [e]
      show g ≤ g ∧ g < _ ∧ 0 ≤ k ∧ k < _
      omega
    · have := go_rng G r _ hr p hp
      omega
theorem go_up {ls : List Int} (G : Rch.Good ls) : ∀ (r : List Int) (g : Int), InR ls r → (go ls g r).Pairwise fun p q => p.1 < q.1
  | [], _, _ => .nil
  | k :: r, g, h => by
    have hk := h k List.mem_cons_self
    have l1 := (len_pos G hk.1 hk.2).1
    have hr : InR ls r := fun x hx => h x (List.mem_cons_of_mem _ hx)
    refine List.pairwise_cons.mpr ⟨fun q hq => ?_, go_up G r _ hr⟩
    have := go_rng G r _ hr q hq
    show g < q.1
    omega
/-- loop, gone, left -/
def ent (w : Int) (p : Int × Int) : List Int := [p.2, p.1, w - p.1]
def ents (ls : List Int) (w : Int) (r : List Int) : List (List Int) := (go ls 0 r).map (ent w)
def all (ls : List Int) (rs : List (List Int)) : Nat → List (List Int)
  | 0 => []
  | i + 1 => all ls rs i ++ ents ls ((i : Int) + 1) (rs.getD i [])
theorem ents_len (ls : List Int) (w : Int) (r : List Int) : (ents ls w r).length = r.length := by
  unfold ents
  rw [List.length_map, go_len]
theorem getD_row {rs : List (List Int)} {i : Nat} {r : List Int} (h : rs[i]? = some r) : rs.getD i [] = r := by
  rw [List.getD_eq_getElem?_getD, h]
  rfl
theorem all_wait {ls : List Int} {rs : List (List Int)} : ∀ (i : Nat) (e : List Int), e ∈ all ls rs i → ∃ k g w : Int, e = [k, g, w - g] ∧ 1 ≤ w ∧ w ≤ i
  | 0, e, h => absurd h (by simp [all])
  | i + 1, e, h => by
    rcases List.mem_append.mp h with h | h
    · obtain ⟨k, g, w, e1, h1, h2⟩ := all_wait i e h
      exact ⟨k, g, w, e1, h1, by omega⟩
    · obtain ⟨p, _, rfl⟩ := List.mem_map.mp h
      exact ⟨p.2, p.1, (i : Int) + 1, rfl, by omega, by omega⟩
/-- each new one is new -/
theorem new_one {ls : List Int} {rs : List (List Int)} {r : List Int} (G : Rch.Good ls) (hr : InR ls r) {i j : Nat} {p : Int × Int} (hj : (go ls 0 r)[j]? = some p) : ent ((i : Int) + 1) p ∉ all ls rs i ++ ((go ls 0 r).take j).map (ent ((i : Int) + 1)) := by
  intro h
  rcases List.mem_append.mp h with h | h
  · obtain ⟨k, g, w, e, h1, h2⟩ := all_wait i _ h
    unfold ent at e
    have e1 : p.1 = g := by
      have := congrArg (fun z : List Int => z.getD 1 0) e
      exact this
    have e2 : (i : Int) + 1 - p.1 = w - g := by
      have := congrArg (fun z : List Int => z.getD 2 0) e
      exact this
    omega
  · obtain ⟨q, hq, e⟩ := List.mem_map.mp h
    have e1 : q.1 = p.1 := by
      have := congrArg (fun z : List Int => z.getD 1 0) e
      exact this
    obtain ⟨m, hm⟩ := List.mem_iff_getElem?.mp hq
    rw [List.getElem?_take] at hm
    split at hm
    · next hlt =>
      have pw := List.pairwise_iff_getElem.mp (go_up G r 0 hr)
      obtain ⟨hm', em⟩ := List.getElem?_eq_some_iff.mp hm
      obtain ⟨hj', ej⟩ := List.getElem?_eq_some_iff.mp hj
      have := pw m j hm' hj' hlt
      rw [em, ej] at this
      omega
    · cases hm
theorem ents_bd {ls : List Int} {r : List Int} {w : Int} (G : Rch.Good ls) (hr : InR ls r) (hw : rsum ls r = w) (h60 : w ≤ 60) : ∀ e ∈ ents ls w r, e.length = 3 ∧ TS.Bd 1000 e := by
  intro e he
  obtain ⟨p, hp, rfl⟩ := List.mem_map.mp he
  have h := go_rng G r 0 hr p hp
  have g1 := G.2.1
  refine ⟨rfl, fun m hm => ?_⟩
  unfold ent at hm
  simp only [List.mem_cons, List.not_mem_nil, or_false] at hm
  rcases hm with e | e | e <;> subst e <;> omega
theorem all_bd {ls : List Int} {rs : List (List Int)} (R : Right ls rs) : ∀ i, i ≤ rs.length → ∀ e ∈ all ls rs i, e.length = 3 ∧ TS.Bd 1000 e
  | 0, _, e, he => absurd he (by simp [all])
  | i + 1, hi, e, he => by
    rcases List.mem_append.mp he with he | he
    · exact all_bd R i (by omega) e he
    · have hr : rs[i]? = some rs[i] := List.getElem?_eq_getElem (by omega)
      rw [getD_row hr] at he
      obtain ⟨a, b, c⟩ := R.2.2.2 i _ hr
      have := R.2.2.1
      exact ents_bd R.1 a c (by omega) e he
theorem all_len {ls : List Int} {rs : List (List Int)} (R : Right ls rs) : ∀ i, i ≤ rs.length → (all ls rs i).length ≤ 60 * i
  | 0, _ => Nat.le_refl _
  | i + 1, hi => by
    have ih := all_len R i (by omega)
    have hr : rs[i]? = some rs[i] := List.getElem?_eq_getElem (by omega)
    obtain ⟨a, b, c⟩ := R.2.2.2 i _ hr
    show (all ls rs i ++ ents ls ((i : Int) + 1) (rs.getD i [])).length ≤ _
    rw [List.length_append, ents_len, getD_row hr]
    omega
/-- the entries of one wait, when gone ahead -/
def ofWait (w : Int) (e : List Int) : Bool := (e.getD 1 0 + e.getD 2 0) == w
def swap (e : List Int) : List Int := [e.getD 1 0, e.getD 0 0]
def sel (w : Int) (es : List (List Int)) : List (List Int) := (es.filter (ofWait w)).map swap
theorem sel_append (w : Int) (a b : List (List Int)) : sel w (a ++ b) = sel w a ++ sel w b := by
  unfold sel
  rw [List.filter_append, List.map_append]
def gl (ls r : List Int) : List (List Int) := (go ls 0 r).map fun p => [p.1, p.2]
theorem sel_yes (ls : List Int) (w : Int) (r : List Int) : sel w (ents ls w r) = gl ls r := by
  unfold sel ents gl
  rw [List.filter_eq_self.mpr, List.map_map]
  · rfl
  · intro e he
    obtain ⟨p, _, rfl⟩ := List.mem_map.mp he
    show ((p.1 + (w - p.1)) == w) = true
    rw [beq_iff_eq]
    omega
theorem sel_no {ls : List Int} {w v : Int} (r : List Int) (h : v ≠ w) : sel w (ents ls v r) = [] := by
  unfold sel ents
  rw [List.filter_eq_nil_iff.mpr, List.map_nil]
  intro e he
  obtain ⟨p, _, rfl⟩ := List.mem_map.mp he
  show ¬ ((p.1 + (v - p.1)) == w) = true
  rw [beq_iff_eq]
  omega
theorem sel_all {ls : List Int} {rs : List (List Int)} (m : Nat) : ∀ i, sel ((m : Int) + 1) (all ls rs i) = if m < i then gl ls (rs.getD m []) else []
  | 0 => by
    rw [if_neg (by omega)]
    rfl
  | i + 1 => by
    show sel _ (all ls rs i ++ ents ls ((i : Int) + 1) (rs.getD i [])) = _
    rw [sel_append, sel_all m i]
    by_cases h : m < i
    · rw [if_pos h, if_pos (by omega), sel_no _ (by omega), List.append_nil]
    · rw [if_neg h, List.nil_append]
      by_cases h2 : m = i
      · subst h2
        rw [if_pos (by omega), sel_yes]
      · rw [if_neg (by omega), sel_no _ (by omega)]
theorem gl_bd {ls : List Int} {r : List Int} (G : Rch.Good ls) (hr : InR ls r) (h60 : rsum ls r ≤ 60) : ∀ e ∈ gl ls r, e.length = 2 ∧ TS.Bd 1000 e := by
  intro e he
  obtain ⟨p, hp, rfl⟩ := List.mem_map.mp he
  have h := go_rng G r 0 hr p hp
  have g1 := G.2.1
  refine ⟨rfl, fun m hm => ?_⟩
  simp only [List.mem_cons, List.not_mem_nil, or_false] at hm
  rcases hm with e | e <;> subst e <;> omega
theorem gl_sorted {ls : List Int} {r : List Int} (G : Rch.Good ls) (hr : InR ls r) (h60 : rsum ls r ≤ 60) : (gl ls r).Pairwise fun x y => TS.code 1000 x ≤ TS.code 1000 y := by
  unfold gl
  rw [List.pairwise_map]
  refine (List.pairwise_iff_getElem.mpr fun i j hi hj hij => ?_)
  have pw := List.pairwise_iff_getElem.mp (go_up G r 0 hr) i j hi hj hij
  have b1 := go_rng G r 0 hr _ (List.getElem_mem hi)
  have b2 := go_rng G r 0 hr _ (List.getElem_mem hj)
  have g1 := G.2.1
  show (go ls 0 r)[i].1 * 1000 ^ 1 + ((go ls 0 r)[i].2 * 1000 ^ 0 + 0) ≤ (go ls 0 r)[j].1 * 1000 ^ 1 + ((go ls 0 r)[j].2 * 1000 ^ 0 + 0)
  omega
theorem sel_perm {w : Int} {a b : List (List Int)} (p : a.Perm b) : (sel w a).Perm (sel w b) := (p.filter _).map _
theorem gl_snd (ls r : List Int) : (gl ls r).map (fun e => e.getD 1 0) = r := by
  unfold gl
  rw [List.map_map]
  exact go_snd ls r 0
end Tb

/-! ### the mathematics of the line -/
namespace Ln
/-- tick, turn, wait -/
abbrev Let := Int × Int × Option Int
def step (b τ u : Int) (s : List Let × Int) : List Let × Int := if s.2 > b then (s.1 ++ [(τ, u, none)], s.2) else (s.1 ++ [(τ, u, some s.2)], s.2 + 1)
def turns (b τ : Int) : Nat → List Let × Int → List Let × Int
  | 0, s => s
  | k + 1, s => step b τ (1 + (k : Int)) (turns b τ k s)
def close (c : Int) : Int := if c > 0 then c - 1 else c
def pre (b : Int) (cs : List Int) : Nat → List Let × Int
  | 0 => ([], 0)
  | i + 1 => ((turns b (i : Int) (cs.getD i 0).toNat (pre b cs i)).1, close (turns b (i : Int) (cs.getD i 0).toNat (pre b cs i)).2)
def letts (b : Int) (cs : List Int) : List Let := (pre b cs cs.length).1
def behind (b : Int) (cs : List Int) : Nat → List Int
  | 0 => []
  | i + 1 => behind b cs i ++ [(pre b cs (i + 1)).2]
theorem step_len (b τ u : Int) (s : List Let × Int) : (step b τ u s).1.length = s.1.length + 1 := by
  unfold step
  split <;> simp
theorem turns_len (b τ : Int) : ∀ (k : Nat) (s : List Let × Int), (turns b τ k s).1.length = s.1.length + k
  | 0, _ => rfl
  | k + 1, s => by
    unfold turns
    rw [step_len, turns_len b τ k s, Nat.add_assoc]
theorem turns_rng {b τ : Int} : ∀ (k : Nat) (s : List Let × Int), 0 ≤ s.2 → s.2 ≤ b + 1 → 0 ≤ (turns b τ k s).2 ∧ (turns b τ k s).2 ≤ b + 1
  | 0, s, h0, h1 => ⟨h0, h1⟩
  | k + 1, s, h0, h1 => by
    have ih := turns_rng (τ := τ) k s h0 h1
    unfold turns step
    split
    · exact ih
    · show 0 ≤ (turns b τ k s).2 + 1 ∧ (turns b τ k s).2 + 1 ≤ b + 1
      omega
theorem close_rng {b c : Int} (hb : 0 ≤ b) (h0 : 0 ≤ c) (h1 : c ≤ b + 1) : 0 ≤ close c ∧ close c ≤ b := by
  unfold close
  split <;> omega
theorem pre_rng {b : Int} (hb : 0 ≤ b) (cs : List Int) : ∀ i, 0 ≤ (pre b cs i).2 ∧ (pre b cs i).2 ≤ b
  | 0 => ⟨Int.le_refl _, hb⟩
  | i + 1 => by
    have ih := pre_rng hb cs i
    have t := turns_rng (b := b) (τ := (i : Int)) (cs.getD i 0).toNat (pre b cs i) ih.1 (by omega)
    unfold pre
    exact close_rng hb t.1 t.2
theorem pre_len {b : Int} {cs : List Int} (hc : ∀ c ∈ cs, c ≤ 4) : ∀ i, (pre b cs i).1.length ≤ 4 * i
  | 0 => Nat.le_refl _
  | i + 1 => by
    have ih := pre_len (b := b) hc i
    unfold pre
    rw [turns_len]
    have : cs.getD i 0 ≤ 4 := by
      rw [List.getD_eq_getElem?_getD]
      cases h : cs[i]? with
      | none => decide
      | some c => exact hc c (List.mem_of_getElem? h)
    omega
theorem behind_len (b : Int) (cs : List Int) : ∀ i, (behind b cs i).length = i
  | 0 => rfl
  | i + 1 => by
    unfold behind
    rw [List.length_append, behind_len b cs i]
    rfl
theorem getD_of {cs : List Int} {i : Nat} {c : Int} (h : cs[i]? = some c) : cs.getD i 0 = c := by
  rw [List.getD_eq_getElem?_getD, h]
  rfl
/-! pairs of who goes out when -/
def one (l : Let) (n : Int) : List (Int × Int) := match l.2.2 with
  | none => []
  | some w => [(l.1 + w, n)]
def outsFrom : Int → List Let → List (Int × Int)
  | _, [] => []
  | n, l :: r => one l n ++ outsFrom (n + 1) r
theorem outs_snoc : ∀ (L : List Let) (n : Int) (l : Let), outsFrom n (L ++ [l]) = outsFrom n L ++ one l (n + (L.length : Int))
  | [], n, l => by
    show one l n ++ [] = [] ++ one l (n + ((0 : Nat) : Int))
    rw [List.append_nil, List.nil_append]
    congr 1
    omega
  | x :: L, n, l => by
    show one x n ++ outsFrom (n + 1) (L ++ [l]) = (one x n ++ outsFrom (n + 1) L) ++ one l _
    rw [outs_snoc L (n + 1) l, List.append_assoc]
    congr 3
    rw [List.length_cons]
    omega
theorem one_len (l : Let) (n : Int) : (one l n).length ≤ 1 := by
  unfold one
  split <;> simp
theorem outs_len : ∀ (L : List Let) (n : Int), (outsFrom n L).length ≤ L.length
  | [], _ => Nat.le_refl _
  | l :: r, n => by
    show (one l n ++ outsFrom (n + 1) r).length ≤ r.length + 1
    have := outs_len r (n + 1)
    have := one_len l n
    rw [List.length_append]
    omega
def qp : Int → List Int → List (Int × Int)
  | _, [] => []
  | τ, n :: r => (τ, n) :: qp (τ + 1) r
theorem qp_snoc : ∀ (q : List Int) (τ n : Int), qp τ (q ++ [n]) = qp τ q ++ [(τ + (q.length : Int), n)]
  | [], τ, n => by
    show [(τ, n)] = [(τ + ((0 : Nat) : Int), n)]
    rw [show τ + ((0 : Nat) : Int) = τ by omega]
  | x :: q, τ, n => by
    show (τ, x) :: qp (τ + 1) (q ++ [n]) = (τ, x) :: (qp (τ + 1) q ++ [_])
    rw [qp_snoc q (τ + 1) n, List.length_cons]
    congr 4
    omega
/-- a queue of the law's own line, by the letters that came -/
def Led (τ : Int) (s : List Let × Int) (q : List Int) (prs : List (Int × Int)) : Prop := (q.length : Int) = s.2 ∧ prs ++ qp τ q = outsFrom 0 s.1
theorem Led.no {b τ u : Int} {s : List Let × Int} {q : List Int} {prs} (h : Led τ s q prs) (hb : s.2 > b) : Led τ (step b τ u s) q prs ∧ step b τ u s = (s.1 ++ [(τ, u, none)], s.2) := by
  have e : step b τ u s = (s.1 ++ [(τ, u, none)], s.2) := by
    unfold step
    rw [if_pos hb]
  refine ⟨?_, e⟩
  rw [e]
  refine ⟨h.1, ?_⟩
  rw [outs_snoc, ← h.2]
  show _ = _ ++ []
  rw [List.append_nil]
theorem Led.yes {b τ u : Int} {s : List Let × Int} {q : List Int} {prs} (h : Led τ s q prs) (hb : ¬ s.2 > b) : Led τ (step b τ u s) (q ++ [(s.1.length : Int)]) prs ∧ step b τ u s = (s.1 ++ [(τ, u, some s.2)], s.2 + 1) := by
  have e : step b τ u s = (s.1 ++ [(τ, u, some s.2)], s.2 + 1) := by
    unfold step
    rw [if_neg hb]
  refine ⟨?_, e⟩
  rw [e]
  refine ⟨?_, ?_⟩
  · rw [List.length_append]
    show ((q.length + 1 : Nat) : Int) = s.2 + 1
    have := h.1
    omega
  · show _ = outsFrom 0 (s.1 ++ [(τ, u, some s.2)])
    rw [outs_snoc, ← h.2, qp_snoc, ← List.append_assoc, h.1]
    show _ = _ ++ [(τ + s.2, (0 : Int) + (s.1.length : Int))]
    rw [Int.zero_add]
/-- each one goes out in its time -/
def Due (τ : Int) (L : List Let) (q : List Int) (prs : List (Int × Int)) : Prop := prs ++ qp τ q = outsFrom 0 L
theorem Due.pop {τ : Int} {L : List Let} {x : Int} {q : List Int} {prs} (h : Due τ L (x :: q) prs) : Due (τ + 1) L q (prs ++ [(τ, x)]) := by
  unfold Due at *
  rw [← h, List.append_assoc]
  rfl
theorem Due.nil {τ τ' : Int} {L : List Let} {prs} (h : Due τ L [] prs) : Due τ' L [] prs := h
theorem ticks_turns (b τ : Int) : ∀ (k : Nat) (s : List Let × Int), (turns b τ k s).1.map (·.1) = s.1.map (·.1) ++ List.replicate k τ
  | 0, s => by simp [turns]
  | k + 1, s => by
    have ih := ticks_turns b τ k s
    have e : (step b τ (1 + (k : Int)) (turns b τ k s)).1.map (·.1) = (turns b τ k s).1.map (·.1) ++ [τ] := by
      unfold step
      split <;> simp
    unfold turns
    rw [e, ih, List.append_assoc, List.replicate_succ']
def ticksOf (cs : List Int) : Nat → List Int
  | 0 => []
  | i + 1 => ticksOf cs i ++ List.replicate (cs.getD i 0).toNat (i : Int)
theorem ticks_are (b : Int) (cs : List Int) : ∀ i, (pre b cs i).1.map (·.1) = ticksOf cs i
  | 0 => rfl
  | i + 1 => by
    show (turns b (i : Int) (cs.getD i 0).toNat (pre b cs i)).1.map (·.1) = ticksOf cs i ++ _
    rw [ticks_turns, ticks_are b cs i]
theorem ticks_len {cs : List Int} (hc : ∀ c ∈ cs, c ≤ 4) (i : Nat) : (ticksOf cs i).length ≤ 4 * i := by
  rw [← ticks_are 0 cs i, List.length_map]
  exact pre_len hc i
theorem getD_past {cs : List Int} {i : Nat} (h : cs.length ≤ i) : cs.getD i 0 = 0 := by
  rw [List.getD_eq_getElem?_getD, List.getElem?_eq_none h]
  rfl
theorem pre_past {b : Int} (hb : 0 ≤ b) (cs : List Int) : ∀ d : Nat, (pre b cs (cs.length + d)).1 = letts b cs ∧ ((pre b cs (cs.length + d)).2 ≤ b - d ∨ (pre b cs (cs.length + d)).2 ≤ 0)
  | 0 => ⟨rfl, .inl (by
    have := (pre_rng hb cs cs.length).2
    show (pre b cs cs.length).2 ≤ b - ((0 : Nat) : Int)
    omega)⟩
  | d + 1 => by
    have ih := pre_past hb cs d
    have e : turns b ((cs.length + d : Nat) : Int) (cs.getD (cs.length + d) 0).toNat (pre b cs (cs.length + d)) = pre b cs (cs.length + d) := by
      rw [getD_past (by omega)]
      rfl
    have e1 : (pre b cs (cs.length + (d + 1))).1 = (turns b ((cs.length + d : Nat) : Int) (cs.getD (cs.length + d) 0).toNat (pre b cs (cs.length + d))).1 := rfl
    have e2 : (pre b cs (cs.length + (d + 1))).2 = close (turns b ((cs.length + d : Nat) : Int) (cs.getD (cs.length + d) 0).toNat (pre b cs (cs.length + d))).2 := rfl
    rw [e] at e1 e2
    refine ⟨e1.trans ih.1, ?_⟩
    rw [e2]
    unfold close
    have := ih.2
    split <;> omega
end Ln

/-! ## sum(t), t a tuple of ints -/
namespace My
open PySem PySem.Spec PyProof.Rows L2
section
variable {prog : Program} {w : World} {A : Around} {E : Value → Shared → Prop} {s : Shared} {l : Addr} {xs : Array (Int × Tok)}
theorem sum_tupG {Q : Value → Shared → Prop} (hh : A.handled = none) (hl : s.heap.IsTuple l (intItems xs))
    (h : ∀ h' tk t', (∀ b o, s.heap.get? b = some o → h'.get? b = some o) → Q (.int (preSum (numAt xs) xs.size) t') { s with heap := h', toks := tk }) :
    wpAny (model prog w) A (call (.builtin "sum") [.ref l]) Q E s := by
  have hll : l < s.heap.objs.size := by obtain ⟨_, q, _⟩ := hl; exact Heap.lt_size q
  refine call_sum_walkG (wpAny_pyIter_tuple hl ?_)
  refine ⟨_, _, _, _, _, _, numAt xs, rfl, Walks.tuple (A := A.in1) hh s.heap.objs.size l (Nat.ne_of_lt hll) (intItems xs), ⟨⟨_, Heap.get?_push_size _ rfl, rfl, rfl⟩, hl.push _⟩, fun b hb => ?_, (fun _ _ => intItems_at), fun h' tk t' hk => ?_⟩
  · show b < (s.heap.push _).objs.size
    rw [Heap.size_push]
    rcases List.mem_cons.mp hb with rfl | hb
    · exact Nat.lt_succ_self _
    · rw [List.mem_singleton.mp hb]
      exact Nat.lt_succ_of_lt hll
  · have := h h' tk t' fun b o e => hk b o (fun hm => by
      rw [List.mem_singleton.mp hm] at e
      exact absurd (Heap.lt_size e) (Nat.lt_irrefl _)) (Heap.get?_push_of_some _ e)
    simpa [intItems] using this
end
def rSumT (K : PySem.W.Frag) : List V → Hp → VK → Prop := fun vs H Q => ∃ (a : Addr) (ns : List Int), vs = [V.ref a] ∧ SqT K H a (ns.map V.int) ∧ Q (.int ns.sum) H
theorem cr_sumT {X : Cx} (hc : X.calm = true) : CallR X (.builtin "sum") (rSumT X.K) := by
  intro pins s σ H vs us Q I r h
  obtain ⟨a, ns, rfl, hs, q⟩ := h
  obtain ⟨its, rv, hl, _⟩ := I.tuple hs
  rw [Vals.ref1 r]
  have hi := rv.ints
  obtain ⟨xs, e⟩ := hi.allInts.items
  have hn : numsOf (intItems xs).toList = ns := by rw [← e]; exact hi.numsOf
  rw [nums_intItems] at hn
  have hl' : s.heap.IsTuple a (intItems xs) := by
    rw [← e]
    exact hl
  refine sum_tupG (I.ok.hd hc) hl' fun h' tk t' hk => ?_
  rw [preSum_eq, List.take_of_length_le (by simp), hn]
  exact ⟨.int _, H, I.kept hk, ⟨_, rfl⟩, q⟩
/-! ### t + u, both tracked, t not empty -/
def rCatP : R2 := fun x y H Q => ∃ a b xs ys, x = .ref a ∧ y = .ref b ∧ H a = some (.tup xs) ∧ H b = some (.tup ys) ∧ xs ≠ [] ∧ xs.length + ys.length ≤ sizeLine ∧ ∀ p H', Same H H' → H' p = some (.tup (xs ++ ys)) → Q (.ref p) H'
theorem op_catP {X : Cx} : OpR X (binaryOp .Add) rCatP := by
  intro pins s σ H x y v u Q I rx ry h
  obtain ⟨a, b, xs, ys, rfl, rfl, ha, hb, hne, hz, q⟩ := h
  refine op_catA pins s σ H _ _ v u Q I rx ry ⟨a, b, xs, ys, rfl, rfl, SqT.of ha, SqT.of hb, hz, fun e => absurd e hne, fun _ e => ?_, fun _ _ p np => ?_⟩
  · subst e
    refine q a H (fun _ _ h => h) ?_
    rw [List.append_nil]
    exact ha
  · exact q p _ (same_upd np) upd_same
/-! ### xs[i] read where it is changed -/
theorem pgetL {X : Cx} : PGet X (rIxL X.K) := by
  intro pins s σ H o i ov iv Q I r1 r2 h
  obtain ⟨p, xs, k, z, rfl, rfl, hq, he, q⟩ := h
  cases r1
  obtain ⟨t, rfl⟩ := r2
  obtain ⟨its, r, pl, hz⟩ := I.list hq
  obtain ⟨j, h1, h2, h3, h4, h5⟩ := atI_get he
  obtain ⟨w, ew, rw'⟩ := r.get h2
  have hl := r.length
  have hn := line63
  have fin : EP X pins σ Q w s := ⟨z, H, I, rw', q⟩
  by_cases h0 : 0 ≤ k
  · have hj : k.toNat = j := by
      rw [PySem.seqIndex_of h0 h5] at h1
      exact Option.some.inj h1
    exact wpAny_getItem_list pl.isList h0 (by omega) (by rw [hj]; simpa using ew) fin
  · have hj : (k + (its.toArray.size : Int)).toNat = j := by
      rw [PySem.seqIndex_neg (by omega) h4] at h1
      rw [List.size_toArray, ← hl]
      exact Option.some.inj h1
    exact wpAny_mono (wpAny_getItem_list_neg (Q := fun r s' => r = w ∧ EP X pins σ Q r s') pl.isList (by omega) (by rw [List.size_toArray] <;> omega) (by omega) (by rw [hj]; simpa using ew) ⟨rfl, fin⟩) (fun _ _ h => h.2) fun _ _ h => h
/-! ### zip of two lists, the second one not longer -/
theorem for_zipS {K : PySem.W.Frag} {a b : Addr} {xs ys : List V} {g : TG} {tb : TS} {D : Ends} {σ : L2.St} {H : Hp} (hl : ys.length ≤ xs.length) (Pv : Nat → L2.St → Hp → Prop) (h0 : Pv 0 σ H) (hq : ∀ i σ H, Pv i σ H → SqL K H a xs ∧ SqL K H b ys)
    (hs : ∀ (i : Nat) (x y : V) (T : Addr) (σ : L2.St) (H : Hp), xs[i]? = some x → ys[i]? = some y → Pv i σ H → H T = none → g (.ref T) σ (upd H T (.tup [x, y])) fun σ2 H2 => tb { D with nx := Pv (i + 1), ct := Pv (i + 1), bk := D.nx } σ2 H2) (hd : ∀ σ H, Pv ys.length σ H → D.nx σ H) :
    ∃ W : Nat → Nat → L2.St → Hp → Prop, (∃ m, W 0 m σ H) ∧ ∀ i m σ H, W i m σ H →
      ((Itz K a b).stop i H ∧ D.nx σ H) ∨ ((Itz K a b).go i H ∧ ∃ N : L2.St → Hp → Prop, (∀ σ' H', N σ' H' → ∃ m', m' < m ∧ W (i + 1) m' σ' H') ∧ ∀ v H', (Itz K a b).yld i H v H' → g v σ H' fun σ2 H2 => tb { D with nx := N, ct := N, bk := D.nx } σ2 H2) := by
  refine ⟨fun i m σ H => m = ys.length - i ∧ i ≤ ys.length ∧ Pv i σ H, ⟨ys.length, rfl, Nat.zero_le _, h0⟩, ?_⟩
  rintro i m σ H ⟨rfl, hi, p⟩
  obtain ⟨qx, qy⟩ := hq i σ H p
  by_cases h : i < ys.length
  · have hx : xs[i]? = some xs[i] := List.getElem?_eq_getElem (by omega)
    have hy : ys[i]? = some ys[i] := List.getElem?_eq_getElem h
    refine .inr ⟨⟨xs, ys, _, _, qx, qy, hx, hy⟩, Pv (i + 1), fun σ' H' n => ⟨ys.length - (i + 1), by omega, rfl, by omega, n⟩, ?_⟩
    rintro v H' ⟨T, x, y, rfl, nT, rfl, ex, ey⟩
    exact hs i x y T σ H (ex xs qx) (ey ys qy) p nT
  · have e : i = ys.length := by omega
    subst e
    exact .inl ⟨⟨xs, ys, qx, qy, .inr (Nat.le_refl _)⟩, hd σ H p⟩
/-! ### what stays while the tape moves -/
theorem Moved.sq {K : PySem.W.Frag} {t s : Addr} {H H' : Hp} {a : Addr} {xs : List V} (mv : Moved t H H') (tp : Tape H t s) (h : SqT K H a xs) : SqT K H' a xs := by
  obtain ⟨_, _, _, _, _, _, e2, _⟩ := tp
  rcases h with (h | ⟨o, h⟩) | h
  · exact .inl (.inl (mv _ _ (fun z => by rw [z, e2] at h; cases h) h))
  · exact .inl (.inr ⟨o, mv _ _ (fun z => by rw [z, e2] at h; cases h) h⟩)
  · exact .inr h
theorem Moved.tups {α : Type} {f : α → List V} {t s : Addr} {H H' : Hp} {ps : List Addr} {xs : List α} (mv : Moved t H H') (tp : Tape H t s) (h : Tups f H ps xs) : Tups f H' ps xs := h.keep fun b ys e => by
  obtain ⟨_, _, _, _, _, _, e2, _⟩ := tp
  exact mv _ _ (fun z => by rw [z, e2] at e; cases e) e
end My

/-! ### the mathematics of walks -/
namespace Wk
open Ln (Let)
abbrev Spt := Int × Int
def Spot (k b : Int) (s : Spt) : Prop := 0 ≤ s.1 ∧ s.1 ≤ b ∧ 1 ≤ s.2 ∧ s.2 ≤ k ∧ s.2 - 1 ≤ s.1
def Nx (k b : Int) (s o : Spt) : Prop := Spot k b o ∧ (o = (s.1 + 1, s.2 + 1) ∨ (o.2 = 1 ∧ o.1 ≤ s.1))
/-- each one is next to the one ahead of it -/
def Chain (k b : Int) : Spt → List Spt → Prop
  | _, [] => True
  | s, o :: r => Nx k b s o ∧ Chain k b o r
def Walk (k b : Int) : List Spt → Prop
  | [] => False
  | s :: r => Spot k b s ∧ s.2 = 1 ∧ Chain k b s r
def incL : List Int → List Int
  | [] => []
  | [x] => [x + 1]
  | x :: y :: r => x :: incL (y :: r)
def grow (cs : List Int) (s o : Spt) : List Int := if o.2 > 1 then incL cs else cs ++ (List.replicate (s.1 - o.1).toNat 0 ++ [1])
def cfGo : List Int → Spt → List Spt → List Int
  | cs, _, [] => cs
  | cs, s, o :: r => cfGo (grow cs s o) o r
def start (w : Int) : List Int := List.replicate w.toNat 2 ++ [1]
def cf : List Spt → List Int
  | [] => []
  | s :: r => cfGo (start s.1) s r
theorem incL_snoc (cs : List Int) (x : Int) : incL (cs ++ [x]) = cs ++ [x + 1] := by
  induction cs with
  | nil => rfl
  | cons a cs ih =>
    cases cs with
    | nil => rfl
    | cons b cs => exact congrArg (a :: ·) ih
theorem pre_congr {b : Int} {cs ds : List Int} : ∀ i : Nat, (∀ j, j < i → cs.getD j 0 = ds.getD j 0) → Ln.pre b cs i = Ln.pre b ds i
  | 0, _ => rfl
  | i + 1, h => by
    have ih := pre_congr (b := b) i fun j hj => h j (by omega)
    unfold Ln.pre
    rw [ih, h i (by omega)]
theorem getD_left {cs : List Int} (ds : List Int) {j : Nat} (h : j < cs.length) : (cs ++ ds).getD j 0 = cs.getD j 0 := by
  rw [List.getD_eq_getElem?_getD, List.getD_eq_getElem?_getD, List.getElem?_append_left h]
/-- the line while the last tick's letters have come -/
structure Now (b : Int) (cs : List Int) (row : List Spt) (w : Int) (n : Nat) (s : Spt) : Prop where
  ex : ∃ (ds : List Int) (L0 : List Let), cs = ds ++ [(n : Int)] ∧ (Ln.turns b (ds.length : Int) n (Ln.pre b ds ds.length)).1 = L0 ∧ (Ln.turns b (ds.length : Int) n (Ln.pre b ds ds.length)).2 = s.1 + 1 ∧
    L0.length = 2 * w.toNat + row.length ∧ (L0.drop (2 * w.toNat)).map (fun l => (l.2.2, l.2.1)) = row.map (fun p => (some p.1, p.2)) ∧ ∀ l ∈ L0, l.2.2 ≠ none
  nn : (n : Int) = s.2
theorem drop_snoc {α : Type} {l : List α} {n : Nat} (x : α) (h : n ≤ l.length) : (l ++ [x]).drop n = l.drop n ++ [x] := by
  rw [List.drop_append_of_le_length h]
theorem twos {b : Int} : ∀ (m : Nat) (ds : List Int), (m : Int) ≤ b → ds = List.replicate m 2 → (Ln.pre b ds m).2 = (m : Int) ∧ (Ln.pre b ds m).1.length = 2 * m ∧ ∀ l ∈ (Ln.pre b ds m).1, l.2.2 ≠ none
  | 0, ds, _, _ => ⟨rfl, rfl, fun l h => by simp [Ln.pre] at h⟩
  | m + 1, ds, hm, hd => by
    have hg : ds.getD m 0 = 2 := by
      rw [hd, List.getD_eq_getElem?_getD, List.getElem?_replicate, if_pos (by omega)]
      rfl
    have ec : Ln.pre b ds m = Ln.pre b (List.replicate m 2) m := pre_congr m fun j hj => by
      rw [hd, List.getD_eq_getElem?_getD, List.getD_eq_getElem?_getD, List.getElem?_replicate, List.getElem?_replicate, if_pos (by omega), if_pos (by omega)]
    obtain ⟨a, c, d⟩ := twos (b := b) m (List.replicate m 2) (by omega) rfl
    rw [← ec] at a c d
    have e2 : (2 : Int).toNat = 2 := rfl
    have t : Ln.turns b (m : Int) 2 (Ln.pre b ds m) = ((Ln.pre b ds m).1 ++ [((m : Int), 1 + ((0 : Nat) : Int), some (m : Int))] ++ [((m : Int), 1 + ((1 : Nat) : Int), some ((m : Int) + 1))], (m : Int) + 1 + 1) := by
      show Ln.step b (m : Int) (1 + ((1 : Nat) : Int)) (Ln.step b (m : Int) (1 + ((0 : Nat) : Int)) (Ln.pre b ds m)) = _
      have s1 : Ln.step b (m : Int) (1 + ((0 : Nat) : Int)) (Ln.pre b ds m) = ((Ln.pre b ds m).1 ++ [((m : Int), 1 + ((0 : Nat) : Int), some (m : Int))], (m : Int) + 1) := by
        unfold Ln.step
        rw [if_neg (by omega), a]
      rw [s1]
      unfold Ln.step
      rw [if_neg (by show ¬ (m : Int) + 1 > b; omega)]
    have e : Ln.pre b ds (m + 1) = ((Ln.turns b (m : Int) (ds.getD m 0).toNat (Ln.pre b ds m)).1, Ln.close (Ln.turns b (m : Int) (ds.getD m 0).toNat (Ln.pre b ds m)).2) := rfl
    rw [hg, e2, t] at e
    rw [e]
    refine ⟨?_, ?_, fun l hl => ?_⟩
    · show Ln.close ((m : Int) + 1 + 1) = _
      unfold Ln.close
      rw [if_pos (by omega)]
      omega
    · show ((Ln.pre b ds m).1 ++ [_] ++ [_]).length = _
      rw [List.length_append, List.length_append, c]
      show 2 * m + 1 + 1 = _
      omega
    · rcases List.mem_append.mp hl with hl | hl
      · rcases List.mem_append.mp hl with hl | hl
        · exact d l hl
        · rw [List.mem_singleton.mp hl]
          exact fun z => by cases z
      · rw [List.mem_singleton.mp hl]
        exact fun z => by cases z
theorem now_start {b k : Int} {s : Spt} (hs : Spot k b s) (h1 : s.2 = 1) : Now b (start s.1) [s] s.1 1 s := by
  have hw : ((s.1.toNat : Nat) : Int) = s.1 := by have := hs.1; omega
  have hl : (List.replicate s.1.toNat (2 : Int)).length = s.1.toNat := List.length_replicate
  obtain ⟨a, c, d⟩ := twos (b := b) s.1.toNat (List.replicate s.1.toNat 2) (by rw [hw]; exact hs.2.1) rfl
  have t : Ln.turns b (s.1.toNat : Int) 1 (Ln.pre b (List.replicate s.1.toNat 2) s.1.toNat) = ((Ln.pre b (List.replicate s.1.toNat 2) s.1.toNat).1 ++ [((s.1.toNat : Int), 1 + ((0 : Nat) : Int), some s.1)], s.1 + 1) := by
    show Ln.step b _ (1 + ((0 : Nat) : Int)) (Ln.pre b (List.replicate s.1.toNat 2) s.1.toNat) = _
    unfold Ln.step
    rw [if_neg (by rw [a, hw]; have := hs.2.1; omega), a, hw]
  refine ⟨⟨List.replicate s.1.toNat 2, _, rfl, rfl, ?_, ?_, ?_, ?_⟩, by rw [h1]; rfl⟩
  all_goals rw [hl, t]
  · rw [List.length_append, c]
    rfl
  · show (((Ln.pre b (List.replicate s.1.toNat 2) s.1.toNat).1 ++ [_]).drop (2 * s.1.toNat)).map _ = _
    rw [drop_snoc _ (by rw [c]; exact Nat.le_refl _), List.drop_of_length_le (by rw [c]; exact Nat.le_refl _)]
    show [(some s.1, 1 + ((0 : Nat) : Int))] = [(some s.1, s.2)]
    rw [h1]
    rfl
  · intro l hl'
    rcases List.mem_append.mp hl' with hl' | hl'
    · exact d l hl'
    · rw [List.mem_singleton.mp hl']
      exact fun z => by cases z
/-- ticks at which nobody comes -/
theorem zeros {b : Int} (ds : List Int) : ∀ (m : Nat) (es : List Int), es = ds ++ List.replicate m 0 → (m : Int) ≤ (Ln.pre b ds ds.length).2 → (Ln.pre b es (ds.length + m)).1 = (Ln.pre b ds ds.length).1 ∧ (Ln.pre b es (ds.length + m)).2 = (Ln.pre b ds ds.length).2 - m
  | 0, es, he, _ => by
    have : Ln.pre b es ds.length = Ln.pre b ds ds.length := pre_congr _ fun j hj => by
      rw [he]
      exact getD_left _ hj
    rw [Nat.add_zero, this]
    exact ⟨rfl, by omega⟩
  | m + 1, es, he, hm => by
    obtain ⟨x, y⟩ := zeros (b := b) ds m (ds ++ List.replicate m 0) rfl (by omega)
    have ec : Ln.pre b es (ds.length + m) = Ln.pre b (ds ++ List.replicate m 0) (ds.length + m) := pre_congr _ fun j hj => by
      have e1 : es = (ds ++ List.replicate m 0) ++ [0] := by
        rw [he, List.append_assoc, List.replicate_succ']
      rw [e1]
      exact getD_left _ (by rw [List.length_append, List.length_replicate]; exact hj)
    have hg : es.getD (ds.length + m) 0 = 0 := by
      rw [he, List.getD_eq_getElem?_getD, List.getElem?_append_right (by omega), Nat.add_sub_cancel_left, List.getElem?_replicate, if_pos (by omega)]
      rfl
    have e : Ln.pre b es (ds.length + (m + 1)) = ((Ln.turns b ((ds.length + m : Nat) : Int) (es.getD (ds.length + m) 0).toNat (Ln.pre b es (ds.length + m))).1, Ln.close (Ln.turns b ((ds.length + m : Nat) : Int) (es.getD (ds.length + m) 0).toNat (Ln.pre b es (ds.length + m))).2) := rfl
    rw [hg] at e
    have e' : Ln.pre b es (ds.length + (m + 1)) = ((Ln.pre b es (ds.length + m)).1, Ln.close (Ln.pre b es (ds.length + m)).2) := e
    rw [e', ec]
    refine ⟨x, ?_⟩
    show Ln.close (Ln.pre b (ds ++ List.replicate m 0) (ds.length + m)).2 = _
    rw [y]
    unfold Ln.close
    rw [if_pos (by omega)]
    omega
theorem now_grow {b k : Int} {cs : List Int} {row : List Spt} {w : Int} {n : Nat} {s o : Spt} (h : Now b cs row w n s) (hs : Spot k b s) (hn : Nx k b s o) : ∃ n', Now b (grow cs s o) (row ++ [o]) w n' o := by
  obtain ⟨⟨ds, L0, hcs, hL, hl, hlen, hmap, hnone⟩, nn⟩ := h
  have hs0 := hs.1
  have ho := hn.1
  have hdrop : 2 * w.toNat ≤ L0.length := by omega
  unfold grow
  rcases hn.2 with e | ⟨e1, e2⟩
  · have o1 : o.1 = s.1 + 1 := by rw [e]
    have o2 : o.2 = s.2 + 1 := by rw [e]
    have ob := ho.2.1
    rw [if_pos (by have := hs.2.2.1; omega)]
    have t : Ln.turns b (ds.length : Int) (n + 1) (Ln.pre b ds ds.length) = (L0 ++ [((ds.length : Int), 1 + (n : Int), some (s.1 + 1))], s.1 + 1 + 1) := by
      show Ln.step b _ (1 + (n : Int)) (Ln.turns b (ds.length : Int) n (Ln.pre b ds ds.length)) = _
      unfold Ln.step
      rw [if_neg (by omega), hL, hl]
    refine ⟨n + 1, ⟨ds, _, ?_, rfl, ?_, ?_, ?_, ?_⟩, by omega⟩
    · rw [hcs, incL_snoc]
      rfl
    all_goals rw [t]
    · show s.1 + 1 + 1 = o.1 + 1
      omega
    · rw [List.length_append, List.length_append, hlen]
      rfl
    · rw [drop_snoc _ hdrop, List.map_append, hmap, List.map_append]
      show _ ++ [(some (s.1 + 1), 1 + (n : Int))] = _ ++ [(some o.1, o.2)]
      rw [o1, o2, nn, Int.add_comm 1 s.2]
    · intro l h
      rcases List.mem_append.mp h with h | h
      · exact hnone l h
      · rw [List.mem_singleton.mp h]
        exact fun z => by cases z
  · have ob := ho.2.1
    have oz := ho.1
    rw [if_neg (by omega)]
    obtain ⟨m, hm⟩ : ∃ m : Nat, (s.1 - o.1).toNat = m := ⟨_, rfl⟩
    have hm' : (m : Int) = s.1 - o.1 := by omega
    rw [hm]
    -- behind the last tick
    have hcl : cs.length = ds.length + 1 := by rw [hcs, List.length_append]; rfl
    have hg : cs.getD ds.length 0 = (n : Int) := by
      rw [hcs, List.getD_eq_getElem?_getD, List.getElem?_append_right (Nat.le_refl _), Nat.sub_self]
      rfl
    have ec : Ln.pre b cs ds.length = Ln.pre b ds ds.length := pre_congr _ fun j hj => by
      rw [hcs]
      exact getD_left _ hj
    have ep : Ln.pre b cs cs.length = (L0, s.1) := by
      rw [hcl]
      show ((Ln.turns b (ds.length : Int) (cs.getD ds.length 0).toNat (Ln.pre b cs ds.length)).1, Ln.close (Ln.turns b (ds.length : Int) (cs.getD ds.length 0).toNat (Ln.pre b cs ds.length)).2) = _
      rw [hg, ec, Int.toNat_natCast, hL, hl]
      unfold Ln.close
      rw [if_pos (by omega), show s.1 + 1 - 1 = s.1 by omega]
    obtain ⟨z1, z2⟩ := zeros (b := b) cs m (cs ++ List.replicate m 0) rfl (by rw [ep]; show (m : Int) ≤ s.1; omega)
    rw [ep] at z1 z2
    have el : (cs ++ List.replicate m 0).length = cs.length + m := by rw [List.length_append, List.length_replicate]
    have t : Ln.turns b ((cs ++ List.replicate m (0 : Int)).length : Int) 1 (Ln.pre b (cs ++ List.replicate m 0) (cs ++ List.replicate m (0 : Int)).length) = (L0 ++ [(((cs ++ List.replicate m (0 : Int)).length : Int), 1 + ((0 : Nat) : Int), some o.1)], o.1 + 1) := by
      show Ln.step b _ (1 + ((0 : Nat) : Int)) (Ln.pre b (cs ++ List.replicate m 0) (cs ++ List.replicate m (0 : Int)).length) = _
      rw [el]
      unfold Ln.step
      have zz : (Ln.pre b (cs ++ List.replicate m 0) (cs.length + m)).2 = o.1 := by
        rw [z2]
        show s.1 - (m : Int) = o.1
        omega
      rw [if_neg (by rw [zz]; omega), zz, z1]
    refine ⟨1, ⟨cs ++ List.replicate m 0, _, by rw [List.append_assoc]; rfl, rfl, ?_, ?_, ?_, ?_⟩, by rw [e1]; rfl⟩
    all_goals rw [t]
    · have e9 : ∀ x : Let, (L0 ++ [x]).length = L0.length + 1 := fun x => List.length_append
      rw [e9, hlen, List.length_append]
      rfl
    · rw [drop_snoc _ hdrop, List.map_append, hmap, List.map_append]
      show _ ++ [(some o.1, 1 + ((0 : Nat) : Int))] = _ ++ [(some o.1, o.2)]
      rw [e1]
      rfl
    · intro l h
      rcases List.mem_append.mp h with h | h
      · exact hnone l h
      · rw [List.mem_singleton.mp h]
        exact fun z => by cases z
theorem now_all {b k : Int} : ∀ (r : List Spt) (cs : List Int) (row : List Spt) (w : Int) (n : Nat) (s : Spt), Now b cs row w n s → Spot k b s → Chain k b s r → ∃ n' s', Now b (cfGo cs s r) (row ++ r) w n' s'
  | [], cs, row, w, n, s, h, _, _ => by
    rw [List.append_nil]
    exact ⟨n, s, h⟩
  | o :: r, cs, row, w, n, s, h, hs, hc => by
    obtain ⟨n', h'⟩ := now_grow h hs hc.1
    have := now_all r _ _ w n' o h' hc.1.1 hc.2
    rw [List.append_assoc] at this
    exact this
theorem cf_is {b k : Int} {row : List Spt} (h : Walk k b row) : (Ln.letts b (cf row)).length = 2 * (row.headD (0, 0)).1.toNat + row.length ∧ ((Ln.letts b (cf row)).drop (2 * (row.headD (0, 0)).1.toNat)).map (fun l => (l.2.2, l.2.1)) = row.map (fun p => (some p.1, p.2)) ∧ ∀ l ∈ Ln.letts b (cf row), l.2.2 ≠ none := by
  cases row with
  | nil => exact False.elim h
  | cons s r =>
    obtain ⟨hs, h1, hc⟩ := h
    obtain ⟨n', s', ⟨⟨ds, L0, hcs, hL, hl, hlen, hmap, hnone⟩, nn⟩⟩ := now_all r _ _ _ 1 s (now_start hs h1) hs hc
    have hcl : (cf (s :: r)).length = ds.length + 1 := by
      show (cfGo (start s.1) s r).length = _
      rw [hcs, List.length_append]
      rfl
    have el : Ln.letts b (cf (s :: r)) = L0 := by
      unfold Ln.letts
      rw [hcl]
      show (Ln.turns b (ds.length : Int) ((cf (s :: r)).getD ds.length 0).toNat (Ln.pre b (cf (s :: r)) ds.length)).1 = L0
      have e0 : cf (s :: r) = ds ++ [(n' : Int)] := hcs
      have hg : (cf (s :: r)).getD ds.length 0 = (n' : Int) := by
        rw [e0, List.getD_eq_getElem?_getD, List.getElem?_append_right (Nat.le_refl _), Nat.sub_self]
        rfl
      have ec : Ln.pre b (cf (s :: r)) ds.length = Ln.pre b ds ds.length := pre_congr _ fun j hj => by
        rw [e0]
        exact getD_left _ hj
      rw [hg, ec, Int.toNat_natCast, hL]
    rw [el]
    exact ⟨hlen, hmap, hnone⟩
end Wk

/-! ### spots, nexts, the walk of a line, the size of comings -/
namespace Wk
open Ln (Let)
def rowN (i : Int) : Nat → List Spt
  | 0 => []
  | j + 1 => rowN i j ++ [(i, 1 + (j : Int))]
def spN (k : Nat) : Nat → List Spt
  | 0 => []
  | i + 1 => spN k i ++ rowN (i : Int) (min k (i + 1))
theorem rowN_len (i : Int) : ∀ j, (rowN i j).length = j
  | 0 => rfl
  | j + 1 => by
    show (rowN i j ++ [_]).length = _
    rw [List.length_append, rowN_len i j]
    rfl
theorem spN_len (k : Nat) : ∀ i, (spN k i).length ≤ k * i
  | 0 => Nat.zero_le _
  | i + 1 => by
    have ih := spN_len k i
    show (spN k i ++ rowN _ _).length ≤ _
    rw [List.length_append, rowN_len, Nat.mul_succ]
    have := Nat.min_le_left k (i + 1)
    omega
theorem rowN_mem {i : Int} : ∀ {j : Nat} {s : Spt}, s ∈ rowN i j → s.1 = i ∧ 1 ≤ s.2 ∧ s.2 ≤ j
  | 0, s, h => by simp [rowN] at h
  | j + 1, s, h => by
    rcases List.mem_append.mp (h : s ∈ rowN i j ++ [(i, 1 + (j : Int))]) with h | h
    · have := rowN_mem h
      omega
    · rw [List.mem_singleton.mp h]
      show i = i ∧ 1 ≤ 1 + (j : Int) ∧ 1 + (j : Int) ≤ ((j + 1 : Nat) : Int)
      omega
theorem spN_spot {k b : Nat} : ∀ {n : Nat} {s : Spt}, n ≤ b + 1 → s ∈ spN k n → Spot k b s
  | 0, s, _, h => by simp [spN] at h
  | i + 1, s, hn, h => by
    rcases List.mem_append.mp (h : s ∈ spN k i ++ rowN (i : Int) (min k (i + 1))) with h | h
    · exact spN_spot (by omega) h
    · obtain ⟨a, b1, c⟩ := rowN_mem h
      have m1 := Nat.min_le_left k (i + 1)
      have m2 := Nat.min_le_right k (i + 1)
      unfold Spot
      omega
def nxP (s o : Spt) : Bool := decide (o = (s.1 + 1, s.2 + 1)) || (decide (o.2 = 1) && decide (o.1 ≤ s.1))
def onesN : Nat → List Spt
  | 0 => []
  | i + 1 => onesN i ++ [((i : Int), 1)]
def nxL (k b : Int) (s : Spt) : List Spt := onesN (s.1 + 1).toNat ++ if s.1 + 1 ≤ b ∧ s.2 + 1 ≤ k then [(s.1 + 1, s.2 + 1)] else []
theorem onesN_len : ∀ i, (onesN i).length = i
  | 0 => rfl
  | i + 1 => by
    show (onesN i ++ [_]).length = _
    rw [List.length_append, onesN_len i]
    rfl
theorem onesN_mem : ∀ {n : Nat} {i : Nat}, i < n → ((i : Int), (1 : Int)) ∈ onesN n
  | 0, i, h => absurd h (Nat.not_lt_zero _)
  | n + 1, i, h => by
    show _ ∈ onesN n ++ [_]
    by_cases e : i = n
    · subst e
      exact List.mem_append_right _ (List.mem_singleton.mpr rfl)
    · exact List.mem_append_left _ (onesN_mem (by omega))
theorem nxL_mem {k b : Int} {s o : Spt} (h : Nx k b s o) : o ∈ nxL k b s := by
  obtain ⟨sp, h | ⟨h1, h2⟩⟩ := h
  · refine List.mem_append_right _ ?_
    unfold Spot at sp
    have e1 : o.1 = s.1 + 1 := by rw [h]
    have e2 : o.2 = s.2 + 1 := by rw [h]
    rw [if_pos (by omega), h]
    exact List.mem_singleton.mpr rfl
  · refine List.mem_append_left _ ?_
    unfold Spot at sp
    have := onesN_mem (n := (s.1 + 1).toNat) (i := o.1.toNat) (by omega)
    have e : o = ((o.1.toNat : Int), (1 : Int)) := Prod.ext (by show o.1 = ((o.1.toNat : Nat) : Int); omega) h1
    rw [e]
    exact this
theorem filt_low {s : Spt} {i : Int} (hs : 1 ≤ s.2) (h : i ≤ s.1) : ∀ j, (rowN i (j + 1)).filter (nxP s) = [(i, 1)]
  | 0 => by
    show [(i, 1 + ((0 : Nat) : Int))].filter _ = _
    have e : nxP s (i, 1 + ((0 : Nat) : Int)) = true := by
      unfold nxP
      rw [Bool.or_eq_true, Bool.and_eq_true, decide_eq_true_eq, decide_eq_true_eq, decide_eq_true_eq]
      exact .inr ⟨rfl, h⟩
    rw [List.filter_cons, e]
    rfl
  | j + 1 => by
    show (rowN i (j + 1) ++ [(i, 1 + ((j + 1 : Nat) : Int))]).filter _ = _
    have e : nxP s (i, 1 + ((j + 1 : Nat) : Int)) = false := by
      unfold nxP
      rw [Bool.or_eq_false_iff, Bool.and_eq_false_iff, decide_eq_false_iff_not, decide_eq_false_iff_not, decide_eq_false_iff_not]
      refine ⟨fun z => ?_, .inl fun z => ?_⟩
      · have := congrArg Prod.fst z
        simp only at this
        omega
      · simp only at z
        omega
    rw [List.filter_append, filt_low hs h j, List.filter_cons, e]
    rfl
theorem filt_at {s : Spt} (hs : 1 ≤ s.2) : ∀ j : Nat, (rowN (s.1 + 1) j).filter (nxP s) = if s.2 + 1 ≤ (j : Int) then [(s.1 + 1, s.2 + 1)] else []
  | 0 => by
    rw [if_neg (by omega)]
    rfl
  | j + 1 => by
    show (rowN (s.1 + 1) j ++ [(s.1 + 1, 1 + (j : Int))]).filter _ = _
    by_cases h : s.2 = (j : Int)
    · have e : nxP s (s.1 + 1, 1 + (j : Int)) = true := by
        unfold nxP
        rw [Bool.or_eq_true, decide_eq_true_eq]
        exact .inl (Prod.ext rfl (by show 1 + (j : Int) = s.2 + 1; omega))
      have e0 : [(s.1 + 1, 1 + (j : Int))].filter (nxP s) = [(s.1 + 1, s.2 + 1)] := by
        rw [List.filter_cons, e, if_pos rfl, h, Int.add_comm 1]
        rfl
      rw [List.filter_append, filt_at hs j, e0, if_neg (by omega), if_pos (by omega)]
      rfl
    · have e : nxP s (s.1 + 1, 1 + (j : Int)) = false := by
        unfold nxP
        rw [Bool.or_eq_false_iff, Bool.and_eq_false_iff, decide_eq_false_iff_not, decide_eq_false_iff_not, decide_eq_false_iff_not]
        refine ⟨fun z => ?_, .inr fun z => ?_⟩
        · have := congrArg Prod.snd z
          simp only at this
          omega
        · simp only at z
          omega
      have e0 : [(s.1 + 1, 1 + (j : Int))].filter (nxP s) = [] := by
        rw [List.filter_cons, e]
        rfl
      rw [List.filter_append, filt_at hs j, e0, List.append_nil]
      by_cases h2 : s.2 + 1 ≤ (j : Int)
      · rw [if_pos h2, if_pos (by omega)]
      · rw [if_neg h2, if_neg (by omega)]
theorem filt_high {s : Spt} {i : Int} (h : s.1 + 1 < i) : ∀ j, (rowN i j).filter (nxP s) = []
  | 0 => rfl
  | j + 1 => by
    show (rowN i j ++ [(i, 1 + (j : Int))]).filter _ = _
    have e : nxP s (i, 1 + (j : Int)) = false := by
      unfold nxP
      rw [Bool.or_eq_false_iff, Bool.and_eq_false_iff, decide_eq_false_iff_not, decide_eq_false_iff_not, decide_eq_false_iff_not]
      refine ⟨fun z => ?_, .inr fun z => ?_⟩
      · have := congrArg Prod.fst z
        simp only at this
        omega
      · simp only at z
        omega
    rw [List.filter_append, filt_high h j, List.filter_cons, e]
    rfl
theorem filt_spN {k : Nat} {s : Spt} (hk : 1 ≤ k) (h0 : 0 ≤ s.1) (h1 : 1 ≤ s.2) (h2 : s.2 - 1 ≤ s.1) : ∀ n : Nat, (spN k n).filter (nxP s) = onesN (min n (s.1 + 1).toNat) ++ if s.1 + 1 < (n : Int) ∧ s.2 + 1 ≤ (k : Int) then [(s.1 + 1, s.2 + 1)] else []
  | 0 => by
    rw [Nat.zero_min, if_neg (by omega)]
    rfl
  | n + 1 => by
    show (spN k n ++ rowN (n : Int) (min k (n + 1))).filter _ = _
    rw [List.filter_append, filt_spN hk h0 h1 h2 n]
    by_cases c1 : (n : Int) ≤ s.1
    · obtain ⟨j, hj⟩ : ∃ j, min k (n + 1) = j + 1 := ⟨min k (n + 1) - 1, by omega⟩
      rw [hj, filt_low h1 c1 j, if_neg (by omega), if_neg (by omega), List.append_nil, List.append_nil]
      have e1 : min n (s.1 + 1).toNat = n := by omega
      have e2 : min (n + 1) (s.1 + 1).toNat = n + 1 := by omega
      rw [e1, e2]
      rfl
    · have e1 : min n (s.1 + 1).toNat = (s.1 + 1).toNat := by omega
      have e2 : min (n + 1) (s.1 + 1).toNat = (s.1 + 1).toNat := by omega
      rw [e1, e2]
      by_cases c2 : (n : Int) = s.1 + 1
      · rw [c2, filt_at h1, if_neg (by omega), List.append_nil]
        have ha : s.2 + 1 ≤ ((n + 1 : Nat) : Int) := by omega
        by_cases c3 : s.2 + 1 ≤ (k : Int)
        · rw [if_pos (by omega), if_pos (by omega)]
        · rw [if_neg (by omega), if_neg (by omega)]
      · rw [filt_high (by omega), List.append_nil]
        by_cases c3 : s.2 + 1 ≤ (k : Int)
        · rw [if_pos (by omega), if_pos (by omega)]
        · rw [if_neg (by omega), if_neg (by omega)]
theorem filt_nx {k b : Nat} {s : Spt} (hs : Spot k b s) : (spN k (b + 1)).filter (nxP s) = nxL k b s := by
  unfold Spot at hs
  rw [filt_spN (by omega) hs.1 hs.2.2.1 hs.2.2.2.2]
  unfold nxL
  have e : min (b + 1) (s.1 + 1).toNat = (s.1 + 1).toNat := by omega
  rw [e]
  by_cases c : s.1 + 1 ≤ (b : Int) ∧ s.2 + 1 ≤ (k : Int)
  · rw [if_pos c, if_pos (by omega)]
  · rw [if_neg c, if_neg (by omega)]
/-! the spots of the letters that are not turned away -/
def wk1 (l : Let) : List Spt := match l.2.2 with
  | none => []
  | some w => [(w, l.2.1)]
def wkL (L : List Let) : List Spt := (L.map wk1).flatten
theorem wkL_snoc (L : List Let) (l : Let) : wkL (L ++ [l]) = wkL L ++ wk1 l := by
  unfold wkL
  rw [List.map_append, List.flatten_append]
  simp
theorem wkL_len : ∀ L : List Let, (wkL L).length ≤ L.length
  | [] => Nat.le_refl _
  | l :: L => by
    show (wk1 l ++ wkL L).length ≤ L.length + 1
    have := wkL_len L
    have : (wk1 l).length ≤ 1 := by
      unfold wk1
      split <;> simp
    rw [List.length_append]
    omega
theorem wkL_all : ∀ {L : List Let} {row : List Spt}, L.map (fun l => (l.2.2, l.2.1)) = row.map (fun p => (some p.1, p.2)) → wkL L = row
  | [], [], _ => rfl
  | [], _ :: _, h => by simp at h
  | _ :: _, [], h => by simp at h
  | l :: L, p :: row, h => by
    rw [List.map_cons, List.map_cons] at h
    obtain ⟨h1, h2⟩ := List.cons.inj h
    show wk1 l ++ wkL L = _
    rw [wkL_all h2]
    have e1 : l.2.2 = some p.1 := congrArg Prod.fst h1
    have e2 : l.2.1 = p.2 := congrArg Prod.snd h1
    unfold wk1
    rw [e1, e2]
    rfl
/-- where letters are: each spot next to the one ahead -/
structure Wl (k b : Int) (W : List Spt) : Prop where
  sp : ∀ x ∈ W, Spot k b x
  hd : ∀ x, W[0]? = some x → x = (0, 1)
  nx : ∀ (i : Nat) x y, W[i]? = some x → W[i + 1]? = some y → Nx k b x y
theorem Wl.nil {k b : Int} : Wl k b [] := ⟨fun x h => by simp at h, fun x h => by simp at h, fun i x y h => by simp at h⟩
theorem Wl.snoc {k b : Int} {W : List Spt} {o : Spt} (h : Wl k b W) (so : Spot k b o) (h0 : W = [] → o = (0, 1)) (hn : ∀ x, W.getLast? = some x → Nx k b x o) : Wl k b (W ++ [o]) := by
  refine ⟨fun x hx => ?_, fun x hx => ?_, fun i x y hx hy => ?_⟩
  · rcases List.mem_append.mp hx with hx | hx
    · exact h.sp x hx
    · rw [List.mem_singleton.mp hx]
      exact so
  · cases W with
    | nil =>
      simp at hx
      rw [← hx]
      exact h0 rfl
    | cons w W =>
      refine h.hd x ?_
      rw [List.getElem?_append_left (by simp)] at hx
      exact hx
  · have hl : i + 1 < (W ++ [o]).length := (List.getElem?_eq_some_iff.mp hy).1
    rw [List.length_append] at hl
    have hl' : i + 1 ≤ W.length := Nat.le_of_lt_succ hl
    rw [List.getElem?_append_left (by omega)] at hx
    by_cases c : i + 1 < W.length
    · rw [List.getElem?_append_left c] at hy
      exact h.nx i x y hx hy
    · have e : i + 1 = W.length := by omega
      rw [List.getElem?_append_right (by omega), e, Nat.sub_self] at hy
      have ey : o = y := by simpa using hy
      rw [← ey]
      refine hn x ?_
      rw [List.getLast?_eq_getElem?]
      rw [show W.length - 1 = i by omega]
      exact hx
/-- while letters come at a tick -/
structure Wi (k b : Int) (W : List Spt) (line : Int) (j : Nat) : Prop where
  wl : Wl k b W
  lo : 0 ≤ line
  hi : line ≤ b + 1
  zz : j = 0 → line ≤ b ∧ (W = [] → line = 0) ∧ ∀ x, W.getLast? = some x → line ≤ x.1
  ss : j ≠ 0 → W ≠ [] ∧ ∀ x, W.getLast? = some x → line ≤ x.1 + 1 ∧ (line ≤ b → x = (line - 1, (j : Int)))
theorem last_some {W : List Spt} (h : W ≠ []) : ∃ x, W.getLast? = some x := ⟨W.getLast h, List.getLast?_eq_some_getLast h⟩
theorem last_mem {W : List Spt} {x : Spt} (h : W.getLast? = some x) : x ∈ W := by
  rw [List.getLast?_eq_getElem?] at h
  exact List.mem_of_getElem? h
theorem Wi.step {k b τ : Int} {s : List Let × Int} {j : Nat} (hb : 0 ≤ b) (hj : (j : Int) < k) (h : Wi k b (wkL s.1) s.2 j) : Wi k b (wkL (Ln.step b τ (1 + (j : Int)) s).1) (Ln.step b τ (1 + (j : Int)) s).2 (j + 1) := by
  unfold Ln.step
  by_cases c : s.2 > b
  · rw [if_pos c]
    have e : wkL (s.1 ++ [(τ, 1 + (j : Int), none)]) = wkL s.1 := by
      rw [wkL_snoc]
      exact List.append_nil _
    have hj0 : j ≠ 0 := fun z => by
      have := (h.zz z).1
      omega
    obtain ⟨h1, h2⟩ := h.ss hj0
    refine ⟨?_, h.lo, h.hi, fun z => absurd z (Nat.succ_ne_zero _), fun _ => ?_⟩
    · show Wl k b (wkL (s.1 ++ [(τ, 1 + (j : Int), none)]))
      rw [e]
      exact h.wl
    · show wkL (s.1 ++ [(τ, 1 + (j : Int), none)]) ≠ [] ∧ ∀ x, (wkL (s.1 ++ [(τ, 1 + (j : Int), none)])).getLast? = some x → _
      rw [e]
      refine ⟨h1, fun x hx => ⟨(h2 x hx).1, fun z => ?_⟩⟩
      have z' : s.2 ≤ b := z
      omega
  · rw [if_neg c]
    have e : wkL (s.1 ++ [(τ, 1 + (j : Int), some s.2)]) = wkL s.1 ++ [(s.2, 1 + (j : Int))] := wkL_snoc _ _
    have ej : j ≠ 0 → ∀ x, (wkL s.1).getLast? = some x → x = (s.2 - 1, (j : Int)) := fun z x hx => ((h.ss z).2 x hx).2 (by omega)
    have hjl : (j : Int) ≤ s.2 := by
      by_cases z : j = 0
      · have := h.lo
        omega
      · obtain ⟨x, hx⟩ := last_some (h.ss z).1
        have sx := h.wl.sp x (last_mem hx)
        have := ej z x hx
        unfold Spot at sx
        rw [this] at sx
        simp only at sx
        omega
    have so : Spot k b (s.2, 1 + (j : Int)) := by
      have := h.lo
      unfold Spot
      simp only
      omega
    refine ⟨?_, ?_, ?_, fun z => absurd z (Nat.succ_ne_zero _), fun _ => ?_⟩
    · show Wl k b (wkL (s.1 ++ [(τ, 1 + (j : Int), some s.2)]))
      rw [e]
      refine h.wl.snoc so (fun z => ?_) (fun x hx => ⟨so, ?_⟩)
      · by_cases z0 : j = 0
        · rw [(h.zz z0).2.1 z, z0]
          rfl
        · exact absurd z (h.ss z0).1
      · by_cases z0 : j = 0
        · right
          refine ⟨by rw [z0]; rfl, (h.zz z0).2.2 x hx⟩
        · left
          rw [ej z0 x hx]
          show (s.2, 1 + (j : Int)) = (s.2 - 1 + 1, (j : Int) + 1)
          rw [Int.sub_add_cancel, Int.add_comm]
    · show 0 ≤ s.2 + 1
      have := h.lo
      omega
    · show s.2 + 1 ≤ b + 1
      omega
    · show wkL (s.1 ++ [(τ, 1 + (j : Int), some s.2)]) ≠ [] ∧ ∀ x, (wkL (s.1 ++ [(τ, 1 + (j : Int), some s.2)])).getLast? = some x → s.2 + 1 ≤ x.1 + 1 ∧ (s.2 + 1 ≤ b → x = (s.2 + 1 - 1, ((j + 1 : Nat) : Int)))
      rw [e]
      refine ⟨by simp, fun x hx => ?_⟩
      rw [List.getLast?_append] at hx
      have ex : x = (s.2, 1 + (j : Int)) := by simpa using hx.symm
      rw [ex]
      refine ⟨Int.le_refl _, fun _ => ?_⟩
      refine Prod.ext ?_ ?_
      · show s.2 = s.2 + 1 - 1
        omega
      · show 1 + (j : Int) = ((j + 1 : Nat) : Int)
        omega
theorem Wi.turns {k b τ : Int} {s : List Let × Int} (hb : 0 ≤ b) (h : Wi k b (wkL s.1) s.2 0) : ∀ j : Nat, (j : Int) ≤ k → Wi k b (wkL (Ln.turns b τ j s).1) (Ln.turns b τ j s).2 j
  | 0, _ => h
  | j + 1, hj => Wi.step hb (by omega) (Wi.turns hb h j (by omega))
theorem Wi.close {k b : Int} {W : List Spt} {line : Int} {j : Nat} (hb : 0 ≤ b) (h : Wi k b W line j) : Wi k b W (Ln.close line) 0 := by
  have r := Ln.close_rng hb h.lo h.hi
  refine ⟨h.wl, r.1, by omega, fun _ => ⟨r.2, fun z => ?_, fun x hx => ?_⟩, fun z => absurd rfl z⟩
  · by_cases c : j = 0
    · rw [(h.zz c).2.1 z]
      rfl
    · exact absurd z (h.ss c).1
  · have sx := h.wl.sp x (last_mem hx)
    unfold Spot at sx
    by_cases c : j = 0
    · have := (h.zz c).2.2 x hx
      unfold Ln.close
      split <;> omega
    · have := ((h.ss c).2 x hx).1
      unfold Ln.close
      split <;> omega
theorem wi_pre {k b : Int} {cs : List Int} (hb : 0 ≤ b) (hk : 0 ≤ k) (hc : ∀ c ∈ cs, c ≤ k) : ∀ i, Wi k b (wkL (Ln.pre b cs i).1) (Ln.pre b cs i).2 0
  | 0 => ⟨.nil, Int.le_refl _, by show (0 : Int) ≤ b + 1; omega, fun _ => ⟨hb, fun _ => rfl, fun x hx => by simp [Ln.pre, wkL] at hx⟩, fun z => absurd rfl z⟩
  | i + 1 => by
    have ih := wi_pre hb hk hc i
    have hg : cs.getD i 0 ≤ k := by
      rw [List.getD_eq_getElem?_getD]
      cases h : cs[i]? with
      | none => exact hk
      | some c => exact hc c (List.mem_of_getElem? h)
    unfold Ln.pre
    exact (Wi.turns (τ := (i : Int)) hb ih (cs.getD i 0).toNat (by omega)).close hb
theorem wl_letts {k b : Int} {cs : List Int} (hb : 0 ≤ b) (hk : 0 ≤ k) (hc : ∀ c ∈ cs, c ≤ k) : Wl k b (wkL (Ln.letts b cs)) := (wi_pre hb hk hc cs.length).wl
/-! the size of the comings of a walk -/
theorem incL_len : ∀ l : List Int, (incL l).length = l.length
  | [] => rfl
  | [_] => rfl
  | x :: y :: r => by
    show (incL (y :: r)).length + 1 = _
    rw [incL_len (y :: r)]
    rfl
structure Cs (k : Int) (cs : List Int) (n : Int) (s : Spt) : Prop where
  ex : ∃ ds, cs = ds ++ [s.2] ∧ ∀ c ∈ ds, 0 ≤ c ∧ c ≤ k
  ln : (cs.length : Int) + s.1 ≤ n
theorem cs_start {k b : Int} {s : Spt} (hk : 2 ≤ k) (hs : Spot k b s) (h1 : s.2 = 1) : Cs k (start s.1) (2 * b + 1) s := by
  unfold Spot at hs
  refine ⟨⟨List.replicate s.1.toNat 2, by rw [h1]; rfl, fun c hc => by rw [(List.mem_replicate.mp hc).2]; omega⟩, ?_⟩
  unfold start
  rw [List.length_append, List.length_replicate]
  show ((s.1.toNat + 1 : Nat) : Int) + s.1 ≤ _
  omega
theorem cs_grow {k b : Int} {cs : List Int} {n : Int} {s o : Spt} (h : Cs k cs n s) (hs : Spot k b s) (hn : Nx k b s o) : Cs k (grow cs s o) (n + 1) o := by
  obtain ⟨⟨ds, hd, hc⟩, hl⟩ := h
  have ho := hn.1
  unfold Spot at hs ho
  unfold grow
  rcases hn.2 with e | ⟨e1, e2⟩
  · have o1 : o.1 = s.1 + 1 := by rw [e]
    have o2 : o.2 = s.2 + 1 := by rw [e]
    rw [if_pos (by omega)]
    refine ⟨⟨ds, by rw [hd, incL_snoc, o2], hc⟩, ?_⟩
    rw [incL_len, o1]
    omega
  · rw [if_neg (by omega)]
    refine ⟨⟨cs ++ List.replicate (s.1 - o.1).toNat 0, by rw [List.append_assoc, e1], fun c hc' => ?_⟩, ?_⟩
    · rcases List.mem_append.mp hc' with hc' | hc'
      · rw [hd] at hc'
        rcases List.mem_append.mp hc' with hc' | hc'
        · exact hc c hc'
        · rw [List.mem_singleton.mp hc']
          omega
      · rw [(List.mem_replicate.mp hc').2]
        omega
    · rw [List.length_append, List.length_append, List.length_replicate]
      show ((cs.length + ((s.1 - o.1).toNat + 1) : Nat) : Int) + o.1 ≤ _
      omega
theorem cs_all {k b : Int} : ∀ (r : List Spt) (cs : List Int) (n : Int) (s : Spt), Cs k cs n s → Spot k b s → Chain k b s r → ∃ o, Spot k b o ∧ Cs k (cfGo cs s r) (n + (r.length : Int)) o
  | [], cs, n, s, h, hs, _ => ⟨s, hs, by simpa [cfGo] using h⟩
  | o :: r, cs, n, s, h, hs, hc => by
    obtain ⟨o', h1, h2⟩ := cs_all r _ _ o (cs_grow h hs hc.1) hc.1.1 hc.2
    refine ⟨o', h1, ?_⟩
    rw [List.length_cons, show n + ((r.length + 1 : Nat) : Int) = n + 1 + (r.length : Int) by omega]
    exact h2
theorem cf_right {k b : Int} {row : List Spt} (hk : 2 ≤ k) (h : Walk k b row) : ((cf row).length : Int) ≤ 2 * b + (row.length : Int) ∧ ∀ c ∈ cf row, 0 ≤ c ∧ c ≤ k := by
  cases row with
  | nil => exact False.elim h
  | cons s r =>
    obtain ⟨hs, h1, hc⟩ := h
    obtain ⟨o, ho, ⟨ds, hd, hin⟩, hl⟩ := cs_all r _ _ s (cs_start hk hs h1) hs hc
    unfold Spot at ho
    refine ⟨?_, fun c hc' => ?_⟩
    · show ((cfGo (start s.1) s r).length : Int) ≤ _
      rw [List.length_cons]
      omega
    · have hc' : c ∈ cfGo (start s.1) s r := hc'
      rw [hd] at hc'
      rcases List.mem_append.mp hc' with hc' | hc'
      · exact hin c hc'
      · rw [List.mem_singleton.mp hc']
        omega
theorem chain_snoc {k b : Int} {o : Spt} : ∀ (r : List Spt) (s : Spt), Chain k b s r → (∀ x, (s :: r).getLast? = some x → Nx k b x o) → Chain k b s (r ++ [o])
  | [], s, _, h => ⟨h s rfl, trivial⟩
  | x :: r, s, hc, h => ⟨hc.1, chain_snoc r x hc.2 fun y hy => h y (by rw [List.getLast?_cons_cons]; exact hy)⟩
theorem walk_snoc {k b : Int} {row : List Spt} {o : Spt} (h : Walk k b row) (hn : ∀ x, row.getLast? = some x → Nx k b x o) : Walk k b (row ++ [o]) := by
  cases row with
  | nil => exact False.elim h
  | cons s r => exact ⟨h.1, h.2.1, chain_snoc r s h.2.2 hn⟩
end Wk

set_option Elab.async false
set_option linter.all false
set_option maxRecDepth 100000
set_option maxHeartbeats 4000000
namespace My
open PySem PySem.Spec PyProof.Rows L2
def topS (i : Nat) : Stmt := PySem.Challenge.pw_loopstore_k04_whole_walks_are_what_lette.main.body.getD i (.Pass ⟨0, 0, 0, 0⟩)
abbrev s_is_integer : Stmt := topS 11
theorem sc_is_integer : FnScope ["thing"] ["thing"] (defScope s_is_integer) := ⟨rfl, rfl, rfl, by decide +kernel, rfl, by decide +kernel, by decide +kernel⟩
abbrev s_is_number : Stmt := topS 12
theorem sc_is_number : FnScope ["thing", "least", "most"] ["thing", "least", "most"] (defScope s_is_number) := ⟨rfl, rfl, rfl, by decide +kernel, rfl, by decide +kernel, by decide +kernel⟩
abbrev s_are_numbers : Stmt := topS 13
theorem sc_are_numbers : FnScope ["things", "least", "most", "thing"] ["things", "least", "most"] (defScope s_are_numbers) := ⟨rfl, rfl, rfl, by decide +kernel, rfl, by decide +kernel, by decide +kernel⟩
abbrev s_are_integers : Stmt := topS 14
theorem sc_are_integers : FnScope ["thing", "many", "item"] ["thing", "many"] (defScope s_are_integers) := ⟨rfl, rfl, rfl, by decide +kernel, rfl, by decide +kernel, by decide +kernel⟩
abbrev s_is_comings : Stmt := topS 15
theorem sc_is_comings : FnScope ["comers", "thing"] ["comers", "thing"] (defScope s_is_comings) := ⟨rfl, rfl, rfl, by decide +kernel, rfl, by decide +kernel, by decide +kernel⟩
abbrev s_check_comers : Stmt := topS 16
theorem sc_check_comers : FnScope ["thing"] ["thing"] (defScope s_check_comers) := ⟨rfl, rfl, rfl, by decide +kernel, rfl, by decide +kernel, by decide +kernel⟩
abbrev s_check_bound : Stmt := topS 17
theorem sc_check_bound : FnScope ["thing"] ["thing"] (defScope s_check_bound) := ⟨rfl, rfl, rfl, by decide +kernel, rfl, by decide +kernel, by decide +kernel⟩
abbrev s_check_comings : Stmt := topS 18
theorem sc_check_comings : FnScope ["comers", "thing"] ["comers", "thing"] (defScope s_check_comings) := ⟨rfl, rfl, rfl, by decide +kernel, rfl, by decide +kernel, by decide +kernel⟩
abbrev s_follow_line : Stmt := topS 21
theorem sc_follow_line : FnScope ["bound", "line", "comings", "letters", "behind", "tick", "number", "turn"] ["bound", "line", "comings"] (defScope s_follow_line) := ⟨rfl, rfl, rfl, by decide +kernel, rfl, by decide +kernel, by decide +kernel⟩
abbrev s_letters_of : Stmt := topS 22
theorem sc_letters_of : FnScope ["bound", "comings", "letters", "_"] ["bound", "comings"] (defScope s_letters_of) := ⟨rfl, rfl, rfl, by decide +kernel, rfl, by decide +kernel, by decide +kernel⟩
abbrev s_waits : Stmt := topS 23
theorem sc_waits : FnScope ["comers", "bound", "comings", "tick", "turn", "wait"] ["comers", "bound", "comings"] (defScope s_waits) := ⟨rfl, rfl, rfl, by decide +kernel, rfl, by decide +kernel, by decide +kernel⟩
abbrev s_is_spot : Stmt := topS 24
theorem sc_is_spot : FnScope ["comers", "bound", "thing", "wait", "turn"] ["comers", "bound", "thing"] (defScope s_is_spot) := ⟨rfl, rfl, rfl, by decide +kernel, rfl, by decide +kernel, by decide +kernel⟩
abbrev s_is_next : Stmt := topS 25
theorem sc_is_next : FnScope ["comers", "bound", "spot", "other", "wait", "turn"] ["comers", "bound", "spot", "other"] (defScope s_is_next) := ⟨rfl, rfl, rfl, by decide +kernel, rfl, by decide +kernel, by decide +kernel⟩
abbrev s_is_walk : Stmt := topS 26
theorem sc_is_walk : FnScope ["comers", "bound", "thing", "first", "at"] ["comers", "bound", "thing"] (defScope s_is_walk) := ⟨rfl, rfl, rfl, by decide +kernel, rfl, by decide +kernel, by decide +kernel⟩
abbrev s_spots : Stmt := topS 27
theorem sc_spots : FnScope ["comers", "bound", "wait", "turn"] ["comers", "bound"] (defScope s_spots) := ⟨rfl, rfl, rfl, by decide +kernel, rfl, by decide +kernel, by decide +kernel⟩
abbrev s_nexts : Stmt := topS 28
theorem sc_nexts : FnScope ["comers", "bound", "spot", "wait", "turn", "found", "above", "other"] ["comers", "bound", "spot"] (defScope s_nexts) := ⟨rfl, rfl, rfl, by decide +kernel, rfl, by decide +kernel, by decide +kernel⟩
abbrev s_walk : Stmt := topS 29
theorem sc_walk : FnScope ["comers", "bound", "comings", "tick", "turn", "wait"] ["comers", "bound", "comings"] (defScope s_walk) := ⟨rfl, rfl, rfl, by decide +kernel, rfl, by decide +kernel, by decide +kernel⟩
abbrev s_comings_for : Stmt := topS 30
theorem sc_comings_for : FnScope ["comers", "bound", "row", "start", "comings", "wait", "_", "other", "turn"] ["comers", "bound", "row"] (defScope s_comings_for) := ⟨rfl, rfl, rfl, by decide +kernel, rfl, by decide +kernel, by decide +kernel⟩
abbrev s__law_tape : Stmt := topS 32
theorem sc__law_tape : FnScope ["script"] ["script"] (defScope s__law_tape) := ⟨rfl, rfl, rfl, by decide +kernel, rfl, by decide +kernel, by decide +kernel⟩
abbrev s__law_pick : Stmt := topS 33
theorem sc__law_pick : FnScope ["tape", "size", "digit", "cell", "mixed"] ["tape", "size"] (defScope s__law_pick) := ⟨rfl, rfl, rfl, by decide +kernel, rfl, by decide +kernel, by decide +kernel⟩
abbrev s__law_comings : Stmt := topS 37
theorem sc__law_comings : FnScope ["tape", "comers", "most", "found", "greedy", "k", "number"] ["tape", "comers", "most"] (defScope s__law_comings) := ⟨rfl, rfl, rfl, by decide +kernel, rfl, by decide +kernel, by decide +kernel⟩
abbrev s__law_line : Stmt := topS 38
theorem sc__law_line : FnScope ["bound", "comings", "found", "line", "tick", "turn"] ["bound", "comings"] (defScope s__law_line) := ⟨rfl, rfl, rfl, by decide +kernel, rfl, by decide +kernel, by decide +kernel⟩
abbrev s__law_walk : Stmt := topS 39
theorem sc__law_walk : FnScope ["tape", "comers", "bound", "found", "k", "wait", "turn"] ["tape", "comers", "bound"] (defScope s__law_walk) := ⟨rfl, rfl, rfl, by decide +kernel, rfl, by decide +kernel, by decide +kernel⟩
abbrev s__law_lists_right : Stmt := topS 40
theorem sc__law_lists_right : FnScope ["tape", "comers", "bound", "due", "wait", "told", "k", "one", "mine", "behind", "turn", "other"] ["tape", "comers", "bound"] (defScope s__law_lists_right) := ⟨rfl, rfl, rfl, by decide +kernel, rfl, by decide +kernel, by decide +kernel⟩
abbrev s_law : Stmt := topS 41
theorem sc_law : FnScope ["script", "tape", "comers", "bound", "comings", "due", "told", "at", "row", "made", "letter", "letters", "tick", "turn", "wait"] ["script"] (defScope s_law) := ⟨rfl, rfl, rfl, by decide +kernel, rfl, by decide +kernel, by decide +kernel⟩
structure Tx (K : PySem.W.Frag) (mg : Str → Option Value) where
  a_is_integer : Addr
  d_is_integer : FuncData
  F_is_integer : Fun K "is_integer" "is_integer" s_is_integer a_is_integer d_is_integer
  b_is_integer : Binds K d_is_integer ["thing"] []
  g_is_integer : mg "is_integer" = some (.ref a_is_integer)
  a_is_number : Addr
  d_is_number : FuncData
  F_is_number : Fun K "is_number" "is_number" s_is_number a_is_number d_is_number
  b_is_number : Binds K d_is_number ["thing", "least", "most"] []
  g_is_number : mg "is_number" = some (.ref a_is_number)
  a_are_numbers : Addr
  d_are_numbers : FuncData
  F_are_numbers : Fun K "are_numbers" "are_numbers" s_are_numbers a_are_numbers d_are_numbers
  b_are_numbers : Binds K d_are_numbers ["things", "least", "most"] []
  g_are_numbers : mg "are_numbers" = some (.ref a_are_numbers)
  a_are_integers : Addr
  d_are_integers : FuncData
  F_are_integers : Fun K "are_integers" "are_integers" s_are_integers a_are_integers d_are_integers
  b_are_integers : Binds K d_are_integers ["thing", "many"] []
  g_are_integers : mg "are_integers" = some (.ref a_are_integers)
  a_is_comings : Addr
  d_is_comings : FuncData
  F_is_comings : Fun K "is_comings" "is_comings" s_is_comings a_is_comings d_is_comings
  b_is_comings : Binds K d_is_comings ["comers", "thing"] []
  g_is_comings : mg "is_comings" = some (.ref a_is_comings)
  a_check_comers : Addr
  d_check_comers : FuncData
  F_check_comers : Fun K "check_comers" "check_comers" s_check_comers a_check_comers d_check_comers
  b_check_comers : Binds K d_check_comers ["thing"] []
  g_check_comers : mg "check_comers" = some (.ref a_check_comers)
  a_check_bound : Addr
  d_check_bound : FuncData
  F_check_bound : Fun K "check_bound" "check_bound" s_check_bound a_check_bound d_check_bound
  b_check_bound : Binds K d_check_bound ["thing"] []
  g_check_bound : mg "check_bound" = some (.ref a_check_bound)
  a_check_comings : Addr
  d_check_comings : FuncData
  F_check_comings : Fun K "check_comings" "check_comings" s_check_comings a_check_comings d_check_comings
  b_check_comings : Binds K d_check_comings ["comers", "thing"] []
  g_check_comings : mg "check_comings" = some (.ref a_check_comings)
  a_follow_line : Addr
  d_follow_line : FuncData
  F_follow_line : Fun K "follow_line" "follow_line" s_follow_line a_follow_line d_follow_line
  b_follow_line : Binds K d_follow_line ["bound", "line", "comings"] []
  g_follow_line : mg "follow_line" = some (.ref a_follow_line)
  a_letters_of : Addr
  d_letters_of : FuncData
  F_letters_of : Fun K "letters_of" "letters_of" s_letters_of a_letters_of d_letters_of
  b_letters_of : Binds K d_letters_of ["bound", "comings"] []
  g_letters_of : mg "letters_of" = some (.ref a_letters_of)
  a_waits : Addr
  d_waits : FuncData
  F_waits : Fun K "waits" "waits" s_waits a_waits d_waits
  b_waits : Binds K d_waits ["comers", "bound", "comings"] []
  g_waits : mg "waits" = some (.ref a_waits)
  a_is_spot : Addr
  d_is_spot : FuncData
  F_is_spot : Fun K "is_spot" "is_spot" s_is_spot a_is_spot d_is_spot
  b_is_spot : Binds K d_is_spot ["comers", "bound", "thing"] []
  g_is_spot : mg "is_spot" = some (.ref a_is_spot)
  a_is_next : Addr
  d_is_next : FuncData
  F_is_next : Fun K "is_next" "is_next" s_is_next a_is_next d_is_next
  b_is_next : Binds K d_is_next ["comers", "bound", "spot", "other"] []
  g_is_next : mg "is_next" = some (.ref a_is_next)
  a_is_walk : Addr
  d_is_walk : FuncData
  F_is_walk : Fun K "is_walk" "is_walk" s_is_walk a_is_walk d_is_walk
  b_is_walk : Binds K d_is_walk ["comers", "bound", "thing"] []
  g_is_walk : mg "is_walk" = some (.ref a_is_walk)
  a_spots : Addr
  d_spots : FuncData
  F_spots : Fun K "spots" "spots" s_spots a_spots d_spots
  b_spots : Binds K d_spots ["comers", "bound"] []
  g_spots : mg "spots" = some (.ref a_spots)
  a_nexts : Addr
  d_nexts : FuncData
  F_nexts : Fun K "nexts" "nexts" s_nexts a_nexts d_nexts
  b_nexts : Binds K d_nexts ["comers", "bound", "spot"] []
  g_nexts : mg "nexts" = some (.ref a_nexts)
  a_walk : Addr
  d_walk : FuncData
  F_walk : Fun K "walk" "walk" s_walk a_walk d_walk
  b_walk : Binds K d_walk ["comers", "bound", "comings"] []
  g_walk : mg "walk" = some (.ref a_walk)
  a_comings_for : Addr
  d_comings_for : FuncData
  F_comings_for : Fun K "comings_for" "comings_for" s_comings_for a_comings_for d_comings_for
  b_comings_for : Binds K d_comings_for ["comers", "bound", "row"] []
  g_comings_for : mg "comings_for" = some (.ref a_comings_for)
  a__law_tape : Addr
  d__law_tape : FuncData
  F__law_tape : Fun K "_law_tape" "_law_tape" s__law_tape a__law_tape d__law_tape
  b__law_tape : Binds K d__law_tape ["script"] []
  g__law_tape : mg "_law_tape" = some (.ref a__law_tape)
  a__law_pick : Addr
  d__law_pick : FuncData
  F__law_pick : Fun K "_law_pick" "_law_pick" s__law_pick a__law_pick d__law_pick
  b__law_pick : Binds K d__law_pick ["tape", "size"] []
  g__law_pick : mg "_law_pick" = some (.ref a__law_pick)
  a__law_comings : Addr
  d__law_comings : FuncData
  F__law_comings : Fun K "_law_comings" "_law_comings" s__law_comings a__law_comings d__law_comings
  b__law_comings : Binds K d__law_comings ["tape", "comers", "most"] []
  g__law_comings : mg "_law_comings" = some (.ref a__law_comings)
  a__law_line : Addr
  d__law_line : FuncData
  F__law_line : Fun K "_law_line" "_law_line" s__law_line a__law_line d__law_line
  b__law_line : Binds K d__law_line ["bound", "comings"] []
  g__law_line : mg "_law_line" = some (.ref a__law_line)
  a__law_walk : Addr
  d__law_walk : FuncData
  F__law_walk : Fun K "_law_walk" "_law_walk" s__law_walk a__law_walk d__law_walk
  b__law_walk : Binds K d__law_walk ["tape", "comers", "bound"] []
  g__law_walk : mg "_law_walk" = some (.ref a__law_walk)
  a__law_lists_right : Addr
  d__law_lists_right : FuncData
  F__law_lists_right : Fun K "_law_lists_right" "_law_lists_right" s__law_lists_right a__law_lists_right d__law_lists_right
  b__law_lists_right : Binds K d__law_lists_right ["tape", "comers", "bound"] []
  g__law_lists_right : mg "_law_lists_right" = some (.ref a__law_lists_right)
  a_law : Addr
  d_law : FuncData
  F_law : Fun K "law" "law" s_law a_law d_law
  b_law : Binds K d_law ["script"] []
  g_law : mg "law" = some (.ref a_law)
  m_all : mg "all" = none
  m_bool : mg "bool" = none
  m_enumerate : mg "enumerate" = none
  m_int : mg "int" = none
  m_isinstance : mg "isinstance" = none
  m_len : mg "len" = none
  m_list : mg "list" = none
  m_max : mg "max" = none
  m_min : mg "min" = none
  m_range : mg "range" = none
  m_tuple : mg "tuple" = none
  m_zip : mg "zip" = none
  t_MOST_BOUND : Tok
  g_MOST_BOUND : mg "MOST_BOUND" = some (.int 60 t_MOST_BOUND)
  t_MOST_COMERS : Tok
  g_MOST_COMERS : mg "MOST_COMERS" = some (.int 4 t_MOST_COMERS)
  t_MOST_SPOTS : Tok
  g_MOST_SPOTS : mg "MOST_SPOTS" = some (.int 60 t_MOST_SPOTS)
  t_MOST_TICKS : Tok
  g_MOST_TICKS : mg "MOST_TICKS" = some (.int 400 t_MOST_TICKS)
def tv (l : Ln.Let) : List V := [.int l.1, .int l.2.1, wv l.2.2]
/-- comings that are right -/
def Rt (k : Int) (cs : List Int) : Prop := cs.length ≤ 400 ∧ ∀ c ∈ cs, 0 ≤ c ∧ c ≤ k
theorem Rt.four {k : Int} {cs : List Int} (h : Rt k cs) (hk : k ≤ 4) : ∀ c ∈ cs, c ≤ 4 := fun c hc => by
  have := h.2 c hc
  omega
theorem Rt.all {k : Int} {cs : List Int} (h : Rt k cs) : (cs.all fun n => decide (0 ≤ n) && decide (n ≤ k)) = true := by
  rw [List.all_eq_true]
  intro n hn
  have := h.2 n hn
  rw [Bool.and_eq_true]
  exact ⟨decide_eq_true this.1, decide_eq_true this.2⟩

section
variable {P : Program} {w : World} {K : PySem.W.Frag} {mg : Str → Option Value} {base : Heap}
def spTape (K : PySem.W.Frag) : Sp := fun vs H Q _ => ∃ (a : Addr) (ns : List Int), vs = [.ref a] ∧ SqL K H a (ns.map V.int) ∧ ∀ t s H', H t = none → H s = none → Same H H' → Tape H' t s → Q (.ref t) H'
theorem ok__law_tape (T : Tx K mg) : FnOk P w K mg base CX0 1 T.a__law_tape T.d__law_tape ["script"] (spTape K) := by
  refine T.F__law_tape.ok sc__law_tape (fun vs H Q E h => ?_) (fun cdv A outer s H vs Q E hr h => ?_)
  · obtain ⟨a, ns, rfl, _⟩ := h
    rfl
  · obtain ⟨a, ns, rfl, hS, q⟩ := h
    refine ⟨_, ((pss_one (ps_ret (pe_lst (pa_cons (pe_callTy call_list_of (by rfl) T.m_list (by decide +kernel) (pa_cons (pv 0) pa_nil)) (pa_cons pe_int (pa_cons pe_int (pa_cons pe_int (pa_cons pe_int pa_nil))))))))), ?_⟩
    refine ⟨.ref a, rfl, a, _, rfl, .inl hS, fun l nl => ?_⟩
    refine ⟨by show 5 ≤ sizeLine; decide, fun t nt => ?_⟩
    have nlt : l ≠ t := fun e => by
      rw [← e, upd_same] at nt
      cases nt
    have s1 : Same H (upd H l (.lst (ns.map V.int))) := same_upd nl
    refine q t l _ (Same.free s1 nt) nl (s1.trans (same_upd nt)) ⟨ns, 0, 0, 1, 0, nlt, upd_same, ?_, by decide⟩
    rw [upd_ne nlt, upd_same]
def spPick (K : PySem.W.Frag) : Sp := fun vs H Q _ => ∃ (t s : Addr) (n : Int), vs = [.ref t, .int n] ∧ (0 < n ∧ n < 2 ^ 60) ∧ Tape H t s ∧ ∀ r H', 0 ≤ r → r < n → Moved t H H' → Tape H' t s → Q (.int r) H'
theorem fm_of {a b : Int} (h : 0 < b) : 0 ≤ a.fmod b ∧ a.fmod b < b := by
  rw [Int.fmod_eq_emod_of_nonneg a (Int.le_of_lt h)]
  exact ⟨Int.emod_nonneg a (by omega), Int.emod_lt_of_pos a h⟩
theorem ok__law_pick (T : Tx K mg) : FnOk P w K mg base CX0 1 T.a__law_pick T.d__law_pick ["tape", "size"] (spPick K) := by
  refine T.F__law_pick.ok sc__law_pick (fun vs H Q E h => ?_) (fun cdv A outer s H vs Q E hr h => ?_)
  · obtain ⟨t, l, n, rfl, _⟩ := h
    rfl
  · obtain ⟨t, l, n, rfl, ⟨hn, hn2⟩, ⟨ns, pos, rest, mx, ct, hlt, ht, hl, hp⟩, q⟩ := h
    have wd : ∀ i : Int, CDivW i n := fun i => wide_div hn (b := 60) (by omega) (by decide) (by decide)
    refine ⟨_, ((pss_cons (ps_if (pt_cmpR op_gt (pe_ix ix_list (pv 0) pe_int (fun _ _ => rfl)) pe_int (nomark _)) (pss_cons (ps_set (i := 2) sc__law_pick.nd rfl (.inl rfl) (pe_op op_modN (pe_callTy call_int1 (by rfl) T.m_int (by decide +kernel) (pa_cons (pe_ix ix_list (pv 0) pe_int (fun _ _ => rfl)) pa_nil)) (pv 1)))
  (pss_cons (ps_asg (pe_op op_fdivW (pe_ix ix_list (pv 0) pe_int (fun _ _ => rfl)) (pv 1)) (pg_sub (pv 0) pe_int set_list))
  (pss_one (ps_ret (pv 2))))) pss_nil)
  (pss_cons (ps_asg (pe_op op_add (pe_ix ix_list (pv 0) pe_int (fun _ _ => rfl)) pe_int) (pg_sub (pv 0) pe_int set_list))
  (pss_cons (ps_set (i := 3) sc__law_pick.nd rfl (.inl rfl) pe_int)
  (Evl.pss_cut (ps_if (pt_cmpR op_lt (pe_ix ix_list (pv 0) pe_int (fun _ _ => rfl)) (pe_callB call_len_seq (by rfl) T.m_len PySem.boot_len (pa_cons (pe_ix ix_list (pv 0) pe_int (fun _ _ => rfl)) pa_nil)) (nomark _)) (pss_cons (ps_set (i := 3) sc__law_pick.nd rfl (.inl rfl) (pe_ix ix_list (pe_ix ix_list (pv 0) pe_int (fun _ _ => rfl)) (pe_ix ix_list (pv 0) pe_int (fun _ _ => rfl)) (fun _ _ => rfl)))
  (pss_one (ps_asg (pe_op op_add (pe_ix ix_list (pv 0) pe_int (fun _ _ => rfl)) pe_int) (pg_sub (pv 0) pe_int set_list)))) pss_nil)
  (pss_cons (ps_if (pt_cmpR op_ge (pv 3) (pe_op op_pow pe_int pe_int) (nomark _)) (pss_cons (ps_asg (pe_op op_fdivW (pv 3) (pv 1)) (pg_sub (pv 0) pe_int set_list))
  (pss_one (ps_ret (pe_op op_modN (pe_callTy call_int1 (by rfl) T.m_int (by decide +kernel) (pa_cons (pv 3) pa_nil)) (pv 1))))) pss_nil)
  (pss_cons (ps_set (i := 4) sc__law_pick.nd rfl (.inl rfl) (pe_op op_modN (pe_callTy call_int1 (by rfl) T.m_int (by decide +kernel) (pa_cons (pe_op op_add (pe_op op_add (pe_op op_mul (pe_ix ix_list (pv 0) pe_int (fun _ _ => rfl)) pe_int) (pe_op op_modN (pe_callTy call_int1 (by rfl) T.m_int (by decide +kernel) (pa_cons (pv 3) pa_nil)) pe_int)) (pe_op op_mul (pe_ix ix_list (pv 0) pe_int (fun _ _ => rfl)) pe_int)) pa_nil)) pe_int))
  (pss_cons (ps_set (i := 4) sc__law_pick.nd rfl (.inl rfl) (pe_op op_modN (pe_callTy call_int1 (by rfl) T.m_int (by decide +kernel) (pa_cons (pe_op op_mul (pv 4) (pe_op op_add (pe_op op_fdivW (pv 4) pe_int) pe_int)) pa_nil)) pe_int))
  (pss_cons (ps_asg (pv 4) (pg_sub (pv 0) pe_int set_list))
  (pss_one (ps_ret (pe_op op_modN (pe_callTy call_int1 (by rfl) T.m_int (by decide +kernel) (pa_cons (pe_op op_fdivW (pv 4) pe_int) pa_nil)) (pv 1))))))))))))), ?_⟩
    -- tape[2] > 1
    refine ⟨.ref t, rfl, t, _, 2, _, rfl, rfl, SqL.of ht, atI_nat (j := 2) rfl, _, _, rfl, rfl, _, rfl, ite2 (fun h1 => ?_) (fun h1 => ?_)⟩
    · -- digit
      refine ⟨.ref t, rfl, t, _, 2, _, rfl, rfl, SqL.of ht, atI_nat (j := 2) rfl, .inl ⟨_, rfl, ?_⟩⟩
      refine ⟨.int n, rfl, _, _, rfl, rfl, by omega, ?_⟩
      -- tape[2] = tape[2] // size
      refine ⟨.ref t, rfl, t, _, 2, _, rfl, rfl, SqL.of ht, atI_nat (j := 2) rfl, .int n, rfl, _, _, rfl, rfl, wd _, ?_⟩
      refine ⟨.ref t, rfl, t, _, 2, 2, rfl, rfl, ht, rfl, ?_⟩
      -- return digit
      refine ⟨_, rfl, ?_⟩
      refine q _ _ (fm_of hn).1 (fm_of hn).2 Moved.upd ⟨ns, pos, _, mx, ct, hlt, upd_same, ?_, hp⟩
      rw [upd_ne hlt]
      exact hl
    · -- tape[4] = tape[4] + 1
      refine ⟨.ref t, rfl, t, _, 4, _, rfl, rfl, SqL.of ht, atI_nat (j := 4) rfl, _, _, rfl, rfl, ?_⟩
      refine ⟨.ref t, rfl, t, _, 4, 4, rfl, rfl, ht, rfl, ?_⟩
      -- cell = 0; the first cut
      refine ⟨fun σ' H1 => ∃ (cell p2 : Int) (σ3 σ4 : Option V), σ' = [some (.ref t), some (.int n), σ3, some (.int cell), σ4] ∧ 0 ≤ p2 ∧ H1 t = some (.lst [.ref l, .int p2, .int rest, .int mx, .int (ct + 1)]) ∧ H1 l = some (.lst (ns.map V.int)) ∧ Moved t H H1, ?_, fun σ' H1 hm => ?_⟩
      · have hl1 : (upd H t (.lst [.ref l, .int pos, .int rest, .int mx, .int (ct + 1)])) l = some (.lst (ns.map V.int)) := by
          rw [upd_ne hlt]
          exact hl
        refine ⟨.ref t, rfl, t, _, 1, _, rfl, rfl, SqL.of upd_same, atI_nat (j := 1) rfl, .ref t, rfl, t, _, 0, _, rfl, rfl, SqL.of upd_same, atI_nat (j := 0) rfl, l, _, rfl, .inl (SqL.of hl1), _, _, rfl, rfl, _, rfl, ite2 (fun h2 => ?_) (fun h2 => ?_)⟩
        · have h3 : pos < ((ns.map V.int).length : Int) := of_decide_eq_true h2
          obtain ⟨j, rfl⟩ : ∃ j : Nat, pos = (j : Int) := ⟨pos.toNat, by omega⟩
          have hj : j < ns.length := by
            rw [List.length_map] at h3
            omega
          have gj : (ns.map V.int)[j]? = some (.int ns[j]) := by
            rw [List.getElem?_map, List.getElem?_eq_getElem hj]
            rfl
          -- cell = tape[0][tape[1]]
          refine ⟨.ref t, rfl, t, _, 0, _, rfl, rfl, SqL.of upd_same, atI_nat (j := 0) rfl, .ref t, rfl, t, _, 1, _, rfl, rfl, SqL.of upd_same, atI_nat (j := 1) rfl, l, _, _, _, rfl, rfl, SqL.of hl1, atI_nat gj, ?_⟩
          -- tape[1] = tape[1] + 1
          refine ⟨.ref t, rfl, t, _, 1, _, rfl, rfl, SqL.of upd_same, atI_nat (j := 1) rfl, _, _, rfl, rfl, ?_⟩
          refine ⟨.ref t, rfl, t, _, 1, 1, rfl, rfl, upd_same, rfl, ?_⟩
          rw [upd_upd]
          exact ⟨_, _, _, _, rfl, by omega, upd_same, (by rw [upd_ne hlt]; exact hl), Moved.upd⟩
        · exact ⟨_, _, _, _, rfl, hp, upd_same, hl1, Moved.upd⟩
      · obtain ⟨cell, p2, σ3, σ4, rfl, hp2, ht1, hl1, mv⟩ := hm
        -- cell >= 10 ** 18
        refine ⟨.int cell, rfl, 10, 18, rfl, rfl, ⟨by decide, by decide, by decide⟩, _, _, rfl, rfl, _, rfl, ite2 (fun h2 => ?_) (fun h2 => ?_)⟩
        · refine ⟨.int cell, rfl, .int n, rfl, _, _, rfl, rfl, wd _, .ref t, rfl, t, _, 2, 2, rfl, rfl, ht1, rfl, ?_⟩
          refine ⟨.int cell, rfl, .inl ⟨_, rfl, .int n, rfl, _, _, rfl, rfl, by omega, ?_⟩⟩
          refine q _ _ (fm_of hn).1 (fm_of hn).2 (mv.trans Moved.upd) ⟨ns, p2, _, mx, _, hlt, upd_same, ?_, hp2⟩
          rw [upd_ne hlt]
          exact hl1
        · -- mixed = ..
          refine ⟨.ref t, rfl, t, _, 3, _, rfl, rfl, SqL.of ht1, atI_nat (j := 3) rfl, _, _, rfl, rfl, .inr ⟨by decide, by decide⟩, ?_⟩
          refine ⟨.int cell, rfl, .inl ⟨_, rfl, _, _, rfl, rfl, (by show (2147483629 : Int) ≠ 0; decide), _, _, rfl, rfl, ?_⟩⟩
          refine ⟨.ref t, rfl, t, _, 4, _, rfl, rfl, SqL.of ht1, atI_nat (j := 4) rfl, _, _, rfl, rfl, .inr ⟨by decide, by decide⟩, _, _, rfl, rfl, ?_⟩
          refine .inl ⟨_, rfl, _, _, rfl, rfl, (by show (2147483647 : Int) ≠ 0; decide), ?_⟩
          have bm := fm_of (a := mx * 48271 + cell.fmod 2147483629 + (ct + 1) * 69621) (b := 2147483647) (by decide)
          -- mixed = int(mixed * ..) % ..
          refine ⟨_, rfl, _, rfl, _, _, rfl, rfl, ⟨by decide, by decide⟩, _, _, rfl, rfl, _, _, rfl, rfl, .inl ⟨Int.lt_of_lt_of_le (by decide) bm.1, Int.lt_trans bm.2 (by decide)⟩, .inl ⟨_, rfl, _, _, rfl, rfl, (by show (2147483399 : Int) ≠ 0; decide), ?_⟩⟩
          -- tape[3] = mixed
          refine ⟨_, rfl, .ref t, rfl, t, _, 3, 3, rfl, rfl, ht1, rfl, ?_⟩
          refine ⟨_, rfl, _, _, rfl, rfl, ⟨by decide, by decide⟩, .inl ⟨_, rfl, .int n, rfl, _, _, rfl, rfl, by omega, ?_⟩⟩
          refine q _ _ (fm_of hn).1 (fm_of hn).2 (mv.trans Moved.upd) ⟨ns, p2, _, _, _, hlt, upd_same, ?_, hp2⟩
          rw [upd_ne hlt]
          exact hl1
end

section
variable {P : Program} {w : World} {K : PySem.W.Frag} {mg : Str → Option Value} {base : Heap}
def spIsInt (K : PySem.W.Frag) : Sp := fun vs H Q _ => ∃ i : Int, vs = [.int i] ∧ Q (.bl true) H
theorem ok_is_integer (T : Tx K mg) : FnOk P w K mg base CX0 1 T.a_is_integer T.d_is_integer ["thing"] (spIsInt K) := by
  refine T.F_is_integer.ok sc_is_integer (fun vs H Q E h => ?_) (fun cdv A outer s H vs Q E hr h => ?_)
  · obtain ⟨i, rfl, _⟩ := h
    rfl
  · obtain ⟨i, rfl, q⟩ := h
    refine ⟨_, ((pss_one (ps_ret (pe_and (pe_callB call_isi (by rfl) T.m_isinstance (by decide +kernel) (pa_cons (pv 0) (pa_cons (pe_bltn (v := .ty "int") (by rfl) T.m_int (by decide +kernel) rfl) pa_nil))) (pe_one (pe_not (pe_callB call_isi (by rfl) T.m_isinstance (by decide +kernel) (pa_cons (pv 0) (pa_cons (pe_bltn (v := .ty "bool") (by rfl) T.m_bool (by decide +kernel) rfl) pa_nil))))))))), ?_⟩
    refine ⟨.int i, rfl, .int i, .ty "int", _, _, true, rfl, .ty _, .base (.int i), kit_ty (by decide +kernel), true, rfl, iteT ?_⟩
    refine ⟨.int i, rfl, .int i, .ty "bool", _, _, false, rfl, .ty _, .base (.int i), kit_ty (by decide +kernel), false, rfl, ?_⟩
    exact q
def spIsNum (K : PySem.W.Frag) : Sp := fun vs H Q _ => ∃ i a b : Int, vs = [.int i, .int a, .int b] ∧ Q (.bl (decide (a ≤ i) && decide (i ≤ b))) H
theorem ok_is_number (T : Tx K mg) : FnOk P w K mg base CX0 2 T.a_is_number T.d_is_number ["thing", "least", "most"] (spIsNum K) := by
  refine T.F_is_number.ok sc_is_number (fun vs H Q E h => ?_) (fun cdv A outer s H vs Q E hr h => ?_)
  · obtain ⟨i, a, b, rfl, _⟩ := h
    rfl
  · obtain ⟨i, a, b, rfl, q⟩ := h
    refine ⟨_, ((pss_one (ps_ret (pe_and (pe_call (ok_is_integer T) (hr.mono (by decide)) (by rfl) T.g_is_integer T.F_is_integer.kp T.b_is_integer .nil pass0 (pa_cons (pv 0) pa_nil)) (pe_one (pe_chain op_le op_le (pv 1) (pv 0) (pv 2))))))), ?_⟩
    refine ⟨.int i, rfl, i, rfl, true, rfl, iteT ?_⟩
    refine ⟨.int a, rfl, .int i, rfl, a, i, rfl, rfl, _, rfl, ?_⟩
    by_cases h : a ≤ i
    · rw [decide_eq_true h] at q ⊢
      refine iteT ⟨.int b, rfl, i, b, rfl, rfl, ?_⟩
      exact q
    · rw [decide_eq_false h] at q ⊢
      exact iteF q
def spAreNums (K : PySem.W.Frag) : Sp := fun vs H Q _ => ∃ (a : Addr) (ns : List Int) (lo hi : Int), vs = [.ref a, .int lo, .int hi] ∧ SqT K H a (ns.map V.int) ∧ ns.length ≤ 1000 ∧
  ∀ H', Same H H' → Q (.bl (ns.all fun n => decide (lo ≤ n) && decide (n ≤ hi))) H'
theorem ok_are_numbers (T : Tx K mg) : FnOk P w K mg base CX0 3 T.a_are_numbers T.d_are_numbers ["things", "least", "most"] (spAreNums K) := by
  refine T.F_are_numbers.ok sc_are_numbers (fun vs H Q E h => ?_) (fun cdv A outer s H vs Q E hr h => ?_)
  · obtain ⟨a, ns, lo, hi, rfl, _⟩ := h
    rfl
  · obtain ⟨a, ns, lo, hi, rfl, hT, hlen, q⟩ := h
    refine ⟨_, ((pss_one (ps_ret (pe_callB (cr_all rfl) (by rfl) T.m_all (by decide +kernel) (pa_cons (pe_lc (own := [("thing", 3)]) (g := (gName 3)) (tt := tYes) rfl sc_are_numbers.nd (pi_tup (pv 0)) (blkOk_by (own := [("thing", 3)]) (N := ["things", "least", "most", "thing"]) (sc := defScope s_are_numbers) (by decide +kernel)) (fun _ _ _ _ _ => pg_name (i := 3) sc_are_numbers.nd rfl (.inl rfl)) (fun _ _ _ _ _ => pts_nil) (fun _ _ _ _ _ => (pe_call (ok_is_number T) (hr.mono (by decide)) (by rfl) T.g_is_number T.F_is_number.kp T.b_is_number .nil pass0 (pa_cons (pv 3) (pa_cons (pv 1) (pa_cons (pv 2) pa_nil)))))) pa_nil))))), ?_⟩
    refine ⟨.ref a, rfl, a, rfl, ⟨_, hT⟩, fun D hD => lc_tup (K := K) (a := a) (xs := ns.map V.int)
      (fun i H' => Same H H' ∧ H D = none ∧ H' D = some (.lst (((ns.take i).map fun n => decide (lo ≤ n) && decide (n ≤ hi)).map V.bl)))
      ⟨same_upd hD, hD, upd_same⟩ (fun i H' _ p => sT p.1 hT) (fun i x H' hx p => ?_) (fun H' p => ?_)⟩
    · obtain ⟨sm, nD, eD⟩ := p
      rw [List.getElem?_map] at hx
      obtain ⟨n, hn, rfl⟩ := Option.map_eq_some_iff.mp hx
      refine ⟨rfl, ?_⟩
      refine ⟨.int n, rfl, .int lo, rfl, .int hi, rfl, n, lo, hi, rfl, ?_⟩
      have hi' : i < ns.length := (List.getElem?_eq_some_iff.mp hn).1
      refine ⟨_, eD, ?_, ?_⟩
      · rw [List.length_map, List.length_map, List.length_take]
        exact small1000 (by omega)
      · refine ⟨fun b o e => ?_, nD, ?_⟩
        · rw [upd_ne (ne_of_none e nD)]
          exact sm b o e
        · rw [upd_same, List.take_add_one, hn, List.map_append, List.map_append]
          rfl
    · obtain ⟨sm, nD, eD⟩ := p
      rw [List.length_map, List.take_of_length_le (Nat.le_refl _)] at eD
      refine ⟨D, _, rfl, SqL.of eD, ?_⟩
      have e2 : ((ns.map fun n => decide (lo ≤ n) && decide (n ≤ hi)).all id) = ns.all fun n => decide (lo ≤ n) && decide (n ≤ hi) := by
        rw [List.all_map]
        rfl
      rw [e2]
      exact q H' sm
end

/-! ### the checks -/
section
variable {P : Program} {w : World} {K : PySem.W.Frag} {mg : Str → Option Value} {base : Heap}
def spIsComings (K : PySem.W.Frag) : Sp := fun vs H Q _ => ∃ (a : Addr) (cs : List Int) (k : Int), vs = [.int k, .ref a] ∧ SqT K H a (cs.map V.int) ∧ Rt k cs ∧ ∀ H', Same H H' → Q (.bl true) H'
theorem ok_is_comings (T : Tx K mg) : FnOk P w K mg base CX0 4 T.a_is_comings T.d_is_comings ["comers", "thing"] (spIsComings K) := by
  refine T.F_is_comings.ok sc_is_comings (fun vs H Q E h => ?_) (fun cdv A outer s H vs Q E hr h => ?_)
  · obtain ⟨a, cs, k, rfl, _⟩ := h
    rfl
  · obtain ⟨a, cs, k, rfl, hT, g, q⟩ := h
    refine ⟨_, ((pss_one (ps_ret (pe_and (pe_callB call_isi (by rfl) T.m_isinstance (by decide +kernel) (pa_cons (pv 1) (pa_cons (pe_bltn (v := .ty "tuple") (by rfl) T.m_tuple (by decide +kernel) rfl) pa_nil))) (pe_and (pe_cmpR op_le (pe_callB call_len_seq (by rfl) T.m_len PySem.boot_len (pa_cons (pv 1) pa_nil)) (pe_glob (v := .int 400) rfl T.g_MOST_TICKS ⟨_, rfl⟩) (nomark _)) (pe_one (pe_call (ok_are_numbers T) (hr.mono (by decide)) (by rfl) T.g_are_numbers T.F_are_numbers.kp T.b_are_numbers .nil pass0 (pa_cons (pv 1) (pa_cons pe_int (pa_cons (pv 0) pa_nil)))))))))), ?_⟩
    refine ⟨.ref a, rfl, .ref a, .ty "tuple", _, _, true, rfl, .ty _, tyTup hT, kit_ty (by decide +kernel), true, rfl, iteT ?_⟩
    have g1 := g.1
    refine ⟨.ref a, rfl, a, _, rfl, .inr hT, _, 400, rfl, rfl, true, ?_, iteT ?_⟩
    · show V.bl (decide (((cs.map V.int).length : Int) ≤ (400 : Int))) = V.bl true
      rw [List.length_map, decide_eq_true (by omega)]
    · refine ⟨.ref a, rfl, .int k, rfl, a, cs, 0, k, rfl, hT, by omega, fun H' sm => ?_⟩
      have e := g.all
      rw [e]
      exact q H' sm
def spChkComings (K : PySem.W.Frag) : Sp := fun vs H Q _ => ∃ (a : Addr) (cs : List Int) (k : Int), vs = [.int k, .ref a] ∧ SqT K H a (cs.map V.int) ∧ Rt k cs ∧ ∀ H', Same H H' → Q .non H'
theorem ok_check_comings (T : Tx K mg) : FnOk P w K mg base CX0 5 T.a_check_comings T.d_check_comings ["comers", "thing"] (spChkComings K) := by
  refine T.F_check_comings.ok sc_check_comings (fun vs H Q E h => ?_) (fun cdv A outer s H vs Q E hr h => ?_)
  · obtain ⟨a, cs, k, rfl, _⟩ := h
    rfl
  · obtain ⟨a, cs, k, rfl, hT, g, q⟩ := h
    refine ⟨_, ((pss_one (ps_if (pt_not (pt_val (pe_call (ok_is_comings T) (hr.mono (by decide)) (by rfl) T.g_is_comings T.F_is_comings.kp T.b_is_comings .nil pass0 (pa_cons (pv 0) (pa_cons (pv 1) pa_nil))))) (pss_one ps_never) pss_nil))), ?_⟩
    refine ⟨.int k, rfl, .ref a, rfl, a, cs, k, rfl, hT, g, fun H' sm => ⟨true, rfl, iteF ?_⟩⟩
    exact q H' sm
def spChkNum (lo hi : Int) (K : PySem.W.Frag) : Sp := fun vs H Q _ => ∃ k : Int, vs = [.int k] ∧ lo ≤ k ∧ k ≤ hi ∧ Q .non H
theorem ok_check_comers (T : Tx K mg) : FnOk P w K mg base CX0 3 T.a_check_comers T.d_check_comers ["thing"] (spChkNum 2 4 K) := by
  refine T.F_check_comers.ok sc_check_comers (fun vs H Q E h => ?_) (fun cdv A outer s H vs Q E hr h => ?_)
  · obtain ⟨k, rfl, _⟩ := h
    rfl
  · obtain ⟨k, rfl, h1, h2, q⟩ := h
    refine ⟨_, ((pss_one (ps_if (pt_not (pt_val (pe_call (ok_is_number T) (hr.mono (by decide)) (by rfl) T.g_is_number T.F_is_number.kp T.b_is_number .nil pass0 (pa_cons (pv 0) (pa_cons pe_int (pa_cons (pe_glob (v := .int 4) rfl T.g_MOST_COMERS ⟨_, rfl⟩) pa_nil)))))) (pss_one ps_never) pss_nil))), ?_⟩
    refine ⟨.int k, rfl, k, 2, 4, rfl, true, ?_, iteF ?_⟩
    · rw [decide_eq_true h1, decide_eq_true h2]
      rfl
    · exact q
theorem ok_check_bound (T : Tx K mg) : FnOk P w K mg base CX0 3 T.a_check_bound T.d_check_bound ["thing"] (spChkNum 1 60 K) := by
  refine T.F_check_bound.ok sc_check_bound (fun vs H Q E h => ?_) (fun cdv A outer s H vs Q E hr h => ?_)
  · obtain ⟨k, rfl, _⟩ := h
    rfl
  · obtain ⟨k, rfl, h1, h2, q⟩ := h
    refine ⟨_, ((pss_one (ps_if (pt_not (pt_val (pe_call (ok_is_number T) (hr.mono (by decide)) (by rfl) T.g_is_number T.F_is_number.kp T.b_is_number .nil pass0 (pa_cons (pv 0) (pa_cons pe_int (pa_cons (pe_glob (v := .int 60) rfl T.g_MOST_BOUND ⟨_, rfl⟩) pa_nil)))))) (pss_one ps_never) pss_nil))), ?_⟩
    refine ⟨.int k, rfl, k, 1, 60, rfl, true, ?_, iteF ?_⟩
    · rw [decide_eq_true h1, decide_eq_true h2]
      rfl
    · exact q
/-! ### the line -/
def spFollow (K : PySem.W.Frag) : Sp := fun vs H Q _ => ∃ (a : Addr) (cs : List Int) (b k : Int), vs = [.int b, .int 0, .ref a] ∧ SqT K H a (cs.map V.int) ∧ Rt k cs ∧ k ≤ 4 ∧ 0 ≤ b ∧
  ∀ L B p ps H', Same H H' → H L = none → H B = none → L ≠ B → H' L = some (.lst (ps.map V.ref)) → Tups tv H' ps (Ln.letts b cs) → H' B = some (.lst ((Ln.behind b cs cs.length).map V.int)) → H' p = some (.tup [.ref L, .ref B]) → Q (.ref p) H'
theorem ok_follow_line (T : Tx K mg) : FnOk P w K mg base CX0 1 T.a_follow_line T.d_follow_line ["bound", "line", "comings"] (spFollow K) := by
  refine T.F_follow_line.ok sc_follow_line (fun vs H Q E h => ?_) (fun cdv A outer s H vs Q E hr h => ?_)
  · obtain ⟨a, cs, b, k, rfl, _⟩ := h
    rfl
  · obtain ⟨a, cs, b, k, rfl, hT, g, hk, hb, q⟩ := h
    have g4 := g.four hk
    have g1 := g.1
    refine ⟨_, ((pss_cons (ps_set (i := 3) sc_follow_line.nd rfl (.inl rfl) (pe_lst pa_nil))
  (pss_cons (ps_set (i := 4) sc_follow_line.nd rfl (.inl rfl) (pe_lst pa_nil))
  (pss_cons (ps_for PassesOwn.never rfl (RR.pi_enumT (by rfl) T.m_enumerate (pa_cons (pv 2) pa_nil)) (pg_tup rfl (pgs_cons (pg_name (i := 5) sc_follow_line.nd rfl (.inl rfl)) (pgs_cons (pg_name (i := 6) sc_follow_line.nd rfl (.inl rfl)) pgs_nil)))
   (pss_cons (ps_for PassesOwn.never rfl (pi_range2 (by rfl) T.m_range (pa_cons pe_int (pa_cons (pe_op op_add (pv 6) pe_int) pa_nil))) (pg_name (i := 7) sc_follow_line.nd rfl (.inl rfl))
   (pss_one (ps_if (pt_cmpR op_gt (pv 1) (pv 0) (nomark _)) (pss_one (ps_expr (pe_bm PySem.F.plainAttrs_list PySem.F.slot_list_append PySem.F.type_list_append mt_append (pv 3) (pa_cons (pe_tup (pa_cons (pv 5) (pa_cons (pv 7) (pa_cons pe_non pa_nil)))) pa_nil)))) (pss_cons (ps_expr (pe_bm PySem.F.plainAttrs_list PySem.F.slot_list_append PySem.F.type_list_append mt_append (pv 3) (pa_cons (pe_tup (pa_cons (pv 5) (pa_cons (pv 7) (pa_cons (pv 1) pa_nil)))) pa_nil)))
  (pss_one (ps_aug (i := 1) sc_follow_line.nd rfl (.inl rfl) pe_int ip_add))))))
  (Evl.pss_cut (ps_if (pt_cmpR op_gt (pv 1) pe_int (nomark _)) (pss_one (ps_aug (i := 1) sc_follow_line.nd rfl (.inl rfl) pe_int ip_sub)) pss_nil)
  (pss_one (ps_expr (pe_bm PySem.F.plainAttrs_list PySem.F.slot_list_append PySem.F.type_list_append mt_append (pv 4) (pa_cons (pv 1) pa_nil)))))))
  (pss_one (ps_ret (pe_tup (pa_cons (pv 3) (pa_cons (pv 4) pa_nil))))))))), ?_⟩
    refine ⟨Nat.zero_le _, fun L nL => ⟨Nat.zero_le _, fun B nB => ?_⟩⟩
    have hBL : B ≠ L := fun e => by
      rw [e, upd_same] at nB
      cases nB
    have hHB : H B = none := Same.free (same_upd nL) nB
    have s2 : Same H (upd (upd H L (.lst [])) B (.lst [])) := (same_upd nL).trans (same_upd nB)
    refine ⟨.ref a, rfl, a, _, rfl, sT s2 hT, RR.for_enumT (K := K) (xs := cs.map V.int)
      (fun i σ H' => ∃ y5 y6 y7 ps, σ = [some (.int b), some (.int (Ln.pre b cs i).2), some (.ref a), some (.ref L), some (.ref B), y5, y6, y7] ∧ H' L = some (.lst (ps.map V.ref)) ∧ Tups tv H' ps (Ln.pre b cs i).1 ∧ H' B = some (.lst ((Ln.behind b cs i).map V.int)) ∧ Same H H')
      ⟨_, _, _, [], rfl, by rw [upd_ne hBL.symm, upd_same]; rfl, .nil, upd_same, s2⟩ (fun i σ H' _ h => ?_) (fun i x T σ H' hx h nT => ?_) (fun σ H' h => ?_)⟩
    · obtain ⟨_, _, _, _, _, _, _, _, sm⟩ := h
      exact sT sm hT
    · obtain ⟨y5, y6, y7, ps, rfl, eL, tu, eB, sm⟩ := h
      rw [List.getElem?_map] at hx
      obtain ⟨c, hc, rfl⟩ := Option.map_eq_some_iff.mp hx
      have bc := g.2 c (List.mem_of_getElem? hc)
      have ec := Ln.getD_of hc
      have hi : i < cs.length := (List.getElem?_eq_some_iff.mp hc).1
      have smT : Same H' (upd H' T (.tup [.int (i : Nat), .int c])) := same_upd nT
      refine ⟨T, _, rfl, SqT.of upd_same, rfl, _, [_], rfl, _, [], rfl, rfl, ?_⟩
      refine ⟨.int c, rfl, _, _, rfl, rfl, 1, c + 1, rfl, ⟨by omega, by omega, by omega, by omega⟩, for_range (lo := 1) (n := (c + 1 - 1).toNat)
        (fun j σ H2 => ∃ y7 ps, σ = [some (.int b), some (.int (Ln.turns b (i : Int) j (Ln.pre b cs i)).2), some (.ref a), some (.ref L), some (.ref B), some (.int (i : Nat)), some (.int c), y7] ∧ H2 L = some (.lst (ps.map V.ref)) ∧ Tups tv H2 ps (Ln.turns b (i : Int) j (Ln.pre b cs i)).1 ∧ H2 B = some (.lst ((Ln.behind b cs i).map V.int)) ∧ Same H H2)
        ⟨_, ps, rfl, smT _ _ eL, tu.new nT, smT _ _ eB, sm.trans smT⟩ (fun j σ H2 hj h => ?_) (fun σ H2 h => ?_)⟩
      · obtain ⟨y7, ps, rfl, eL, tu, eB, sm⟩ := h
        have zl : ps.length ≤ 1640 := by
          rw [tu.length, Ln.turns_len]
          have := Ln.pre_len (b := b) g4 i
          omega
        refine ⟨_, rfl, _, rfl, _, _, rfl, rfl, _, rfl, ite2 (fun h1 => ?_) (fun h1 => ?_)⟩
        · have hb1 : (Ln.turns b (i : Int) j (Ln.pre b cs i)).2 > b := of_decide_eq_true h1
          have es : Ln.turns b (i : Int) (j + 1) (Ln.pre b cs i) = ((Ln.turns b (i : Int) j (Ln.pre b cs i)).1 ++ [((i : Int), 1 + (j : Int), none)], (Ln.turns b (i : Int) j (Ln.pre b cs i)).2) := if_pos hb1
          refine ⟨.ref L, rfl, .inl ⟨rfl, _, SqL.of eL⟩, _, rfl, _, rfl, by show 3 ≤ sizeLine; decide, fun p np => ?_⟩
          have s3 := same_upd (o := .tup (tv ((i : Int), 1 + (j : Int), none))) np
          refine ⟨L, _, _, rfl, rfl, s3 _ _ eL, by rw [List.length_map]; exact small2000 (by omega), ?_⟩
          refine ⟨_, ps ++ [p], by rw [es]; rfl, by rw [upd_same, List.map_append]; rfl, ?_, ?_, fun b o e => ?_⟩
          · rw [es]
            exact ((tu.new np).snoc (x := ((i : Int), 1 + (j : Int), none)) upd_same).put (s3 _ _ eL)
          · rw [upd_ne hBL]
            exact s3 _ _ eB
          · rw [upd_ne (ne_of_none e nL)]
            exact s3 _ _ (sm _ _ e)
        · have hb1 : ¬ (Ln.turns b (i : Int) j (Ln.pre b cs i)).2 > b := fun z => h1 (decide_eq_true z)
          have es : Ln.turns b (i : Int) (j + 1) (Ln.pre b cs i) = ((Ln.turns b (i : Int) j (Ln.pre b cs i)).1 ++ [((i : Int), 1 + (j : Int), some (Ln.turns b (i : Int) j (Ln.pre b cs i)).2)], (Ln.turns b (i : Int) j (Ln.pre b cs i)).2 + 1) := if_neg hb1
          refine ⟨.ref L, rfl, .inl ⟨rfl, _, SqL.of eL⟩, _, rfl, _, rfl, _, rfl, by show 3 ≤ sizeLine; decide, fun p np => ?_⟩
          have s3 := same_upd (o := .tup (tv ((i : Int), 1 + (j : Int), some (Ln.turns b (i : Int) j (Ln.pre b cs i)).2))) np
          refine ⟨L, _, _, rfl, rfl, s3 _ _ eL, by rw [List.length_map]; exact small2000 (by omega), ?_⟩
          refine ⟨_, rfl, _, _, rfl, rfl, ?_⟩
          refine ⟨_, ps ++ [p], by rw [es]; rfl, by rw [upd_same, List.map_append]; rfl, ?_, ?_, fun b o e => ?_⟩
          · rw [es]
            exact ((tu.new np).snoc (x := ((i : Int), 1 + (j : Int), some (Ln.turns b (i : Int) j (Ln.pre b cs i)).2)) upd_same).put (s3 _ _ eL)
          · rw [upd_ne hBL]
            exact s3 _ _ eB
          · rw [upd_ne (ne_of_none e nL)]
            exact s3 _ _ (sm _ _ e)
      · obtain ⟨y7, ps, rfl, eL, tu, eB, sm⟩ := h
        have en : (c + 1 - 1).toNat = (cs.getD i 0).toNat := by
          rw [ec]
          omega
        rw [en] at tu ⊢
        refine ⟨fun σ' H3 => ∃ y7, σ' = [some (.int b), some (.int (Ln.pre b cs (i + 1)).2), some (.ref a), some (.ref L), some (.ref B), some (.int (i : Nat)), some (.int c), y7] ∧ H3 = H2, ?_, fun σ' H3 hm => ?_⟩
        · refine ⟨_, rfl, _, _, rfl, rfl, _, rfl, ite2 (fun h1 => ?_) (fun h1 => ?_)⟩
          · refine ⟨_, rfl, _, _, rfl, rfl, ?_⟩
            refine ⟨y7, ?_, rfl⟩
            have e : (Ln.pre b cs (i + 1)).2 = (Ln.turns b (i : Int) (cs.getD i 0).toNat (Ln.pre b cs i)).2 - 1 := if_pos (of_decide_eq_true h1)
            rw [e]
            rfl
          · refine ⟨y7, ?_, rfl⟩
            have e : (Ln.pre b cs (i + 1)).2 = (Ln.turns b (i : Int) (cs.getD i 0).toNat (Ln.pre b cs i)).2 := if_neg (fun z => h1 (decide_eq_true z))
            rw [e]
        · obtain ⟨y7, rfl, rfl⟩ := hm
          refine ⟨.ref B, rfl, .inl ⟨rfl, _, SqL.of eB⟩, _, rfl, B, _, _, rfl, rfl, eB, by rw [List.length_map, Ln.behind_len]; exact small1000 (by omega), ?_⟩
          refine ⟨_, _, _, ps, rfl, by rw [upd_ne hBL.symm]; exact eL, tu.put eB, ?_, fun b o e => ?_⟩
          · rw [upd_same]
            show _ = some (HO.lst ((Ln.behind b cs i ++ [(Ln.pre b cs (i + 1)).2]).map V.int))
            rw [List.map_append]
            rfl
          · rw [upd_ne (ne_of_none e hHB)]
            exact sm _ _ e
    · obtain ⟨y5, y6, y7, ps, rfl, eL, tu, eB, sm⟩ := h
      rw [List.length_map] at tu eB
      refine ⟨.ref L, rfl, .ref B, rfl, by show 2 ≤ sizeLine; decide, fun p np => ?_⟩
      have s3 := same_upd (o := .tup [.ref L, .ref B]) np
      exact q L B p ps _ (sm.trans s3) nL hHB hBL.symm (s3 _ _ eL) (tu.new np) (s3 _ _ eB) upd_same
def spLetters (K : PySem.W.Frag) : Sp := fun vs H Q _ => ∃ (a : Addr) (cs : List Int) (b k : Int), vs = [.int b, .ref a] ∧ SqT K H a (cs.map V.int) ∧ Rt k cs ∧ k ≤ 4 ∧ 0 ≤ b ∧
  ∀ L ps H', Same H H' → H L = none → H' L = some (.lst (ps.map V.ref)) → Tups tv H' ps (Ln.letts b cs) → Q (.ref L) H'
theorem ok_letters_of (T : Tx K mg) : FnOk P w K mg base CX0 2 T.a_letters_of T.d_letters_of ["bound", "comings"] (spLetters K) := by
  refine T.F_letters_of.ok sc_letters_of (fun vs H Q E h => ?_) (fun cdv A outer s H vs Q E hr h => ?_)
  · obtain ⟨a, cs, b, k, rfl, _⟩ := h
    rfl
  · obtain ⟨a, cs, b, k, rfl, hT, g, hk, hb, q⟩ := h
    refine ⟨_, ((pss_cons (ps_asg (pe_call (ok_follow_line T) (hr.mono (by decide)) (by rfl) T.g_follow_line T.F_follow_line.kp T.b_follow_line .nil pass0 (pa_cons (pv 0) (pa_cons pe_int (pa_cons (pv 1) pa_nil)))) (pg_tup rfl (pgs_cons (pg_name (i := 2) sc_letters_of.nd rfl (.inl rfl)) (pgs_cons (pg_name (i := 3) sc_letters_of.nd rfl (.inl rfl)) pgs_nil))))
  (pss_one (ps_ret (pv 2))))), ?_⟩
    refine ⟨.int b, rfl, .ref a, rfl, a, cs, b, k, rfl, hT, g, hk, hb, fun L B p ps H' sm nL nB hLB eL tu eB ep => ?_⟩
    refine ⟨p, _, rfl, SqT.of ep, rfl, _, [_], rfl, _, [], rfl, rfl, ?_⟩
    exact ⟨.ref L, rfl, q L ps H' sm nL eL tu⟩
end

theorem cut1 (xs : List V) : cutV xs (some 1) none = xs.drop 1 := by
  unfold cutV
  rw [show HT.sIx xs.length 0 (some 1) = min 1 xs.length from HT.sIx_nat xs.length 0 1, HT.sIx_none]
  cases xs with
  | nil => rfl
  | cons x r =>
    rw [show min 1 (x :: r).length = 1 by
      rw [List.length_cons]
      omega]
    show (List.take ((x :: r).length - 1) r) = r
    rw [List.length_cons, Nat.add_sub_cancel]
    exact List.take_length
theorem Tups.at {α : Type} {f : α → List V} {H : Hp} {ps : List Addr} {xs : List α} (h : Tups f H ps xs) : ∀ {i : Nat} {x : α}, xs[i]? = some x → ∃ p, (ps.map V.ref)[i]? = some (.ref p) ∧ H p = some (.tup (f x)) := by
  induction h with
  | nil =>
    intro i x h
    simp at h
  | cons a _ ih =>
    intro i x h
    cases i with
    | zero =>
      simp at h
      subst h
      exact ⟨_, rfl, a⟩
    | succ i =>
      simp only [List.map_cons, List.getElem?_cons_succ] at h ⊢
      exact ih h

/-! ### spots and walks -/
def spotB (k b : Int) (s : Wk.Spt) : Bool := decide (0 ≤ s.1) && decide (s.1 ≤ b) && (decide (1 ≤ s.2) && decide (s.2 ≤ k)) && decide (s.1 ≥ s.2 - 1)
theorem spotB_iff {k b : Int} {s : Wk.Spt} : spotB k b s = true ↔ Wk.Spot k b s := by
  unfold spotB Wk.Spot
  simp only [Bool.and_eq_true, decide_eq_true_eq]
  omega
theorem two_eq (a b : Int × Int) : PyData.eqv (dI [a.1, a.2]) (dI [b.1, b.2]) = decide (a = b) := by
  rw [eqvI]
  refine decide_eq_decide.mpr ⟨fun h => ?_, fun h => by rw [h]⟩
  simp at h
  exact Prod.ext h.1 h.2
section
variable {P : Program} {w : World} {K : PySem.W.Frag} {mg : Str → Option Value} {base : Heap}
def spAreInts (K : PySem.W.Frag) : Sp := fun vs H Q _ => ∃ (p : Addr) (ns : List Int) (m : Int), vs = [.ref p, .int m] ∧ SqT K H p (ns.map V.int) ∧ (ns.length : Int) = m ∧ ns.length ≤ 1000 ∧ ∀ H', Same H H' → Q (.bl true) H'
theorem ok_are_integers (T : Tx K mg) : FnOk P w K mg base CX0 2 T.a_are_integers T.d_are_integers ["thing", "many"] (spAreInts K) := by
  refine T.F_are_integers.ok sc_are_integers (fun vs H Q E h => ?_) (fun cdv A outer s H vs Q E hr h => ?_)
  · obtain ⟨p, ns, m, rfl, _⟩ := h
    rfl
  · obtain ⟨p, ns, m, rfl, hT, hm, hlen, q⟩ := h
    refine ⟨_, ((pss_one (ps_ret (pe_and (pe_callB call_isi (by rfl) T.m_isinstance (by decide +kernel) (pa_cons (pv 0) (pa_cons (pe_bltn (v := .ty "tuple") (by rfl) T.m_tuple (by decide +kernel) rfl) pa_nil))) (pe_and (pe_cmpR op_eq (pe_callB call_len_seq (by rfl) T.m_len PySem.boot_len (pa_cons (pv 0) pa_nil)) (pv 1) (nomark _)) (pe_one (pe_callB (cr_all rfl) (by rfl) T.m_all (by decide +kernel) (pa_cons (pe_lc (own := [("item", 2)]) (g := (gName 2)) (tt := tYes) rfl sc_are_integers.nd (pi_tup (pv 0)) (blkOk_by (own := [("item", 2)]) (N := ["thing", "many", "item"]) (sc := defScope s_are_integers) (by decide +kernel)) (fun _ _ _ _ _ => pg_name (i := 2) sc_are_integers.nd rfl (.inl rfl)) (fun _ _ _ _ _ => pts_nil) (fun _ _ _ _ _ => (pe_call (ok_is_integer T) (hr.mono (by decide)) (by rfl) T.g_is_integer T.F_is_integer.kp T.b_is_integer .nil pass0 (pa_cons (pv 2) pa_nil)))) pa_nil)))))))), ?_⟩
    refine ⟨.ref p, rfl, .ref p, .ty "tuple", _, _, true, rfl, .ty _, tyTup hT, kit_ty (by decide +kernel), true, rfl, iteT ?_⟩
    refine ⟨.ref p, rfl, p, _, rfl, .inr hT, .int m, rfl, rfl, true, ?_, iteT ?_⟩
    · rw [List.length_map, decide_eq_true (congrArg V.int hm)]
    · refine ⟨.ref p, rfl, p, rfl, ⟨_, hT⟩, fun D hD => lc_tup (K := K) (a := p) (xs := ns.map V.int)
        (fun i H' => Same H H' ∧ H' D = some (.lst ((List.replicate i true).map V.bl)))
        ⟨same_upd hD, upd_same⟩ (fun i H' _ h => sT h.1 hT) (fun i x H' hx h => ?_) (fun H' h => ?_)⟩
      · obtain ⟨sm, eD⟩ := h
        rw [List.getElem?_map] at hx
        obtain ⟨n, hn, rfl⟩ := Option.map_eq_some_iff.mp hx
        have hi : i < ns.length := (List.getElem?_eq_some_iff.mp hn).1
        refine ⟨rfl, ?_⟩
        refine ⟨.int n, rfl, n, rfl, _, eD, by rw [List.length_map, List.length_replicate]; exact small1000 (by omega), same_put sm hD, ?_⟩
        rw [upd_same, List.replicate_succ', List.map_append]
        rfl
      · obtain ⟨sm, eD⟩ := h
        rw [List.length_map] at eD
        refine ⟨D, _, rfl, SqL.of eD, ?_⟩
        have e : (List.replicate ns.length true).all id = true := by
          rw [List.all_eq_true]
          intro x hx
          rw [(List.mem_replicate.mp hx).2]
          rfl
        rw [e]
        exact q H' sm
def spIsSpot (K : PySem.W.Frag) : Sp := fun vs H Q _ => ∃ (k b : Int) (p : Addr) (s : Wk.Spt), vs = [.int k, .int b, .ref p] ∧ SqT K H p (pv2 s) ∧ ∀ H', Same H H' → Q (.bl (spotB k b s)) H'
theorem ok_is_spot (T : Tx K mg) : FnOk P w K mg base CX0 3 T.a_is_spot T.d_is_spot ["comers", "bound", "thing"] (spIsSpot K) := by
  refine T.F_is_spot.ok sc_is_spot (fun vs H Q E h => ?_) (fun cdv A outer s H vs Q E hr h => ?_)
  · obtain ⟨k, b, p, s, rfl, _⟩ := h
    rfl
  · obtain ⟨k, b, p, ⟨wt, tu⟩, rfl, hT, q⟩ := h
    refine ⟨_, ((pss_cons (ps_if (pt_not (pt_val (pe_call (ok_are_integers T) (hr.mono (by decide)) (by rfl) T.g_are_integers T.F_are_integers.kp T.b_are_integers .nil pass0 (pa_cons (pv 2) (pa_cons pe_int pa_nil))))) (pss_one (ps_ret pe_bl)) pss_nil)
  (pss_cons (ps_asg (pv 2) (pg_tup rfl (pgs_cons (pg_name (i := 3) sc_is_spot.nd rfl (.inl rfl)) (pgs_cons (pg_name (i := 4) sc_is_spot.nd rfl (.inl rfl)) pgs_nil))))
  (pss_one (ps_ret (pe_and (pe_chain op_le op_le pe_int (pv 3) (pv 1)) (pe_and (pe_chain op_le op_le pe_int (pv 4) (pv 0)) (pe_one (pe_cmpR op_ge (pv 3) (pe_op op_sub (pv 4) pe_int) (nomark _)))))))))), ?_⟩
    refine ⟨.ref p, rfl, p, [wt, tu], 2, rfl, hT, rfl, by show 2 ≤ 1000; decide, fun H1 s1 => ⟨true, rfl, iteF ?_⟩⟩
    refine ⟨.ref p, rfl, p, _, rfl, sT s1 hT, rfl, _, [_], rfl, _, [], rfl, rfl, ?_⟩
    have qq := q H1 s1
    unfold spotB at qq
    refine ⟨.int wt, rfl, 0, wt, rfl, rfl, ?_⟩
    by_cases c1 : 0 ≤ wt
    · rw [show decide (0 ≤ ((wt, tu) : Wk.Spt).1) = true from decide_eq_true c1] at qq
      refine ⟨true, congrArg V.bl (decide_eq_true c1), iteT ⟨.int b, rfl, wt, b, rfl, rfl, ?_⟩⟩
      by_cases c2 : wt ≤ b
      · rw [show decide (((wt, tu) : Wk.Spt).1 ≤ b) = true from decide_eq_true c2] at qq
        refine ⟨true, congrArg V.bl (decide_eq_true c2), iteT ?_⟩
        refine ⟨.int tu, rfl, 1, tu, rfl, rfl, ?_⟩
        by_cases c3 : 1 ≤ tu
        · rw [show decide (1 ≤ ((wt, tu) : Wk.Spt).2) = true from decide_eq_true c3] at qq
          refine ⟨true, congrArg V.bl (decide_eq_true c3), iteT ⟨.int k, rfl, tu, k, rfl, rfl, ?_⟩⟩
          by_cases c4 : tu ≤ k
          · rw [show decide (((wt, tu) : Wk.Spt).2 ≤ k) = true from decide_eq_true c4] at qq
            refine ⟨true, congrArg V.bl (decide_eq_true c4), iteT ?_⟩
            exact ⟨.int wt, rfl, .int tu, rfl, _, _, rfl, rfl, _, _, rfl, rfl, qq⟩
          · rw [show decide (((wt, tu) : Wk.Spt).2 ≤ k) = false from decide_eq_false c4] at qq
            exact ⟨false, congrArg V.bl (decide_eq_false c4), iteF qq⟩
        · rw [show decide (1 ≤ ((wt, tu) : Wk.Spt).2) = false from decide_eq_false c3] at qq
          exact ⟨false, congrArg V.bl (decide_eq_false c3), iteF ⟨false, rfl, iteF qq⟩⟩
      · rw [show decide (((wt, tu) : Wk.Spt).1 ≤ b) = false from decide_eq_false c2] at qq
        exact ⟨false, congrArg V.bl (decide_eq_false c2), iteF qq⟩
    · rw [show decide (0 ≤ ((wt, tu) : Wk.Spt).1) = false from decide_eq_false c1] at qq
      exact ⟨false, congrArg V.bl (decide_eq_false c1), iteF ⟨false, rfl, iteF qq⟩⟩
def spIsNext (K : PySem.W.Frag) : Sp := fun vs H Q _ => ∃ (k b : Int) (p o : Addr) (s t : Wk.Spt), vs = [.int k, .int b, .ref p, .ref o] ∧ SqT K H p (pv2 s) ∧ SqT K H o (pv2 t) ∧ Wk.Nx k b s t ∧ ∀ H', Same H H' → Q (.bl true) H'
theorem ok_is_next (T : Tx K mg) : FnOk P w K mg base CX0 4 T.a_is_next T.d_is_next ["comers", "bound", "spot", "other"] (spIsNext K) := by
  refine T.F_is_next.ok sc_is_next (fun vs H Q E h => ?_) (fun cdv A outer s H vs Q E hr h => ?_)
  · obtain ⟨k, b, p, o, s, t, rfl, _⟩ := h
    rfl
  · obtain ⟨k, b, p, o, ⟨wt, tu⟩, ⟨wo, to⟩, rfl, hP, hO, nx, q⟩ := h
    refine ⟨_, ((pss_cons (ps_if (pt_not (pt_val (pe_call (ok_is_spot T) (hr.mono (by decide)) (by rfl) T.g_is_spot T.F_is_spot.kp T.b_is_spot .nil pass0 (pa_cons (pv 0) (pa_cons (pv 1) (pa_cons (pv 3) pa_nil)))))) (pss_one (ps_ret pe_bl)) pss_nil)
  (pss_cons (ps_asg (pv 2) (pg_tup rfl (pgs_cons (pg_name (i := 4) sc_is_next.nd rfl (.inl rfl)) (pgs_cons (pg_name (i := 5) sc_is_next.nd rfl (.inl rfl)) pgs_nil))))
  (pss_one (ps_ret (pe_or (pe_cmpR (op_eqD hr.units) (pv 3) (pe_tup (pa_cons (pe_op op_add (pv 4) pe_int) (pa_cons (pe_op op_add (pv 5) pe_int) pa_nil))) (nomark _)) (pe_one (pe_and (pe_cmpR op_eq (pe_ix ix_tup (pv 3) pe_int (fun _ _ => rfl)) pe_int (nomark _)) (pe_one (pe_cmpR op_le (pe_ix ix_tup (pv 3) pe_int (fun _ _ => rfl)) (pv 4) (nomark _))))))))))), ?_⟩
    have sb := spotB_iff.mpr nx.1
    refine ⟨.int k, rfl, .int b, rfl, .ref o, rfl, k, b, o, (wo, to), rfl, hO, fun H1 s1 => ⟨true, congrArg V.bl sb, iteF ?_⟩⟩
    refine ⟨.ref p, rfl, p, _, rfl, sT s1 hP, rfl, _, [_], rfl, _, [], rfl, rfl, ?_⟩
    refine ⟨.ref o, rfl, .int wt, rfl, _, _, rfl, rfl, .int tu, rfl, _, _, rfl, rfl, by show 2 ≤ sizeLine; decide, fun c nc => ?_⟩
    have s2 := same_upd (o := .tup [.int (wt + 1), .int (tu + 1)]) nc
    have s12 := s1.trans s2
    refine ⟨dI [wo, to], dI [wt + 1, tu + 1], dp_dI (sT s12 hO), dp_dI (SqT.of upd_same), (Shp.dI _).ok (by decide), (Shp.dI _).ok (by decide), ?_⟩
    have e2 := two_eq (wo, to) (wt + 1, tu + 1)
    by_cases c : ((wo, to) : Int × Int) = (wt + 1, tu + 1)
    · rw [decide_eq_true c] at e2
      refine ⟨true, congrArg V.bl e2, iteT ?_⟩
      exact q _ s12
    · rw [decide_eq_false c] at e2
      refine ⟨false, congrArg V.bl e2, iteF ?_⟩
      obtain ⟨h1, h2⟩ : to = 1 ∧ wo ≤ wt := by
        rcases nx.2 with e | ⟨e1, e2⟩
        · exact absurd e c
        · exact ⟨e1, e2⟩
      refine ⟨.ref o, rfl, o, _, 1, _, rfl, rfl, sT s12 hO, atI_nat (j := 1) rfl, rfl, true, congrArg V.bl (decide_eq_true (congrArg V.int h1)), iteT ?_⟩
      refine ⟨.ref o, rfl, o, _, 0, _, rfl, rfl, sT s12 hO, atI_nat (j := 0) rfl, .int wt, rfl, _, _, rfl, rfl, ?_⟩
      have qq := q _ s12
      rw [← decide_eq_true h2] at qq
      exact qq
def spIsWalk (K : PySem.W.Frag) : Sp := fun vs H Q _ => ∃ (k b : Int) (L : Addr) (ps : List Addr) (row : List Wk.Spt), vs = [.int k, .int b, .ref L] ∧ H L = some (.lst (ps.map V.ref)) ∧ Tups pv2 H ps row ∧ Wk.Walk k b row ∧ row.length ≤ 60 ∧ ∀ H', Same H H' → Q (.bl true) H'
theorem chain_at {k b : Int} : ∀ (r : List Wk.Spt) (s : Wk.Spt) (i : Nat) (x y : Wk.Spt), Wk.Chain k b s r → (s :: r)[i]? = some x → (s :: r)[i + 1]? = some y → Wk.Nx k b x y
  | [], s, i, x, y, _, _, h => by simp at h
  | o :: r, s, 0, x, y, hc, h1, h2 => by
    simp at h1 h2
    subst h1 h2
    exact hc.1
  | o :: r, s, i + 1, x, y, hc, h1, h2 => chain_at r o i x y hc.2 h1 h2
theorem walk_at {k b : Int} {row : List Wk.Spt} (h : Wk.Walk k b row) {i : Nat} {x y : Wk.Spt} (h1 : row[i]? = some x) (h2 : row[i + 1]? = some y) : Wk.Nx k b x y := by
  cases row with
  | nil => exact False.elim h
  | cons s r => exact chain_at r s i x y h.2.2 h1 h2
theorem ok_is_walk (T : Tx K mg) : FnOk P w K mg base CX0 5 T.a_is_walk T.d_is_walk ["comers", "bound", "thing"] (spIsWalk K) := by
  refine T.F_is_walk.ok sc_is_walk (fun vs H Q E h => ?_) (fun cdv A outer s H vs Q E hr h => ?_)
  · obtain ⟨k, b, L, ps, row, rfl, _⟩ := h
    rfl
  · obtain ⟨k, b, L, ps, row, rfl, eL, tu, hw, h60, q⟩ := h
    have hne : row ≠ [] := fun e => by
      rw [e] at hw
      exact hw
    have hl1 : 1 ≤ row.length := by
      cases row with
      | nil => exact absurd rfl hne
      | cons _ _ => rw [List.length_cons]; omega
    refine ⟨_, ((pss_cons (ps_if (PW.pt (pw_or (pt_not (pt_val (pe_callB call_isiT (by rfl) T.m_isinstance (by decide +kernel) (pa_cons (pv 2) (pa_cons (pe_tup (pa_cons (pe_bltn (v := .ty "list") (by rfl) T.m_list (by decide +kernel) rfl) (pa_cons (pe_bltn (v := .ty "tuple") (by rfl) T.m_tuple (by decide +kernel) rfl) pa_nil))) pa_nil))))) (pw_or1 (pt_cmpR op_eq (pe_callB call_len_seq (by rfl) T.m_len PySem.boot_len (pa_cons (pv 2) pa_nil)) pe_int (nomark _))))) (pss_one (ps_ret pe_bl)) pss_nil)
  (pss_cons (ps_set (i := 3) sc_is_walk.nd rfl (.inl rfl) (pe_ix ix_list (pv 2) pe_int (fun _ _ => rfl)))
  (pss_cons (ps_if (PW.pt (pw_or (pt_not (pt_val (pe_call (ok_is_spot T) (hr.mono (by decide)) (by rfl) T.g_is_spot T.F_is_spot.kp T.b_is_spot .nil pass0 (pa_cons (pv 0) (pa_cons (pv 1) (pa_cons (pv 3) pa_nil)))))) (pw_or1 (pt_cmpR op_ne (pe_ix ix_tup (pv 3) pe_int (fun _ _ => rfl)) pe_int (nomark _))))) (pss_one (ps_ret pe_bl)) pss_nil)
  (pss_cons (ps_for PassesOwn.never rfl (pi_range2 (by rfl) T.m_range (pa_cons pe_int (pa_cons (pe_callB call_len_seq (by rfl) T.m_len PySem.boot_len (pa_cons (pv 2) pa_nil)) pa_nil))) (pg_name (i := 4) sc_is_walk.nd rfl (.inl rfl))
   (pss_one (ps_if (pt_not (pt_val (pe_call (ok_is_next T) (hr.mono (by decide)) (by rfl) T.g_is_next T.F_is_next.kp T.b_is_next .nil pass0 (pa_cons (pv 0) (pa_cons (pv 1) (pa_cons (pe_ix ix_list (pv 2) (pe_op op_sub (pv 4) pe_int) (fun _ _ => rfl)) (pa_cons (pe_ix ix_list (pv 2) (pv 4) (fun _ _ => rfl)) pa_nil))))))) (pss_one (ps_ret pe_bl)) pss_nil)))
  (pss_one (ps_ret pe_bl))))))), ?_⟩
    refine ⟨.ref L, rfl, by show 2 ≤ sizeLine; decide, fun tp ntp => ?_⟩
    have s1 := same_upd (o := .tup [V.ty "list", .ty "tuple"]) ntp
    refine ⟨.ref L, tp, _, _, [.type "list", .type "tuple"], true, rfl, upd_same, .cons (.ty _) (.cons (.ty _) .nil), .base (.lst (s1 _ _ eL)), kitAny_cons (kit_ty (r := true) (by decide +kernel)) (fun h => by cases h) (fun _ => rfl), true, rfl, iteF ?_⟩
    refine ⟨.ref L, rfl, L, _, rfl, .inl (SqL.of (s1 _ _ eL)), rfl, false, ?_, iteF ?_⟩
    · rw [List.length_map, tu.length, decide_eq_false (fun z => by
        have := V.int.inj z
        omega)]
    · obtain ⟨s0, hs0⟩ : ∃ s0, row[0]? = some s0 := ⟨_, List.getElem?_eq_getElem (by omega)⟩
      obtain ⟨p0, hp0, e0⟩ := tu.at hs0
      have hsp : Wk.Spot k b s0 ∧ s0.2 = 1 := by
        cases row with
        | nil => exact absurd rfl hne
        | cons s r =>
          simp at hs0
          subst hs0
          exact ⟨hw.1, hw.2.1⟩
      refine ⟨.ref L, rfl, L, _, 0, .ref p0, rfl, rfl, SqL.of (s1 _ _ eL), atI_nat (j := 0) hp0, ?_⟩
      have sb := spotB_iff.mpr hsp.1
      refine ⟨.int k, rfl, .int b, rfl, .ref p0, rfl, k, b, p0, s0, rfl, SqT.of (s1 _ _ e0), fun H2 s2 => ⟨true, congrArg V.bl sb, iteF ?_⟩⟩
      have s12 := s1.trans s2
      refine ⟨.ref p0, rfl, p0, _, 1, _, rfl, rfl, SqT.of (s12 _ _ e0), atI_nat (j := 1) rfl, rfl, false, ne_no hsp.2, iteF ?_⟩
      refine ⟨.ref L, rfl, L, _, rfl, .inl (SqL.of (s12 _ _ eL)), 1, _, rfl, ⟨by omega, by omega, by omega, by rw [List.length_map, tu.length]; omega⟩, for_range (lo := 1) (n := ((((ps.map V.ref).length : Nat) : Int) - 1).toNat)
        (fun i σ H' => ∃ (y4 : Option V), σ = [some (.int k), some (.int b), some (.ref L), some (.ref p0), y4] ∧ Same H H') ⟨_, rfl, s12⟩ (fun i σ H' hi h => ?_) (fun σ H' h => ?_)⟩
      · obtain ⟨y4, rfl, sm⟩ := h
        rw [List.length_map, tu.length] at hi
        have hi' : i + 1 < row.length := by omega
        obtain ⟨x, hx⟩ : ∃ x, row[i]? = some x := ⟨_, List.getElem?_eq_getElem (by omega)⟩
        obtain ⟨y, hy⟩ : ∃ y, row[i + 1]? = some y := ⟨_, List.getElem?_eq_getElem hi'⟩
        obtain ⟨px, hpx, ex⟩ := tu.at hx
        obtain ⟨py, hpy, ey⟩ := tu.at hy
        refine ⟨.int k, rfl, .int b, rfl, .ref L, rfl, .int (1 + (i : Int)), rfl, _, _, rfl, rfl, L, _, _, .ref px, rfl, rfl, SqL.of (sm _ _ eL), atI_of (by show (0 : Int) ≤ 1 + (i : Int) - 1; omega) (by rw [show ((1 : Int) + (i : Int) - 1).toNat = i by omega]; exact hpx),
          .ref L, rfl, .int (1 + (i : Int)), rfl, L, _, _, .ref py, rfl, rfl, SqL.of (sm _ _ eL), atI_of (by omega) (by rw [show ((1 : Int) + (i : Int)).toNat = i + 1 by omega]; exact hpy), k, b, px, py, x, y, rfl, SqT.of (sm _ _ ex), SqT.of (sm _ _ ey), walk_at hw hx hy, fun H3 s3 => ⟨true, rfl, iteF ?_⟩⟩
        exact ⟨_, rfl, sm.trans s3⟩
      · obtain ⟨y4, rfl, sm⟩ := h
        exact q H' sm
def spComFor (K : PySem.W.Frag) : Sp := fun vs H Q _ => ∃ (k b : Int) (L : Addr) (ps : List Addr) (row : List Wk.Spt), vs = [.int k, .int b, .ref L] ∧ H L = some (.lst (ps.map V.ref)) ∧ Tups pv2 H ps row ∧ Wk.Walk k b row ∧ row.length ≤ 60 ∧ 2 ≤ k ∧ k ≤ 4 ∧ 1 ≤ b ∧ b ≤ 60 ∧
  ∀ p c H', Same H H' → H' p = some (.tup [.ref c, .int (2 * (row.headD (0, 0)).1)]) → H' c = some (.tup ((Wk.cf row).map V.int)) → Q (.ref p) H'
/-- the comings behind so many spots -/
def cfN (row : List Wk.Spt) : Nat → List Int
  | 0 => Wk.start (row.headD (0, 0)).1
  | i + 1 => Wk.grow (cfN row i) (row.getD i (0, 0)) (row.getD (i + 1) (0, 0))
theorem cfN_go : ∀ (r : List Wk.Spt) (row : List Wk.Spt) (i : Nat) (s : Wk.Spt), row.drop i = s :: r → Wk.cfGo (cfN row i) s r = cfN row (i + r.length)
  | [], row, i, s, _ => rfl
  | o :: r, row, i, s, h => by
    have h1 : row.getD i (0, 0) = s := by
      rw [List.getD_eq_getElem?_getD, ← List.head?_drop, h]
      rfl
    have h2 : row.drop (i + 1) = o :: r := by
      rw [← List.tail_drop, h]
      rfl
    have h3 : row.getD (i + 1) (0, 0) = o := by
      rw [List.getD_eq_getElem?_getD, ← List.head?_drop, h2]
      rfl
    show Wk.cfGo (Wk.grow (cfN row i) s o) o r = _
    have e : Wk.grow (cfN row i) s o = cfN row (i + 1) := by
      show _ = Wk.grow (cfN row i) (row.getD i (0, 0)) (row.getD (i + 1) (0, 0))
      rw [h1, h3]
    rw [e, cfN_go r row (i + 1) o h2, List.length_cons]
    congr 1
    omega
theorem cfN_all {row : List Wk.Spt} (h : row ≠ []) : cfN row (row.length - 1) = Wk.cf row := by
  cases row with
  | nil => exact absurd rfl h
  | cons s r =>
    have := cfN_go r (s :: r) 0 s rfl
    rw [Nat.zero_add] at this
    rw [List.length_cons, Nat.add_sub_cancel, ← this]
    rfl
theorem grow_len (cs : List Int) {s o : Wk.Spt} (hs : s.1 ≤ 60) (ho : 0 ≤ o.1) : (Wk.grow cs s o).length ≤ cs.length + 61 := by
  unfold Wk.grow
  split
  · have : ∀ l : List Int, (Wk.incL l).length = l.length := by
      intro l
      induction l with
      | nil => rfl
      | cons x l ih =>
        cases l with
        | nil => rfl
        | cons y l => show (Wk.incL (y :: l)).length + 1 = _; rw [ih]; rfl
    rw [this]
    omega
  · rw [List.length_append, List.length_append, List.length_replicate]
    show cs.length + ((s.1 - o.1).toNat + 1) ≤ _
    omega
theorem last_split {cs : List Int} (h : cs ≠ []) : ∃ ds x, cs = ds ++ [x] := ⟨cs.dropLast, cs.getLast h, (List.dropLast_concat_getLast h).symm⟩
theorem grow_ne (cs : List Int) (s o : Wk.Spt) (h : cs ≠ []) : Wk.grow cs s o ≠ [] := by
  obtain ⟨ds, x, rfl⟩ := last_split h
  unfold Wk.grow
  split
  · rw [Wk.incL_snoc]
    simp
  · simp
theorem cfN_ne (row : List Wk.Spt) : ∀ i, cfN row i ≠ []
  | 0 => by
    show Wk.start _ ≠ []
    unfold Wk.start
    simp
  | i + 1 => grow_ne _ _ _ (cfN_ne row i)
theorem walk_rng {k b : Int} : ∀ (r : List Wk.Spt) (s : Wk.Spt), Wk.Spot k b s → Wk.Chain k b s r → ∀ x ∈ s :: r, Wk.Spot k b x
  | [], s, hs, _, x, hx => by
    rw [List.mem_singleton.mp hx]
    exact hs
  | o :: r, s, hs, hc, x, hx => by
    rcases List.mem_cons.mp hx with e | hx
    · rw [e]
      exact hs
    · exact walk_rng r o hc.1.1 hc.2 x hx
theorem walk_spots {k b : Int} {row : List Wk.Spt} (h : Wk.Walk k b row) : ∀ x ∈ row, Wk.Spot k b x := by
  cases row with
  | nil => exact False.elim h
  | cons s r => exact walk_rng r s h.1 h.2.2
theorem cfN_len {k b : Int} {row : List Wk.Spt} (h : Wk.Walk k b row) (hb : b ≤ 60) : ∀ i, i < row.length → (cfN row i).length ≤ 61 * (i + 1)
  | 0, hi => by
    have hs : (row.headD (0, 0)).1 ≤ 60 := by
      cases row with
      | nil => exact False.elim h
      | cons s r => have := h.1.2.1; show s.1 ≤ 60; omega
    have e : (cfN row 0).length = (row.headD (0, 0)).1.toNat + 1 := by
      show (List.replicate (row.headD (0, 0)).1.toNat (2 : Int) ++ [(1 : Int)]).length = _
      rw [List.length_append, List.length_replicate]
      rfl
    rw [e]
    omega
  | i + 1, hi => by
    have ih := cfN_len h hb i (by omega)
    have h1 : row.getD i (0, 0) ∈ row := by
      rw [List.getD_eq_getElem?_getD, List.getElem?_eq_getElem (by omega)]
      exact List.getElem_mem _
    have h2 : row.getD (i + 1) (0, 0) ∈ row := by
      rw [List.getD_eq_getElem?_getD, List.getElem?_eq_getElem (by omega)]
      exact List.getElem_mem _
    have s1 := walk_spots h _ h1
    have s2 := walk_spots h _ h2
    have := grow_len (cfN row i) (s := row.getD i (0, 0)) (o := row.getD (i + 1) (0, 0)) (by have := s1.2.1; omega) s2.1
    show (Wk.grow _ _ _).length ≤ _
    omega
theorem set_last {ds : List Int} {x y : Int} : ((ds ++ [x]).map V.int).set ds.length (V.int y) = (ds ++ [y]).map V.int := by
  rw [List.map_append, List.map_append]
  have : ds.length = (ds.map V.int).length := by rw [List.length_map]
  rw [this]
  simp
theorem ok_comings_for (T : Tx K mg) : FnOk P w K mg base CX0 6 T.a_comings_for T.d_comings_for ["comers", "bound", "row"] (spComFor K) := by
  refine T.F_comings_for.ok sc_comings_for (fun vs H Q E h => ?_) (fun cdv A outer s H vs Q E hr h => ?_)
  · obtain ⟨k, b, L, ps, row, rfl, _⟩ := h
    rfl
  · obtain ⟨k, b, L, ps, row, rfl, eL, tu, hw, h60, hk2, hk4, hb1, hb60, q⟩ := h
    have hne : row ≠ [] := fun e => by
      rw [e] at hw
      exact hw
    obtain ⟨s0, r0, rfl⟩ : ∃ s0 r0, row = s0 :: r0 := by
      cases row with
      | nil => exact absurd rfl hne
      | cons s r => exact ⟨s, r, rfl⟩
    have hs0 := hw.1
    have hs01 := hs0.1
    have hs02 := hs0.2.1
    obtain ⟨p0, hp0, e0⟩ := tu.at (i := 0) (x := s0) rfl
    have el : ps.length = r0.length + 1 := tu.length
    refine ⟨_, ((pss_cons (ps_expr (pe_call (ok_check_comers T) (hr.mono (by decide)) (by rfl) T.g_check_comers T.F_check_comers.kp T.b_check_comers .nil pass0 (pa_cons (pv 0) pa_nil)))
  (pss_cons (ps_expr (pe_call (ok_check_bound T) (hr.mono (by decide)) (by rfl) T.g_check_bound T.F_check_bound.kp T.b_check_bound .nil pass0 (pa_cons (pv 1) pa_nil)))
  (pss_cons (ps_if (PW.pt (pw_or (pt_not (pt_val (pe_call (ok_is_walk T) (hr.mono (by decide)) (by rfl) T.g_is_walk T.F_is_walk.kp T.b_is_walk .nil pass0 (pa_cons (pv 0) (pa_cons (pv 1) (pa_cons (pv 2) pa_nil)))))) (pw_or1 (pt_cmpR op_gt (pe_callB call_len_seq (by rfl) T.m_len PySem.boot_len (pa_cons (pv 2) pa_nil)) (pe_glob (v := .int 60) rfl T.g_MOST_SPOTS ⟨_, rfl⟩) (nomark _))))) (pss_one ps_never) pss_nil)
  (pss_cons (ps_set (i := 3) sc_comings_for.nd rfl (.inl rfl) (pe_ix ix_tup (pe_ix ix_list (pv 2) pe_int (fun _ _ => rfl)) pe_int (fun _ _ => rfl)))
  (pss_cons (ps_set (i := 4) sc_comings_for.nd rfl (.inl rfl) (pe_op op_cat (pe_op op_rep (pe_lst (pa_cons pe_int pa_nil)) (pv 3)) (pe_lst (pa_cons pe_int pa_nil))))
  (pss_cons (ps_for PassesOwn.never rfl (pi_zip (by rfl) T.m_zip (pa_cons (pv 2) (pa_cons (pe_slice sl_list (pv 2) (po_some pe_int) po_none) pa_nil))) (pg_tup rfl (pgs_cons (pg_tup rfl (pgs_cons (pg_name (i := 5) sc_comings_for.nd rfl (.inl rfl)) (pgs_cons (pg_name (i := 6) sc_comings_for.nd rfl (.inl rfl)) pgs_nil))) (pgs_cons (pg_tup rfl (pgs_cons (pg_name (i := 7) sc_comings_for.nd rfl (.inl rfl)) (pgs_cons (pg_name (i := 8) sc_comings_for.nd rfl (.inl rfl)) pgs_nil))) pgs_nil)))
   (pss_one (ps_if (pt_cmpR op_gt (pv 8) pe_int (nomark _)) (pss_one (ps_augS (pv 4) (pe_un un_neg pe_int) pgetL pe_int ip_add set_list)) (pss_one (ps_expr (pe_bm PySem.F.plainAttrs_list PySem.F.slot_list_extend PySem.F.type_list_extend mt_extend (pv 4) (pa_cons (pe_op op_cat (pe_op op_rep (pe_lst (pa_cons pe_int pa_nil)) (pe_op op_sub (pv 5) (pv 7))) (pe_lst (pa_cons pe_int pa_nil))) pa_nil)))))))
  (pss_one (ps_ret (pe_tup (pa_cons (pe_callTy call_tuple_of (by rfl) T.m_tuple (by decide +kernel) (pa_cons (pv 4) pa_nil)) (pa_cons (pe_op op_mul pe_int (pv 3)) pa_nil)))))))))))), ?_⟩
    refine ⟨.int k, rfl, k, rfl, hk2, hk4, ?_⟩
    refine ⟨.int b, rfl, b, rfl, hb1, hb60, ?_⟩
    refine ⟨.int k, rfl, .int b, rfl, .ref L, rfl, k, b, L, ps, _, rfl, eL, tu, hw, h60, fun H1 s1 => ⟨true, rfl, iteF ?_⟩⟩
    refine ⟨.ref L, rfl, L, _, rfl, .inl (SqL.of (s1 _ _ eL)), _, _, rfl, rfl, false, ?_, iteF ?_⟩
    · rw [List.length_map]
      exact congrArg V.bl (decide_eq_false (by
        rw [List.length_cons] at h60
        omega))
    refine ⟨.ref L, rfl, L, _, 0, .ref p0, rfl, rfl, SqL.of (s1 _ _ eL), atI_nat (j := 0) hp0, p0, _, 0, _, rfl, rfl, SqT.of (s1 _ _ e0), atI_nat (j := 0) rfl, ?_⟩
    -- comings = [2] * start + [1]
    refine ⟨by show 1 ≤ sizeLine; decide, fun c1 n1 => ?_⟩
    have t1 := same_upd (o := .lst [V.int 2]) n1
    refine ⟨.int s0.1, rfl, c1, s0.1, _, rfl, rfl, upd_same, by omega, by omega, by show 1 * s0.1.toNat ≤ 2 ^ 24; omega, fun c2 n2 => ?_⟩
    have t2 := same_upd (o := .lst (List.replicate s0.1.toNat [V.int 2]).flatten) n2
    refine ⟨by show 1 ≤ sizeLine; decide, fun c3 n3 => ?_⟩
    have t3 := same_upd (o := .lst [V.int 1]) n3
    refine ⟨c2, c3, _, _, rfl, rfl, t3 _ _ upd_same, upd_same, ?_, fun C nC => ?_⟩
    · rw [flat_one, List.length_replicate]
      show s0.1.toNat + 1 ≤ 2 ^ 24
      omega
    have t4 := same_upd (o := .lst ((List.replicate s0.1.toNat [V.int 2]).flatten ++ [V.int 1])) nC
    have sA := (((s1.trans t1).trans t2).trans t3).trans t4
    have eC0 : (upd (upd (upd (upd H1 c1 (.lst [V.int 2])) c2 (.lst (List.replicate s0.1.toNat [V.int 2]).flatten)) c3 (.lst [V.int 1])) C (.lst ((List.replicate s0.1.toNat [V.int 2]).flatten ++ [V.int 1]))) C = some (.lst ((cfN (s0 :: r0) 0).map V.int)) := by
      rw [upd_same, flat_one]
      show _ = some (HO.lst ((List.replicate s0.1.toNat (2 : Int) ++ [(1 : Int)]).map V.int))
      rw [List.map_append, List.map_replicate]
      rfl
    have nHC : H C = none := Same.free (((s1.trans t1).trans t2).trans t3) nC
    -- zip(row, row[1:])
    refine ⟨.ref L, rfl, .ref L, rfl, 1, rfl, L, _, rfl, SqL.of (sA _ _ eL), fun c nc => ?_⟩
    have ecut : cutV (ps.map V.ref) (some 1) none = (ps.drop 1).map V.ref := by
      rw [cut1, List.map_drop]
    rw [ecut]
    have sc' := same_upd (o := .lst ((ps.drop 1).map V.ref)) nc
    have sB := sA.trans sc'
    have hCc : C ≠ c := ne_of_none eC0 nc
    refine ⟨L, c, _, _, rfl, SqL.of (sB _ _ eL), SqL.of upd_same, for_zipS (K := K) (xs := ps.map V.ref) (ys := (ps.drop 1).map V.ref) (by rw [List.length_map, List.length_map, List.length_drop]; omega)
      (fun i σ H' => ∃ (y5 y6 y7 y8 : Option V), σ = [some (.int k), some (.int b), some (.ref L), some (.int s0.1), some (.ref C), y5, y6, y7, y8] ∧ H' C = some (.lst ((cfN (s0 :: r0) i).map V.int)) ∧ H' c = some (.lst ((ps.drop 1).map V.ref)) ∧ Same H H')
      ⟨_, _, _, _, rfl, sc' _ _ eC0, upd_same, sB⟩ (fun i σ H' h => ?_) (fun i x y X σ H' hx hy h nX => ?_) (fun σ H' h => ?_)⟩
    · obtain ⟨_, _, _, _, _, _, ec, sm⟩ := h
      exact ⟨SqL.of (sm _ _ eL), SqL.of ec⟩
    · obtain ⟨y5, y6, y7, y8, rfl, eC, ec, sm⟩ := h
      obtain ⟨px, sx, rfl, hsx, ex⟩ := tu.get hx
      have hy' : (ps.map V.ref)[i + 1]? = some y := by
        rw [List.getElem?_map, List.getElem?_drop] at hy
        rw [List.getElem?_map, Nat.add_comm i 1]
        exact hy
      obtain ⟨py, sy, rfl, hsy, ey⟩ := tu.get hy'
      have g1 : (s0 :: r0).getD i (0, 0) = sx := by
        rw [List.getD_eq_getElem?_getD, hsx]
        rfl
      have g2 : (s0 :: r0).getD (i + 1) (0, 0) = sy := by
        rw [List.getD_eq_getElem?_getD, hsy]
        rfl
      have hi : i + 1 < (s0 :: r0).length := (List.getElem?_eq_some_iff.mp hsy).1
      have zc := cfN_len hw hb60 i (by omega)
      have spx := walk_spots hw _ (List.mem_of_getElem? hsx)
      have spy := walk_spots hw _ (List.mem_of_getElem? hsy)
      have zc' : (cfN (s0 :: r0) i).length ≤ 3660 := by
        rw [List.length_cons] at hi h60
        omega
      have sX := same_upd (o := .tup [V.ref px, .ref py]) nX
      have hnext : cfN (s0 :: r0) (i + 1) = Wk.grow (cfN (s0 :: r0) i) sx sy := by
        show Wk.grow (cfN (s0 :: r0) i) ((s0 :: r0).getD i (0, 0)) ((s0 :: r0).getD (i + 1) (0, 0)) = _
        rw [g1, g2]
      refine ⟨X, _, rfl, SqT.of upd_same, rfl, _, [_], rfl, px, _, rfl, SqT.of (sX _ _ (sm _ _ ex)), rfl, _, [_], rfl, _, [], rfl, rfl, _, [], rfl, py, _, rfl, SqT.of (sX _ _ (sm _ _ ey)), rfl, _, [_], rfl, _, [], rfl, rfl, rfl, ?_⟩
      refine ⟨.int sy.2, rfl, _, _, rfl, rfl, _, rfl, ite2 (fun c1 => ?_) (fun c1 => ?_)⟩
      · have c1' : sy.2 > 1 := of_decide_eq_true c1
        obtain ⟨ds, z, hds⟩ := last_split (cfN_ne (s0 :: r0) i)
        have eg : cfN (s0 :: r0) (i + 1) = ds ++ [z + 1] := by
          rw [hnext]
          unfold Wk.grow
          rw [if_pos c1', hds, Wk.incL_snoc]
        rw [hds] at eC
        have eCX := sX _ _ eC
        have hat : atI ((ds ++ [z]).map V.int) (-1) = some (.int z) := by
          rw [List.map_append]
          exact atI_last _ _
        refine ⟨.ref C, rfl, 1, rfl, C, _, -1, _, rfl, rfl, SqL.of eCX, hat, z, 1, rfl, rfl, C, _, -1, ds.length, rfl, rfl, eCX, ?_, ?_⟩
        · rw [List.length_map, List.length_append]
          unfold ixN
          rw [if_neg (by decide), if_pos (by show -((ds.length + 1 : Nat) : Int) ≤ -1; omega)]
          show some ((-1 : Int) + ((ds.length + 1 : Nat) : Int)).toNat = _
          congr 1
          omega
        · refine ⟨_, _, _, _, rfl, ?_, by rw [upd_ne hCc.symm]; exact sX _ _ ec, same_put (sm.trans sX) nHC⟩
          rw [upd_same, eg]
          exact congrArg (fun l => some (HO.lst l)) set_last
      · have c1' : ¬ sy.2 > 1 := fun z => c1 (decide_eq_true z)
        have eg : cfN (s0 :: r0) (i + 1) = cfN (s0 :: r0) i ++ (List.replicate (sx.1 - sy.1).toNat 0 ++ [1]) := by
          rw [hnext]
          unfold Wk.grow
          rw [if_neg c1']
        refine ⟨.ref C, rfl, .inl ⟨rfl, _, SqL.of (sX _ _ eC)⟩, by show 1 ≤ sizeLine; decide, fun d1 m1 => ?_⟩
        have u1 := same_upd (o := .lst [V.int 0]) m1
        refine ⟨.int sx.1, rfl, .int sy.1, rfl, _, _, rfl, rfl, d1, sx.1 - sy.1, _, rfl, rfl, upd_same, ?_, ?_, by show 1 * (sx.1 - sy.1).toNat ≤ 2 ^ 24; have := spx.2.1; have := spy.1; omega, fun d2 m2 => ?_⟩
        · have := spx.1
          have := spy.2.1
          omega
        · have := spx.2.1
          have := spy.1
          omega
        have u2 := same_upd (o := .lst (List.replicate (sx.1 - sy.1).toNat [V.int 0]).flatten) m2
        refine ⟨by show 1 ≤ sizeLine; decide, fun d3 m3 => ?_⟩
        have u3 := same_upd (o := .lst [V.int 1]) m3
        refine ⟨d2, d3, _, _, rfl, rfl, u3 _ _ upd_same, upd_same, ?_, fun d4 m4 => ?_⟩
        · rw [flat_one, List.length_replicate]
          show (sx.1 - sy.1).toNat + 1 ≤ 2 ^ 24
          have := spx.2.1
          have := spy.1
          omega
        have u4 := same_upd (o := .lst ((List.replicate (sx.1 - sy.1).toNat [V.int 0]).flatten ++ [V.int 1])) m4
        have sU := (((sX.trans u1).trans u2).trans u3).trans u4
        refine ⟨C, d4, _, _, rfl, rfl, sU _ _ eC, upd_same, ?_, ?_⟩
        · rw [List.length_map, List.length_append, flat_one, List.length_replicate]
          show (cfN (s0 :: r0) i).length + ((sx.1 - sy.1).toNat + 1) ≤ 2 ^ 24
          have := spx.2.1
          have := spy.1
          omega
        · refine ⟨_, _, _, _, rfl, ?_, by rw [upd_ne hCc.symm]; exact sU _ _ ec, same_put (sm.trans sU) nHC⟩
          rw [upd_same, eg, flat_one, List.map_append, List.map_append, List.map_replicate]
          rfl
    · obtain ⟨y5, y6, y7, y8, rfl, eC, ec, sm⟩ := h
      have elen : ((ps.drop 1).map V.ref).length = (s0 :: r0).length - 1 := by
        rw [List.length_map, List.length_drop, el, List.length_cons]
      rw [elen, cfN_all hne] at eC
      refine ⟨.ref C, rfl, C, _, rfl, .inl ⟨SqL.of eC, fun p np => ?_⟩⟩
      have s5 := same_upd (o := .tup ((Wk.cf (s0 :: r0)).map V.int)) np
      refine ⟨.int s0.1, rfl, 2, s0.1, rfl, rfl, .inl ⟨by decide, by decide⟩, by show 2 ≤ sizeLine; decide, fun u nu => ?_⟩
      have s6 := same_upd (o := .tup [V.ref p, .int (2 * s0.1)]) nu
      exact q u p _ ((sm.trans s5).trans s6) upd_same (s6 _ _ upd_same)
end

section
variable {P : Program} {w : World} {K : PySem.W.Frag} {mg : Str → Option Value} {base : Heap}
def spWaits (K : PySem.W.Frag) : Sp := fun vs H Q _ => ∃ (a : Addr) (cs : List Int) (k b : Int), vs = [.int k, .int b, .ref a] ∧ SqT K H a (cs.map V.int) ∧ Rt k cs ∧ 2 ≤ k ∧ k ≤ 4 ∧ 1 ≤ b ∧ b ≤ 60 ∧
  ∀ L H', Same H H' → H L = none → H' L = some (.lst ((Ln.letts b cs).map fun l => wv l.2.2)) → Q (.ref L) H'
theorem letts_len {b : Int} {cs : List Int} (g4 : ∀ c ∈ cs, c ≤ 4) (g1 : cs.length ≤ 400) : (Ln.letts b cs).length ≤ 1600 := by
  have := Ln.pre_len (b := b) g4 cs.length
  unfold Ln.letts
  omega
theorem ok_waits (T : Tx K mg) : FnOk P w K mg base CX0 6 T.a_waits T.d_waits ["comers", "bound", "comings"] (spWaits K) := by
  refine T.F_waits.ok sc_waits (fun vs H Q E h => ?_) (fun cdv A outer s H vs Q E hr h => ?_)
  · obtain ⟨a, cs, k, b, rfl, _⟩ := h
    rfl
  · obtain ⟨a, cs, k, b, rfl, hT0, g, hk2, hk, hb1, hb2, q⟩ := h
    have g4 := g.four hk
    have zl := letts_len (b := b) g4 g.1
    refine ⟨_, ((pss_cons (ps_expr (pe_call (ok_check_comers T) (hr.mono (by decide)) (by rfl) T.g_check_comers T.F_check_comers.kp T.b_check_comers .nil pass0 (pa_cons (pv 0) pa_nil)))
  (pss_cons (ps_expr (pe_call (ok_check_bound T) (hr.mono (by decide)) (by rfl) T.g_check_bound T.F_check_bound.kp T.b_check_bound .nil pass0 (pa_cons (pv 1) pa_nil)))
  (pss_cons (ps_expr (pe_call (ok_check_comings T) (hr.mono (by decide)) (by rfl) T.g_check_comings T.F_check_comings.kp T.b_check_comings .nil pass0 (pa_cons (pv 0) (pa_cons (pv 2) pa_nil))))
  (pss_one (ps_ret (pe_lc (own := [("tick", 3), ("turn", 4), ("wait", 5)]) (g := (gTup K 3 (gCons (gName 3) (gCons (gName 4) (gCons (gName 5) gNil))))) (tt := tYes) rfl sc_waits.nd (pi_list (pe_call (ok_letters_of T) (hr.mono (by decide)) (by rfl) T.g_letters_of T.F_letters_of.kp T.b_letters_of .nil pass0 (pa_cons (pv 1) (pa_cons (pv 2) pa_nil)))) (blkOk_by (own := [("tick", 3), ("turn", 4), ("wait", 5)]) (N := ["comers", "bound", "comings", "tick", "turn", "wait"]) (sc := defScope s_waits) (by decide +kernel)) (fun _ _ _ _ _ => pg_tup rfl (pgs_cons (pg_name (i := 3) sc_waits.nd rfl (.inl rfl)) (pgs_cons (pg_name (i := 4) sc_waits.nd rfl (.inl rfl)) (pgs_cons (pg_name (i := 5) sc_waits.nd rfl (.inl rfl)) pgs_nil)))) (fun _ _ _ _ _ => pts_nil) (fun _ _ _ _ _ => (pv 5))))))))), ?_⟩
    refine ⟨.int k, rfl, k, rfl, hk2, hk, ?_⟩
    refine ⟨.int b, rfl, b, rfl, hb1, hb2, ?_⟩
    refine ⟨.int k, rfl, .ref a, rfl, a, cs, k, rfl, hT0, g, fun H0 s0 => ?_⟩
    have hT := sT s0 hT0
    refine ⟨.int b, rfl, .ref a, rfl, a, cs, b, k, rfl, hT, g, hk, by omega, fun L ps H1 s1 nL eL tu => ?_⟩
    refine ⟨L, rfl, ⟨_, SqL.of eL⟩, fun D hD => lc_list (K := K) (a := L) (xs := ps.map V.ref)
      (fun i H' => Same H1 H' ∧ H' D = some (.lst (((Ln.letts b cs).take i).map fun l => wv l.2.2)))
      ⟨same_upd hD, upd_same⟩ (fun i H' _ p => SqL.of (p.1 _ _ eL)) (fun i x H' hx p => ?_) (fun H' p => ?_)⟩
    · obtain ⟨sm, eD⟩ := p
      obtain ⟨r, l, rfl, hl, er⟩ := tu.get hx
      refine ⟨r, _, rfl, SqT.of (sm _ _ er), rfl, _, [_, _], rfl, _, [_], rfl, _, [], rfl, rfl, rfl, ?_⟩
      refine ⟨_, rfl, _, eD, ?_, fun b o e => ?_, ?_⟩
      · rw [List.length_map, List.length_take]
        exact small2000 (by omega)
      · rw [upd_ne (ne_of_none e hD)]
        exact sm _ _ e
      · rw [upd_same, List.take_add_one, hl, List.map_append]
        rfl
    · obtain ⟨sm, eD⟩ := p
      rw [List.length_map, tu.length, List.take_of_length_le (Nat.le_refl _)] at eD
      exact q D H' ((s0.trans s1).trans sm) (Same.free (s0.trans s1) hD) eD
end

/-! ### two fors of numbers in a list -/
theorem lc2_num {n : Nat} {g g1 : TG} {tt tt1 : TT} {te : TE} {wi1 : TI} {vs vs1 : List Nat} {σ : L2.St} {H0 : Hp} {D : Addr} {Qd : Hp → Prop} {lo : Int} (R : Nat → Hp → Prop) (a : R 0 (upd H0 D (.lst [])))
    (b : ∀ k G, k < n → R k G → g (.int (lo + k)) (wipe σ vs) G fun σ2 G2 => wipe σ2 vs = wipe σ vs ∧ tt σ2 G2 fun c G3 => if c = true then wi1 σ2 G3 fun J1 G4 => ∃ W1 : Nat → Nat → Hp → Prop, (∃ m, W1 0 m G4) ∧ ∀ j q G, W1 j q G →
      (J1.stop j G ∧ R (k + 1) G) ∨ (J1.go j G ∧ ∃ N1 : Hp → Prop, (∀ G', N1 G' → ∃ q', q' < q ∧ W1 (j + 1) q' G') ∧ ∀ x G', J1.yld j G x G' → g1 x (wipe σ2 vs1) G' fun σ3 G5 => wipe σ3 vs1 = wipe σ2 vs1 ∧ tt1 σ3 G5 fun c G6 =>
        if c = true then te σ3 G6 fun y G7 => ∃ acc, G7 D = some (.lst acc) ∧ acc.length < sizeLine ∧ N1 (upd G7 D (.lst (acc ++ [y]))) else N1 G6) else R (k + 1) G3)
    (d : ∀ G, R n G → Qd G) :
    ∃ W : Nat → Nat → Hp → Prop, (∃ m, W 0 m (upd H0 D (.lst []))) ∧ ∀ i m H, W i m H →
      ((Itr lo n).stop i H ∧ Qd H) ∨ ((Itr lo n).go i H ∧ ∃ Nx : Hp → Prop, (∀ H', Nx H' → ∃ m', m' < m ∧ W (i + 1) m' H') ∧ ∀ x H', (Itr lo n).yld i H x H' → g x (wipe σ vs) H' fun σ2 H2 => wipe σ2 vs = wipe σ vs ∧ tt σ2 H2 fun c H3 =>
        if c = true then wi1 σ2 H3 fun J1 H4 => ∃ W1 : Nat → Nat → Hp → Prop, (∃ m, W1 0 m H4) ∧ ∀ j k H, W1 j k H →
          (J1.stop j H ∧ Nx H) ∨ (J1.go j H ∧ ∃ Nx1 : Hp → Prop, (∀ H', Nx1 H' → ∃ k', k' < k ∧ W1 (j + 1) k' H') ∧ ∀ x H', J1.yld j H x H' → g1 x (wipe σ2 vs1) H' fun σ3 H5 => wipe σ3 vs1 = wipe σ2 vs1 ∧ tt1 σ3 H5 fun c H6 =>
            if c = true then te σ3 H6 fun y H7 => ∃ acc, H7 D = some (.lst acc) ∧ acc.length < sizeLine ∧ Nx1 (upd H7 D (.lst (acc ++ [y]))) else Nx1 H6)
        else Nx H3) := by
  refine ⟨fun k m G => k + m = n ∧ R k G, ⟨n, Nat.zero_add n, a⟩, fun k m G h => ?_⟩
  obtain ⟨hk, r⟩ := h
  cases m with
  | zero =>
    have e : k = n := hk
    rw [e] at r ⊢
    exact .inl ⟨Nat.le_refl n, d G r⟩
  | succ m =>
    have lt : k < n := by omega
    refine .inr ⟨lt, R (k + 1), fun G' r' => ⟨m, Nat.lt_succ_self m, by omega, r'⟩, fun v G' y => ?_⟩
    rw [y.1, y.2]
    exact b k G lt r
theorem in2_num {n : Nat} {g1 : TG} {tt1 : TT} {te : TE} {vs1 : List Nat} {σ2 : L2.St} {H0 : Hp} {D : Addr} {Nx : Hp → Prop} {lo : Int} (R : Nat → Hp → Prop) (a : R 0 H0)
    (b : ∀ k G, k < n → R k G → g1 (.int (lo + k)) (wipe σ2 vs1) G fun σ3 G5 => wipe σ3 vs1 = wipe σ2 vs1 ∧ tt1 σ3 G5 fun c G6 =>
        if c = true then te σ3 G6 fun y G7 => ∃ acc, G7 D = some (.lst acc) ∧ acc.length < sizeLine ∧ R (k + 1) (upd G7 D (.lst (acc ++ [y]))) else R (k + 1) G6)
    (d : ∀ G, R n G → Nx G) :
    ∃ W1 : Nat → Nat → Hp → Prop, (∃ m, W1 0 m H0) ∧ ∀ j k H, W1 j k H →
          ((Itr lo n).stop j H ∧ Nx H) ∨ ((Itr lo n).go j H ∧ ∃ Nx1 : Hp → Prop, (∀ H', Nx1 H' → ∃ k', k' < k ∧ W1 (j + 1) k' H') ∧ ∀ x H', (Itr lo n).yld j H x H' → g1 x (wipe σ2 vs1) H' fun σ3 H5 => wipe σ3 vs1 = wipe σ2 vs1 ∧ tt1 σ3 H5 fun c H6 =>
            if c = true then te σ3 H6 fun y H7 => ∃ acc, H7 D = some (.lst acc) ∧ acc.length < sizeLine ∧ Nx1 (upd H7 D (.lst (acc ++ [y]))) else Nx1 H6) := by
  refine ⟨fun k m G => k + m = n ∧ R k G, ⟨n, Nat.zero_add n, a⟩, fun k m G h => ?_⟩
  obtain ⟨hk, r⟩ := h
  cases m with
  | zero =>
    have e : k = n := hk
    rw [e] at r ⊢
    exact .inl ⟨Nat.le_refl n, d G r⟩
  | succ m =>
    have lt : k < n := by omega
    refine .inr ⟨lt, R (k + 1), fun G' r' => ⟨m, Nat.lt_succ_self m, by omega, r'⟩, fun v G' y => ?_⟩
    rw [y.1, y.2]
    exact b k G lt r

/-! ### spots, nexts, the walk of comings, waits -/
section
variable {P : Program} {w : World} {K : PySem.W.Frag} {mg : Str → Option Value} {base : Heap}
def spSpots (K : PySem.W.Frag) : Sp := fun vs H Q _ => ∃ (k b : Nat), vs = [.int k, .int b] ∧ 2 ≤ k ∧ k ≤ 4 ∧ 1 ≤ b ∧ b ≤ 60 ∧
  ∀ L ps H', Same H H' → H L = none → H' L = some (.lst (ps.map V.ref)) → Tups pv2 H' ps (Wk.spN k (b + 1)) → Q (.ref L) H'
theorem ok_spots (T : Tx K mg) : FnOk P w K mg base CX0 4 T.a_spots T.d_spots ["comers", "bound"] (spSpots K) := by
  refine T.F_spots.ok sc_spots (fun vs H Q E h => ?_) (fun cdv A outer s H vs Q E hr h => ?_)
  · obtain ⟨k, b, rfl, _⟩ := h
    rfl
  · obtain ⟨k, b, rfl, hk2, hk4, hb1, hb60, q⟩ := h
    refine ⟨_, ((pss_cons (ps_expr (pe_call (ok_check_comers T) (hr.mono (by decide)) (by rfl) T.g_check_comers T.F_check_comers.kp T.b_check_comers .nil pass0 (pa_cons (pv 0) pa_nil)))
  (pss_cons (ps_expr (pe_call (ok_check_bound T) (hr.mono (by decide)) (by rfl) T.g_check_bound T.F_check_bound.kp T.b_check_bound .nil pass0 (pa_cons (pv 1) pa_nil)))
  (pss_one (ps_ret (pe_lc2 (own := [("wait", 2), ("turn", 3)]) (vs1 := [3]) (g := gName 2) (g1 := gName 3) (tt := tYes) (tt1 := tYes) rfl sc_spots.nd (pi_range1 (by rfl) T.m_range (pa_cons (pe_op op_add (pv 1) pe_int) pa_nil)) (blkOk_by (own := [("wait", 2), ("turn", 3)]) (N := ["comers", "bound", "wait", "turn"]) (sc := defScope s_spots) (by decide +kernel)) (by decide) (fun _ _ _ _ _ => pg_name (i := 2) sc_spots.nd rfl (.inl rfl)) (fun _ _ _ _ _ => pts_nil) (fun _ _ _ _ _ => (pi_range2 (by rfl) T.m_range (pa_cons pe_int (pa_cons (pe_op op_add (pe_callB (call_min2 rfl) (by rfl) T.m_min (by decide +kernel) (pa_cons (pv 0) (pa_cons (pe_op op_add (pv 2) pe_int) pa_nil))) pe_int) pa_nil)))) (fun _ _ _ _ _ => pg_name (i := 3) sc_spots.nd rfl (.inl rfl)) (fun _ _ _ _ _ => pts_nil) (fun _ _ _ _ _ => (pe_tup (pa_cons (pv 2) (pa_cons (pv 3) pa_nil)))))))))), ?_⟩
    refine ⟨.int k, rfl, k, rfl, by omega, by omega, ?_⟩
    refine ⟨.int b, rfl, b, rfl, by omega, by omega, ?_⟩
    refine ⟨.int b, rfl, _, _, rfl, rfl, (b : Int) + 1, rfl, by omega, by omega, fun D nD => lc2_num (n := ((b : Int) + 1).toNat) (lo := 0)
      (fun i H' => ∃ ps : List Addr, H' D = some (.lst (ps.map V.ref)) ∧ Tups pv2 H' ps (Wk.spN k i) ∧ Same H H')
      ⟨[], upd_same, .nil, same_upd nD⟩ (fun i H' hi h => ?_) (fun H' h => ?_)⟩
    · obtain ⟨ps, eD, tu, sm⟩ := h
      have hi' : i ≤ b := by omega
      have zs := Wk.spN_len k i
      have zk : k * i ≤ 240 := Nat.le_trans (Nat.mul_le_mul hk4 (Nat.le_trans hi' hb60)) (by decide)
      rw [Int.zero_add]
      have em : ∀ x : Int, x = (if (i : Int) + 1 < (k : Int) then (i : Int) + 1 else (k : Int)) → (x + 1 - 1).toNat = min k (i + 1) := fun x hx => by
        rw [hx]
        split <;> omega
      refine ⟨rfl, ?_⟩
      refine ⟨.int k, rfl, .int i, rfl, _, _, rfl, rfl, k, (i : Int) + 1, rfl, _, _, rfl, rfl, 1, _, rfl, ?_, in2_num (n := ((if (i : Int) + 1 < (k : Int) then (i : Int) + 1 else (k : Int)) + 1 - 1).toNat) (lo := 1)
        (fun j H2 => ∃ ps : List Addr, H2 D = some (.lst (ps.map V.ref)) ∧ Tups pv2 H2 ps (Wk.spN k i ++ Wk.rowN (i : Int) j) ∧ Same H H2)
        ⟨ps, eD, by rw [show Wk.spN k i ++ Wk.rowN (i : Int) 0 = Wk.spN k i from List.append_nil _]; exact tu, sm⟩ (fun j H2 hj h => ?_) (fun H2 h => ?_)⟩
      · refine ⟨by omega, ?_⟩
        split <;> omega
      · obtain ⟨ps, eD, tu, sm⟩ := h
        rw [em _ rfl] at hj
        refine ⟨rfl, ?_⟩
        refine ⟨.int i, rfl, .int (1 + (j : Int)), rfl, by show 2 ≤ sizeLine; decide, fun p np => ?_⟩
        have s1 := same_upd (o := .tup [V.int i, .int (1 + (j : Int))]) np
        refine ⟨_, s1 _ _ eD, ?_, ps ++ [p], by rw [upd_same, List.map_append]; rfl, ?_, same_put (sm.trans s1) nD⟩
        · rw [List.length_map, tu.length, List.length_append, Wk.rowN_len]
          exact small1000 (by omega)
        · have := ((tu.new np).snoc (x := ((i : Int), 1 + (j : Int))) upd_same).put (o := .lst ((ps.map V.ref) ++ [.ref p])) (s1 _ _ eD)
          rw [List.append_assoc] at this
          exact this
      · obtain ⟨ps, eD, tu, sm⟩ := h
        rw [em _ rfl] at tu
        exact ⟨ps, eD, tu, sm⟩
    · obtain ⟨ps, eD, tu, sm⟩ := h
      have e : ((b : Int) + 1).toNat = b + 1 := by omega
      rw [e] at tu
      exact q D ps H' sm nD eD tu
def spNexts (K : PySem.W.Frag) : Sp := fun vs H Q _ => ∃ (k b : Int) (p : Addr) (s : Wk.Spt), vs = [.int k, .int b, .ref p] ∧ SqT K H p (pv2 s) ∧ Wk.Spot k b s ∧ 2 ≤ k ∧ k ≤ 4 ∧ 1 ≤ b ∧ b ≤ 60 ∧
  ∀ L ps H', Same H H' → H L = none → H' L = some (.lst (ps.map V.ref)) → Tups pv2 H' ps (Wk.nxL k b s) → Q (.ref L) H'
theorem ok_nexts (T : Tx K mg) : FnOk P w K mg base CX0 4 T.a_nexts T.d_nexts ["comers", "bound", "spot"] (spNexts K) := by
  refine T.F_nexts.ok sc_nexts (fun vs H Q E h => ?_) (fun cdv A outer s H vs Q E hr h => ?_)
  · obtain ⟨k, b, p, s, rfl, _⟩ := h
    rfl
  · obtain ⟨k, b, p, ⟨wt, tu⟩, rfl, hT, hsp, hk2, hk4, hb1, hb60, q⟩ := h
    have sb := spotB_iff.mpr hsp
    have hs := hsp
    unfold Wk.Spot at hs
    simp only at hs
    refine ⟨_, ((pss_cons (ps_expr (pe_call (ok_check_comers T) (hr.mono (by decide)) (by rfl) T.g_check_comers T.F_check_comers.kp T.b_check_comers .nil pass0 (pa_cons (pv 0) pa_nil)))
  (pss_cons (ps_expr (pe_call (ok_check_bound T) (hr.mono (by decide)) (by rfl) T.g_check_bound T.F_check_bound.kp T.b_check_bound .nil pass0 (pa_cons (pv 1) pa_nil)))
  (pss_cons (ps_if (pt_not (pt_val (pe_call (ok_is_spot T) (hr.mono (by decide)) (by rfl) T.g_is_spot T.F_is_spot.kp T.b_is_spot .nil pass0 (pa_cons (pv 0) (pa_cons (pv 1) (pa_cons (pv 2) pa_nil)))))) (pss_one ps_never) pss_nil)
  (pss_cons (ps_asg (pv 2) (pg_tup rfl (pgs_cons (pg_name (i := 3) sc_nexts.nd rfl (.inl rfl)) (pgs_cons (pg_name (i := 4) sc_nexts.nd rfl (.inl rfl)) pgs_nil))))
  (pss_cons (ps_setLc (i := 5) (own := [("other", 7)]) (g := (gName 7)) (tt := tYes) rfl sc_nexts.nd rfl rfl (sw_true rfl rfl rfl (by decide +kernel)) (pi_range1 (by rfl) T.m_range (pa_cons (pe_op op_add (pv 3) pe_int) pa_nil)) (blkOk_by (own := [("other", 7)]) (N := ["comers", "bound", "spot", "wait", "turn", "found", "above", "other"]) (sc := defScope s_nexts) (by decide +kernel)) (fun _ _ _ _ _ => pg_name (i := 7) sc_nexts.nd rfl (.inl rfl)) (fun _ _ _ _ _ => pts_nil) (fun _ _ _ _ _ => (pe_tup (pa_cons (pv 7) (pa_cons pe_int pa_nil)))))
  (pss_cons (ps_set (i := 6) sc_nexts.nd rfl (.inl rfl) (pe_tup (pa_cons (pe_op op_add (pv 3) pe_int) (pa_cons (pe_op op_add (pv 4) pe_int) pa_nil))))
  (pss_cons (ps_if (pt_val (pe_call (ok_is_spot T) (hr.mono (by decide)) (by rfl) T.g_is_spot T.F_is_spot.kp T.b_is_spot .nil pass0 (pa_cons (pv 0) (pa_cons (pv 1) (pa_cons (pv 6) pa_nil))))) (pss_one (ps_expr (pe_bm PySem.F.plainAttrs_list PySem.F.slot_list_append PySem.F.type_list_append mt_append (pv 5) (pa_cons (pv 6) pa_nil)))) pss_nil)
  (pss_one (ps_ret (pv 5))))))))))), ?_⟩
    refine ⟨.int k, rfl, k, rfl, by omega, by omega, ?_⟩
    refine ⟨.int b, rfl, b, rfl, by omega, by omega, ?_⟩
    refine ⟨.int k, rfl, .int b, rfl, .ref p, rfl, k, b, p, (wt, tu), rfl, hT, fun H1 s1 => ⟨true, congrArg V.bl sb, iteF ?_⟩⟩
    refine ⟨.ref p, rfl, p, _, rfl, sT s1 hT, rfl, _, [_], rfl, _, [], rfl, rfl, ?_⟩
    refine ⟨.int wt, rfl, _, _, rfl, rfl, wt + 1, rfl, by omega, by omega, fun D nD => lc_range (n := (wt + 1).toNat) (lo := 0)
      (fun i H' => ∃ ps : List Addr, H' D = some (.lst (ps.map V.ref)) ∧ Tups pv2 H' ps (Wk.onesN i) ∧ Same H1 H')
      ⟨[], upd_same, .nil, same_upd nD⟩ (fun i H' hi h => ?_) (fun H' h => ?_)⟩
    · obtain ⟨ps, eD, tp, sm⟩ := h
      rw [Int.zero_add]
      refine ⟨rfl, ?_⟩
      refine ⟨.int i, rfl, by show 2 ≤ sizeLine; decide, fun c nc => ?_⟩
      have s2 := same_upd (o := .tup [V.int i, .int 1]) nc
      refine ⟨_, s2 _ _ eD, ?_, ps ++ [c], by rw [upd_same, List.map_append]; rfl, ?_, same_put (sm.trans s2) nD⟩
      · rw [List.length_map, tp.length, Wk.onesN_len]
        exact small1000 (by omega)
      · exact ((tp.new nc).snoc (x := ((i : Int), 1)) upd_same).put (s2 _ _ eD)
    · obtain ⟨ps, eD, tp, sm⟩ := h
      have hHD : H D = none := Same.free s1 nD
      refine ⟨.int wt, rfl, _, _, rfl, rfl, .int tu, rfl, _, _, rfl, rfl, by show 2 ≤ sizeLine; decide, fun c nc => ?_⟩
      have s3 := same_upd (o := .tup [V.int (wt + 1), .int (tu + 1)]) nc
      have sA := (s1.trans sm).trans s3
      refine ⟨.int k, rfl, .int b, rfl, .ref c, rfl, k, b, c, (wt + 1, tu + 1), rfl, SqT.of upd_same, fun H3 s4 => ⟨_, rfl, ?_⟩⟩
      have eD3 := s4 _ _ (s3 _ _ eD)
      have tp3 := (tp.same s3).same s4
      have eL : Wk.nxL k b (wt, tu) = Wk.onesN (wt + 1).toNat ++ if wt + 1 ≤ b ∧ tu + 1 ≤ k then [(wt + 1, tu + 1)] else [] := rfl
      by_cases c1 : wt + 1 ≤ b ∧ tu + 1 ≤ k
      · have e1 : spotB k b (wt + 1, tu + 1) = true := spotB_iff.mpr (by unfold Wk.Spot; simp only; omega)
        rw [e1]
        refine iteT ?_
        refine ⟨.ref D, rfl, .inl ⟨rfl, _, SqL.of eD3⟩, .ref c, rfl, D, _, _, rfl, rfl, eD3, ?_, ?_⟩
        · rw [List.length_map, tp.length, Wk.onesN_len]
          exact small1000 (by omega)
        · refine ⟨.ref D, rfl, q D (ps ++ [c]) _ (same_put (sA.trans s4) hHD) hHD (by rw [upd_same, List.map_append]; rfl) ?_⟩
          rw [eL, if_pos c1]
          exact (tp3.snoc (x := (wt + 1, tu + 1)) (s4 _ _ upd_same)).put eD3
      · have e1 : spotB k b (wt + 1, tu + 1) = false := by
          cases z : spotB k b (wt + 1, tu + 1) with
          | false => rfl
          | true =>
            have := spotB_iff.mp z
            unfold Wk.Spot at this
            simp only at this
            exact absurd ⟨this.2.1, this.2.2.2.1⟩ c1
        rw [e1]
        refine iteF ?_
        refine ⟨.ref D, rfl, q D ps _ (sA.trans s4) hHD eD3 ?_⟩
        rw [eL, if_neg c1, List.append_nil]
        exact tp3
def spWalk (K : PySem.W.Frag) : Sp := fun vs H Q _ => ∃ (a : Addr) (cs : List Int) (k b : Int), vs = [.int k, .int b, .ref a] ∧ SqT K H a (cs.map V.int) ∧ Rt k cs ∧ 2 ≤ k ∧ k ≤ 4 ∧ 1 ≤ b ∧ b ≤ 60 ∧
  ∀ L ps H', Same H H' → H L = none → H' L = some (.lst (ps.map V.ref)) → Tups pv2 H' ps (Wk.wkL (Ln.letts b cs)) → Q (.ref L) H'
theorem wk_len {k b : Int} {cs : List Int} (g : Rt k cs) (hk : k ≤ 4) (i : Nat) : (Wk.wkL ((Ln.letts b cs).take i)).length ≤ 1600 := by
  have h1 := Wk.wkL_len ((Ln.letts b cs).take i)
  have h2 := letts_len (b := b) (g.four hk) g.1
  rw [List.length_take] at h1
  omega
theorem ok_walk (T : Tx K mg) : FnOk P w K mg base CX0 6 T.a_walk T.d_walk ["comers", "bound", "comings"] (spWalk K) := by
  refine T.F_walk.ok sc_walk (fun vs H Q E h => ?_) (fun cdv A outer s H vs Q E hr h => ?_)
  · obtain ⟨a, cs, k, b, rfl, _⟩ := h
    rfl
  · obtain ⟨a, cs, k, b, rfl, hT0, g, hk2, hk, hb1, hb2, q⟩ := h
    refine ⟨_, ((pss_cons (ps_expr (pe_call (ok_check_comers T) (hr.mono (by decide)) (by rfl) T.g_check_comers T.F_check_comers.kp T.b_check_comers .nil pass0 (pa_cons (pv 0) pa_nil)))
  (pss_cons (ps_expr (pe_call (ok_check_bound T) (hr.mono (by decide)) (by rfl) T.g_check_bound T.F_check_bound.kp T.b_check_bound .nil pass0 (pa_cons (pv 1) pa_nil)))
  (pss_cons (ps_expr (pe_call (ok_check_comings T) (hr.mono (by decide)) (by rfl) T.g_check_comings T.F_check_comings.kp T.b_check_comings .nil pass0 (pa_cons (pv 0) (pa_cons (pv 2) pa_nil))))
  (pss_one (ps_ret (pe_lc (own := [("tick", 3), ("turn", 4), ("wait", 5)]) (g := (gTup K 3 (gCons (gName 3) (gCons (gName 4) (gCons (gName 5) gNil))))) rfl sc_walk.nd (pi_list (pe_call (ok_letters_of T) (hr.mono (by decide)) (by rfl) T.g_letters_of T.F_letters_of.kp T.b_letters_of .nil pass0 (pa_cons (pv 1) (pa_cons (pv 2) pa_nil)))) (blkOk_by (own := [("tick", 3), ("turn", 4), ("wait", 5)]) (N := ["comers", "bound", "comings", "tick", "turn", "wait"]) (sc := defScope s_walk) (by decide +kernel)) (fun _ _ _ _ _ => pg_tup rfl (pgs_cons (pg_name (i := 3) sc_walk.nd rfl (.inl rfl)) (pgs_cons (pg_name (i := 4) sc_walk.nd rfl (.inl rfl)) (pgs_cons (pg_name (i := 5) sc_walk.nd rfl (.inl rfl)) pgs_nil)))) (fun _ _ _ _ _ => (pts_one (pt_cmpR op_notN (pv 5) pe_non (nomark _)))) (fun _ _ _ _ _ => (pe_tup (pa_cons (pv 5) (pa_cons (pv 4) pa_nil))))))))))), ?_⟩
    refine ⟨.int k, rfl, k, rfl, hk2, hk, ?_⟩
    refine ⟨.int b, rfl, b, rfl, hb1, hb2, ?_⟩
    refine ⟨.int k, rfl, .ref a, rfl, a, cs, k, rfl, hT0, g, fun H0 s0 => ?_⟩
    have hT := sT s0 hT0
    refine ⟨.int b, rfl, .ref a, rfl, a, cs, b, k, rfl, hT, g, hk, by omega, fun L ps H1 s1 nL eL tu => ?_⟩
    refine ⟨L, rfl, ⟨_, SqL.of eL⟩, fun D hD => lc_list (K := K) (a := L) (xs := ps.map V.ref)
      (fun i H' => ∃ qs : List Addr, Same H1 H' ∧ H' D = some (.lst (qs.map V.ref)) ∧ Tups pv2 H' qs (Wk.wkL ((Ln.letts b cs).take i)))
      ⟨[], same_upd hD, upd_same, .nil⟩ (fun i H' _ p => let ⟨_, sm, _⟩ := p; SqL.of (sm _ _ eL)) (fun i x H' hx p => ?_) (fun H' p => ?_)⟩
    · obtain ⟨qs, sm, eD, tq⟩ := p
      obtain ⟨r, l, rfl, hl, er⟩ := tu.get hx
      have et : Wk.wkL ((Ln.letts b cs).take (i + 1)) = Wk.wkL ((Ln.letts b cs).take i) ++ Wk.wk1 l := by
        rw [take_snoc hl, Wk.wkL_snoc]
      have zq := wk_len (b := b) g hk i
      refine ⟨r, _, rfl, SqT.of (sm _ _ er), rfl, _, [_, _], rfl, _, [_], rfl, _, [], rfl, rfl, rfl, ?_⟩
      obtain ⟨lt, lu, lw⟩ := l
      cases lw with
      | none =>
        refine ⟨.non, rfl, rfl, false, rfl, iteF ?_⟩
        refine ⟨qs, sm, eD, ?_⟩
        rw [et]
        show Tups pv2 _ qs (_ ++ [])
        rw [List.append_nil]
        exact tq
      | some wt =>
        refine ⟨.int wt, rfl, rfl, true, rfl, iteT ?_⟩
        refine ⟨.int wt, rfl, .int lu, rfl, by show 2 ≤ sizeLine; decide, fun c nc => ?_⟩
        have s2 := same_upd (o := .tup [V.int wt, .int lu]) nc
        refine ⟨_, s2 _ _ eD, ?_, qs ++ [c], same_put (sm.trans s2) hD, by rw [upd_same, List.map_append]; rfl, ?_⟩
        · rw [List.length_map, tq.length]
          exact small2000 (by omega)
        · rw [et]
          exact ((tq.new nc).snoc (x := (wt, lu)) upd_same).put (s2 _ _ eD)
    · obtain ⟨qs, sm, eD, tq⟩ := p
      rw [List.length_map, tu.length, List.take_of_length_le (Nat.le_refl _)] at tq
      exact q D qs H' ((s0.trans s1).trans sm) (Same.free (s0.trans s1) hD) eD tq
end

/-! ### the law's own line -/
section
variable {P : Program} {w : World} {K : PySem.W.Frag} {mg : Str → Option Value} {base : Heap}
theorem ok__law_line (T : Tx K mg) : FnOk P w K mg base CX0 1 T.a__law_line T.d__law_line ["bound", "comings"] (spLetters K) := by
  refine T.F__law_line.ok sc__law_line (fun vs H Q E h => ?_) (fun cdv A outer s H vs Q E hr h => ?_)
  · obtain ⟨a, cs, b, k, rfl, _⟩ := h
    rfl
  · obtain ⟨a, cs, b, k, rfl, hT, g, hk, hb, q⟩ := h
    have g4 := g.four hk
    have g1 := g.1
    refine ⟨_, ((pss_cons (ps_set (i := 2) sc__law_line.nd rfl (.inl rfl) (pe_lst pa_nil))
  (pss_cons (ps_set (i := 3) sc__law_line.nd rfl (.inl rfl) pe_int)
  (pss_cons (ps_for PassesOwn.never rfl (pi_range1 (by rfl) T.m_range (pa_cons (pe_callB call_len_seq (by rfl) T.m_len PySem.boot_len (pa_cons (pv 1) pa_nil)) pa_nil)) (pg_name (i := 4) sc__law_line.nd rfl (.inl rfl))
   (pss_cons (ps_for PassesOwn.never rfl (pi_range1 (by rfl) T.m_range (pa_cons (pe_ix ix_tup (pv 1) (pv 4) (fun _ _ => rfl)) pa_nil)) (pg_name (i := 5) sc__law_line.nd rfl (.inl rfl))
   (pss_one (ps_if (pt_cmpR op_le (pv 3) (pv 0) (nomark _)) (pss_cons (ps_expr (pe_bm PySem.F.plainAttrs_list PySem.F.slot_list_append PySem.F.type_list_append mt_append (pv 2) (pa_cons (pe_tup (pa_cons (pv 4) (pa_cons (pe_op op_add (pv 5) pe_int) (pa_cons (pv 3) pa_nil)))) pa_nil)))
  (pss_one (ps_set (i := 3) sc__law_line.nd rfl (.inl rfl) (pe_op op_add (pv 3) pe_int)))) (pss_one (ps_expr (pe_bm PySem.F.plainAttrs_list PySem.F.slot_list_append PySem.F.type_list_append mt_append (pv 2) (pa_cons (pe_tup (pa_cons (pv 4) (pa_cons (pe_op op_add (pv 5) pe_int) (pa_cons pe_non pa_nil)))) pa_nil)))))))
  (pss_one (ps_set (i := 3) sc__law_line.nd rfl (.inl rfl) (pe_callB (call_max2 rfl) (by rfl) T.m_max (by decide +kernel) (pa_cons pe_int (pa_cons (pe_op op_sub (pv 3) pe_int) pa_nil)))))))
  (pss_one (ps_ret (pv 2))))))), ?_⟩
    refine ⟨Nat.zero_le _, fun L nL => ?_⟩
    have s2 := same_upd (o := .lst []) nL
    refine ⟨.ref a, rfl, a, _, rfl, .inr (sT s2 hT), _, rfl, by rw [List.length_map]; omega, by rw [List.length_map]; omega, for_range (lo := 0) (n := ((((cs.map V.int).length : Nat) : Int)).toNat)
      (fun i σ H' => ∃ (y4 y5 : Option V) (ps : List Addr), σ = [some (.int b), some (.ref a), some (.ref L), some (.int (Ln.pre b cs i).2), y4, y5] ∧ H' L = some (.lst (ps.map V.ref)) ∧ Tups tv H' ps (Ln.pre b cs i).1 ∧ Same H H')
      ⟨_, _, [], rfl, upd_same, .nil, s2⟩ (fun i σ H' hi h => ?_) (fun σ H' h => ?_)⟩
    · obtain ⟨y4, y5, ps, rfl, eL, tu, sm⟩ := h
      rw [List.length_map] at hi
      have hi' : i < cs.length := by omega
      rw [Int.zero_add]
      have hc : cs[i]? = some cs[i] := List.getElem?_eq_getElem hi'
      have bc := g.2 cs[i] (List.mem_of_getElem? hc)
      have ec := Ln.getD_of hc
      generalize cs[i] = c at hc bc ec
      refine ⟨.ref a, rfl, .int (i : Int), rfl, a, _, _, .int c, rfl, rfl, sT sm hT, atI_nat (by rw [List.getElem?_map, hc]; rfl), c, rfl, by omega, by omega, for_range (lo := 0) (n := c.toNat)
        (fun j σ H2 => ∃ (y5 : Option V) (ps : List Addr), σ = [some (.int b), some (.ref a), some (.ref L), some (.int (Ln.turns b (i : Int) j (Ln.pre b cs i)).2), some (.int (i : Nat)), y5] ∧ H2 L = some (.lst (ps.map V.ref)) ∧ Tups tv H2 ps (Ln.turns b (i : Int) j (Ln.pre b cs i)).1 ∧ Same H H2)
        ⟨_, ps, rfl, eL, tu, sm⟩ (fun j σ H2 hj h => ?_) (fun σ H2 h => ?_)⟩
      · obtain ⟨y5, ps, rfl, eL, tu, sm⟩ := h
        have zl : ps.length ≤ 1640 := by
          rw [tu.length, Ln.turns_len]
          have := Ln.pre_len (b := b) g4 i
          omega
        rw [Int.zero_add]
        have eT : ∀ (H3 : Hp) (p : Addr) (x : V), (upd H3 p (.tup [.int (i : Int), .int ((j : Int) + 1), x])) p = some (.tup [.int (i : Int), .int (1 + (j : Int)), x]) := fun H3 p x => by
          rw [upd_same, Int.add_comm (j : Int) 1]
        refine ⟨_, rfl, _, rfl, _, _, rfl, rfl, _, rfl, ite2 (fun h1 => ?_) (fun h1 => ?_)⟩
        · have hb1 : ¬ (Ln.turns b (i : Int) j (Ln.pre b cs i)).2 > b := by
            have := of_decide_eq_true h1
            omega
          have es : Ln.turns b (i : Int) (j + 1) (Ln.pre b cs i) = ((Ln.turns b (i : Int) j (Ln.pre b cs i)).1 ++ [((i : Int), 1 + (j : Int), some (Ln.turns b (i : Int) j (Ln.pre b cs i)).2)], (Ln.turns b (i : Int) j (Ln.pre b cs i)).2 + 1) := if_neg hb1
          refine ⟨.ref L, rfl, .inl ⟨rfl, _, SqL.of eL⟩, _, rfl, _, rfl, _, _, rfl, rfl, _, rfl, by show 3 ≤ sizeLine; decide, fun p np => ?_⟩
          have s3 := same_upd (o := .tup [.int (i : Int), .int ((j : Int) + 1), .int (Ln.turns b (i : Int) j (Ln.pre b cs i)).2]) np
          refine ⟨L, _, _, rfl, rfl, s3 _ _ eL, by rw [List.length_map]; exact small2000 (by omega), ?_⟩
          refine ⟨_, rfl, _, _, rfl, rfl, ?_⟩
          refine ⟨_, ps ++ [p], by rw [es]; rfl, by rw [upd_same, List.map_append]; rfl, ?_, same_put (sm.trans s3) nL⟩
          rw [es]
          exact ((tu.new np).snoc (x := ((i : Int), 1 + (j : Int), some (Ln.turns b (i : Int) j (Ln.pre b cs i)).2)) (eT _ _ _)).put (s3 _ _ eL)
        · have hb1 : (Ln.turns b (i : Int) j (Ln.pre b cs i)).2 > b := by
            have : ¬ (Ln.turns b (i : Int) j (Ln.pre b cs i)).2 ≤ b := fun z => h1 (decide_eq_true z)
            omega
          have es : Ln.turns b (i : Int) (j + 1) (Ln.pre b cs i) = ((Ln.turns b (i : Int) j (Ln.pre b cs i)).1 ++ [((i : Int), 1 + (j : Int), none)], (Ln.turns b (i : Int) j (Ln.pre b cs i)).2) := if_pos hb1
          refine ⟨.ref L, rfl, .inl ⟨rfl, _, SqL.of eL⟩, _, rfl, _, rfl, _, _, rfl, rfl, by show 3 ≤ sizeLine; decide, fun p np => ?_⟩
          have s3 := same_upd (o := .tup [.int (i : Int), .int ((j : Int) + 1), .non]) np
          refine ⟨L, _, _, rfl, rfl, s3 _ _ eL, by rw [List.length_map]; exact small2000 (by omega), ?_⟩
          refine ⟨_, ps ++ [p], by rw [es]; rfl, by rw [upd_same, List.map_append]; rfl, ?_, same_put (sm.trans s3) nL⟩
          rw [es]
          exact ((tu.new np).snoc (x := ((i : Int), 1 + (j : Int), none)) (eT _ _ _)).put (s3 _ _ eL)
      · obtain ⟨y5, ps, rfl, eL, tu, sm⟩ := h
        rw [← ec] at tu ⊢
        have rg := Ln.pre_rng hb cs i
        have rt := Ln.turns_rng (b := b) (τ := (i : Int)) (cs.getD i 0).toNat (Ln.pre b cs i) rg.1 (by omega)
        refine ⟨_, rfl, _, _, rfl, rfl, 0, (Ln.turns b (i : Int) (cs.getD i 0).toNat (Ln.pre b cs i)).2 - 1, rfl, ?_⟩
        refine ⟨some (.int (i : Int)), y5, ps, ?_, eL, tu, sm⟩
        have e : (Ln.pre b cs (i + 1)).2 = if (Ln.turns b (i : Int) (cs.getD i 0).toNat (Ln.pre b cs i)).2 - 1 > 0 then (Ln.turns b (i : Int) (cs.getD i 0).toNat (Ln.pre b cs i)).2 - 1 else 0 := by
          show Ln.close (Ln.turns b (i : Int) (cs.getD i 0).toNat (Ln.pre b cs i)).2 = _
          unfold Ln.close
          split <;> split <;> omega
        rw [e]
        rfl
    · obtain ⟨y4, y5, ps, rfl, eL, tu, sm⟩ := h
      rw [List.length_map, Int.toNat_natCast] at tu
      exact ⟨.ref L, rfl, q L ps H' sm nL eL tu⟩
end

/-! ### drawn comings; the law's own line -/
section
variable {P : Program} {w : World} {K : PySem.W.Frag} {mg : Str → Option Value} {base : Heap}
def spComings (K : PySem.W.Frag) : Sp := fun vs H Q _ => ∃ (t s : Addr) (k m : Int), vs = [.ref t, .int k, .int m] ∧ (1 ≤ k ∧ k ≤ 1000) ∧ (0 ≤ m ∧ m ≤ 1000) ∧ Tape H t s ∧
  ∀ a (cs : List Int) H', (cs.length : Int) ≤ m → (∀ c ∈ cs, 0 ≤ c ∧ c ≤ k) → a ≠ t → H a = none → Moved t H H' → Tape H' t s → H' a = some (.tup (cs.map V.int)) → Q (.ref a) H'
theorem all_snoc {k : Int} {cs : List Int} (h : ∀ c ∈ cs, 0 ≤ c ∧ c ≤ k) {x : Int} (h0 : 0 ≤ x) (h1 : x ≤ k) : ∀ c ∈ cs ++ [x], 0 ≤ c ∧ c ≤ k := fun c hc => by
  rcases List.mem_append.mp hc with hc | hc
  · exact h c hc
  · rw [List.mem_singleton.mp hc]
    exact ⟨h0, h1⟩
theorem ok__law_comings (T : Tx K mg) : FnOk P w K mg base CX0 2 T.a__law_comings T.d__law_comings ["tape", "comers", "most"] (spComings K) := by
  refine T.F__law_comings.ok sc__law_comings (fun vs H Q E h => ?_) (fun cdv A outer s H vs Q E hr h => ?_)
  · obtain ⟨t, sc, k, m, rfl, _⟩ := h
    rfl
  · obtain ⟨t, sc, k, m, rfl, hk, hm, tp, q⟩ := h
    refine ⟨_, ((pss_cons (ps_set (i := 3) sc__law_comings.nd rfl (.inl rfl) (pe_lst pa_nil))
  (pss_cons (ps_set (i := 4) sc__law_comings.nd rfl (.inl rfl) (pe_call (ok__law_pick T) (hr.mono (by decide)) (by rfl) T.g__law_pick T.F__law_pick.kp T.b__law_pick .nil pass0 (pa_cons (pv 0) (pa_cons pe_int pa_nil))))
  (pss_cons (ps_for PassesOwn.never rfl (pi_range1 (by rfl) T.m_range (pa_cons (pe_call (ok__law_pick T) (hr.mono (by decide)) (by rfl) T.g__law_pick T.F__law_pick.kp T.b__law_pick .nil pass0 (pa_cons (pv 0) (pa_cons (pe_op op_add (pv 2) pe_int) pa_nil))) pa_nil)) (pg_name (i := 5) sc__law_comings.nd rfl (.inl rfl))
   (pss_cons (ps_set (i := 6) sc__law_comings.nd rfl (.inl rfl) (pe_call (ok__law_pick T) (hr.mono (by decide)) (by rfl) T.g__law_pick T.F__law_pick.kp T.b__law_pick .nil pass0 (pa_cons (pv 0) (pa_cons (pe_op op_add (pv 1) pe_int) pa_nil))))
  (Evl.pss_cut (ps_if (PW.pt (pw_and (pt_cmpR op_eq (pv 4) pe_int (nomark _)) (pw_and1 (pt_cmpR op_eq (pe_call (ok__law_pick T) (hr.mono (by decide)) (by rfl) T.g__law_pick T.F__law_pick.kp T.b__law_pick .nil pass0 (pa_cons (pv 0) (pa_cons pe_int pa_nil))) pe_int (nomark _))))) (pss_one (ps_set (i := 6) sc__law_comings.nd rfl (.inl rfl) (pv 1))) pss_nil)
  (pss_one (ps_expr (pe_bm PySem.F.plainAttrs_list PySem.F.slot_list_append PySem.F.type_list_append mt_append (pv 3) (pa_cons (pv 6) pa_nil)))))))
  (pss_one (ps_ret (pe_callTy call_tuple_of (by rfl) T.m_tuple (by decide +kernel) (pa_cons (pv 3) pa_nil)))))))), ?_⟩
    refine ⟨Nat.zero_le _, fun L nL => ?_⟩
    have hLt : L ≠ t := tp.ne nL
    have hLs : L ≠ sc := tp.ne2 nL
    have tp0 := tp.keep (same_upd (o := .lst []) nL)
    have mv0 : Moved t H (upd H L (.lst [])) := Moved.same (same_upd nL)
    refine ⟨.ref t, rfl, t, sc, 3, rfl, ⟨by decide, by decide⟩, tp0, fun gr H1 hg0 hg3 mv1 tp1 => ?_⟩
    refine ⟨.ref t, rfl, .int m, rfl, _, _, rfl, rfl, t, sc, m + 1, rfl, ⟨by omega, by omega⟩, tp1, fun n H2 hn0 hn1 mv2 tp2 => ?_⟩
    refine ⟨n, rfl, by omega, by omega, for_range (lo := 0) (n := n.toNat)
      (fun i σ H' => ∃ y5 y6 cs, σ = [some (.ref t), some (.int k), some (.int m), some (.ref L), some (.int gr), y5, y6] ∧ H' L = some (.lst (cs.map V.int)) ∧ cs.length = i ∧ (∀ c ∈ cs, 0 ≤ c ∧ c ≤ k) ∧ (∀ b o, b ≠ t → b ≠ L → H b = some o → H' b = some o) ∧ Tape H' t sc)
      ⟨_, _, [], rfl, mv2 _ _ hLt (mv1 _ _ hLt upd_same), rfl, fun _ h => by simp at h, fun b o n1 n2 e => mv2 b o n1 (mv1 b o n1 (mv0 b o n1 e)), tp2⟩ (fun i σ H' hi h => ?_) (fun σ H' h => ?_)⟩
    · obtain ⟨y5, y6, cs, rfl, eL, el, hc, kp, tp'⟩ := h
      refine ⟨.ref t, rfl, .int k, rfl, _, _, rfl, rfl, t, sc, k + 1, rfl, ⟨by omega, by omega⟩, tp', fun x H3 hx0 hx1 mv3 tp3 => ?_⟩
      refine ⟨fun σ' H4 => ∃ z y5, σ' = [some (.ref t), some (.int k), some (.int m), some (.ref L), some (.int gr), y5, some (.int z)] ∧ 0 ≤ z ∧ z ≤ k ∧ Moved t H3 H4 ∧ Tape H4 t sc, ?_, fun σ' H4 hm => ?_⟩
      · refine ⟨.int gr, rfl, rfl, _, rfl, ite2 (fun c1 => ?_) (fun c1 => ?_)⟩
        · refine ⟨.ref t, rfl, t, sc, 2, rfl, ⟨by decide, by decide⟩, tp3, fun x2 H4 _ _ mv4 tp4 => ?_⟩
          by_cases c2 : V.int x2 = V.int 0
          · refine ⟨rfl, true, congrArg V.bl (decide_eq_true c2), iteT ?_⟩
            exact ⟨.int k, rfl, k, _, rfl, by omega, Int.le_refl _, mv4, tp4⟩
          · refine ⟨rfl, false, congrArg V.bl (decide_eq_false c2), iteF ?_⟩
            exact ⟨x, _, rfl, hx0, by omega, mv4, tp4⟩
        · exact ⟨x, _, rfl, hx0, by omega, Moved.refl, tp3⟩
      · obtain ⟨z, y5, rfl, hz0, hz1, mv4, tp4⟩ := hm
        have eL4 : H4 L = some (.lst (cs.map V.int)) := mv4 L _ hLt (mv3 L _ hLt eL)
        refine ⟨.ref L, rfl, .inl ⟨rfl, _, SqL.of eL4⟩, _, rfl, L, _, _, rfl, rfl, eL4, by rw [List.length_map]; exact small1000 (by omega), ?_⟩
        refine ⟨_, _, cs ++ [z], rfl, by rw [upd_same, List.map_append]; rfl, by rw [List.length_append, el]; rfl, all_snoc hc hz0 hz1, fun b o n1 n2 e => ?_, tp4.but hLt hLs⟩
        rw [upd_ne n2]
        exact mv4 b o n1 (mv3 b o n1 (kp b o n1 n2 e))
    · obtain ⟨y5, y6, cs, rfl, eL, el, hc, kp, tp'⟩ := h
      refine ⟨.ref L, rfl, L, _, rfl, .inl ⟨SqL.of eL, fun p np => ?_⟩⟩
      have hpt : p ≠ t := tp'.ne np
      have hpL : p ≠ L := fun e => by
        rw [e, eL] at np
        cases np
      have hHp : H p = none := by
        cases z : H p with
        | none => rfl
        | some o =>
          rw [kp p o hpt hpL z] at np
          cases np
      refine q p cs _ (by omega) hc hpt hHp (fun b o n1 e => ?_) (tp'.keep (same_upd np)) upd_same
      rw [upd_ne (ne_of_none e hHp)]
      exact kp b o n1 (ne_of_none e nL) e
end

/-! ### drawn walks, the law's own look at spots -/
section
variable {P : Program} {w : World} {K : PySem.W.Frag} {mg : Str → Option Value} {base : Heap}
theorem eqDK {X : Cx} {K : PySem.W.Frag} (h : X.K = K) (hu : X.A.units + 64 < cLine) : OpR X (compareOp .Eq) (rEqD K) := h ▸ op_eqD hu
theorem moved_put {t : Addr} {H H' : Hp} {p : Addr} {o : HO} (mv : Moved t H H') (n : H p = none) : Moved t H (upd H' p o) := fun b x nb e => (upd_ne (ne_of_none e n)).trans (mv b x nb e)
theorem walk_snoc' {k b : Int} {row : List Wk.Spt} {o : Wk.Spt} (h : Wk.Walk k b row) (hn : ∀ x, row.getLast? = some x → Wk.Nx k b x o) : Wk.Walk k b (row ++ [o]) := Wk.walk_snoc h hn
theorem Tape.neT {H : Hp} {t s a : Addr} {xs : List V} (h : Tape H t s) (e : H a = some (.tup xs)) : a ≠ t := fun z => by
  obtain ⟨_, _, _, _, _, _, e2, _⟩ := h
  rw [z, e2] at e
  cases e
def spLWalk (K : PySem.W.Frag) : Sp := fun vs H Q _ => ∃ (t s : Addr) (k b : Int), vs = [.ref t, .int k, .int b] ∧ 2 ≤ k ∧ k ≤ 4 ∧ 1 ≤ b ∧ b ≤ 60 ∧ Tape H t s ∧
  ∀ L ps row H', Wk.Walk k b row → row.length ≤ 10 → H L = none → Moved t H H' → Tape H' t s → H' L = some (.lst (ps.map V.ref)) → Tups pv2 H' ps row → Q (.ref L) H'
theorem ok__law_walk (T : Tx K mg) : FnOk P w K mg base CX0 2 T.a__law_walk T.d__law_walk ["tape", "comers", "bound"] (spLWalk K) := by
  refine T.F__law_walk.ok sc__law_walk (fun vs H Q E h => ?_) (fun cdv A outer s H vs Q E hr h => ?_)
  · obtain ⟨t, sc, k, b, rfl, _⟩ := h
    rfl
  · obtain ⟨t, sc, k, b, rfl, hk2, hk4, hb1, hb60, tp, q⟩ := h
    refine ⟨_, ((pss_cons (ps_set (i := 3) sc__law_walk.nd rfl (.inl rfl) (pe_lst (pa_cons (pe_tup (pa_cons (pe_call (ok__law_pick T) (hr.mono (by decide)) (by rfl) T.g__law_pick T.F__law_pick.kp T.b__law_pick .nil pass0 (pa_cons (pv 0) (pa_cons (pe_op op_add (pv 2) pe_int) pa_nil))) (pa_cons pe_int pa_nil))) pa_nil)))
  (pss_cons (ps_for PassesOwn.never rfl (pi_range1 (by rfl) T.m_range (pa_cons (pe_call (ok__law_pick T) (hr.mono (by decide)) (by rfl) T.g__law_pick T.F__law_pick.kp T.b__law_pick .nil pass0 (pa_cons (pv 0) (pa_cons pe_int pa_nil))) pa_nil)) (pg_name (i := 4) sc__law_walk.nd rfl (.inl rfl))
   (pss_cons (ps_asg (pe_ix ix_list (pv 3) (pe_un un_neg pe_int) (fun _ _ => rfl)) (pg_tup rfl (pgs_cons (pg_name (i := 5) sc__law_walk.nd rfl (.inl rfl)) (pgs_cons (pg_name (i := 6) sc__law_walk.nd rfl (.inl rfl)) pgs_nil))))
  (pss_one (ps_if (PW.pt (pw_and (pt_cmpR op_eq (pe_call (ok__law_pick T) (hr.mono (by decide)) (by rfl) T.g__law_pick T.F__law_pick.kp T.b__law_pick .nil pass0 (pa_cons (pv 0) (pa_cons pe_int pa_nil))) pe_int (nomark _)) (pw_and (pt_cmpR op_lt (pv 6) (pv 1) (nomark _)) (pw_and1 (pt_cmpR op_lt (pv 5) (pv 2) (nomark _)))))) (pss_one (ps_expr (pe_bm PySem.F.plainAttrs_list PySem.F.slot_list_append PySem.F.type_list_append mt_append (pv 3) (pa_cons (pe_tup (pa_cons (pe_op op_add (pv 5) pe_int) (pa_cons (pe_op op_add (pv 6) pe_int) pa_nil))) pa_nil)))) (pss_one (ps_expr (pe_bm PySem.F.plainAttrs_list PySem.F.slot_list_append PySem.F.type_list_append mt_append (pv 3) (pa_cons (pe_tup (pa_cons (pe_call (ok__law_pick T) (hr.mono (by decide)) (by rfl) T.g__law_pick T.F__law_pick.kp T.b__law_pick .nil pass0 (pa_cons (pv 0) (pa_cons (pe_op op_add (pv 5) pe_int) pa_nil))) (pa_cons pe_int pa_nil))) pa_nil))))))))
  (pss_one (ps_ret (pv 3)))))), ?_⟩
    refine ⟨.ref t, rfl, .int b, rfl, _, _, rfl, rfl, t, sc, b + 1, rfl, ⟨by omega, by omega⟩, tp, fun x H1 hx0 hx1 mv1 tp1 => ?_⟩
    refine ⟨by show 2 ≤ sizeLine; decide, fun p np => ⟨by show 1 ≤ sizeLine; decide, fun L nL => ?_⟩⟩
    have sp := same_upd (o := .tup [V.int x, .int 1]) np
    have sL := same_upd (o := .lst [V.ref p]) nL
    have tp2 := (tp1.keep sp).keep sL
    have nHL : H L = none := mv1.free (tp1.keep sp |>.ne nL) (Same.free sp nL)
    refine ⟨.ref t, rfl, t, sc, 10, rfl, ⟨by decide, by decide⟩, tp2, fun n H3 hn0 hn1 mv3 tp3 => ?_⟩
    have hLt : L ≠ t := (tp1.keep sp).ne nL
    have hLs : L ≠ sc := (tp1.keep sp).ne2 nL
    have mv0 : Moved t H H3 := ((mv1.trans (Moved.same sp)).trans (Moved.same sL)).trans mv3
    refine ⟨n, rfl, by omega, by omega, for_range (lo := 0) (n := n.toNat)
      (fun i σ H' => ∃ (y4 y5 y6 : Option V) (ps : List Addr) (row : List Wk.Spt) (pp : Addr) (sp : Wk.Spt), σ = [some (.ref t), some (.int k), some (.int b), some (.ref L), y4, y5, y6] ∧ H' L = some (.lst ((ps ++ [pp]).map V.ref)) ∧ Tups pv2 H' ps row ∧ H' pp = some (.tup (pv2 sp)) ∧ Wk.Walk k b (row ++ [sp]) ∧ row.length = i ∧ Moved t H H' ∧ Tape H' t sc)
      ⟨_, _, _, [], [], p, (x, 1), rfl, mv3 _ _ hLt upd_same, .nil, mv3 _ _ ((tp1.ne np)) (sL _ _ upd_same), ⟨⟨hx0, by show x ≤ b; omega, by show (1 : Int) ≤ 1; decide, by show (1 : Int) ≤ k; omega, by show (1 : Int) - 1 ≤ x; omega⟩, rfl, trivial⟩, rfl, mv0, tp3⟩ (fun i σ H' hi h => ?_) (fun σ H' h => ?_)⟩
    · obtain ⟨y4, y5, y6, ps, row, pp, ⟨wt, tu⟩, rfl, eL, tq, epp, hw, hl, mv, tpp⟩ := h
      have hsp := walk_spots hw (wt, tu) (by simp)
      have hs' := hsp
      unfold Wk.Spot at hs'
      simp only at hs'
      have hat : atI ((ps ++ [pp]).map V.ref) (-1) = some (.ref pp) := by
        rw [List.map_append]
        exact atI_last _ _
      refine ⟨.ref L, rfl, 1, rfl, L, _, -1, _, rfl, rfl, SqL.of eL, hat, pp, _, rfl, SqT.of epp, rfl, _, [_], rfl, _, [], rfl, rfl, ?_⟩
      have lst : ∀ y, (row ++ [(wt, tu)]).getLast? = some y → y = (wt, tu) := fun y hy => by
        rw [List.getLast?_append] at hy
        simpa using hy.symm
      have zl : ((ps ++ [pp]).map V.ref).length ≤ 10 := by
        rw [List.length_map, List.length_append, tq.length, hl]
        show i + 1 ≤ 10
        omega
      refine ⟨.ref t, rfl, t, sc, 2, rfl, ⟨by decide, by decide⟩, tpp, fun r H2 hr0 hr1 mv2 tp2 => ?_⟩
      by_cases c1 : V.int r = V.int 0
      · refine ⟨rfl, true, congrArg V.bl (decide_eq_true c1), iteT ?_⟩
        by_cases c2 : tu < k
        · refine ⟨.int tu, rfl, .int k, rfl, _, _, rfl, rfl, true, congrArg V.bl (decide_eq_true c2), iteT ?_⟩
          by_cases c3 : wt < b
          · refine ⟨.int wt, rfl, .int b, rfl, _, _, rfl, rfl, true, congrArg V.bl (decide_eq_true c3), iteT ?_⟩
            have e2 := mv2 L _ hLt eL
            refine ⟨.ref L, rfl, .inl ⟨rfl, _, SqL.of e2⟩, .int wt, rfl, _, _, rfl, rfl, .int tu, rfl, _, _, rfl, rfl, by show 2 ≤ sizeLine; decide, fun c nc => ?_⟩
            have s3 := same_upd (o := .tup [V.int (wt + 1), .int (tu + 1)]) nc
            refine ⟨L, _, _, rfl, rfl, s3 _ _ e2, small1000 (by omega), ?_⟩
            refine ⟨_, _, _, ps ++ [pp], row ++ [(wt, tu)], c, (wt + 1, tu + 1), rfl, by rw [upd_same, List.map_append (l₁ := ps ++ [pp])]; rfl, ?_, ?_, walk_snoc' hw (fun y hy => ?_), by rw [List.length_append, hl]; rfl, moved_put ((mv.trans mv2).trans (Moved.same s3)) nHL, (tp2.keep s3).but hLt hLs⟩
            · exact (((mv2.tups tpp tq).new nc).snoc (s3 _ _ (mv2 _ _ (tpp.neT epp) epp))).put (s3 _ _ e2)
            · rw [upd_ne (fun z => by rw [z, e2] at nc; cases nc)]
              exact upd_same
            · rw [lst y hy]
              refine ⟨?_, .inl rfl⟩
              unfold Wk.Spot
              simp only
              omega
          · refine ⟨.int wt, rfl, .int b, rfl, _, _, rfl, rfl, false, congrArg V.bl (decide_eq_false c3), iteF ?_⟩
            have e2 := mv2 L _ hLt eL
            refine ⟨.ref L, rfl, .inl ⟨rfl, _, SqL.of e2⟩, .ref t, rfl, .int wt, rfl, _, _, rfl, rfl, t, sc, wt + 1, rfl, ⟨by omega, by omega⟩, tp2, fun v H4 hv0 hv1 mv4 tp4 => ?_⟩
            refine ⟨by show 2 ≤ sizeLine; decide, fun c nc => ?_⟩
            have e4 := mv4 L _ hLt e2
            have s3 := same_upd (o := .tup [V.int v, .int 1]) nc
            have mv24 := mv2.trans mv4
            refine ⟨L, _, _, rfl, rfl, s3 _ _ e4, small1000 (by omega), ?_⟩
            refine ⟨_, _, _, ps ++ [pp], row ++ [(wt, tu)], c, (v, 1), rfl, by rw [upd_same, List.map_append (l₁ := ps ++ [pp])]; rfl, ?_, ?_, walk_snoc' hw (fun y hy => ?_), by rw [List.length_append, hl]; rfl, moved_put ((mv.trans mv24).trans (Moved.same s3)) nHL, (tp4.keep s3).but hLt hLs⟩
            · exact (((mv24.tups tpp tq).new nc).snoc (s3 _ _ (mv24 _ _ (tpp.neT epp) epp))).put (s3 _ _ e4)
            · rw [upd_ne (fun z => by rw [z, e4] at nc; cases nc)]
              exact upd_same
            · rw [lst y hy]
              refine ⟨?_, .inr ⟨rfl, ?_⟩⟩
              · unfold Wk.Spot
                simp only
                omega
              · show v ≤ wt
                omega
        · refine ⟨.int tu, rfl, .int k, rfl, _, _, rfl, rfl, false, congrArg V.bl (decide_eq_false c2), iteF ?_⟩
          have e2 := mv2 L _ hLt eL
          refine ⟨.ref L, rfl, .inl ⟨rfl, _, SqL.of e2⟩, .ref t, rfl, .int wt, rfl, _, _, rfl, rfl, t, sc, wt + 1, rfl, ⟨by omega, by omega⟩, tp2, fun v H4 hv0 hv1 mv4 tp4 => ?_⟩
          refine ⟨by show 2 ≤ sizeLine; decide, fun c nc => ?_⟩
          have e4 := mv4 L _ hLt e2
          have s3 := same_upd (o := .tup [V.int v, .int 1]) nc
          have mv24 := mv2.trans mv4
          refine ⟨L, _, _, rfl, rfl, s3 _ _ e4, small1000 (by omega), ?_⟩
          refine ⟨_, _, _, ps ++ [pp], row ++ [(wt, tu)], c, (v, 1), rfl, by rw [upd_same, List.map_append (l₁ := ps ++ [pp])]; rfl, ?_, ?_, walk_snoc' hw (fun y hy => ?_), by rw [List.length_append, hl]; rfl, moved_put ((mv.trans mv24).trans (Moved.same s3)) nHL, (tp4.keep s3).but hLt hLs⟩
          · exact (((mv24.tups tpp tq).new nc).snoc (s3 _ _ (mv24 _ _ (tpp.neT epp) epp))).put (s3 _ _ e4)
          · rw [upd_ne (fun z => by rw [z, e4] at nc; cases nc)]
            exact upd_same
          · rw [lst y hy]
            refine ⟨?_, .inr ⟨rfl, ?_⟩⟩
            · unfold Wk.Spot
              simp only
              omega
            · show v ≤ wt
              omega
      · refine ⟨rfl, false, congrArg V.bl (decide_eq_false c1), iteF ?_⟩
        have e2 := mv2 L _ hLt eL
        refine ⟨.ref L, rfl, .inl ⟨rfl, _, SqL.of e2⟩, .ref t, rfl, .int wt, rfl, _, _, rfl, rfl, t, sc, wt + 1, rfl, ⟨by omega, by omega⟩, tp2, fun v H4 hv0 hv1 mv4 tp4 => ?_⟩
        refine ⟨by show 2 ≤ sizeLine; decide, fun c nc => ?_⟩
        have e4 := mv4 L _ hLt e2
        have s3 := same_upd (o := .tup [V.int v, .int 1]) nc
        have mv24 := mv2.trans mv4
        refine ⟨L, _, _, rfl, rfl, s3 _ _ e4, small1000 (by omega), ?_⟩
        refine ⟨_, _, _, ps ++ [pp], row ++ [(wt, tu)], c, (v, 1), rfl, by rw [upd_same, List.map_append (l₁ := ps ++ [pp])]; rfl, ?_, ?_, walk_snoc' hw (fun y hy => ?_), by rw [List.length_append, hl]; rfl, moved_put ((mv.trans mv24).trans (Moved.same s3)) nHL, (tp4.keep s3).but hLt hLs⟩
        · exact (((mv24.tups tpp tq).new nc).snoc (s3 _ _ (mv24 _ _ (tpp.neT epp) epp))).put (s3 _ _ e4)
        · rw [upd_ne (fun z => by rw [z, e4] at nc; cases nc)]
          exact upd_same
        · rw [lst y hy]
          refine ⟨?_, .inr ⟨rfl, ?_⟩⟩
          · unfold Wk.Spot
            simp only
            omega
          · show v ≤ wt
            omega
    · obtain ⟨y4, y5, y6, ps, row, pp, sp, rfl, eL, tq, epp, hw, hl, mv, tpp⟩ := h
      refine ⟨.ref L, rfl, q L (ps ++ [pp]) (row ++ [sp]) H' hw ?_ nHL mv tpp eL (tq.snoc epp)⟩
      rw [List.length_append, hl]
      show n.toNat + 1 ≤ 10
      omega
def dP (rs : List Wk.Spt) : PyData := .list (rs.map pd2)
theorem dp_P {K : PySem.W.Frag} {H : Hp} {L : Addr} {ps : List Addr} {rs : List Wk.Spt} (e : H L = some (.lst (ps.map V.ref))) (h : Tups pv2 H ps rs) : Dp K H (.ref L) (dP rs) := .lst (SqL.of e) (dpa_prs h)
theorem Shp.dP (rs : List Wk.Spt) : Shp 3 (dP rs) := .list Shp.pd2 rs
theorem dp_2 {K : PySem.W.Frag} {H : Hp} {p : Addr} {s : Wk.Spt} (e : H p = some (.tup (pv2 s))) : Dp K H (.ref p) (dI [s.1, s.2]) := dp_dI (SqT.of e)
def spLLists (K : PySem.W.Frag) : Sp := fun vs H Q _ => ∃ (t s : Addr) (k b : Nat), vs = [.ref t, .int k, .int b] ∧ 2 ≤ k ∧ k ≤ 4 ∧ 1 ≤ b ∧ b ≤ 60 ∧ Tape H t s ∧
  ∀ H', Moved t H H' → Tape H' t s → Q (.bl true) H'
theorem ok__law_lists_right (T : Tx K mg) : FnOk P w K mg base CX0 6 T.a__law_lists_right T.d__law_lists_right ["tape", "comers", "bound"] (spLLists K) := by
  refine T.F__law_lists_right.ok sc__law_lists_right (fun vs H Q E h => ?_) (fun cdv A outer s H vs Q E hr h => ?_)
  · obtain ⟨t, sc, k, b, rfl, _⟩ := h
    rfl
  · obtain ⟨t, sc, k, b, rfl, hk2, hk4, hb1, hb60, tp, q⟩ := h
    refine ⟨_, ((pss_cons (ps_set (i := 3) sc__law_lists_right.nd rfl (.inl rfl) (pe_lst pa_nil))
  (pss_cons (ps_for PassesOwn.never rfl (pi_range1 (by rfl) T.m_range (pa_cons (pe_op op_add (pv 2) pe_int) pa_nil)) (pg_name (i := 4) sc__law_lists_right.nd rfl (.inr rfl))
   (pss_one (ps_set (i := 3) sc__law_lists_right.nd rfl (.inl rfl) (pe_op op_cat (pv 3) (pe_lc (own := [("turn", 10)]) (g := (gName 10)) rfl sc__law_lists_right.nd (pi_range2 (by rfl) T.m_range (pa_cons pe_int (pa_cons (pe_op op_add (pv 1) pe_int) pa_nil))) (blkOk_by (own := [("turn", 10)]) (N := ["tape", "comers", "bound", "due", "wait", "told", "k", "one", "mine", "behind", "turn", "other"]) (sc := defScope s__law_lists_right) (by decide +kernel)) (fun _ _ _ _ _ => pg_name (i := 10) sc__law_lists_right.nd rfl (.inl rfl)) (fun _ _ _ _ _ => (pts_one (pt_cmpR op_ge (pv 4) (pe_op op_sub (pv 10) pe_int) (nomark _)))) (fun _ _ _ _ _ => (pe_tup (pa_cons (pv 4) (pa_cons (pv 10) pa_nil)))))))))
  (pss_cons (ps_set (i := 5) sc__law_lists_right.nd rfl (.inl rfl) (pe_call (ok_spots T) (hr.mono (by decide)) (by rfl) T.g_spots T.F_spots.kp T.b_spots .nil pass0 (pa_cons (pv 1) (pa_cons (pv 2) pa_nil))))
  (pss_cons (ps_if (PW.pt (pw_or (pt_cmpR (op_neD hr.units) (pv 5) (pv 3) (nomark _)) (pw_or1 (pt_not (pt_val (pe_callB call_isi (by rfl) T.m_isinstance (by decide +kernel) (pa_cons (pv 5) (pa_cons (pe_bltn (v := .ty "list") (by rfl) T.m_list (by decide +kernel) rfl) pa_nil)))))))) (pss_one (ps_ret pe_bl)) pss_nil)
  (pss_cons (ps_expr (pe_bm PySem.F.plainAttrs_list PySem.F.slot_list_append PySem.F.type_list_append mt_append (pv 5) (pa_cons (pe_tup (pa_cons pe_int (pa_cons pe_int pa_nil))) pa_nil)))
  (pss_cons (ps_for PassesOwn.never rfl (pi_range1 (by rfl) T.m_range (pa_cons pe_int pa_nil)) (pg_name (i := 6) sc__law_lists_right.nd rfl (.inl rfl))
   (pss_cons (ps_set (i := 7) sc__law_lists_right.nd rfl (.inr rfl) (pe_ix ix_list (pv 3) (pe_call (ok__law_pick T) (hr.mono (by decide)) (by rfl) T.g__law_pick T.F__law_pick.kp T.b__law_pick .nil pass0 (pa_cons (pv 0) (pa_cons (pe_callB call_len_seq (by rfl) T.m_len PySem.boot_len (pa_cons (pv 3) pa_nil)) pa_nil))) (fun _ _ => rfl)))
  (pss_cons (ps_setLc (i := 8) (own := [("other", 11)]) (g := (gName 11)) rfl sc__law_lists_right.nd rfl rfl (sw_true rfl rfl rfl (by decide +kernel)) (pi_list (pv 3)) (blkOk_by (own := [("other", 11)]) (N := ["tape", "comers", "bound", "due", "wait", "told", "k", "one", "mine", "behind", "turn", "other"]) (sc := defScope s__law_lists_right) (by decide +kernel)) (fun _ _ _ _ _ => pg_name (i := 11) sc__law_lists_right.nd rfl (.inl rfl)) (fun _ _ _ _ _ => (pts_one (PW.pt (pw_or (pt_cmpR (eqDK (K := K) (by rfl) (by exact hr.units)) (pv 11) (pe_tup (pa_cons (pe_op op_add (pe_ix (ixTK (K := K) (by rfl)) (pv 7) pe_int (fun _ _ => rfl)) pe_int) (pa_cons (pe_op op_add (pe_ix (ixTK (K := K) (by rfl)) (pv 7) pe_int (fun _ _ => rfl)) pe_int) pa_nil))) (nomark _)) (pw_or1 (PW.pt (pw_and (pt_cmpR op_eq (pe_ix (ixTK (K := K) (by rfl)) (pv 11) pe_int (fun _ _ => rfl)) pe_int (nomark _)) (pw_and1 (pt_cmpR op_le (pe_ix (ixTK (K := K) (by rfl)) (pv 11) pe_int (fun _ _ => rfl)) (pe_ix (ixTK (K := K) (by rfl)) (pv 7) pe_int (fun _ _ => rfl)) (nomark _)))))))))) (fun _ _ _ _ _ => (pv 11)))
  (pss_cons (ps_set (i := 9) sc__law_lists_right.nd rfl (.inl rfl) (pe_call (ok_nexts T) (hr.mono (by decide)) (by rfl) T.g_nexts T.F_nexts.kp T.b_nexts .nil pass0 (pa_cons (pv 1) (pa_cons (pv 2) (pa_cons (pv 7) pa_nil)))))
  (pss_cons (ps_if (PW.pt (pw_or (pt_cmpR (op_neD hr.units) (pv 9) (pv 8) (nomark _)) (pw_or1 (pt_not (pt_val (pe_callB call_isi (by rfl) T.m_isinstance (by decide +kernel) (pa_cons (pv 9) (pa_cons (pe_bltn (v := .ty "list") (by rfl) T.m_list (by decide +kernel) rfl) pa_nil)))))))) (pss_one (ps_ret pe_bl)) pss_nil)
  (pss_cons (ps_expr (pe_bm PySem.F.plainAttrs_list PySem.F.slot_list_append PySem.F.type_list_append mt_append (pv 9) (pa_cons (pv 7) pa_nil)))
  (pss_one (ps_if (pt_cmpR (op_neD hr.units) (pe_call (ok_nexts T) (hr.mono (by decide)) (by rfl) T.g_nexts T.F_nexts.kp T.b_nexts .nil pass0 (pa_cons (pv 1) (pa_cons (pv 2) (pa_cons (pv 7) pa_nil)))) (pv 8) (nomark _)) (pss_one (ps_ret pe_bl)) pss_nil))))))))
  (pss_one (ps_ret (pe_cmpR (op_eqD hr.units) (pe_call (ok_spots T) (hr.mono (by decide)) (by rfl) T.g_spots T.F_spots.kp T.b_spots .nil pass0 (pa_cons (pv 1) (pa_cons (pv 2) pa_nil))) (pv 3) (nomark _))))))))))), ?_⟩
    refine ⟨Nat.zero_le _, fun D0 nD0 => ?_⟩
    have s0 := same_upd (o := .lst []) nD0
    refine ⟨.int b, rfl, _, _, rfl, rfl, (b : Int) + 1, rfl, by omega, by omega, for_range (lo := 0) (n := ((b : Int) + 1).toNat)
      (fun i σ H' => ∃ (D : Addr) (ps : List Addr) (y4 y5 y6 y7 y8 y9 y10 y11 : Option V), σ = [some (.ref t), some (.int k), some (.int b), some (.ref D), y4, y5, y6, y7, y8, y9, y10, y11] ∧ H' D = some (.lst (ps.map V.ref)) ∧ Tups pv2 H' ps (Wk.spN k i) ∧ Same H H')
      ⟨D0, [], _, _, _, _, _, _, _, _, rfl, upd_same, .nil, s0⟩ (fun i σ H' hi h => ?_) (fun σ H' h => ?_)⟩
    · obtain ⟨D, ps, y4, y5, y6, y7, y8, y9, y10, y11, rfl, eD, tu, sm⟩ := h
      have hi' : i ≤ b := by omega
      have zs := Wk.spN_len k i
      have zk : k * i ≤ 240 := Nat.le_trans (Nat.mul_le_mul hk4 (Nat.le_trans hi' hb60)) (by decide)
      rw [Int.zero_add]
      refine ⟨.ref D, rfl, .int k, rfl, _, _, rfl, rfl, 1, (k : Int) + 1, rfl, ⟨by omega, by omega, by omega, by omega⟩, fun M nM => lc_range (lo := 1) (n := ((k : Int) + 1 - 1).toNat)
        (fun j H2 => ∃ qs : List Addr, H2 M = some (.lst (qs.map V.ref)) ∧ Tups pv2 H2 qs (Wk.rowN (i : Int) (min j (i + 1))) ∧ Same H' H2)
        ⟨[], upd_same, .nil, same_upd nM⟩ (fun j H2 hj h => ?_) (fun H2 h => ?_)⟩
      · obtain ⟨qs, eM, tq, sm2⟩ := h
        refine ⟨rfl, ?_⟩
        by_cases c : (i : Int) ≥ 1 + (j : Int) - 1
        · have e1 : min j (i + 1) = j := by omega
          have e2 : min (j + 1) (i + 1) = j + 1 := by omega
          rw [e1] at tq
          refine ⟨.int i, rfl, .int (1 + (j : Int)), rfl, _, _, rfl, rfl, _, _, rfl, rfl, true, congrArg V.bl (decide_eq_true c), iteT ?_⟩
          refine ⟨.int i, rfl, .int (1 + (j : Int)), rfl, by show 2 ≤ sizeLine; decide, fun p np => ?_⟩
          have s1 := same_upd (o := .tup [V.int i, .int (1 + (j : Int))]) np
          refine ⟨_, s1 _ _ eM, ?_, qs ++ [p], by rw [upd_same, List.map_append]; rfl, ?_, same_put (sm2.trans s1) nM⟩
          · rw [List.length_map, tq.length, Wk.rowN_len]
            exact small1000 (by omega)
          · rw [e2]
            exact ((tq.new np).snoc (x := ((i : Int), 1 + (j : Int))) upd_same).put (s1 _ _ eM)
        · have e2 : min (j + 1) (i + 1) = min j (i + 1) := by omega
          refine ⟨.int i, rfl, .int (1 + (j : Int)), rfl, _, _, rfl, rfl, _, _, rfl, rfl, false, congrArg V.bl (decide_eq_false c), iteF ?_⟩
          exact ⟨qs, eM, by rw [e2]; exact tq, sm2⟩
      · obtain ⟨qs, eM, tq, sm2⟩ := h
        have ek : ((k : Int) + 1 - 1).toNat = k := by omega
        rw [ek] at tq
        refine ⟨D, M, _, _, rfl, rfl, sm2 _ _ eD, eM, ?_, fun p np => ?_⟩
        · rw [List.length_map, List.length_map, tu.length, tq.length, Wk.rowN_len]
          show _ ≤ 2 ^ 24
          have := Nat.min_le_left k (i + 1)
          omega
        have s1 := same_upd (o := .lst (ps.map V.ref ++ qs.map V.ref)) np
        exact ⟨p, ps ++ qs, _, _, _, _, _, _, _, _, rfl, by rw [upd_same, List.map_append], ((tu.same sm2).append tq).new np, (sm.trans sm2).trans s1⟩
    · obtain ⟨D, ps, y4, y5, y6, y7, y8, y9, y10, y11, rfl, eD, tu, sm⟩ := h
      have e0 : ((b : Int) + 1).toNat = b + 1 := by omega
      rw [e0] at tu
      have zs : (Wk.spN k (b + 1)).length ≤ 244 := Nat.le_trans (Wk.spN_len k (b + 1)) (Nat.le_trans (Nat.mul_le_mul hk4 (Nat.succ_le_succ hb60)) (by decide))
      have tp0 := tp.keep sm
      -- told
      refine ⟨.int k, rfl, .int b, rfl, k, b, rfl, hk2, hk4, hb1, hb60, fun A1 as H1 s1 nA1 eA1 tA1 => ?_⟩
      have eD1 := s1 _ _ eD
      have tu1 := tu.same s1
      have tp1 := tp0.keep s1
      refine ⟨.ref A1, rfl, .ref D, rfl, dP (Wk.spN k (b + 1)), dP (Wk.spN k (b + 1)), dp_P eA1 tA1, dp_P eD1 tu1, (Shp.dP _).ok (by decide), (Shp.dP _).ok (by decide), false, ne_same (Shp.dP _), iteF ?_⟩
      refine ⟨.ref A1, rfl, .ref A1, .ty "list", _, _, true, rfl, .ty _, .base (.lst eA1), kit_ty (by decide +kernel), true, rfl, iteF ?_⟩
      refine ⟨.ref A1, rfl, .inl ⟨rfl, _, SqL.of eA1⟩, by show 2 ≤ sizeLine; decide, fun c nc => ?_⟩
      have sc1 := same_upd (o := .tup [V.int 0, .int 1]) nc
      refine ⟨A1, _, _, rfl, rfl, sc1 _ _ eA1, by rw [List.length_map, tA1.length]; exact small1000 (by omega), ?_⟩
      have nHA1 : H A1 = none := Same.free sm nA1
      have nA1D : D ≠ A1 := fun z => by
        rw [← z, eD] at nA1
        cases nA1
      have mvA : Moved t H (upd (upd H1 c (.tup [V.int 0, .int 1])) A1 (.lst (as.map V.ref ++ [.ref c]))) := moved_put (Moved.same ((sm.trans s1).trans sc1)) nHA1
      refine ⟨5, rfl, by decide, by decide, for_range (lo := 0) (n := (5 : Int).toNat)
        (fun i σ H' => ∃ (y4 y5 y6 y7 y8 y9 y10 y11 : Option V), σ = [some (.ref t), some (.int k), some (.int b), some (.ref D), y4, y5, y6, y7, y8, y9, y10, y11] ∧ H' D = some (.lst (ps.map V.ref)) ∧ Tups pv2 H' ps (Wk.spN k (b + 1)) ∧ Moved t H H' ∧ Tape H' t sc)
        ⟨_, _, _, _, _, _, _, _, rfl, by rw [upd_ne nA1D]; exact sc1 _ _ eD1, (tu1.new nc).put (sc1 _ _ eA1), mvA, (tp1.keep sc1).but (tp0.ne nA1) (tp0.ne2 nA1)⟩ (fun i σ H' hi h => ?_) (fun σ H' h => ?_)⟩
      · obtain ⟨y4, y5, y6, y7, y8, y9, y10, y11, rfl, eD2, tu2, mv2, tp2⟩ := h
        have hlen : (((ps.map V.ref).length : Nat) : Int) = ((Wk.spN k (b + 1)).length : Int) := by rw [List.length_map, tu2.length]
        have hpos : 1 ≤ (Wk.spN k (b + 1)).length := by
          show 1 ≤ (Wk.spN k b ++ Wk.rowN (b : Int) (min k (b + 1))).length
          rw [List.length_append, Wk.rowN_len]
          omega
        refine ⟨.ref D, rfl, .ref t, rfl, .ref D, rfl, D, _, rfl, .inl (SqL.of eD2), t, sc, (((ps.map V.ref).length : Nat) : Int), rfl, ⟨by omega, by omega⟩, tp2, fun x H3 hx0 hx1 mv3 tp3 => ?_⟩
        obtain ⟨s0, hs0⟩ : ∃ s0, (Wk.spN k (b + 1))[x.toNat]? = some s0 := ⟨_, List.getElem?_eq_getElem (by omega)⟩
        have hDt : D ≠ t := fun z => by
          obtain ⟨_, _, _, _, _, _, e2, _⟩ := tp2
          rw [z, e2] at eD2
          obtain ⟨⟩ : False := by
            cases ps with
            | nil => cases eD2
            | cons p ps =>
              cases ps with
              | nil => cases eD2
              | cons p' ps => injection eD2 with h; injection h with h; injection h with h1 h2; injection h2 with h3 h4; cases h3
        have eD3 := mv3 D _ hDt eD2
        have tu3 := mv3.tups tp2 tu2
        obtain ⟨po, hpo, epo⟩ := tu3.at hs0
        have hsp : Wk.Spot k b s0 := Wk.spN_spot (Nat.le_refl _) (List.mem_of_getElem? hs0)
        refine ⟨D, _, _, .ref po, rfl, rfl, SqL.of eD3, atI_of hx0 hpo, ?_⟩
        refine ⟨.ref D, rfl, D, rfl, ⟨_, SqL.of eD3⟩, fun M nM => lc_list (K := K) (a := D) (xs := ps.map V.ref)
          (fun j H4 => ∃ qs : List Addr, H4 M = some (.lst (qs.map V.ref)) ∧ Tups pv2 H4 qs (((Wk.spN k (b + 1)).take j).filter (Wk.nxP s0)) ∧ Same H3 H4)
          ⟨[], upd_same, .nil, same_upd nM⟩ (fun j H4 _ h => ?_) (fun j y H4 hy h => ?_) (fun H4 h => ?_)⟩
        · obtain ⟨_, _, _, sm4⟩ := h
          exact SqL.of (sm4 _ _ eD3)
        · obtain ⟨qs, eM, tq, sm4⟩ := h
          obtain ⟨r, o, rfl, ho, er⟩ := tu3.get hy
          have epo4 := sm4 _ _ epo
          have er4 := sm4 _ _ er
          have ef : ((Wk.spN k (b + 1)).take (j + 1)).filter (Wk.nxP s0) = ((Wk.spN k (b + 1)).take j).filter (Wk.nxP s0) ++ [o].filter (Wk.nxP s0) := by
            rw [take_snoc ho, List.filter_append]
          have zq : qs.length ≤ 244 := by
            rw [tq.length]
            refine Nat.le_trans (List.length_filter_le _ _) ?_
            rw [List.length_take]
            omega
          refine ⟨rfl, ?_⟩
          refine ⟨.ref r, rfl, .ref po, rfl, po, _, 0, _, rfl, rfl, SqT.of epo4, atI_nat (j := 0) rfl, _, _, rfl, rfl, .ref po, rfl, po, _, 1, _, rfl, rfl, SqT.of epo4, atI_nat (j := 1) rfl, _, _, rfl, rfl, by show 2 ≤ sizeLine; decide, fun c nc => ?_⟩
          have s6 := same_upd (o := .tup [V.int (s0.1 + 1), .int (s0.2 + 1)]) nc
          have eM6 := s6 _ _ eM
          have tq6 := tq.new (o := .tup [V.int (s0.1 + 1), .int (s0.2 + 1)]) nc
          have sm6 := sm4.trans s6
          have ec : (upd H4 c (.tup [V.int (s0.1 + 1), .int (s0.2 + 1)])) c = some (.tup (pv2 (s0.1 + 1, s0.2 + 1))) := upd_same
          have er6 := s6 _ _ er4
          have ep6 := s6 _ _ epo4
          generalize upd H4 c (.tup [V.int (s0.1 + 1), .int (s0.2 + 1)]) = H6 at *
          have yes : Wk.nxP s0 o = true → ∃ acc, H6 M = some (.lst acc) ∧ acc.length < sizeLine ∧ ∃ qs', upd H6 M (.lst (acc ++ [.ref r])) M = some (.lst (List.map V.ref qs')) ∧ Tups pv2 (upd H6 M (.lst (acc ++ [.ref r]))) qs' (List.filter (Wk.nxP s0) (List.take (j + 1) (Wk.spN k (b + 1)))) ∧ Same H3 (upd H6 M (.lst (acc ++ [.ref r]))) := fun hy => by
            refine ⟨_, eM6, by rw [List.length_map]; exact small1000 (by omega), qs ++ [r], by rw [upd_same, List.map_append]; rfl, ?_, same_put sm6 nM⟩
            rw [ef, List.filter_cons, hy]
            exact (tq6.snoc (x := o) er6).put eM6
          have no : Wk.nxP s0 o = false → ∃ qs', H6 M = some (.lst (List.map V.ref qs')) ∧ Tups pv2 H6 qs' (List.filter (Wk.nxP s0) (List.take (j + 1) (Wk.spN k (b + 1)))) ∧ Same H3 H6 := fun hy => by
            refine ⟨qs, eM6, ?_, sm6⟩
            rw [ef, List.filter_cons, hy]
            show Tups pv2 H6 qs (_ ++ [])
            rw [List.append_nil]
            exact tq6
          refine ⟨_, _, dp_2 er6, dp_2 ec, (Shp.dI _).ok (by decide), (Shp.dI _).ok (by decide), ?_⟩
          have e2 := two_eq o (s0.1 + 1, s0.2 + 1)
          by_cases c1 : (o : Int × Int) = (s0.1 + 1, s0.2 + 1)
          · rw [decide_eq_true c1] at e2
            refine ⟨true, congrArg V.bl e2, iteT ?_⟩
            exact ⟨.ref r, rfl, yes (by unfold Wk.nxP; rw [decide_eq_true c1]; rfl)⟩
          · rw [decide_eq_false c1] at e2
            refine ⟨false, congrArg V.bl e2, iteF ?_⟩
            refine ⟨.ref r, rfl, r, _, 1, _, rfl, rfl, SqT.of er6, atI_nat (j := 1) rfl, rfl, ?_⟩
            by_cases c2 : o.2 = 1
            · refine ⟨true, congrArg V.bl (decide_eq_true (congrArg V.int c2)), iteT ?_⟩
              refine ⟨.ref r, rfl, r, _, 0, _, rfl, rfl, SqT.of er6, atI_nat (j := 0) rfl, .ref po, rfl, po, _, 0, _, rfl, rfl, SqT.of ep6, atI_nat (j := 0) rfl, _, _, rfl, rfl, ?_⟩
              by_cases c3 : o.1 ≤ s0.1
              · refine ⟨true, congrArg V.bl (decide_eq_true c3), iteT ?_⟩
                exact ⟨.ref r, rfl, yes (by unfold Wk.nxP; rw [decide_eq_true c2, decide_eq_true c3, Bool.and_self, Bool.or_true])⟩
              · refine ⟨false, congrArg V.bl (decide_eq_false c3), iteF ?_⟩
                exact no (by unfold Wk.nxP; rw [decide_eq_false c1, decide_eq_false c3, Bool.and_false]; rfl)
            · refine ⟨false, congrArg V.bl (decide_eq_false (fun z => c2 (V.int.inj z))), iteF ?_⟩
              exact no (by unfold Wk.nxP; rw [decide_eq_false c1, decide_eq_false c2, Bool.false_and]; rfl)
        · obtain ⟨qs, eM, tq, sm4⟩ := h
          rw [List.length_map, tu3.length, List.take_of_length_le (Nat.le_refl _), Wk.filt_nx hsp] at tq
          have eD4 := sm4 _ _ eD3
          have tu4 := tu3.same sm4
          have epo4 := sm4 _ _ epo
          have tp4 := tp3.keep sm4
          have mv4 := (mv2.trans mv3).trans (Moved.same sm4)
          refine ⟨.int k, rfl, .int b, rfl, .ref po, rfl, (k : Int), (b : Int), po, s0, rfl, SqT.of epo4, hsp, by omega, by omega, by omega, by omega, fun A2 bs H5 s5 nA2 eA2 tA2 => ?_⟩
          have eM5 := s5 _ _ eM
          have tq5 := tq.same s5
          refine ⟨.ref A2, rfl, .ref M, rfl, dP (Wk.nxL k b s0), dP (Wk.nxL k b s0), dp_P eA2 tA2, dp_P eM5 tq5, (Shp.dP _).ok (by decide), (Shp.dP _).ok (by decide), false, ne_same (Shp.dP _), iteF ?_⟩
          refine ⟨.ref A2, rfl, .ref A2, .ty "list", _, _, true, rfl, .ty _, .base (.lst eA2), kit_ty (by decide +kernel), true, rfl, iteF ?_⟩
          have znx : (Wk.nxL k b s0).length ≤ 70 := by
            unfold Wk.nxL
            unfold Wk.Spot at hsp
            rw [List.length_append, Wk.onesN_len]
            have : ∀ c : Prop, ∀ _ : Decidable c, (if c then [(s0.1 + 1, s0.2 + 1)] else ([] : List Wk.Spt)).length ≤ 1 := fun c _ => by
              split <;> simp
            have := this (s0.1 + 1 ≤ (b : Int) ∧ s0.2 + 1 ≤ (k : Int)) inferInstance
            omega
          refine ⟨.ref A2, rfl, .inl ⟨rfl, _, SqL.of eA2⟩, .ref po, rfl, A2, _, _, rfl, rfl, eA2, by rw [List.length_map, tA2.length]; exact small1000 (by omega), ?_⟩
          have nHA2 : H4 A2 = none := nA2
          have nA2M : M ≠ A2 := ne_of_none eM nA2
          have nA2D : D ≠ A2 := ne_of_none eD4 nA2
          have nA2p : po ≠ A2 := ne_of_none epo4 nA2
          have sm7 : Same H4 (upd H5 A2 (.lst (bs.map V.ref ++ [.ref po]))) := same_put s5 nA2
          refine ⟨.int k, rfl, .int b, rfl, .ref po, rfl, (k : Int), (b : Int), po, s0, rfl, SqT.of (sm7 _ _ epo4), hsp, by omega, by omega, by omega, by omega, fun A3 cs H8 s8 nA3 eA3 tA3 => ?_⟩
          have sm8 := sm7.trans s8
          refine ⟨.ref M, rfl, dP (Wk.nxL k b s0), dP (Wk.nxL k b s0), dp_P eA3 tA3, dp_P (sm8 _ _ eM) (tq.same sm8), (Shp.dP _).ok (by decide), (Shp.dP _).ok (by decide), false, ne_same (Shp.dP _), iteF ?_⟩
          exact ⟨_, _, _, _, _, _, _, _, rfl, sm8 _ _ eD4, tu4.same sm8, mv4.trans (Moved.same sm8), tp4.keep sm8⟩
      · obtain ⟨y4, y5, y6, y7, y8, y9, y10, y11, rfl, eD2, tu2, mv2, tp2⟩ := h
        refine ⟨.int k, rfl, .int b, rfl, k, b, rfl, hk2, hk4, hb1, hb60, fun A1 as H3 s3 nA1 eA1 tA1 => ?_⟩
        refine ⟨.ref D, rfl, dP (Wk.spN k (b + 1)), dP (Wk.spN k (b + 1)), dp_P eA1 tA1, dp_P (s3 _ _ eD2) (tu2.same s3), (Shp.dP _).ok (by decide), (Shp.dP _).ok (by decide), ?_⟩
        have e9 := eqv_same (Shp.dP (Wk.spN k (b + 1)))
        rw [e9]
        exact q H3 (mv2.trans (Moved.same s3)) (tp2.keep s3)
theorem any_P {L : List Wk.Spt} {y : Wk.Spt} (h : y ∈ L) : ((L.map pd2).any fun z => PyData.eqv z (dI [y.1, y.2])) = true := by
  rw [List.any_map, List.any_eq_true]
  exact ⟨y, h, eqv_same (Shp.pd2 y)⟩
theorem cutN (xs : List V) (m : Nat) : cutV xs (some (m : Int)) none = xs.drop m := by
  unfold cutV
  rw [show HT.sIx xs.length 0 (some (m : Int)) = min m xs.length from HT.sIx_nat xs.length 0 m, HT.sIx_none]
  by_cases h : m ≤ xs.length
  · rw [Nat.min_eq_left h, List.take_of_length_le]
    rw [List.length_drop]
    exact Nat.le_refl _
  · rw [Nat.min_eq_right (by omega), List.drop_of_length_le (Nat.le_refl _), List.drop_of_length_le (by omega)]
    exact List.take_nil
theorem Tups.drop {α : Type} {f : α → List V} {H : Hp} {ps : List Addr} {xs : List α} (h : Tups f H ps xs) : ∀ m : Nat, Tups f H (ps.drop m) (xs.drop m) := by
  induction h with
  | nil =>
    intro m
    rw [List.drop_nil, List.drop_nil]
    exact .nil
  | cons a h ih =>
    intro m
    cases m with
    | zero => exact .cons a h
    | succ m => exact ih m
theorem wkL_drop : ∀ {L : List Ln.Let}, (∀ l ∈ L, l.2.2 ≠ none) → ∀ m : Nat, (Wk.wkL L).drop m = Wk.wkL (L.drop m)
  | [], _, m => by
    rw [List.drop_nil]
    exact List.drop_nil
  | l :: L, h, 0 => rfl
  | l :: L, h, m + 1 => by
    have h1 := h l List.mem_cons_self
    show (Wk.wk1 l ++ Wk.wkL L).drop (m + 1) = Wk.wkL (L.drop m)
    rw [← wkL_drop (fun x hx => h x (List.mem_cons_of_mem _ hx)) m]
    unfold Wk.wk1
    cases e : l.2.2 with
    | none => exact absurd e h1
    | some w => rfl
theorem flat_ws (L : List Ln.Let) : (L.map fun l => wv l.2.2).all flatV = true := by
  rw [List.all_map, List.all_eq_true]
  intro l _
  show flatV (wv l.2.2) = true
  cases l.2.2 <;> rfl
theorem no_non {L : List Ln.Let} (h : ∀ l ∈ L, l.2.2 ≠ none) : inV .non (L.map fun l => wv l.2.2) = false := by
  unfold inV
  rw [List.any_map, List.any_eq_false]
  intro l hl
  have := h l hl
  show ¬ eqV (wv l.2.2) .non = true
  cases e : l.2.2 with
  | none => exact absurd e this
  | some w => exact fun z => by cases z
def lawLevel : Nat := 8
def spLaw (K : PySem.W.Frag) : Sp := fun vs H Q _ => ∃ (a : Addr) (ns : List Int), vs = [.ref a] ∧ SqL K H a (ns.map V.int) ∧ ns.length ≤ 63 ∧ ∀ H', Q (.bl true) H'
theorem ok_law (T : Tx K mg) : FnOk P w K mg base CX0 8 T.a_law T.d_law ["script"] (spLaw K) := by
  refine T.F_law.ok sc_law (fun vs H Q E h => ?_) (fun cdv A outer s H vs Q E hr h => ?_)
  · obtain ⟨a, ns, rfl, _⟩ := h
    rfl
  · obtain ⟨a', ns0, rfl, hS, hlen, q⟩ := h
    refine ⟨_, ((pss_cons (ps_set (i := 1) sc_law.nd rfl (.inl rfl) (pe_call (ok__law_tape T) (hr.mono (by decide)) (by rfl) T.g__law_tape T.F__law_tape.kp T.b__law_tape .nil pass0 (pa_cons (pv 0) pa_nil)))
  (pss_cons (ps_set (i := 2) sc_law.nd rfl (.inl rfl) (pe_op op_add pe_int (pe_call (ok__law_pick T) (hr.mono (by decide)) (by rfl) T.g__law_pick T.F__law_pick.kp T.b__law_pick .nil pass0 (pa_cons (pv 1) (pa_cons pe_int pa_nil)))))
  (pss_cons (ps_set (i := 3) sc_law.nd rfl (.inl rfl) (pe_op op_add pe_int (pe_call (ok__law_pick T) (hr.mono (by decide)) (by rfl) T.g__law_pick T.F__law_pick.kp T.b__law_pick .nil pass0 (pa_cons (pv 1) (pa_cons (pe_ix ix_list (pe_lst (pa_cons pe_int (pa_cons pe_int (pa_cons pe_int pa_nil)))) (pe_call (ok__law_pick T) (hr.mono (by decide)) (by rfl) T.g__law_pick T.F__law_pick.kp T.b__law_pick .nil pass0 (pa_cons (pv 1) (pa_cons pe_int pa_nil))) (fun _ _ => rfl)) pa_nil)))))
  (pss_cons (ps_if (pt_not (pt_val (pe_call (ok__law_lists_right T) (hr.mono (by decide)) (by rfl) T.g__law_lists_right T.F__law_lists_right.kp T.b__law_lists_right .nil pass0 (pa_cons (pv 1) (pa_cons (pv 2) (pa_cons (pv 3) pa_nil)))))) (pss_one (ps_ret pe_bl)) pss_nil)
  (pss_cons (ps_set (i := 4) sc_law.nd rfl (.inl rfl) (pe_call (ok__law_comings T) (hr.mono (by decide)) (by rfl) T.g__law_comings T.F__law_comings.kp T.b__law_comings .nil pass0 (pa_cons (pv 1) (pa_cons (pv 2) (pa_cons pe_int pa_nil)))))
  (pss_cons (ps_setLc (i := 5) (own := [("tick", 12), ("turn", 13), ("wait", 14)]) (g := (gTup K 3 (gCons (gName 12) (gCons (gName 13) (gCons (gName 14) gNil))))) rfl sc_law.nd rfl rfl (sw_true rfl rfl rfl (by decide +kernel)) (pi_list (pe_call (ok__law_line T) (hr.mono (by decide)) (by rfl) T.g__law_line T.F__law_line.kp T.b__law_line .nil pass0 (pa_cons (pv 3) (pa_cons (pv 4) pa_nil)))) (blkOk_by (own := [("tick", 12), ("turn", 13), ("wait", 14)]) (N := ["script", "tape", "comers", "bound", "comings", "due", "told", "at", "row", "made", "letter", "letters", "tick", "turn", "wait"]) (sc := defScope s_law) (by decide +kernel)) (fun _ _ _ _ _ => pg_tup rfl (pgs_cons (pg_name (i := 12) sc_law.nd rfl (.inl rfl)) (pgs_cons (pg_name (i := 13) sc_law.nd rfl (.inl rfl)) (pgs_cons (pg_name (i := 14) sc_law.nd rfl (.inl rfl)) pgs_nil)))) (fun _ _ _ _ _ => (pts_one (pt_cmpR op_notN (pv 14) pe_non (nomark _)))) (fun _ _ _ _ _ => (pe_tup (pa_cons (pv 14) (pa_cons (pv 13) pa_nil)))))
  (pss_cons (ps_set (i := 6) sc_law.nd rfl (.inl rfl) (pe_call (ok_walk T) (hr.mono (by decide)) (by rfl) T.g_walk T.F_walk.kp T.b_walk .nil pass0 (pa_cons (pv 2) (pa_cons (pv 3) (pa_cons (pv 4) pa_nil)))))
  (Evl.pss_cut (ps_if (PW.pt (pw_or (pt_cmpR (op_neD hr.units) (pv 6) (pv 5) (nomark _)) (pw_or (pt_not (pt_val (pe_callB call_isi (by rfl) T.m_isinstance (by decide +kernel) (pa_cons (pv 6) (pa_cons (pe_bltn (v := .ty "list") (by rfl) T.m_list (by decide +kernel) rfl) pa_nil))))) (pw_or1 (PW.pt (pw_and (pt_cmpR op_gt (pe_callB call_len_seq (by rfl) T.m_len PySem.boot_len (pa_cons (pv 6) pa_nil)) pe_int (nomark _)) (pw_and1 (pt_cmpR (op_neD hr.units) (pe_ix ix_list (pv 6) pe_int (fun _ _ => rfl)) (pe_tup (pa_cons pe_int (pa_cons pe_int pa_nil))) (nomark _))))))))) (pss_one (ps_ret pe_bl)) pss_nil)
  (pss_cons (ps_for PassesOwn.never rfl (pi_range2 (by rfl) T.m_range (pa_cons pe_int (pa_cons (pe_callB call_len_seq (by rfl) T.m_len PySem.boot_len (pa_cons (pv 6) pa_nil)) pa_nil))) (pg_name (i := 7) sc_law.nd rfl (.inl rfl))
   (pss_one (ps_if (pt_cmpR (op_notInD (units65 hr)) (pe_ix ix_list (pv 6) (pv 7) (fun _ _ => rfl)) (pe_call (ok_nexts T) (hr.mono (by decide)) (by rfl) T.g_nexts T.F_nexts.kp T.b_nexts .nil pass0 (pa_cons (pv 2) (pa_cons (pv 3) (pa_cons (pe_ix ix_list (pv 6) (pe_op op_sub (pv 7) pe_int) (fun _ _ => rfl)) pa_nil)))) (by rfl)) (pss_one (ps_ret pe_bl)) pss_nil)))
  (pss_cons (ps_set (i := 8) sc_law.nd rfl (.inl rfl) (pe_call (ok__law_walk T) (hr.mono (by decide)) (by rfl) T.g__law_walk T.F__law_walk.kp T.b__law_walk .nil pass0 (pa_cons (pv 1) (pa_cons (pv 2) (pa_cons (pv 3) pa_nil)))))
  (pss_cons (ps_asg (pe_call (ok_comings_for T) (hr.mono (by decide)) (by rfl) T.g_comings_for T.F_comings_for.kp T.b_comings_for .nil pass0 (pa_cons (pv 2) (pa_cons (pv 3) (pa_cons (pv 8) pa_nil)))) (pg_tup rfl (pgs_cons (pg_name (i := 9) sc_law.nd rfl (.inl rfl)) (pgs_cons (pg_name (i := 10) sc_law.nd rfl (.inl rfl)) pgs_nil))))
  (pss_cons (ps_set (i := 11) sc_law.nd rfl (.inl rfl) (pe_call (ok__law_line T) (hr.mono (by decide)) (by rfl) T.g__law_line T.F__law_line.kp T.b__law_line .nil pass0 (pa_cons (pv 3) (pa_cons (pv 9) pa_nil))))
  (pss_cons (ps_if (PW.pt (pw_or (pt_cmpR op_in_seq pe_non (pe_call (ok_waits T) (hr.mono (by decide)) (by rfl) T.g_waits T.F_waits.kp T.b_waits .nil pass0 (pa_cons (pv 2) (pa_cons (pv 3) (pa_cons (pv 9) pa_nil)))) (by rfl)) (pw_or1 (pt_cmpR op_ne (pe_callB call_len_seq (by rfl) T.m_len PySem.boot_len (pa_cons (pv 11) pa_nil)) (pe_op op_add (pv 10) (pe_callB call_len_seq (by rfl) T.m_len PySem.boot_len (pa_cons (pv 8) pa_nil))) (nomark _))))) (pss_one (ps_ret pe_bl)) pss_nil)
  (pss_cons (ps_if (pt_cmpR (op_neD hr.units) (pe_lc (own := [("tick", 12), ("turn", 13), ("wait", 14)]) (g := (gTup K 3 (gCons (gName 12) (gCons (gName 13) (gCons (gName 14) gNil))))) (tt := tYes) rfl sc_law.nd (pi_list (pe_slice sl_list (pv 11) (po_some (pv 10)) po_none)) (blkOk_by (own := [("tick", 12), ("turn", 13), ("wait", 14)]) (N := ["script", "tape", "comers", "bound", "comings", "due", "told", "at", "row", "made", "letter", "letters", "tick", "turn", "wait"]) (sc := defScope s_law) (by decide +kernel)) (fun _ _ _ _ _ => pg_tup rfl (pgs_cons (pg_name (i := 12) sc_law.nd rfl (.inl rfl)) (pgs_cons (pg_name (i := 13) sc_law.nd rfl (.inl rfl)) (pgs_cons (pg_name (i := 14) sc_law.nd rfl (.inl rfl)) pgs_nil)))) (fun _ _ _ _ _ => pts_nil) (fun _ _ _ _ _ => (pe_tup (pa_cons (pv 14) (pa_cons (pv 13) pa_nil))))) (pv 8) (nomark _)) (pss_one (ps_ret pe_bl)) pss_nil)
  (pss_one (ps_ret (pe_and (pe_cmpR (op_eqD hr.units) (pe_slice sl_list (pe_call (ok_walk T) (hr.mono (by decide)) (by rfl) T.g_walk T.F_walk.kp T.b_walk .nil pass0 (pa_cons (pv 2) (pa_cons (pv 3) (pa_cons (pv 9) pa_nil)))) (po_some (pv 10)) po_none) (pv 8) (nomark _)) (pe_one (pe_cmpR (op_eqD hr.units) (pe_call (ok_walk T) (hr.mono (by decide)) (by rfl) T.g_walk T.F_walk.kp T.b_walk .nil pass0 (pa_cons (pv 2) (pa_cons (pv 3) (pa_cons (pe_tup pa_nil) pa_nil)))) (pe_lst pa_nil) (nomark _))))))))))))))))))))), ?_⟩
    refine ⟨.ref a', rfl, a', ns0, rfl, hS, fun t sc H1 nt ns' sm tp => ?_⟩
    refine ⟨.ref t, rfl, t, sc, 3, rfl, ⟨by decide, by decide⟩, tp, fun d H2 hd0 hd1 mv2 tp2 => ⟨2, d, rfl, rfl, ?_⟩⟩
    refine ⟨.ref t, rfl, by show 3 ≤ sizeLine; decide, fun L3 n3 => ?_⟩
    have s3 := same_upd (o := .lst [V.int 5, .int 12, .int 60]) n3
    have tp3 := tp2.keep s3
    have hL3t : L3 ≠ t := tp2.ne n3
    refine ⟨.ref t, rfl, t, sc, 3, rfl, ⟨by decide, by decide⟩, tp3, fun e H4 he0 he1 mv4 tp4 => ?_⟩
    obtain ⟨v, hv, hv1, hv60⟩ : ∃ v : Int, atI [V.int 5, .int 12, .int 60] e = some (.int v) ∧ 1 ≤ v ∧ v ≤ 60 := by
      obtain ⟨j, rfl⟩ : ∃ j : Nat, e = (j : Int) := ⟨e.toNat, by omega⟩
      have hj : j = 0 ∨ j = 1 ∨ j = 2 := by omega
      rcases hj with rfl | rfl | rfl
      · exact ⟨5, atI_nat (j := 0) rfl, by decide, by decide⟩
      · exact ⟨12, atI_nat (j := 1) rfl, by decide, by decide⟩
      · exact ⟨60, atI_nat (j := 2) rfl, by decide, by decide⟩
    refine ⟨L3, _, _, .int v, rfl, rfl, SqL.of (mv4 _ _ hL3t upd_same), hv, t, sc, v, rfl, ⟨by omega, by omega⟩, tp4, fun bb H5 hb0 hb1 mv5 tp5 => ⟨1, bb, rfl, rfl, ?_⟩⟩
    obtain ⟨k, hk⟩ : ∃ k : Nat, 2 + d = (k : Int) := ⟨(2 + d).toNat, by omega⟩
    obtain ⟨b, hb⟩ : ∃ b : Nat, 1 + bb = (b : Int) := ⟨(1 + bb).toNat, by omega⟩
    have k2 : 2 ≤ k := by omega
    have k4 : k ≤ 4 := by omega
    have b1 : 1 ≤ b := by omega
    have b60 : b ≤ 60 := by omega
    refine ⟨.ref t, rfl, .int (2 + d), rfl, .int (1 + bb), rfl, t, sc, k, b, by rw [← hk, ← hb]; rfl, k2, k4, b1, b60, tp5, fun H6 mv6 tp6 => ⟨true, rfl, iteF ?_⟩⟩
    refine ⟨.ref t, rfl, .int (2 + d), rfl, t, sc, 2 + d, 30, rfl, ⟨by omega, by omega⟩, ⟨by decide, by decide⟩, tp6, fun a cs H7 hcl hcs hat na mv7 tp7 ea => ?_⟩
    have rt : Rt (2 + d) cs := ⟨by omega, hcs⟩
    have hT7 : SqT K H7 a (cs.map V.int) := SqT.of ea
    have zl := letts_len (b := (1 + bb)) (rt.four (by omega)) rt.1
    -- due
    refine ⟨.int (1 + bb), rfl, .ref a, rfl, a, cs, 1 + bb, 2 + d, rfl, hT7, rt, by omega, by omega, fun L ps H8 s8 nL eL tu => ?_⟩
    refine ⟨L, rfl, ⟨_, SqL.of eL⟩, fun D hD => lc_list (K := K) (a := L) (xs := ps.map V.ref)
      (fun i H' => ∃ qs : List Addr, Same H8 H' ∧ H' D = some (.lst (qs.map V.ref)) ∧ Tups pv2 H' qs (Wk.wkL ((Ln.letts (1 + bb) cs).take i)))
      ⟨[], same_upd hD, upd_same, .nil⟩ (fun i H' _ p => let ⟨_, sm, _⟩ := p; SqL.of (sm _ _ eL)) (fun i x H' hx p => ?_) (fun H9 p => ?_)⟩
    · obtain ⟨qs, sm, eD, tq⟩ := p
      obtain ⟨r, l, rfl, hl, er⟩ := tu.get hx
      have et : Wk.wkL ((Ln.letts (1 + bb) cs).take (i + 1)) = Wk.wkL ((Ln.letts (1 + bb) cs).take i) ++ Wk.wk1 l := by
        rw [take_snoc hl, Wk.wkL_snoc]
      have zq := wk_len (b := 1 + bb) rt (by omega) i
      refine ⟨r, _, rfl, SqT.of (sm _ _ er), rfl, _, [_, _], rfl, _, [_], rfl, _, [], rfl, rfl, rfl, ?_⟩
      obtain ⟨lt, lu, lw⟩ := l
      cases lw with
      | none =>
        refine ⟨.non, rfl, rfl, false, rfl, iteF ?_⟩
        refine ⟨qs, sm, eD, ?_⟩
        rw [et]
        show Tups pv2 _ qs (_ ++ [])
        rw [List.append_nil]
        exact tq
      | some wt =>
        refine ⟨.int wt, rfl, rfl, true, rfl, iteT ?_⟩
        refine ⟨.int wt, rfl, .int lu, rfl, by show 2 ≤ sizeLine; decide, fun c nc => ?_⟩
        have s2 := same_upd (o := .tup [V.int wt, .int lu]) nc
        refine ⟨_, s2 _ _ eD, ?_, qs ++ [c], same_put (sm.trans s2) hD, by rw [upd_same, List.map_append]; rfl, ?_⟩
        · rw [List.length_map, tq.length]
          exact small2000 (by omega)
        · rw [et]
          exact ((tq.new nc).snoc (x := (wt, lu)) upd_same).put (s2 _ _ eD)
    · obtain ⟨qs, sm9, eD, tq⟩ := p
      rw [List.length_map, tu.length, List.take_of_length_le (Nat.le_refl _)] at tq
      have wl := Wk.wl_letts (k := (2 + d)) (b := (1 + bb)) (cs := cs) (by omega) (by omega) (fun c hc => (hcs c hc).2)
      have zw : (Wk.wkL (Ln.letts (1 + bb) cs)).length ≤ 1600 := Nat.le_trans (Wk.wkL_len _) zl
      have s79 := s8.trans sm9
      have hT9 := sT s79 hT7
      have tp9 := tp7.keep s79
      -- told
      refine ⟨.int (2 + d), rfl, .int (1 + bb), rfl, .ref a, rfl, a, cs, 2 + d, 1 + bb, rfl, hT9, rt, by omega, by omega, by omega, by omega, fun W ws H10 s10 nW eW tW => ?_⟩
      have eD10 := s10 _ _ eD
      have tq10 := tq.same s10
      refine ⟨fun σ' H' => σ' = [some (.ref a'), some (.ref t), some (.int (2 + d)), some (.int (1 + bb)), some (.ref a), some (.ref D), some (.ref W), none, none, none, none, none, none, none, none] ∧ Same H10 H', ?_, fun σ' H11 hm => ?_⟩
      · refine ⟨.ref W, rfl, .ref D, rfl, dP (Wk.wkL (Ln.letts (1 + bb) cs)), dP (Wk.wkL (Ln.letts (1 + bb) cs)), dp_P eW tW, dp_P eD10 tq10, (Shp.dP _).ok (by decide), (Shp.dP _).ok (by decide), false, ne_same (Shp.dP _), iteF ?_⟩
        refine ⟨.ref W, rfl, .ref W, .ty "list", _, _, true, rfl, .ty _, .base (.lst eW), kit_ty (by decide +kernel), true, rfl, iteF ?_⟩
        by_cases c : (Wk.wkL (Ln.letts (1 + bb) cs)).length = 0
        · refine ⟨.ref W, rfl, W, _, rfl, .inl (SqL.of eW), _, _, rfl, rfl, false, congrArg V.bl (decide_eq_false (by rw [List.length_map, tW.length, c]; decide)), iteF ?_⟩
          exact ⟨rfl, fun _ _ e => e⟩
        · obtain ⟨x0, hx0⟩ : ∃ x0, (Wk.wkL (Ln.letts (1 + bb) cs))[0]? = some x0 := ⟨_, List.getElem?_eq_getElem (by omega)⟩
          obtain ⟨p0, hp0, ep0⟩ := tW.at hx0
          have ex0 := wl.hd x0 hx0
          refine ⟨.ref W, rfl, W, _, rfl, .inl (SqL.of eW), _, _, rfl, rfl, true, congrArg V.bl (decide_eq_true (by rw [List.length_map, tW.length]; omega)), iteT ?_⟩
          refine ⟨.ref W, rfl, W, _, 0, .ref p0, rfl, rfl, SqL.of eW, atI_nat (j := 0) hp0, by show 2 ≤ sizeLine; decide, fun c1 nc1 => ?_⟩
          have sc1 := same_upd (o := .tup [V.int 0, .int 1]) nc1
          refine ⟨dI [0, 1], dI [0, 1], by have := dp_2 (K := K) (sc1 _ _ ep0); rw [ex0] at this; exact this, dp_2 (s := (0, 1)) upd_same, (Shp.dI _).ok (by decide), (Shp.dI _).ok (by decide), false, ne_same (Shp.dI _), iteF ?_⟩
          exact ⟨rfl, sc1⟩
      · obtain ⟨rfl, s11⟩ := hm
        have eW11 := s11 _ _ eW
        have tW11 := tW.same s11
        have tp11 := (tp9.keep s10).keep s11
        refine ⟨.ref W, rfl, W, _, rfl, .inl (SqL.of eW11), 1, _, rfl, ⟨by omega, by omega, by omega, by rw [List.length_map, tW.length]; omega⟩, for_range (lo := 1) (n := ((((ws.map V.ref).length : Nat) : Int) - 1).toNat)
          (fun i σ H' => ∃ (y7 : Option V), σ = [some (.ref a'), some (.ref t), some (.int (2 + d)), some (.int (1 + bb)), some (.ref a), some (.ref D), some (.ref W), y7, none, none, none, none, none, none, none] ∧ Same H11 H') ⟨_, rfl, fun _ _ e => e⟩ (fun i σ H' hi h => ?_) (fun σ H' h => ?_)⟩
        · obtain ⟨y7, rfl, sm⟩ := h
          rw [List.length_map, tW.length] at hi
          have hi' : i + 1 < (Wk.wkL (Ln.letts (1 + bb) cs)).length := by omega
          obtain ⟨x, hx⟩ : ∃ x, (Wk.wkL (Ln.letts (1 + bb) cs))[i]? = some x := ⟨_, List.getElem?_eq_getElem (by omega)⟩
          obtain ⟨y, hy⟩ : ∃ y, (Wk.wkL (Ln.letts (1 + bb) cs))[i + 1]? = some y := ⟨_, List.getElem?_eq_getElem hi'⟩
          obtain ⟨px, hpx, ex⟩ := tW11.at hx
          obtain ⟨py, hpy, ey⟩ := tW11.at hy
          have sx := wl.sp x (List.mem_of_getElem? hx)
          have nxy := wl.nx i x y hx hy
          refine ⟨.ref W, rfl, .int (1 + (i : Int)), rfl, W, _, _, .ref py, rfl, rfl, SqL.of (sm _ _ eW11), atI_of (by omega) (by rw [show ((1 : Int) + (i : Int)).toNat = i + 1 by omega]; exact hpy), ?_⟩
          refine ⟨.int (2 + d), rfl, .int (1 + bb), rfl, .ref W, rfl, .int (1 + (i : Int)), rfl, _, _, rfl, rfl, W, _, _, .ref px, rfl, rfl, SqL.of (sm _ _ eW11), atI_of (by show (0 : Int) ≤ 1 + (i : Int) - 1; omega) (by rw [show ((1 : Int) + (i : Int) - 1).toNat = i by omega]; exact hpx), 2 + d, 1 + bb, px, x, rfl, SqT.of (sm _ _ ex), sx, by omega, by omega, by omega, by omega, fun A2 bs H12 s12 nA2 eA2 tA2 => ?_⟩
          have s2 := sm.trans s12
          refine ⟨dI [y.1, y.2], (Wk.nxL (2 + d) (1 + bb) x).map pd2, dp_2 (s2 _ _ ey), dp_P eA2 tA2, (Shp.dI _).ok (by decide), (Shp.dP _).ok (by decide), false, ?_, iteF ?_⟩
          · rw [any_P (Wk.nxL_mem nxy)]
            rfl
          · exact ⟨_, rfl, s2⟩
        · obtain ⟨y7, rfl, sm⟩ := h
          have tp12 := tp11.keep sm
          refine ⟨.ref t, rfl, .int (2 + d), rfl, .int (1 + bb), rfl, t, sc, 2 + d, 1 + bb, rfl, by omega, by omega, by omega, by omega, tp12, fun R rps row H13 hw hl10 nR mv13 tp13 eR tR => ?_⟩
          refine ⟨.int (2 + d), rfl, .int (1 + bb), rfl, .ref R, rfl, 2 + d, 1 + bb, R, rps, row, rfl, eR, tR, hw, by omega, by omega, by omega, by omega, by omega, fun pm cm H14 s14 epm ecm => ?_⟩
          refine ⟨pm, _, rfl, SqT.of epm, rfl, _, [_], rfl, _, [], rfl, rfl, ?_⟩
          obtain ⟨cl, ci⟩ := Wk.cf_right (by omega) hw
          have rt2 : Rt (2 + d) (Wk.cf row) := ⟨by omega, ci⟩
          obtain ⟨f1, f2, f3⟩ := Wk.cf_is hw
          have hwh := walk_spots hw
          have h0 : 0 ≤ (row.headD (0, 0)).1 := by
            cases row with
            | nil => exact False.elim hw
            | cons s r => exact hw.1.1
          obtain ⟨m, hm⟩ : ∃ m : Nat, 2 * (row.headD (0, 0)).1.toNat = m := ⟨_, rfl⟩
          have hmi : 2 * (row.headD (0, 0)).1 = (m : Int) := by omega
          rw [hm] at f1 f2
          refine ⟨.int (1 + bb), rfl, .ref cm, rfl, cm, Wk.cf row, 1 + bb, 2 + d, rfl, SqT.of ecm, rt2, by omega, by omega, fun L2 ps2 H15 s15 nL2 eL2 tu2 => ?_⟩
          have ecm15 := s15 _ _ ecm
          refine ⟨.int (2 + d), rfl, .int (1 + bb), rfl, .ref cm, rfl, cm, Wk.cf row, 2 + d, 1 + bb, rfl, SqT.of ecm15, rt2, by omega, by omega, by omega, by omega, fun W2 H16 s16 nW2 eW2 => ?_⟩
          refine ⟨W2, _, rfl, .inl (SqL.of eW2), rfl, flat_ws _, false, congrArg V.bl (no_non f3), iteF ?_⟩
          have eL16 := s16 _ _ eL2
          have tu16 := tu2.same s16
          have eR16 := s16 _ _ (s15 _ _ (s14 _ _ eR))
          have tR16 := ((tR.same s14).same s15).same s16
          have ecm16 := s16 _ _ ecm15
          have elen : (((ps2.map V.ref).length : Nat) : Int) = 2 * (row.headD (0, 0)).1 + (((rps.map V.ref).length : Nat) : Int) := by
            rw [List.length_map, List.length_map, tu2.length, tR.length, f1]
            omega
          refine ⟨.ref L2, rfl, L2, _, rfl, .inl (SqL.of eL16), .int (2 * (row.headD (0, 0)).1), rfl, .ref R, rfl, R, _, rfl, .inl (SqL.of eR16), _, _, rfl, rfl, rfl, false, ne_no elen, iteF ?_⟩
          have zl2 := letts_len (b := 1 + bb) (rt2.four (by omega)) rt2.1
          -- [... letters[letter:]] != row
          refine ⟨.ref L2, rfl, .int (2 * (row.headD (0, 0)).1), rfl, 2 * (row.headD (0, 0)).1, rfl, L2, _, rfl, SqL.of eL16, fun c nc => ?_⟩
          have ecut : cutV (ps2.map V.ref) (some (2 * (row.headD (0, 0)).1)) none = (ps2.drop m).map V.ref := by
            rw [hmi, cutN, List.map_drop]
          rw [ecut]
          have sc2 := same_upd (o := .lst ((ps2.drop m).map V.ref)) nc
          have ec17 : (upd H16 c (.lst ((ps2.drop m).map V.ref))) c = some (.lst ((ps2.drop m).map V.ref)) := upd_same
          have tu17 := (tu16.same sc2).drop m
          have eR17 := sc2 _ _ eR16
          have tR17 := tR16.same sc2
          have ecm17 := sc2 _ _ ecm16
          generalize upd H16 c (.lst ((ps2.drop m).map V.ref)) = H17 at *
          refine ⟨c, rfl, ⟨_, SqL.of ec17⟩, fun D2 nD2 => lc_list (K := K) (a := c) (xs := (ps2.drop m).map V.ref)
            (fun i H' => ∃ qs : List Addr, Same H17 H' ∧ H' D2 = some (.lst (qs.map V.ref)) ∧ Tups pv2 H' qs (row.take i))
            ⟨[], same_upd nD2, upd_same, .nil⟩ (fun i H' _ p => let ⟨_, sm, _⟩ := p; SqL.of (sm _ _ ec17)) (fun i x H' hx p => ?_) (fun H18 p => ?_)⟩
          · obtain ⟨qs, sm, eD2, tq2⟩ := p
            obtain ⟨r, l, rfl, hl, er⟩ := tu17.get hx
            obtain ⟨lt, lu, lw⟩ := l
            have g1 : (((Ln.letts (1 + bb) (Wk.cf row)).drop m).map fun l => (l.2.2, l.2.1))[i]? = some (lw, lu) := by
              rw [List.getElem?_map, hl]
              rfl
            rw [f2, List.getElem?_map] at g1
            obtain ⟨o, ho, eo⟩ := Option.map_eq_some_iff.mp g1
            have e1 : some o.1 = lw := congrArg Prod.fst eo
            have e2 : o.2 = lu := congrArg Prod.snd eo
            subst e1 e2
            refine ⟨r, _, rfl, SqT.of (sm _ _ er), rfl, _, [_, _], rfl, _, [_], rfl, _, [], rfl, rfl, rfl, ?_⟩
            refine ⟨.int o.1, rfl, .int o.2, rfl, by show 2 ≤ sizeLine; decide, fun c3 nc3 => ?_⟩
            have s2 := same_upd (o := .tup [V.int o.1, .int o.2]) nc3
            refine ⟨_, s2 _ _ eD2, ?_, qs ++ [c3], same_put (sm.trans s2) nD2, by rw [upd_same, List.map_append]; rfl, ?_⟩
            · rw [List.length_map, tq2.length, List.length_take]
              exact small1000 (by omega)
            · rw [take_snoc ho]
              exact ((tq2.new nc3).snoc (x := o) upd_same).put (s2 _ _ eD2)
          · obtain ⟨qs, sm18, eD2, tq2⟩ := p
            have elr : ((ps2.drop m).map V.ref).length = row.length := by
              rw [List.length_map, List.length_drop, tu2.length, f1]
              omega
            rw [elr, List.take_of_length_le (Nat.le_refl _)] at tq2
            have eR18 := sm18 _ _ eR17
            have tR18 := tR17.same sm18
            refine ⟨.ref R, rfl, dP row, dP row, dp_P eD2 tq2, dp_P eR18 tR18, (Shp.dP _).ok (by decide), (Shp.dP _).ok (by decide), false, ne_same (Shp.dP _), iteF ?_⟩
            -- the end
            refine ⟨.int (2 + d), rfl, .int (1 + bb), rfl, .ref cm, rfl, cm, Wk.cf row, 2 + d, 1 + bb, rfl, SqT.of (sm18 _ _ ecm17), rt2, by omega, by omega, by omega, by omega, fun W3 ws3 H19 s19 nW3 eW3 tW3 => ?_⟩
            refine ⟨.int (2 * (row.headD (0, 0)).1), rfl, 2 * (row.headD (0, 0)).1, rfl, W3, _, rfl, SqL.of eW3, fun c4 nc4 => ?_⟩
            have ecut2 : cutV (ws3.map V.ref) (some (2 * (row.headD (0, 0)).1)) none = (ws3.drop m).map V.ref := by
              rw [hmi, cutN, List.map_drop]
            rw [ecut2]
            have s20 := same_upd (o := .lst ((ws3.drop m).map V.ref)) nc4
            have t20 := (tW3.same s20).drop m
            rw [wkL_drop f3, Wk.wkL_all f2] at t20
            refine ⟨.ref R, rfl, dP row, dP row, dp_P upd_same t20, dp_P (s20 _ _ (s19 _ _ eR18)) ((tR18.same s19).same s20), (Shp.dP _).ok (by decide), (Shp.dP _).ok (by decide), true, eq_same (Shp.dP _), iteT ?_⟩
            refine ⟨.int (2 + d), rfl, .int (1 + bb), rfl, Nat.zero_le _, fun z nz => ?_⟩
            refine ⟨z, [], 2 + d, 1 + bb, rfl, SqT.of upd_same, ⟨Nat.zero_le _, fun c hc => by simp at hc⟩, by omega, by omega, by omega, by omega, fun W4 ws4 H21 s21 nW4 eW4 tW4 => ?_⟩
            refine ⟨Nat.zero_le _, fun l nl => ?_⟩
            have s22 := same_upd (o := .lst []) nl
            refine ⟨dP [], dP [], dp_P (s22 _ _ eW4) (tW4.same s22), .lst (SqL.of upd_same) .nil, (Shp.dP []).ok (by decide), (Shp.dP []).ok (by decide), ?_⟩
            rw [eqv_same (Shp.dP [])]
            exact q _
end

/-! ### the end -/
theorem fin_mk {l : PySem.W.OpenLaw} {w : World} {K : PySem.W.Frag} {h : Heap} {mg : Str → Option Value} {fa f_law : Addr} (KX : K.In h) (G : h.Ns mainGlobals mg) (hmg : mg "law" = some (.ref fa)) {an : Option Addr} {kV dc pm cd ct : Value}
    (hT : ∃ T : Tx K mg, T.a_law = f_law ∧ T.d_law = PySem.W.fnOf "law" "law" (defArgs s_law) (defBody s_law) (defScope s_law) .none kV dc pm an cd ct) :
    ∃ fd : FuncData, (∀ (s : Shared) (v : Value), BindsTo s fd ⟨[v], []⟩ [("script", v)]) ∧ ∀ base : Heap, K.In base → base.Ns mainGlobals mg → FnOk l.prog w K mg base CX0 lawLevel fa fd ["script"] (spLaw K) := by
  obtain ⟨T, ea, ed⟩ := hT
  have e := hmg.symm.trans T.g_law
  cases e
  exact ⟨T.d_law, fun s v => by rw [ed]; exact .of_eq rfl, fun base _ _ => ok_law T⟩

theorem all_mk {w : World} {K : PySem.W.Frag} {h : Heap} {mg : Str → Option Value} (X : K.In h) (G : h.Ns mainGlobals mg)
    {f_is_integer : Addr} {od_is_integer an_is_integer : Option Addr} {sl_is_integer : Array (Option Value)} {oc_is_integer kV_is_integer dc_is_integer pm_is_integer cd_is_integer ct_is_integer : Value}
    {f_is_number : Addr} {od_is_number an_is_number : Option Addr} {sl_is_number : Array (Option Value)} {oc_is_number kV_is_number dc_is_number pm_is_number cd_is_number ct_is_number : Value}
    {f_are_numbers : Addr} {od_are_numbers an_are_numbers : Option Addr} {sl_are_numbers : Array (Option Value)} {oc_are_numbers kV_are_numbers dc_are_numbers pm_are_numbers cd_are_numbers ct_are_numbers : Value}
    {f_are_integers : Addr} {od_are_integers an_are_integers : Option Addr} {sl_are_integers : Array (Option Value)} {oc_are_integers kV_are_integers dc_are_integers pm_are_integers cd_are_integers ct_are_integers : Value}
    {f_is_comings : Addr} {od_is_comings an_is_comings : Option Addr} {sl_is_comings : Array (Option Value)} {oc_is_comings kV_is_comings dc_is_comings pm_is_comings cd_is_comings ct_is_comings : Value}
    {f_check_comers : Addr} {od_check_comers an_check_comers : Option Addr} {sl_check_comers : Array (Option Value)} {oc_check_comers kV_check_comers dc_check_comers pm_check_comers cd_check_comers ct_check_comers : Value}
    {f_check_bound : Addr} {od_check_bound an_check_bound : Option Addr} {sl_check_bound : Array (Option Value)} {oc_check_bound kV_check_bound dc_check_bound pm_check_bound cd_check_bound ct_check_bound : Value}
    {f_check_comings : Addr} {od_check_comings an_check_comings : Option Addr} {sl_check_comings : Array (Option Value)} {oc_check_comings kV_check_comings dc_check_comings pm_check_comings cd_check_comings ct_check_comings : Value}
    {f_follow_line : Addr} {od_follow_line an_follow_line : Option Addr} {sl_follow_line : Array (Option Value)} {oc_follow_line kV_follow_line dc_follow_line pm_follow_line cd_follow_line ct_follow_line : Value}
    {f_letters_of : Addr} {od_letters_of an_letters_of : Option Addr} {sl_letters_of : Array (Option Value)} {oc_letters_of kV_letters_of dc_letters_of pm_letters_of cd_letters_of ct_letters_of : Value}
    {f_waits : Addr} {od_waits an_waits : Option Addr} {sl_waits : Array (Option Value)} {oc_waits kV_waits dc_waits pm_waits cd_waits ct_waits : Value}
    {f_is_spot : Addr} {od_is_spot an_is_spot : Option Addr} {sl_is_spot : Array (Option Value)} {oc_is_spot kV_is_spot dc_is_spot pm_is_spot cd_is_spot ct_is_spot : Value}
    {f_is_next : Addr} {od_is_next an_is_next : Option Addr} {sl_is_next : Array (Option Value)} {oc_is_next kV_is_next dc_is_next pm_is_next cd_is_next ct_is_next : Value}
    {f_is_walk : Addr} {od_is_walk an_is_walk : Option Addr} {sl_is_walk : Array (Option Value)} {oc_is_walk kV_is_walk dc_is_walk pm_is_walk cd_is_walk ct_is_walk : Value}
    {f_spots : Addr} {od_spots an_spots : Option Addr} {sl_spots : Array (Option Value)} {oc_spots kV_spots dc_spots pm_spots cd_spots ct_spots : Value}
    {f_nexts : Addr} {od_nexts an_nexts : Option Addr} {sl_nexts : Array (Option Value)} {oc_nexts kV_nexts dc_nexts pm_nexts cd_nexts ct_nexts : Value}
    {f_walk : Addr} {od_walk an_walk : Option Addr} {sl_walk : Array (Option Value)} {oc_walk kV_walk dc_walk pm_walk cd_walk ct_walk : Value}
    {f_comings_for : Addr} {od_comings_for an_comings_for : Option Addr} {sl_comings_for : Array (Option Value)} {oc_comings_for kV_comings_for dc_comings_for pm_comings_for cd_comings_for ct_comings_for : Value}
    {f__law_tape : Addr} {od__law_tape an__law_tape : Option Addr} {sl__law_tape : Array (Option Value)} {oc__law_tape kV__law_tape dc__law_tape pm__law_tape cd__law_tape ct__law_tape : Value}
    {f__law_pick : Addr} {od__law_pick an__law_pick : Option Addr} {sl__law_pick : Array (Option Value)} {oc__law_pick kV__law_pick dc__law_pick pm__law_pick cd__law_pick ct__law_pick : Value}
    {f__law_comings : Addr} {od__law_comings an__law_comings : Option Addr} {sl__law_comings : Array (Option Value)} {oc__law_comings kV__law_comings dc__law_comings pm__law_comings cd__law_comings ct__law_comings : Value}
    {f__law_line : Addr} {od__law_line an__law_line : Option Addr} {sl__law_line : Array (Option Value)} {oc__law_line kV__law_line dc__law_line pm__law_line cd__law_line ct__law_line : Value}
    {f__law_walk : Addr} {od__law_walk an__law_walk : Option Addr} {sl__law_walk : Array (Option Value)} {oc__law_walk kV__law_walk dc__law_walk pm__law_walk cd__law_walk ct__law_walk : Value}
    {f__law_lists_right : Addr} {od__law_lists_right an__law_lists_right : Option Addr} {sl__law_lists_right : Array (Option Value)} {oc__law_lists_right kV__law_lists_right dc__law_lists_right pm__law_lists_right cd__law_lists_right ct__law_lists_right : Value}
    {f_law : Addr} {od_law an_law : Option Addr} {sl_law : Array (Option Value)} {oc_law kV_law dc_law pm_law cd_law ct_law : Value}
    {t_MOST_BOUND : Tok}
    {t_MOST_COMERS : Tok}
    {t_MOST_SPOTS : Tok}
    {t_MOST_TICKS : Tok}
    (a_is_integer : PySem.W.nsIn K mainGlobals "is_integer" = some (some (.ref f_is_integer))) (l_is_integer : K.lookup f_is_integer = some ⟨oc_is_integer, od_is_integer, .func (PySem.W.fnOf "is_integer" "is_integer" (defArgs s_is_integer) (defBody s_is_integer) (defScope s_is_integer) .none kV_is_integer dc_is_integer pm_is_integer an_is_integer cd_is_integer ct_is_integer), sl_is_integer⟩) (c_is_integer : PySem.W.codeIn K cd_is_integer "is_integer" = true) (k_is_integer : PySem.W.keepIn K (.ref f_is_integer) = true)
    (a_is_number : PySem.W.nsIn K mainGlobals "is_number" = some (some (.ref f_is_number))) (l_is_number : K.lookup f_is_number = some ⟨oc_is_number, od_is_number, .func (PySem.W.fnOf "is_number" "is_number" (defArgs s_is_number) (defBody s_is_number) (defScope s_is_number) .none kV_is_number dc_is_number pm_is_number an_is_number cd_is_number ct_is_number), sl_is_number⟩) (c_is_number : PySem.W.codeIn K cd_is_number "is_number" = true) (k_is_number : PySem.W.keepIn K (.ref f_is_number) = true)
    (a_are_numbers : PySem.W.nsIn K mainGlobals "are_numbers" = some (some (.ref f_are_numbers))) (l_are_numbers : K.lookup f_are_numbers = some ⟨oc_are_numbers, od_are_numbers, .func (PySem.W.fnOf "are_numbers" "are_numbers" (defArgs s_are_numbers) (defBody s_are_numbers) (defScope s_are_numbers) .none kV_are_numbers dc_are_numbers pm_are_numbers an_are_numbers cd_are_numbers ct_are_numbers), sl_are_numbers⟩) (c_are_numbers : PySem.W.codeIn K cd_are_numbers "are_numbers" = true) (k_are_numbers : PySem.W.keepIn K (.ref f_are_numbers) = true)
    (a_are_integers : PySem.W.nsIn K mainGlobals "are_integers" = some (some (.ref f_are_integers))) (l_are_integers : K.lookup f_are_integers = some ⟨oc_are_integers, od_are_integers, .func (PySem.W.fnOf "are_integers" "are_integers" (defArgs s_are_integers) (defBody s_are_integers) (defScope s_are_integers) .none kV_are_integers dc_are_integers pm_are_integers an_are_integers cd_are_integers ct_are_integers), sl_are_integers⟩) (c_are_integers : PySem.W.codeIn K cd_are_integers "are_integers" = true) (k_are_integers : PySem.W.keepIn K (.ref f_are_integers) = true)
    (a_is_comings : PySem.W.nsIn K mainGlobals "is_comings" = some (some (.ref f_is_comings))) (l_is_comings : K.lookup f_is_comings = some ⟨oc_is_comings, od_is_comings, .func (PySem.W.fnOf "is_comings" "is_comings" (defArgs s_is_comings) (defBody s_is_comings) (defScope s_is_comings) .none kV_is_comings dc_is_comings pm_is_comings an_is_comings cd_is_comings ct_is_comings), sl_is_comings⟩) (c_is_comings : PySem.W.codeIn K cd_is_comings "is_comings" = true) (k_is_comings : PySem.W.keepIn K (.ref f_is_comings) = true)
    (a_check_comers : PySem.W.nsIn K mainGlobals "check_comers" = some (some (.ref f_check_comers))) (l_check_comers : K.lookup f_check_comers = some ⟨oc_check_comers, od_check_comers, .func (PySem.W.fnOf "check_comers" "check_comers" (defArgs s_check_comers) (defBody s_check_comers) (defScope s_check_comers) .none kV_check_comers dc_check_comers pm_check_comers an_check_comers cd_check_comers ct_check_comers), sl_check_comers⟩) (c_check_comers : PySem.W.codeIn K cd_check_comers "check_comers" = true) (k_check_comers : PySem.W.keepIn K (.ref f_check_comers) = true)
    (a_check_bound : PySem.W.nsIn K mainGlobals "check_bound" = some (some (.ref f_check_bound))) (l_check_bound : K.lookup f_check_bound = some ⟨oc_check_bound, od_check_bound, .func (PySem.W.fnOf "check_bound" "check_bound" (defArgs s_check_bound) (defBody s_check_bound) (defScope s_check_bound) .none kV_check_bound dc_check_bound pm_check_bound an_check_bound cd_check_bound ct_check_bound), sl_check_bound⟩) (c_check_bound : PySem.W.codeIn K cd_check_bound "check_bound" = true) (k_check_bound : PySem.W.keepIn K (.ref f_check_bound) = true)
    (a_check_comings : PySem.W.nsIn K mainGlobals "check_comings" = some (some (.ref f_check_comings))) (l_check_comings : K.lookup f_check_comings = some ⟨oc_check_comings, od_check_comings, .func (PySem.W.fnOf "check_comings" "check_comings" (defArgs s_check_comings) (defBody s_check_comings) (defScope s_check_comings) .none kV_check_comings dc_check_comings pm_check_comings an_check_comings cd_check_comings ct_check_comings), sl_check_comings⟩) (c_check_comings : PySem.W.codeIn K cd_check_comings "check_comings" = true) (k_check_comings : PySem.W.keepIn K (.ref f_check_comings) = true)
    (a_follow_line : PySem.W.nsIn K mainGlobals "follow_line" = some (some (.ref f_follow_line))) (l_follow_line : K.lookup f_follow_line = some ⟨oc_follow_line, od_follow_line, .func (PySem.W.fnOf "follow_line" "follow_line" (defArgs s_follow_line) (defBody s_follow_line) (defScope s_follow_line) .none kV_follow_line dc_follow_line pm_follow_line an_follow_line cd_follow_line ct_follow_line), sl_follow_line⟩) (c_follow_line : PySem.W.codeIn K cd_follow_line "follow_line" = true) (k_follow_line : PySem.W.keepIn K (.ref f_follow_line) = true)
    (a_letters_of : PySem.W.nsIn K mainGlobals "letters_of" = some (some (.ref f_letters_of))) (l_letters_of : K.lookup f_letters_of = some ⟨oc_letters_of, od_letters_of, .func (PySem.W.fnOf "letters_of" "letters_of" (defArgs s_letters_of) (defBody s_letters_of) (defScope s_letters_of) .none kV_letters_of dc_letters_of pm_letters_of an_letters_of cd_letters_of ct_letters_of), sl_letters_of⟩) (c_letters_of : PySem.W.codeIn K cd_letters_of "letters_of" = true) (k_letters_of : PySem.W.keepIn K (.ref f_letters_of) = true)
    (a_waits : PySem.W.nsIn K mainGlobals "waits" = some (some (.ref f_waits))) (l_waits : K.lookup f_waits = some ⟨oc_waits, od_waits, .func (PySem.W.fnOf "waits" "waits" (defArgs s_waits) (defBody s_waits) (defScope s_waits) .none kV_waits dc_waits pm_waits an_waits cd_waits ct_waits), sl_waits⟩) (c_waits : PySem.W.codeIn K cd_waits "waits" = true) (k_waits : PySem.W.keepIn K (.ref f_waits) = true)
    (a_is_spot : PySem.W.nsIn K mainGlobals "is_spot" = some (some (.ref f_is_spot))) (l_is_spot : K.lookup f_is_spot = some ⟨oc_is_spot, od_is_spot, .func (PySem.W.fnOf "is_spot" "is_spot" (defArgs s_is_spot) (defBody s_is_spot) (defScope s_is_spot) .none kV_is_spot dc_is_spot pm_is_spot an_is_spot cd_is_spot ct_is_spot), sl_is_spot⟩) (c_is_spot : PySem.W.codeIn K cd_is_spot "is_spot" = true) (k_is_spot : PySem.W.keepIn K (.ref f_is_spot) = true)
    (a_is_next : PySem.W.nsIn K mainGlobals "is_next" = some (some (.ref f_is_next))) (l_is_next : K.lookup f_is_next = some ⟨oc_is_next, od_is_next, .func (PySem.W.fnOf "is_next" "is_next" (defArgs s_is_next) (defBody s_is_next) (defScope s_is_next) .none kV_is_next dc_is_next pm_is_next an_is_next cd_is_next ct_is_next), sl_is_next⟩) (c_is_next : PySem.W.codeIn K cd_is_next "is_next" = true) (k_is_next : PySem.W.keepIn K (.ref f_is_next) = true)
    (a_is_walk : PySem.W.nsIn K mainGlobals "is_walk" = some (some (.ref f_is_walk))) (l_is_walk : K.lookup f_is_walk = some ⟨oc_is_walk, od_is_walk, .func (PySem.W.fnOf "is_walk" "is_walk" (defArgs s_is_walk) (defBody s_is_walk) (defScope s_is_walk) .none kV_is_walk dc_is_walk pm_is_walk an_is_walk cd_is_walk ct_is_walk), sl_is_walk⟩) (c_is_walk : PySem.W.codeIn K cd_is_walk "is_walk" = true) (k_is_walk : PySem.W.keepIn K (.ref f_is_walk) = true)
    (a_spots : PySem.W.nsIn K mainGlobals "spots" = some (some (.ref f_spots))) (l_spots : K.lookup f_spots = some ⟨oc_spots, od_spots, .func (PySem.W.fnOf "spots" "spots" (defArgs s_spots) (defBody s_spots) (defScope s_spots) .none kV_spots dc_spots pm_spots an_spots cd_spots ct_spots), sl_spots⟩) (c_spots : PySem.W.codeIn K cd_spots "spots" = true) (k_spots : PySem.W.keepIn K (.ref f_spots) = true)
    (a_nexts : PySem.W.nsIn K mainGlobals "nexts" = some (some (.ref f_nexts))) (l_nexts : K.lookup f_nexts = some ⟨oc_nexts, od_nexts, .func (PySem.W.fnOf "nexts" "nexts" (defArgs s_nexts) (defBody s_nexts) (defScope s_nexts) .none kV_nexts dc_nexts pm_nexts an_nexts cd_nexts ct_nexts), sl_nexts⟩) (c_nexts : PySem.W.codeIn K cd_nexts "nexts" = true) (k_nexts : PySem.W.keepIn K (.ref f_nexts) = true)
    (a_walk : PySem.W.nsIn K mainGlobals "walk" = some (some (.ref f_walk))) (l_walk : K.lookup f_walk = some ⟨oc_walk, od_walk, .func (PySem.W.fnOf "walk" "walk" (defArgs s_walk) (defBody s_walk) (defScope s_walk) .none kV_walk dc_walk pm_walk an_walk cd_walk ct_walk), sl_walk⟩) (c_walk : PySem.W.codeIn K cd_walk "walk" = true) (k_walk : PySem.W.keepIn K (.ref f_walk) = true)
    (a_comings_for : PySem.W.nsIn K mainGlobals "comings_for" = some (some (.ref f_comings_for))) (l_comings_for : K.lookup f_comings_for = some ⟨oc_comings_for, od_comings_for, .func (PySem.W.fnOf "comings_for" "comings_for" (defArgs s_comings_for) (defBody s_comings_for) (defScope s_comings_for) .none kV_comings_for dc_comings_for pm_comings_for an_comings_for cd_comings_for ct_comings_for), sl_comings_for⟩) (c_comings_for : PySem.W.codeIn K cd_comings_for "comings_for" = true) (k_comings_for : PySem.W.keepIn K (.ref f_comings_for) = true)
    (a__law_tape : PySem.W.nsIn K mainGlobals "_law_tape" = some (some (.ref f__law_tape))) (l__law_tape : K.lookup f__law_tape = some ⟨oc__law_tape, od__law_tape, .func (PySem.W.fnOf "_law_tape" "_law_tape" (defArgs s__law_tape) (defBody s__law_tape) (defScope s__law_tape) .none kV__law_tape dc__law_tape pm__law_tape an__law_tape cd__law_tape ct__law_tape), sl__law_tape⟩) (c__law_tape : PySem.W.codeIn K cd__law_tape "_law_tape" = true) (k__law_tape : PySem.W.keepIn K (.ref f__law_tape) = true)
    (a__law_pick : PySem.W.nsIn K mainGlobals "_law_pick" = some (some (.ref f__law_pick))) (l__law_pick : K.lookup f__law_pick = some ⟨oc__law_pick, od__law_pick, .func (PySem.W.fnOf "_law_pick" "_law_pick" (defArgs s__law_pick) (defBody s__law_pick) (defScope s__law_pick) .none kV__law_pick dc__law_pick pm__law_pick an__law_pick cd__law_pick ct__law_pick), sl__law_pick⟩) (c__law_pick : PySem.W.codeIn K cd__law_pick "_law_pick" = true) (k__law_pick : PySem.W.keepIn K (.ref f__law_pick) = true)
    (a__law_comings : PySem.W.nsIn K mainGlobals "_law_comings" = some (some (.ref f__law_comings))) (l__law_comings : K.lookup f__law_comings = some ⟨oc__law_comings, od__law_comings, .func (PySem.W.fnOf "_law_comings" "_law_comings" (defArgs s__law_comings) (defBody s__law_comings) (defScope s__law_comings) .none kV__law_comings dc__law_comings pm__law_comings an__law_comings cd__law_comings ct__law_comings), sl__law_comings⟩) (c__law_comings : PySem.W.codeIn K cd__law_comings "_law_comings" = true) (k__law_comings : PySem.W.keepIn K (.ref f__law_comings) = true)
    (a__law_line : PySem.W.nsIn K mainGlobals "_law_line" = some (some (.ref f__law_line))) (l__law_line : K.lookup f__law_line = some ⟨oc__law_line, od__law_line, .func (PySem.W.fnOf "_law_line" "_law_line" (defArgs s__law_line) (defBody s__law_line) (defScope s__law_line) .none kV__law_line dc__law_line pm__law_line an__law_line cd__law_line ct__law_line), sl__law_line⟩) (c__law_line : PySem.W.codeIn K cd__law_line "_law_line" = true) (k__law_line : PySem.W.keepIn K (.ref f__law_line) = true)
    (a__law_walk : PySem.W.nsIn K mainGlobals "_law_walk" = some (some (.ref f__law_walk))) (l__law_walk : K.lookup f__law_walk = some ⟨oc__law_walk, od__law_walk, .func (PySem.W.fnOf "_law_walk" "_law_walk" (defArgs s__law_walk) (defBody s__law_walk) (defScope s__law_walk) .none kV__law_walk dc__law_walk pm__law_walk an__law_walk cd__law_walk ct__law_walk), sl__law_walk⟩) (c__law_walk : PySem.W.codeIn K cd__law_walk "_law_walk" = true) (k__law_walk : PySem.W.keepIn K (.ref f__law_walk) = true)
    (a__law_lists_right : PySem.W.nsIn K mainGlobals "_law_lists_right" = some (some (.ref f__law_lists_right))) (l__law_lists_right : K.lookup f__law_lists_right = some ⟨oc__law_lists_right, od__law_lists_right, .func (PySem.W.fnOf "_law_lists_right" "_law_lists_right" (defArgs s__law_lists_right) (defBody s__law_lists_right) (defScope s__law_lists_right) .none kV__law_lists_right dc__law_lists_right pm__law_lists_right an__law_lists_right cd__law_lists_right ct__law_lists_right), sl__law_lists_right⟩) (c__law_lists_right : PySem.W.codeIn K cd__law_lists_right "_law_lists_right" = true) (k__law_lists_right : PySem.W.keepIn K (.ref f__law_lists_right) = true)
    (a_law : PySem.W.nsIn K mainGlobals "law" = some (some (.ref f_law))) (l_law : K.lookup f_law = some ⟨oc_law, od_law, .func (PySem.W.fnOf "law" "law" (defArgs s_law) (defBody s_law) (defScope s_law) .none kV_law dc_law pm_law an_law cd_law ct_law), sl_law⟩) (c_law : PySem.W.codeIn K cd_law "law" = true) (k_law : PySem.W.keepIn K (.ref f_law) = true)
    (z_all : PySem.W.nsIn K mainGlobals "all" = some none)
    (z_bool : PySem.W.nsIn K mainGlobals "bool" = some none)
    (z_enumerate : PySem.W.nsIn K mainGlobals "enumerate" = some none)
    (z_int : PySem.W.nsIn K mainGlobals "int" = some none)
    (z_isinstance : PySem.W.nsIn K mainGlobals "isinstance" = some none)
    (z_len : PySem.W.nsIn K mainGlobals "len" = some none)
    (z_list : PySem.W.nsIn K mainGlobals "list" = some none)
    (z_max : PySem.W.nsIn K mainGlobals "max" = some none)
    (z_min : PySem.W.nsIn K mainGlobals "min" = some none)
    (z_range : PySem.W.nsIn K mainGlobals "range" = some none)
    (z_tuple : PySem.W.nsIn K mainGlobals "tuple" = some none)
    (z_zip : PySem.W.nsIn K mainGlobals "zip" = some none)
    (y_MOST_BOUND : PySem.W.nsIn K mainGlobals "MOST_BOUND" = some (some (.int 60 t_MOST_BOUND)))
    (y_MOST_COMERS : PySem.W.nsIn K mainGlobals "MOST_COMERS" = some (some (.int 4 t_MOST_COMERS)))
    (y_MOST_SPOTS : PySem.W.nsIn K mainGlobals "MOST_SPOTS" = some (some (.int 60 t_MOST_SPOTS)))
    (y_MOST_TICKS : PySem.W.nsIn K mainGlobals "MOST_TICKS" = some (some (.int 400 t_MOST_TICKS)))
    : ∃ T : Tx K mg, T.a_law = f_law ∧ T.d_law = PySem.W.fnOf "law" "law" (defArgs s_law) (defBody s_law) (defScope s_law) .none kV_law dc_law pm_law an_law cd_law ct_law :=
  ⟨{ a_is_integer := f_is_integer, d_is_integer := _, F_is_integer := fun_mk (st := s_is_integer) l_is_integer c_is_integer k_is_integer, b_is_integer := (fun_mk (st := s_is_integer) l_is_integer c_is_integer k_is_integer).binds (ps := ["thing"]) (fun _ _ _ _ _ _ us hl => match us, hl with | [_], _ => rfl), g_is_integer := PySem.W.mg_of X G a_is_integer,
     a_is_number := f_is_number, d_is_number := _, F_is_number := fun_mk (st := s_is_number) l_is_number c_is_number k_is_number, b_is_number := (fun_mk (st := s_is_number) l_is_number c_is_number k_is_number).binds (ps := ["thing", "least", "most"]) (fun _ _ _ _ _ _ us hl => match us, hl with | [_, _, _], _ => rfl), g_is_number := PySem.W.mg_of X G a_is_number,
     a_are_numbers := f_are_numbers, d_are_numbers := _, F_are_numbers := fun_mk (st := s_are_numbers) l_are_numbers c_are_numbers k_are_numbers, b_are_numbers := (fun_mk (st := s_are_numbers) l_are_numbers c_are_numbers k_are_numbers).binds (ps := ["things", "least", "most"]) (fun _ _ _ _ _ _ us hl => match us, hl with | [_, _, _], _ => rfl), g_are_numbers := PySem.W.mg_of X G a_are_numbers,
     a_are_integers := f_are_integers, d_are_integers := _, F_are_integers := fun_mk (st := s_are_integers) l_are_integers c_are_integers k_are_integers, b_are_integers := (fun_mk (st := s_are_integers) l_are_integers c_are_integers k_are_integers).binds (ps := ["thing", "many"]) (fun _ _ _ _ _ _ us hl => match us, hl with | [_, _], _ => rfl), g_are_integers := PySem.W.mg_of X G a_are_integers,
     a_is_comings := f_is_comings, d_is_comings := _, F_is_comings := fun_mk (st := s_is_comings) l_is_comings c_is_comings k_is_comings, b_is_comings := (fun_mk (st := s_is_comings) l_is_comings c_is_comings k_is_comings).binds (ps := ["comers", "thing"]) (fun _ _ _ _ _ _ us hl => match us, hl with | [_, _], _ => rfl), g_is_comings := PySem.W.mg_of X G a_is_comings,
     a_check_comers := f_check_comers, d_check_comers := _, F_check_comers := fun_mk (st := s_check_comers) l_check_comers c_check_comers k_check_comers, b_check_comers := (fun_mk (st := s_check_comers) l_check_comers c_check_comers k_check_comers).binds (ps := ["thing"]) (fun _ _ _ _ _ _ us hl => match us, hl with | [_], _ => rfl), g_check_comers := PySem.W.mg_of X G a_check_comers,
     a_check_bound := f_check_bound, d_check_bound := _, F_check_bound := fun_mk (st := s_check_bound) l_check_bound c_check_bound k_check_bound, b_check_bound := (fun_mk (st := s_check_bound) l_check_bound c_check_bound k_check_bound).binds (ps := ["thing"]) (fun _ _ _ _ _ _ us hl => match us, hl with | [_], _ => rfl), g_check_bound := PySem.W.mg_of X G a_check_bound,
     a_check_comings := f_check_comings, d_check_comings := _, F_check_comings := fun_mk (st := s_check_comings) l_check_comings c_check_comings k_check_comings, b_check_comings := (fun_mk (st := s_check_comings) l_check_comings c_check_comings k_check_comings).binds (ps := ["comers", "thing"]) (fun _ _ _ _ _ _ us hl => match us, hl with | [_, _], _ => rfl), g_check_comings := PySem.W.mg_of X G a_check_comings,
     a_follow_line := f_follow_line, d_follow_line := _, F_follow_line := fun_mk (st := s_follow_line) l_follow_line c_follow_line k_follow_line, b_follow_line := (fun_mk (st := s_follow_line) l_follow_line c_follow_line k_follow_line).binds (ps := ["bound", "line", "comings"]) (fun _ _ _ _ _ _ us hl => match us, hl with | [_, _, _], _ => rfl), g_follow_line := PySem.W.mg_of X G a_follow_line,
     a_letters_of := f_letters_of, d_letters_of := _, F_letters_of := fun_mk (st := s_letters_of) l_letters_of c_letters_of k_letters_of, b_letters_of := (fun_mk (st := s_letters_of) l_letters_of c_letters_of k_letters_of).binds (ps := ["bound", "comings"]) (fun _ _ _ _ _ _ us hl => match us, hl with | [_, _], _ => rfl), g_letters_of := PySem.W.mg_of X G a_letters_of,
     a_waits := f_waits, d_waits := _, F_waits := fun_mk (st := s_waits) l_waits c_waits k_waits, b_waits := (fun_mk (st := s_waits) l_waits c_waits k_waits).binds (ps := ["comers", "bound", "comings"]) (fun _ _ _ _ _ _ us hl => match us, hl with | [_, _, _], _ => rfl), g_waits := PySem.W.mg_of X G a_waits,
     a_is_spot := f_is_spot, d_is_spot := _, F_is_spot := fun_mk (st := s_is_spot) l_is_spot c_is_spot k_is_spot, b_is_spot := (fun_mk (st := s_is_spot) l_is_spot c_is_spot k_is_spot).binds (ps := ["comers", "bound", "thing"]) (fun _ _ _ _ _ _ us hl => match us, hl with | [_, _, _], _ => rfl), g_is_spot := PySem.W.mg_of X G a_is_spot,
     a_is_next := f_is_next, d_is_next := _, F_is_next := fun_mk (st := s_is_next) l_is_next c_is_next k_is_next, b_is_next := (fun_mk (st := s_is_next) l_is_next c_is_next k_is_next).binds (ps := ["comers", "bound", "spot", "other"]) (fun _ _ _ _ _ _ us hl => match us, hl with | [_, _, _, _], _ => rfl), g_is_next := PySem.W.mg_of X G a_is_next,
     a_is_walk := f_is_walk, d_is_walk := _, F_is_walk := fun_mk (st := s_is_walk) l_is_walk c_is_walk k_is_walk, b_is_walk := (fun_mk (st := s_is_walk) l_is_walk c_is_walk k_is_walk).binds (ps := ["comers", "bound", "thing"]) (fun _ _ _ _ _ _ us hl => match us, hl with | [_, _, _], _ => rfl), g_is_walk := PySem.W.mg_of X G a_is_walk,
     a_spots := f_spots, d_spots := _, F_spots := fun_mk (st := s_spots) l_spots c_spots k_spots, b_spots := (fun_mk (st := s_spots) l_spots c_spots k_spots).binds (ps := ["comers", "bound"]) (fun _ _ _ _ _ _ us hl => match us, hl with | [_, _], _ => rfl), g_spots := PySem.W.mg_of X G a_spots,
     a_nexts := f_nexts, d_nexts := _, F_nexts := fun_mk (st := s_nexts) l_nexts c_nexts k_nexts, b_nexts := (fun_mk (st := s_nexts) l_nexts c_nexts k_nexts).binds (ps := ["comers", "bound", "spot"]) (fun _ _ _ _ _ _ us hl => match us, hl with | [_, _, _], _ => rfl), g_nexts := PySem.W.mg_of X G a_nexts,
     a_walk := f_walk, d_walk := _, F_walk := fun_mk (st := s_walk) l_walk c_walk k_walk, b_walk := (fun_mk (st := s_walk) l_walk c_walk k_walk).binds (ps := ["comers", "bound", "comings"]) (fun _ _ _ _ _ _ us hl => match us, hl with | [_, _, _], _ => rfl), g_walk := PySem.W.mg_of X G a_walk,
     a_comings_for := f_comings_for, d_comings_for := _, F_comings_for := fun_mk (st := s_comings_for) l_comings_for c_comings_for k_comings_for, b_comings_for := (fun_mk (st := s_comings_for) l_comings_for c_comings_for k_comings_for).binds (ps := ["comers", "bound", "row"]) (fun _ _ _ _ _ _ us hl => match us, hl with | [_, _, _], _ => rfl), g_comings_for := PySem.W.mg_of X G a_comings_for,
     a__law_tape := f__law_tape, d__law_tape := _, F__law_tape := fun_mk (st := s__law_tape) l__law_tape c__law_tape k__law_tape, b__law_tape := (fun_mk (st := s__law_tape) l__law_tape c__law_tape k__law_tape).binds (ps := ["script"]) (fun _ _ _ _ _ _ us hl => match us, hl with | [_], _ => rfl), g__law_tape := PySem.W.mg_of X G a__law_tape,
     a__law_pick := f__law_pick, d__law_pick := _, F__law_pick := fun_mk (st := s__law_pick) l__law_pick c__law_pick k__law_pick, b__law_pick := (fun_mk (st := s__law_pick) l__law_pick c__law_pick k__law_pick).binds (ps := ["tape", "size"]) (fun _ _ _ _ _ _ us hl => match us, hl with | [_, _], _ => rfl), g__law_pick := PySem.W.mg_of X G a__law_pick,
     a__law_comings := f__law_comings, d__law_comings := _, F__law_comings := fun_mk (st := s__law_comings) l__law_comings c__law_comings k__law_comings, b__law_comings := (fun_mk (st := s__law_comings) l__law_comings c__law_comings k__law_comings).binds (ps := ["tape", "comers", "most"]) (fun _ _ _ _ _ _ us hl => match us, hl with | [_, _, _], _ => rfl), g__law_comings := PySem.W.mg_of X G a__law_comings,
     a__law_line := f__law_line, d__law_line := _, F__law_line := fun_mk (st := s__law_line) l__law_line c__law_line k__law_line, b__law_line := (fun_mk (st := s__law_line) l__law_line c__law_line k__law_line).binds (ps := ["bound", "comings"]) (fun _ _ _ _ _ _ us hl => match us, hl with | [_, _], _ => rfl), g__law_line := PySem.W.mg_of X G a__law_line,
     a__law_walk := f__law_walk, d__law_walk := _, F__law_walk := fun_mk (st := s__law_walk) l__law_walk c__law_walk k__law_walk, b__law_walk := (fun_mk (st := s__law_walk) l__law_walk c__law_walk k__law_walk).binds (ps := ["tape", "comers", "bound"]) (fun _ _ _ _ _ _ us hl => match us, hl with | [_, _, _], _ => rfl), g__law_walk := PySem.W.mg_of X G a__law_walk,
     a__law_lists_right := f__law_lists_right, d__law_lists_right := _, F__law_lists_right := fun_mk (st := s__law_lists_right) l__law_lists_right c__law_lists_right k__law_lists_right, b__law_lists_right := (fun_mk (st := s__law_lists_right) l__law_lists_right c__law_lists_right k__law_lists_right).binds (ps := ["tape", "comers", "bound"]) (fun _ _ _ _ _ _ us hl => match us, hl with | [_, _, _], _ => rfl), g__law_lists_right := PySem.W.mg_of X G a__law_lists_right,
     a_law := f_law, d_law := _, F_law := fun_mk (st := s_law) l_law c_law k_law, b_law := (fun_mk (st := s_law) l_law c_law k_law).binds (ps := ["script"]) (fun _ _ _ _ _ _ us hl => match us, hl with | [_], _ => rfl), g_law := PySem.W.mg_of X G a_law,
     m_all := PySem.W.mg_none_of X G z_all,
     m_bool := PySem.W.mg_none_of X G z_bool,
     m_enumerate := PySem.W.mg_none_of X G z_enumerate,
     m_int := PySem.W.mg_none_of X G z_int,
     m_isinstance := PySem.W.mg_none_of X G z_isinstance,
     m_len := PySem.W.mg_none_of X G z_len,
     m_list := PySem.W.mg_none_of X G z_list,
     m_max := PySem.W.mg_none_of X G z_max,
     m_min := PySem.W.mg_none_of X G z_min,
     m_range := PySem.W.mg_none_of X G z_range,
     m_tuple := PySem.W.mg_none_of X G z_tuple,
     m_zip := PySem.W.mg_none_of X G z_zip,
     t_MOST_BOUND := t_MOST_BOUND, g_MOST_BOUND := PySem.W.mg_of X G y_MOST_BOUND,
     t_MOST_COMERS := t_MOST_COMERS, g_MOST_COMERS := PySem.W.mg_of X G y_MOST_COMERS,
     t_MOST_SPOTS := t_MOST_SPOTS, g_MOST_SPOTS := PySem.W.mg_of X G y_MOST_SPOTS,
     t_MOST_TICKS := t_MOST_TICKS, g_MOST_TICKS := PySem.W.mg_of X G y_MOST_TICKS }, rfl, rfl⟩
end My
open PySem PySem.W PyProof.Rows
set_option maxHeartbeats 0 in
theorem PySem.Challenge.cw_loopstore_k04_whole_walks_are_what_lette_holds : PySem.Challenge.rw_loopstore_k04_whole_walks_are_what_lette.Holds := by
  w_on; o_law; k_head; (case hw => w_witness2)
  k_fill
  refine L2.walk_of (l := PySem.Challenge.rw_loopstore_k04_whole_walks_are_what_lette) (n := 63) (k := My.lawLevel) (x := "script") (CX := fun _ => L2.CX0) (sp := fun w => My.spLaw _) rfl (by decide) rfl ⟨rfl, by decide, by decide⟩ (fun w h Y => PySem.W.kIn_of Y) ?F (fun _ _ a ns hl _ hS => ⟨a, ns, rfl, hS, hl, fun _ => rfl⟩) (fun _ _ _ _ _ h => h)
  case F =>
    intro w mg fa h KX G hmg
    refine' My.fin_mk KX G hmg (My.all_mk (w := w) KX G ?a_is_integer ?l_is_integer ?c_is_integer ?k_is_integer ?a_is_number ?l_is_number ?c_is_number ?k_is_number ?a_are_numbers ?l_are_numbers ?c_are_numbers ?k_are_numbers ?a_are_integers ?l_are_integers ?c_are_integers ?k_are_integers ?a_is_comings ?l_is_comings ?c_is_comings ?k_is_comings ?a_check_comers ?l_check_comers ?c_check_comers ?k_check_comers ?a_check_bound ?l_check_bound ?c_check_bound ?k_check_bound ?a_check_comings ?l_check_comings ?c_check_comings ?k_check_comings ?a_follow_line ?l_follow_line ?c_follow_line ?k_follow_line ?a_letters_of ?l_letters_of ?c_letters_of ?k_letters_of ?a_waits ?l_waits ?c_waits ?k_waits ?a_is_spot ?l_is_spot ?c_is_spot ?k_is_spot ?a_is_next ?l_is_next ?c_is_next ?k_is_next ?a_is_walk ?l_is_walk ?c_is_walk ?k_is_walk ?a_spots ?l_spots ?c_spots ?k_spots ?a_nexts ?l_nexts ?c_nexts ?k_nexts ?a_walk ?l_walk ?c_walk ?k_walk ?a_comings_for ?l_comings_for ?c_comings_for ?k_comings_for ?a__law_tape ?l__law_tape ?c__law_tape ?k__law_tape ?a__law_pick ?l__law_pick ?c__law_pick ?k__law_pick ?a__law_comings ?l__law_comings ?c__law_comings ?k__law_comings ?a__law_line ?l__law_line ?c__law_line ?k__law_line ?a__law_walk ?l__law_walk ?c__law_walk ?k__law_walk ?a__law_lists_right ?l__law_lists_right ?c__law_lists_right ?k__law_lists_right ?a_law ?l_law ?c_law ?k_law ?z_all ?z_bool ?z_enumerate ?z_int ?z_isinstance ?z_len ?z_list ?z_max ?z_min ?z_range ?z_tuple ?z_zip ?y_MOST_BOUND ?y_MOST_COMERS ?y_MOST_SPOTS ?y_MOST_TICKS)
    (case a_is_integer => k_is); (case l_is_integer => k_is); (case c_is_integer => k_is); (case k_is_integer => k_is); (case a_is_number => k_is); (case l_is_number => k_is); (case c_is_number => k_is); (case k_is_number => k_is); (case a_are_numbers => k_is); (case l_are_numbers => k_is); (case c_are_numbers => k_is); (case k_are_numbers => k_is); (case a_are_integers => k_is); (case l_are_integers => k_is); (case c_are_integers => k_is); (case k_are_integers => k_is); (case a_is_comings => k_is); (case l_is_comings => k_is); (case c_is_comings => k_is); (case k_is_comings => k_is); (case a_check_comers => k_is); (case l_check_comers => k_is); (case c_check_comers => k_is); (case k_check_comers => k_is); (case a_check_bound => k_is); (case l_check_bound => k_is); (case c_check_bound => k_is); (case k_check_bound => k_is); (case a_check_comings => k_is); (case l_check_comings => k_is); (case c_check_comings => k_is); (case k_check_comings => k_is); (case a_follow_line => k_is); (case l_follow_line => k_is); (case c_follow_line => k_is); (case k_follow_line => k_is); (case a_letters_of => k_is); (case l_letters_of => k_is); (case c_letters_of => k_is); (case k_letters_of => k_is); (case a_waits => k_is); (case l_waits => k_is); (case c_waits => k_is); (case k_waits => k_is); (case a_is_spot => k_is); (case l_is_spot => k_is); (case c_is_spot => k_is); (case k_is_spot => k_is); (case a_is_next => k_is); (case l_is_next => k_is); (case c_is_next => k_is); (case k_is_next => k_is); (case a_is_walk => k_is); (case l_is_walk => k_is); (case c_is_walk => k_is); (case k_is_walk => k_is); (case a_spots => k_is); (case l_spots => k_is); (case c_spots => k_is); (case k_spots => k_is); (case a_nexts => k_is); (case l_nexts => k_is); (case c_nexts => k_is); (case k_nexts => k_is); (case a_walk => k_is); (case l_walk => k_is); (case c_walk => k_is); (case k_walk => k_is); (case a_comings_for => k_is); (case l_comings_for => k_is); (case c_comings_for => k_is); (case k_comings_for => k_is); (case a__law_tape => k_is); (case l__law_tape => k_is); (case c__law_tape => k_is); (case k__law_tape => k_is); (case a__law_pick => k_is); (case l__law_pick => k_is); (case c__law_pick => k_is); (case k__law_pick => k_is); (case a__law_comings => k_is); (case l__law_comings => k_is); (case c__law_comings => k_is); (case k__law_comings => k_is); (case a__law_line => k_is); (case l__law_line => k_is); (case c__law_line => k_is); (case k__law_line => k_is); (case a__law_walk => k_is); (case l__law_walk => k_is); (case c__law_walk => k_is); (case k__law_walk => k_is); (case a__law_lists_right => k_is); (case l__law_lists_right => k_is); (case c__law_lists_right => k_is); (case k__law_lists_right => k_is); (case a_law => k_is); (case l_law => k_is); (case c_law => k_is); (case k_law => k_is); (case z_all => k_is); (case z_bool => k_is); (case z_enumerate => k_is); (case z_int => k_is); (case z_isinstance => k_is); (case z_len => k_is); (case z_list => k_is); (case z_max => k_is); (case z_min => k_is); (case z_range => k_is); (case z_tuple => k_is); (case z_zip => k_is); (case y_MOST_BOUND => k_is); (case y_MOST_COMERS => k_is); (case y_MOST_SPOTS => k_is); (case y_MOST_TICKS => k_is)

