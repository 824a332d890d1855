import PyProof.Rows.All
import Wide.All
import OpenK.AllK
import Wide.FinOn
import HandS.ForMost
import HandS.Wide
import HandS.IsInst
import HandS.TupMul
import HandS.TupAny
import HandS.SortInts
import HandS.SortRule
import HandS.Strs
import HandS.Deep
import HandS.Style
import HandS.Evl
import HandS.Exc
import HandS.ExcOwn
import HandS.ExcInit
import HandS.TryOnly
import HandS.WordsExc
import HandS.ExcField
import HandS.ExcIs
import KE.KExcIs
import HandS.Zip
import HandS.Dict
import PySem.Challenge.RW_loopstore_k19_whole_the_first_meeting_of
set_option Elab.async false
set_option linter.all false
set_option maxRecDepth 100000
set_option maxHeartbeats 4000000
/-! ## rules that the layer lacks -/
namespace RR
open PySem PySem.Spec PyProof.Rows L2 HT
section
variable {prog : Program} {w : World} {A : Around} {E : Value → Shared → Prop} {s : Shared}
/-- a tuple's items gathered -/
theorem collect_tuple {l : Addr} {vs : List Value} {Q : List Value → Shared → Prop} (hl : IsTup s.heap l vs.toArray)
    (h : Q vs { s with heap := (s.heap.push (seqObj "list" #[] 0)).update s.heap.objs.size (Obj.mapSeq (· ++ vs.toArray)) }) (hsz : vs.length ≤ sizeLine) :
    wpAny (model prog w) A (collect (.ref l)) Q E s := by
  obtain ⟨o, ho, hc, n, hd⟩ := id hl
  unfold collect
  refine wpAny_bind (wpAny_runValue (codeAny_builtin entry_proto_collect' ?_))
  show wpAny _ _ (do again (.builtin "list.__iadd__" ⟨[← newList [], .ref l], []⟩)) _ _ s
  refine wpAny_bind (wpAny_newList (wpAny_pure ⟨Code.quiet_builtin _ (by decide +kernel), codeAny_builtin entry_list_iadd' ?_⟩))
  show wpAny _ _ (Builtin.List.listExtendWith (.ref s.heap.objs.size) (.ref l) (.ref s.heap.objs.size)) _ _ { s with heap := s.heap.push (seqObj "list" #[] 0) }
  unfold Builtin.List.listExtendWith
  have ho' : (s.heap.push (seqObj "list" #[] 0)).get? l = some o := Heap.get?_push_of_some _ ho
  refine wpAny_bind (wpAny_typeOf (T := "tuple") ⟨o, ho', hc⟩ ?_)
  have ht : (Value.type "tuple" == Value.type "tuple") = true := by rfl
  rw [if_pos (by rw [ht]; simp)]
  refine wpAny_bind (listItems_at ho' hd ?_)
  refine wpAny_bind (listItems_at (xs := #[]) (n := 0) (Heap.get?_push_size _ rfl) rfl ?_)
  rw [if_neg (by simp)]
  refine wpAny_bind (listUpdate_at (xs := #[]) (n := 0) (Heap.get?_push_size _ rfl) rfl ?_ (Nat.zero_le _) (by show (#[] ++ vs.toArray).size ≤ sizeLine + 1; simp only [Array.size_append, List.size_toArray, List.length_nil]; omega))
  refine wpAny_pure ?_
  show wpAny (model prog w) A (do
      let o ← load s.heap.objs.size
      match o.data with
      | .seq xs _ => pure xs.toList
      | _ => unsupported "internal:collect") Q E { s with heap := (s.heap.push (seqObj "list" #[] 0)).update s.heap.objs.size (Obj.mapSeq (· ++ vs.toArray)) }
  refine wpAny_bind (wpAny_load (get?_update_seq (Heap.get?_push_size _ rfl) _) ?_)
  show wpAny _ _ (pure ((#[] : Array Value) ++ vs.toArray).toList) Q E _
  rw [show ((#[] : Array Value) ++ vs.toArray).toList = vs by simp]
  exact wpAny_pure h
theorem sorted_ordT {l : Addr} {vs : List Value} {ltv : Value → Value → Bool} {Q : Value → Shared → Prop} (O : SrtO.Swo ltv) (hl : IsTup s.heap l vs.toArray) (hz : vs.length ≤ sizeLine)
    (hS : 2 ≤ vs.length → ∀ (h₁ : Heap) (a : Addr), h₁.get? a = some (seqObj "list" vs.toArray 0) → (∀ b o, s.heap.get? b = some o → b ≠ a ∧ h₁.get? b = some o) → SrtO.SortableO prog w A.in1.in1 { s with heap := h₁ } a vs ltv)
    (h : ∀ out : List Value, SrtO.Srtd ltv out → SrtO.Stb ltv out vs → Q (.ref (s.heap.objs.size + 1)) { s with heap := sortedAll s.heap vs out.toArray }) :
    wpAny (model prog w) A (call (.builtin "sorted") [.ref l]) Q E s := by
  refine Calls.call_function_entry kind_sorted plain_sorted entry_sorted (args_sorted1 _) ?_
  unfold Builtin.«sorted»
  refine wpAny_bind (m := checkCount "sorted" 1 1 _) (wpAny_pure ?_)
  refine wpAny_bind (collect_tuple hl ?_ hz)
  refine wpAny_bind (wpAny_newList ?_ hz)
  have hsz : ((s.heap.push (seqObj "list" #[] 0)).update s.heap.objs.size (Obj.mapSeq (· ++ vs.toArray))).objs.size = s.heap.objs.size + 1 := by
    rw [Heap.size_update, size_push']
  have hoL : (((s.heap.push (seqObj "list" #[] 0)).update s.heap.objs.size (Obj.mapSeq (· ++ vs.toArray))).push (seqObj "list" vs.toArray 0)).get? (s.heap.objs.size + 1) = some (seqObj "list" vs.toArray 0) := by
    rw [← hsz]; exact Heap.get?_push_size _ rfl
  have keep : ∀ b o, s.heap.get? b = some o → b ≠ s.heap.objs.size + 1 ∧ (((s.heap.push (seqObj "list" #[] 0)).update s.heap.objs.size (Obj.mapSeq (· ++ vs.toArray))).push (seqObj "list" vs.toArray 0)).get? b = some o := fun b o q => by
    have hlt : b < s.heap.objs.size := Heap.lt_size q
    refine ⟨Nat.ne_of_lt (Nat.lt_succ_of_lt hlt), Heap.get?_push_of_some _ ?_⟩
    rw [Heap.get?_update_ne _ _ _ _ (Nat.ne_of_lt hlt)]
    exact Heap.get?_push_of_some _ q
  show wpAny _ _ _ _ _ { s with heap := ((s.heap.push (seqObj "list" #[] 0)).update s.heap.objs.size (Obj.mapSeq (· ++ vs.toArray))).push (seqObj "list" vs.toArray 0) }
  rw [hsz]
  refine wpAny_bind (wpAny_holding (wpAny_call_entry slot_list_sort ⟨_, hoL, rfl⟩ entry_list_sort (SrtO.list_sort_ord O hoL hz (fun h2 => hS h2 _ _ hoL keep) fun out hs hb => ⟨_, rfl, ?_⟩) (args_list_sort _)))
  exact wpAny_pure ⟨_, rfl, h out hs hb⟩
end
def rSortedU (K : PySem.W.Frag) : List V → Hp → VK → Prop := fun vs H Q => ∃ (a : Addr) (ns : List Int), vs = [V.ref a] ∧ SqT K H a (ns.map V.int) ∧
  ∀ (ns' : List Int) (p : Addr), ns'.Perm ns → ns'.Pairwise (· ≤ ·) → H p = none → Q (.ref p) (upd H p (.lst (ns'.map V.int)))
section
variable {X : Cx}
/-- sorted(t), t a tuple of ints -/
theorem cr_sortedU : CallR X (.builtin "sorted") (rSortedU X.K) := by
  intro pins s σ H vs us Q I r h
  obtain ⟨a, ns, rfl, hs, q⟩ := h
  obtain ⟨its, rv, hl, hz⟩ := I.tuple hs
  rw [Vals.ref1 r]
  have hi := rv.ints
  refine sorted_ordT SrtO.swo_int hl (by rw [← rv.length]; exact hz) (fun h2 h₁ a' _ _ => SrtO.ints_sortable hi h2) fun out h1 h2 => ?_
  obtain ⟨k1, k2, k3⟩ := SrtO.ints_out hi h1 h2
  obtain ⟨ep, he'⟩ := PyProof.Rows.sortedAll_at s.heap its out.toArray
  have hlen : ((out.map SrtO.iv).map V.int).length ≤ sizeLine := by
    rw [List.length_map, k2.length_eq]
    rw [List.length_map] at hz
    exact hz
  exact ⟨.ref _, upd H (s.heap.objs.size + 1) (.lst ((out.map SrtO.iv).map V.int)), I.laid (t' := s.toks) (fun _ _ => PyProof.Rows.sortedAll_old) (Nat.le_succ _) ⟨hlen, out, ep, vals_of_ints k1, he'⟩, rfl, q _ _ k2 k3 (I.hok.fresh (Nat.le_succ _))⟩
end
/-! ### t[::-1] -/
theorem adj_rev (n : Nat) : Builtin.Slice.sliceAdjust none none (-1) (n : Int) = ((n : Int) - 1, -1) := rfl
theorem pl_rev (n : Nat) : Builtin.Slice.slicePlaces ((n : Int) - 1) (-1) (-1) = n := by
  unfold Builtin.Slice.slicePlaces
  have h1 : ¬ ((-1 : Int) > 0) := by omega
  simp only [h1, if_false]
  split <;> simp <;> omega
theorem pick_rev (xs : List Value) : ((List.range xs.length).filterMap fun (m : Nat) => xs.toArray[(((xs.length : Int) - 1) + (m : Int) * (-1)).toNat]?) = xs.reverse := by
  have key : ∀ m, m ≤ xs.length → ((List.range m).filterMap fun (k : Nat) => xs.toArray[(((xs.length : Int) - 1) + (k : Int) * (-1)).toNat]?) = xs.reverse.take m := by
    intro m
    induction m with
    | zero => intro _; rfl
    | succ m ih =>
      intro hm
      rw [List.range_succ, List.filterMap_append, ih (by omega), List.take_add_one]
      have e : (((xs.length : Int) - 1) + (m : Int) * (-1)).toNat = xs.length - 1 - m := by omega
      have hl : m < xs.reverse.length := by rw [List.length_reverse]; omega
      have e2 : xs.toArray[xs.length - 1 - m]? = some (xs.reverse[m]) := by
        rw [List.getElem?_toArray, List.getElem_reverse, List.getElem?_eq_getElem]
      rw [List.getElem?_eq_getElem hl]
      simp only [List.filterMap_cons, List.filterMap_nil, e, e2, Option.toList_some]
  have := key xs.length (Nat.le_refl _)
  rw [this, List.take_of_length_le (by rw [List.length_reverse]; exact Nat.le_refl _)]
section
variable {prog : Program} {w : World} {A : Around} {E : Value → Shared → Prop} {s : Shared}
theorem sliceApplied_rev {sl : Addr} {vl vu vs : Value} {n : Nat} {Q : Int × Int × Nat → Shared → Prop} (hs : s.heap.IsSliceOf sl vl vu vs) (pl : IsPart vl none) (pu : IsPart vu none) (ps : IsPart vs (some (-1)))
    (h : Q ((n : Int) - 1, -1, n) s) : wpAny (model prog w) A (Builtin.Slice.sliceApplied (.ref sl) (pure (n : Int))) Q E s := by
  obtain ⟨os, hos, hcs, hds⟩ := id hs
  unfold Builtin.Slice.sliceApplied Builtin.Slice.sliceFields
  refine wpAny_bind (wpAny_bind (wpAny_field hos hds (x := vl) rfl (wpAny_bind (wpAny_field hos hds (x := vu) rfl (wpAny_bind (wpAny_field hos hds (x := vs) rfl (wpAny_pure ?_)))))))
  refine wpAny_bind (slicePart_ ps ?_)
  show wpAny _ _ (if ((-1 : Int) == 0) = true then _ else _) _ _ s
  rw [if_neg (by decide)]
  refine wpAny_bind (slicePart_ pl (wpAny_bind (slicePart_ pu (wpAny_bind (wpAny_pure ?_)))))
  show wpAny _ _ (match Builtin.Slice.sliceAdjust none none (-1) (n : Int) with | (lo, hi) => pure (lo, (-1 : Int), Builtin.Slice.slicePlaces lo hi (-1))) _ _ s
  rw [adj_rev n]
  show wpAny _ _ (pure ((n : Int) - 1, (-1 : Int), Builtin.Slice.slicePlaces ((n : Int) - 1) (-1) (-1))) _ _ s
  rw [pl_rev]
  exact wpAny_pure h
theorem getItem_tuple_rev {t sl : Addr} {items : List Value} {vl vu vs : Value} {Q : Value → Shared → Prop} (ht : IsTup s.heap t items.toArray) (hs : s.heap.IsSliceOf sl vl vu vs) (pl : IsPart vl none) (pu : IsPart vu none) (ps : IsPart vs (some (-1)))
    (h : Q (.ref s.heap.objs.size) { s with heap := s.heap.push { cls := .type "tuple", data := .seq items.reverse.toArray } })
    (hsz : items.length ≤ sizeLine) : wpAny (model prog w) A (getItem (.ref t) (.ref sl)) Q E s := by
  have htake : sizeOk (.seq items.reverse.toArray) := by
    show items.reverse.toArray.size ≤ sizeLine
    rw [List.size_toArray, List.length_reverse]
    omega
  obtain ⟨os, hos, hcs, hds⟩ := id hs
  have hTs : s.TypeIs (.ref sl) "slice" := ⟨os, hos, hcs⟩
  unfold getItem
  try with_reducible refine wpAny_holding ?_
  first | refine wpAny_bind (wpAny_pure ?_) | skip
  refine wpAny_bind (wpAny_sequenceKey ht.typeIs (by decide) ?_)
  refine wpAny_bind (wpAny_callSpecial?_slot (name := Str.ofString "__getitem__") ht.typeIs PyProof.Rows.slot_tuple_getitem
    (wpAny_call_entry PyProof.Rows.slot_tuple_getitem ht.typeIs entry_tuple_getitem ?_ (args_tuple_getitem _ _)))
  show wpAny _ _ (Builtin.Tuple.tupleItemsOf (.ref t) >>= _) _ _ s
  refine wpAny_bind (tupleItemsOf_ ht ?_)
  refine wpAny_bind (wpAny_typeOf hTs ?_)
  rw [if_pos (by decide)]
  rw [List.size_toArray]
  refine wpAny_bind (sliceApplied_rev hs pl pu ps ?_)
  have hno : ¬ ((((items.length : Int) - 1) == 0 && (-1 : Int) == 1 && items.length == items.length) = true) := by
    rw [show ((-1 : Int) == 1) = false from rfl, Bool.and_false, Bool.false_and]
    exact Bool.false_ne_true
  show wpAny _ _ (if (((items.length : Int) - 1) == 0 && (-1 : Int) == 1 && items.length == items.length) = true then _ else _) _ _ s
  rw [if_neg hno, pick_rev]
  first
    | exact wpAny_bind (m := Builtin.Tuple.tupleExact _) (wpAny_newObj_type (wpAny_pure ⟨_, rfl, wpAny_pure h⟩) htake)
    | exact wpAny_bind (m := Builtin.Tuple.tupleExact _) (wpAny_newObj_type (wpAny_bind (wpAny_pure (wpAny_pure ⟨_, rfl, wpAny_pure h⟩))) htake)
    | exact wpAny_bind (wpAny_bind (m := Builtin.Tuple.tupleExact _) (wpAny_newObj_type (wpAny_pure (wpAny_pure ⟨_, rfl, wpAny_pure h⟩)) htake))
    | exact wpAny_bind (wpAny_bind (m := Builtin.Tuple.tupleExact _) (wpAny_newObj_type (wpAny_pure ⟨_, rfl, wpAny_pure h⟩) htake))
end
def tRevT (K : PySem.W.Frag) (te : TE) : TE := fun σ H Q => te σ H fun x H1 => ∃ a xs, x = .ref a ∧ SqT K H1 a xs ∧ ∀ p, H1 p = none → Q (.ref p) (upd H1 p (.tup xs.reverse))
section
variable {X : Cx}
theorem pe_revT {e : Expr} {te : TE} {k : Nat} {p1 p2 p3 pos : Pos} (he : PE X e te) : PE X (.Subscript e (.Slice none none (some (.UnaryOp .USub (.Constant (.int 1) k p1) p2)) p3) pos) (tRevT X.K te) := by
  refine ⟨fun pins s σ H Q I h => ?_⟩
  refine Subscript_ (thn (he.run pins s σ H _ I h) fun v s1 ⟨x, H1, I1, r1, q1⟩ => ?_)
  obtain ⟨a, xs, ex, hx, q⟩ := q1
  subst ex
  cases r1
  have hst : PO X (some (.UnaryOp .USub (.Constant (.int 1) k p1) p2)) (tPart (tUn (rU fun i => .int (-i)) (tC (.int 1)))) := po_some (pe_un un_neg pe_int)
  refine wpAny_Slice (thn (po_none.run pins s1 σ H1 (fun o H2 => o = none ∧ H2 = H1) I1 ⟨rfl, rfl⟩) fun vl s2 ⟨l, H2, I2, pl, el, e2⟩ => ?_)
  subst el e2
  refine thn (po_none.run pins s2 σ H2 (fun o H3 => o = none ∧ H3 = H2) I2 ⟨rfl, rfl⟩) fun vu s3 ⟨u, H3, I3, pu, eu, e3⟩ => ?_
  subst eu e3
  refine thn (hst.run pins s3 σ H3 (fun o H4 => o = some (-1) ∧ H4 = H3) I3 ⟨1, rfl, -1, rfl, rfl, rfl⟩) fun vs s4 ⟨o, H4, I4, ps, eo, e4⟩ => ?_
  subst eo e4
  have I5 : Inv X pins σ H4 { s4 with heap := s4.heap.push { cls := .type "slice", data := .fields #[vl, vu, vs] } } := I4.kept (t' := s4.toks) fun b ob q => Heap.get?_push_of_some _ q
  obtain ⟨its, r, ht, hz⟩ := I5.tuple hx
  have hlen := r.length
  show wpAny (model X.prog X.w) X.A (subscriptTail e (.Slice none none (some (.UnaryOp .USub (.Constant (.int 1) k p1) p2)) p3) (.ref a) (.ref s4.heap.objs.size)) (EP X pins σ Q) X.xe { s4 with heap := s4.heap.push { cls := .type "slice", data := .fields #[vl, vu, vs] } }
  refine tail_any (ops := [.ref a, .ref s4.heap.objs.size]) ht.typeIs (PyProof.Rows.slot_tuple_getitem.lookup) ?_ (by with_unfolding_all rfl)
  refine getItem_tuple_rev ht (Heap.IsSliceOf.new _ vl vu vs) pl pu ps ?_ (by rw [← hlen]; exact hz)
  refine ⟨.ref _, _, I5.laid (t' := s4.toks) (o := .tup xs.reverse) (fun b ob q => Heap.get?_push_of_some _ q) (Nat.le_refl _) ?_, rfl, q _ (I5.hok.fresh (Nat.le_refl _))⟩
  exact ⟨by rw [List.length_reverse]; exact hz, _, r.reverse, IsTup.new _ _⟩
end
/-! ### t * k, k from 1 on -/
theorem tuple_mulW1 (l : Addr) (items : Array Value) (n : Nat) (dd : Option Addr) (sl : Array (Option Value)) (u : Tok) :
    Meets (Builtin.«tuple.__mul__» ⟨[.ref l, .int 1 u], []⟩) (fun _ R s => s.heap.get? l = some { cls := .type "tuple", dict := dd, data := .seq items n, slots := sl } ∧ R (.ok (.ret (Value.ref l))) s) :=
  .of_wp fun prog w A R s h => by
    obtain ⟨hp, g, d, tk, os⟩ := s
    obtain ⟨hl, h⟩ := h
    have f1 := AutoSeq1.idx_int
    have c0 : (decide ((1 : Int) < -(2 ^ 63)) || decide ((1 : Int) ≥ 2 ^ 63)) = false := by decide
    have c1 : (items.isEmpty || (1 : Int) == 1) = true := by rw [show ((1 : Int) == 1) = true from rfl, Bool.or_true]
    wp_walk using wpAny_loadPart' hl
    repeat (first
      | (refine wpAny_ite_false (decide_eq_false (by rw [c0]; exact Bool.false_ne_true)) ?_; wp_walk using wpAny_loadPart' hl)
      | (refine wpAny_ite_true (decide_eq_true c1) ?_; wp_walk using wpAny_loadPart' hl))
    exact ⟨_, rfl, h⟩
def rRepA (K : PySem.W.Frag) : R2 := fun x y H Q => ∃ l k xs, x = .ref l ∧ y = .int k ∧ SqT K H l xs ∧ xs ≠ [] ∧ 1 ≤ k ∧ k ≤ 1000 ∧ xs.length ≤ 1000 ∧ (k = 1 → Q (.ref l) H) ∧ (k ≠ 1 → ∀ p, H p = none → Q (.ref p) (upd H p (.tup (List.replicate k.toNat xs).flatten)))
section
variable {X : Cx}
theorem op_repA : OpR X (binaryOp .Mult) (rRepA X.K) := by
  intro pins s σ H x y v u Q I rx ry h
  obtain ⟨l, k, xs, rfl, rfl, hT, hne, h1, h2, hz, q1, q2⟩ := h
  by_cases hk : k = 1
  · subst hk
    cases rx
    obtain ⟨t, rfl⟩ := ry
    obtain ⟨its, r, ⟨⟨cls, dd, data, sl⟩, ho, hc, n, hd⟩, hs⟩ := I.tuple hT
    simp only at hc hd
    subst hc hd
    refine wpAny_binaryOp_repeat_ref (T := "tuple") (U := "int") (by decide) ⟨_, ho, rfl⟩ (fun s' => typeIs_int s' 1 t) noFill_tuple_mul F.fills_int_mul F.slot_int_rmul repeat_tuple F.slot_int_index.lookup
      (call_meets F.slot_int_rmul (typeIs_int s 1 t) F.entry_int_rmul (F.args_int_rmul_2 _ _) (int_rmul_tuple 1 t l its.toArray n dd sl)
        ⟨ho, rfl, ⟨_, ho, rfl⟩, call_meets F.slot_tuple_mul ⟨_, ho, rfl⟩ F.entry_tuple_mul (F.args_tuple_mul_2 _ _) (tuple_mulW1 l its.toArray n dd sl t) ⟨ho, ?_⟩⟩)
    exact ⟨.ref l, H, I, rfl, q1 rfl⟩
  · exact op_repT pins s σ H _ _ v u Q I rx ry ⟨l, k, xs, rfl, rfl, hT, hne, by omega, h2, hz, q2 hk⟩
end
end RR

/-! ## enumerate over a tuple; an empty tuple times k -/
namespace RR
open PySem PySem.Spec PyProof.Rows L2 HT
open Sem (wp)
open AutoSeq1 (wpAny_loadPart')
section
variable {prog : Program} {w : World} {A : Around} {E : Value → Shared → Prop} {s : Shared}
theorem next_tuple_item {it t : Addr} {i : Nat} {items} {x : Value} {Q : Value → Shared → Prop} (hit : s.heap.IsTupleIter it t i)
    (ht : s.heap.IsTuple t items) (hx : items[i]? = some x)
    (hQ : ∀ h', h'.IsTupleIter it t (i + 1) → Heap.SameBut it s.heap h' → Q x { s with heap := h' }) :
    wpAny (model prog w) A (Builtin.SmallTypes.nextOf (.ref it)) Q E s := by
  obtain ⟨o, ho, hc, hd⟩ := id hit
  obtain ⟨ol, hol, _, nl, hdl⟩ := ht
  unfold Builtin.SmallTypes.nextOf
  refine wpAny_bind (wpAny_callSpecial?_slot (name := Str.ofString "__next__") hit.typeIs F.slot_tuple_iterator_next
    (wpAny_call_entry F.slot_tuple_iterator_next hit.typeIs F.entry_tuple_iterator_next ?_ (F.args_tuple_iterator_next_1 _)))
  show wpAny _ _ (field (.ref it) 0 >>= _) _ _ s
  refine wpAny_bind (wpAny_field ho hd (x := .ref t) rfl ?_)
  show wpAny _ _ (if (Value.ref t == Value.none) = true then _ else _) _ _ s
  rw [if_neg (show ¬ ((Value.ref t == Value.none) = true) from Bool.false_ne_true)]
  show wpAny _ _ (field (.ref it) 1 >>= _) _ _ s
  refine wpAny_bind (wpAny_field ho hd (x := .int i 0) rfl ?_)
  show wpAny _ _ (seqItems? (.ref t) >>= _) _ _ s
  refine wpAny_bind (wpAny_seqItems hol hdl ?_)
  simp only [Int.toNat_natCast, hx]
  refine wpAny_bind (wpAny_setField ho hd (by simp) (wpAny_pure ⟨x, rfl, wpAny_pure (hQ _ ?_ (Heap.SameBut.update ..))⟩))
  exact ⟨_, Heap.get?_update_self _ ho (Obj.isFreed_of_fields (Obj.data_mapFields hd _)), (Obj.cls_mapFields ..).trans hc, by
    rw [Obj.data_mapFields hd]; simp [rawInt]⟩
theorem next_tuple_end {it t : Addr} {i : Nat} {items} {Q : Value → Shared → Prop} (hh : A.handled = none)
    (hit : s.heap.IsTupleIter it t i) (ht : s.heap.IsTuple t items) (hx : items[i]? = none)
    (hE : ∀ h' e, Heap.ExtBut it s.heap h' → (∃ o, h'.get? e = some o ∧ o.cls = .type "StopIteration") → E (.ref e) { s with heap := h' }) :
    wpAny (model prog w) A (Builtin.SmallTypes.nextOf (.ref it)) Q E s := by
  obtain ⟨o, ho, hc, hd⟩ := id hit
  obtain ⟨ol, hol, _, nl, hdl⟩ := ht
  unfold Builtin.SmallTypes.nextOf
  refine wpAny_bind (wpAny_callSpecial?_slot (name := Str.ofString "__next__") hit.typeIs F.slot_tuple_iterator_next
    (wpAny_call_entry F.slot_tuple_iterator_next hit.typeIs F.entry_tuple_iterator_next ?_ (F.args_tuple_iterator_next_1 _)))
  show wpAny _ _ (field (.ref it) 0 >>= _) _ _ s
  refine wpAny_bind (wpAny_field ho hd (x := .ref t) rfl ?_)
  show wpAny _ _ (if (Value.ref t == Value.none) = true then _ else _) _ _ s
  rw [if_neg (show ¬ ((Value.ref t == Value.none) = true) from Bool.false_ne_true)]
  show wpAny _ _ (field (.ref it) 1 >>= _) _ _ s
  refine wpAny_bind (wpAny_field ho hd (x := .int i 0) rfl ?_)
  show wpAny _ _ (seqItems? (.ref t) >>= _) _ _ s
  refine wpAny_bind (wpAny_seqItems hol hdl ?_)
  simp only [Int.toNat_natCast, hx]
  refine wpAny_bind (wpAny_rule (wpAny_bind (wpAny_setField ho hd (by simp) ?_)))
  show wpAny _ _ (newExc (.type "StopIteration") [] >>= _) _ _ _
  refine wpAny_bind ?_
  simp only [newExc, newTuple]
  refine wpAny_bind (wpAny_newObj_type ?_ (by size_fits))
  refine wpAny_bind (m := firstArgMember _ _) (wpAny_of_eq (a := Value.none) (by first | rfl | (simp only [firstArgMember]; rfl)) ?_)
  refine wpAny_newObj_type ?_ (by size_fits)
  simp only [raiseNew]
  refine wpAny_bind (wpAny_handled ?_)
  first | rw [show A.in1.handled = none from hh] | rw [hh]
  refine wpAny_bind (wpAny_pure (wpAny_throw ?_))
  exact hE _ _ (((Heap.SameBut.update ..).extBut.push _).push _) ⟨_, Heap.get?_push_size _ rfl, rfl⟩
end
theorem tup_at {h h' : Heap} {a : Addr} {items} (x : h.IsTuple a items) (e : ∀ o, h.get? a = some o → h'.get? a = some o) : h'.IsTuple a items := let ⟨o, ho, r⟩ := x; ⟨o, e _ ho, r⟩
theorem draws_tuple {prog : Program} {w : World} {A : Around} (hh : A.handled = none) (it l : Addr) (hne : l ≠ it) (items : Array Value) :
    Draws prog w A it [it, l] items.size (fun i v => items[i]? = some v) (fun i h => h.IsTupleIter it l i ∧ h.IsTuple l items) where
  live := fun _ _ st => let ⟨o, ho, _⟩ := st.1; ⟨o, ho⟩
  frame := fun _ _ _ st hk => ⟨st.1.at fun o e => hk it (by simp) o e, tup_at st.2 fun o e => hk l (by simp) o e⟩
  item := fun i s Q E hi st hQ => by
    refine next_tuple_item st.1 st.2 (x := items[i]) (by simp [hi]) fun h' hit' hs' => ?_
    exact hQ _ h' s.toks (by simp [hi]) ⟨hit', st.2.extBut hs'.extBut hne⟩ hs'
  done := fun s Q E st hE => next_tuple_end hh st.1 st.2 (by simp) hE
theorem enumerate_newT (l : Addr) (items : Array Value) (n : Nat) (dct : Option Addr) (sl : Array (Option Value)) :
    Meets (Builtin.«enumerate.__new__» ⟨[.type "enumerate", .ref l], []⟩) (fun _ R s => s.heap.get? l = some { cls := .type "tuple", dict := dct, data := .seq items n, slots := sl } ∧
      R (.ok (.ret (.ref (s.heap.push { cls := .type "tuple_iterator", data := .fields #[.ref l, .int 0 0] }).objs.size)))
        { s with heap := (s.heap.push { cls := .type "tuple_iterator", data := .fields #[.ref l, .int 0 0] }).push { cls := .type "enumerate", data := .fields #[.none, .bool false, .ref s.heap.objs.size, rawInt 0, .none, .none] } }) :=
  .of_wp fun prog w A R s h => by
    obtain ⟨hp, g, d, tk, os⟩ := s; obtain ⟨hl, h⟩ := h
    have hsub := sub_enumerate
    have hL : Heap.IsTuple (Shared.heap ⟨hp, g, d, tk, os⟩) l items := ⟨_, hl, rfl, n, rfl⟩
    wp_walk using wpAny_loadPart' hl
    refine wpAny_stack_any fun st => wpAny_pure ?_
    split
    · rename_i c _ _ _ _ _
      cases (c == Value.type "enumerate")
      · wp_walk using wpAny_loadPart' hl, wpAny_pyIter_tuple hL
        exact ⟨_, rfl, h⟩
      · wp_walk using wpAny_loadPart' hl, wpAny_pyIter_tuple hL
        exact ⟨_, rfl, h⟩
    · wp_walk using wpAny_loadPart' hl, wpAny_pyIter_tuple hL
      exact ⟨_, rfl, h⟩
section
variable {prog : Program} {w : World} {A : Around} {E : Value → Shared → Prop} {s : Shared}
theorem call_enumerate_tuple {l : Addr} {items : Array Value} {Q : Value → Shared → Prop} (hL : s.heap.IsTuple l items)
    (h : ∀ h', IsEnum h' (s.heap.objs.size + 1) s.heap.objs.size 0 .none → h'.IsTupleIter s.heap.objs.size l 0 → h'.objs.size = s.heap.objs.size + 2 →
      (∀ b o, s.heap.get? b = some o → h'.get? b = some o) → Q (.ref (s.heap.objs.size + 1)) { s with heap := h' }) :
    wpAny (model prog w) A (call (.type "enumerate") [.ref l]) Q E s := by
  obtain ⟨⟨c, dct, dt, sl⟩, hl, hc, n, hd⟩ := hL
  replace hc : c = .type "tuple" := hc
  replace hd : dt = .seq items n := hd
  subst hc hd
  refine callType_new F.called_enumerate (by decide) (F.typeCall_enumerate_1 _) (F.newCall_enumerate_1 _) (fun obj => F.args_object_init_2 obj _) F.entry_enumerate_new
    (enumerate_newT l items n dct sl) ⟨hl, ?_⟩
  have hz : (s.heap.push { cls := .type "tuple_iterator", data := .fields #[.ref l, .int 0 0] }).objs.size = s.heap.objs.size + 1 := Heap.size_push ..
  show _ ∧ _
  rw [hz]
  have he : IsEnum ((s.heap.push { cls := .type "tuple_iterator", data := .fields #[.ref l, .int 0 0] }).push
      { cls := .type "enumerate", data := .fields #[.none, .bool false, .ref s.heap.objs.size, rawInt 0, .none, .none] }) (s.heap.objs.size + 1) s.heap.objs.size 0 .none := by
    have := Heap.get?_push_size (s.heap.push { cls := .type "tuple_iterator", data := .fields #[.ref l, .int 0 0] })
      (o := { cls := .type "enumerate", data := .fields #[.none, .bool false, .ref s.heap.objs.size, rawInt 0, .none, .none] }) rfl
    rw [hz] at this; exact this
  refine ⟨⟨_, he, rfl⟩, h _ he ⟨_, Heap.get?_push_of_some _ (Heap.get?_push_size _ rfl), rfl, rfl⟩ (by rw [Heap.size_push, hz]) fun b o x => Heap.get?_push_of_some _ (Heap.get?_push_of_some _ x)⟩
end
/-- the tuple at a, each item in a new pair -/
def IteT (K : PySem.W.Frag) (a : Addr) : It :=
  ⟨fun i H => ∃ (xs : List V) (x : V), SqT K H a xs ∧ xs[i]? = some x, fun i H v H' => ∃ T x, v = .ref T ∧ H T = none ∧ H' = upd H T (.tup [.int (i : Nat), x]) ∧ ∀ xs, SqT K H a xs → xs[i]? = some x, fun i H => ∃ xs : List V, SqT K H a xs ∧ xs.length ≤ i⟩
theorem turn_enumT {P : Program} {w : World} {K : PySem.W.Frag} {elts : List Expr} {kk : Nat} {tpos : Pos} (a e it : Addr) :
    Turn P w K (.Tuple elts kk tpos) (IteT K a) [e, it] e (fun i h => (∃ old, IsEnum h e it ((i : Nat) : Int) old) ∧ h.IsTupleIter it a i ∧ e ≠ it ∧ a ≠ it ∧ a ≠ e) where
  mem := by simp
  obj := fun i h st b hb => by
    obtain ⟨⟨old, he⟩, ⟨o, ho, hc, hd⟩, _⟩ := st
    have e' : b = e ∨ b = it := by simpa using hb
    rcases e' with z | z
    · rw [z]; exact ⟨_, he, fun v q => nomatch q⟩
    · rw [z]; exact ⟨o, ho, fun v q => by rw [hd] at q; cases q⟩
  keep := fun i h h' st k => let ⟨⟨old, he⟩, hi, hne⟩ := st; ⟨⟨old, k e (by simp) _ he⟩, hi.at fun o q => k it (by simp) o q, hne⟩
  item := by
    intro X hP hw hK hc i pins s σ H E I hf st hg
    subst hP hw hK
    obtain ⟨⟨old, he⟩, hit, hne, hai, hae⟩ := st
    obtain ⟨xs, x, hq, hx⟩ := hg
    obtain ⟨its, rv, p, hz⟩ := I.tuple hq
    obtain ⟨u, hu, ru⟩ := rv.get hx
    have hel : e < s.heap.objs.size := Heap.lt_size he
    have hil : it < s.heap.objs.size := by obtain ⟨_, q, _⟩ := hit; exact Heap.lt_size q
    have hlt : i < its.toArray.size := by
      have := (List.getElem?_eq_some_iff.mp hu).1
      simpa using this
    refine wpAny_pyNext_enum_itemD (draws_tuple (prog := X.prog) (w := X.w) (A := X.A.in1) (show X.A.in1.handled = none from I.ok.hd hc) it a hai its.toArray) he ⟨hit, (show s.heap.IsTuple a its.toArray from p)⟩ hlt hne (by simp [hne, Ne.symm hae]) fun y h' tk hy ho hst' hT hsz hk => ?_
    have hyu : y = u := by
      have h2 : its.toArray[i]? = some u := by simpa using hu
      exact Option.some.inj (hy.symm.trans h2)
    subst hyu
    refine ⟨_, rfl, wpAny_letOwnedTupleGo_enum (s := { s with heap := h', toks := tk + 1 }) ho fun h'' he' sb => ?_⟩
    have hT2 : h''.get? s.heap.objs.size = some { cls := .type "tuple", data := .seq #[.int i tk, y] } := (sb.2 _ (Nat.ne_of_gt hel)).trans hT
    have new : ObjOk X.prog X.w (upd H s.heap.objs.size (.tup [.int (i : Nat), x])) h'' s.heap.objs.size (.tup [.int (i : Nat), x]) :=
      ⟨by show 2 ≤ sizeLine; decide, [.int i tk, y], .cons ⟨_, rfl⟩ (.cons ru .nil), ⟨_, hT2, rfl, _, rfl⟩⟩
    have I1 : Inv X pins σ (upd H s.heap.objs.size (.tup [.int (i : Nat), x])) { s with heap := h'', toks := tk + 1 } :=
      I.turnedNew (ch := [e, it]) (fun b ob hb q => (sb.2 b (fun z => hb (by simp [z]))).trans (hk b ob (fun z => hb (by simp [z])) (fun z => hb (by simp [z])) q)) hf (Nat.le_refl _) new
    refine ⟨.ref s.heap.objs.size, _, I1, rfl, ⟨_, x, rfl, I.hok.fresh (Nat.le_refl _), rfl, fun ys hy => by rw [I.tuple_inj hy hq]; exact hx⟩, ⟨⟨y, ?_⟩, hst'.1.at fun o q => (sb.2 it (Ne.symm hne)).trans q, hne, hai, hae⟩, fun b hb => ?_⟩
    · have e1 : ((i + 1 : Nat) : Int) = (i : Int) + 1 := by omega
      rw [e1]; exact he'
    · have hb' : b < s.heap.objs.size := by
        have e' : b = e ∨ b = it := by simpa using hb
        rcases e' with z | z
        · rw [z]; exact hel
        · rw [z]; exact hil
      rw [upd_ne (Nat.ne_of_lt hb')]
      exact (hf b hb).1
  done := by
    intro X hP hw hK hc i pins s σ H E I hf st hg
    subst hP hw hK
    obtain ⟨⟨old, he⟩, hit, hne, hai, hae⟩ := st
    obtain ⟨xs, hq, hx⟩ := hg
    obtain ⟨its, rv, p, hz⟩ := I.tuple hq
    obtain ⟨f0, f1, f2, f3, f4, f5⟩ := hf it (by simp)
    have hl := rv.length
    have hT : s.TypeIs (.ref e) "enumerate" := ⟨_, he, rfl⟩
    unfold pyNext
    refine wpAny_bind (wpAny_attempt (wpAny_callSpecial?_slot (name := Str.ofString "__next__") hT F.slot_enumerate_next
      (wpAny_call_entry F.slot_enumerate_next hT F.entry_enumerate_next ?_ (F.args_enumerate_next_1 _))))
    show wpAny _ _ (field (.ref e) 2 >>= _) _ _ _
    refine wpAny_bind (wpAny_field he rfl (x := .ref it) rfl ?_)
    refine wpAny_bind (next_tuple_end (I.ok.hd hc) hit (show s.heap.IsTuple a its.toArray from p) (by simp; omega) fun h' x eb hx' => ?_)
    obtain ⟨o, ho, hc'⟩ := hx'
    refine wpAny_bind (wpAny_isInstance (T := "StopIteration") (b := true) ⟨o, ho, hc'⟩ isSubtype_stop ?_)
    exact wpAny_pure ⟨rfl, I.turned (t' := s.toks) (fun b o hb q => eb b o hb q) f0 f1 f3 f4 f5⟩
  self := fun A i s Q E st h => let ⟨⟨_, he⟩, _⟩ := st; wpAny_pyIter_enum he h
def iEnumT (K : PySem.W.Frag) (ta : TA) : TI := fun σ H R => ta σ H fun vs H1 => ∃ a xs, vs = [.ref a] ∧ SqT K H1 a xs ∧ R (IteT K a) H1
theorem pi_enumT {X : Cx} {e : Expr} {ta : TA} {p pos tpos : Pos} {elts : List Expr} {kk : Nat} (hg : Gl X "enumerate") (hm : X.mg "enumerate" = none) (ha : PA X [e] ta) (hs : starEach [e] X.env = [(false, eval e X.env)] := by rfl) :
    PI X (.Tuple elts kk tpos) (.Call (.Name "enumerate" p) [e] [] pos) (iEnumT X.K ta) := by
  refine ⟨fun pins s σ H R I h => ?_⟩
  refine Call_ (ld_blt I hg hm boot_enumerate (PyProof.Rows.callWith_type1 (thn (ha.run pos pins s σ H _ I h) fun us s1 ⟨vs, H1, I1, r1, q1⟩ => ?_) hs rfl))
  obtain ⟨a, xs, ex, hq, q⟩ := q1
  subst ex
  cases r1 with
  | cons r rr =>
    cases rr
    cases r
    obtain ⟨its, rv, p', hz⟩ := I1.tuple hq
    have hp : s1.heap.IsTuple a its.toArray := p'
    have hal : a < s1.heap.objs.size := by obtain ⟨_, q, _⟩ := hp; exact Heap.lt_size q
    refine call_enumerate_tuple hp fun h' he hit hsz hk => wpAny_pyIter_enum he ?_
    have I2 : Inv X pins σ H1 { s1 with heap := h' } := I1.kept (t' := s1.toks) hk
    refine ⟨s1.heap.objs.size + 1, [s1.heap.objs.size + 1, s1.heap.objs.size], _, _, H1, rfl, I2, turn_enumT a (s1.heap.objs.size + 1) s1.heap.objs.size, ⟨⟨.none, he⟩, hit, Nat.succ_ne_self _, Nat.ne_of_lt hal, Nat.ne_of_lt (Nat.lt_succ_of_lt hal)⟩, fun b hb => ?_, q⟩
    have e' : b = s1.heap.objs.size + 1 ∨ b = s1.heap.objs.size := by simpa using hb
    have hle : s1.heap.objs.size ≤ b := by
      rcases e' with z | z
      · rw [z]; exact Nat.le_add_right _ _
      · rw [z]; exact Nat.le_refl _
    exact I1.fpOk hle (I1.hok.fresh hle)
theorem for_enumT {K : PySem.W.Frag} {a : Addr} {xs : List V} {g : TG} {tb : TS} {D : Ends} {σ : L2.St} {H : Hp} (Pv : Nat → L2.St → Hp → Prop) (h0 : Pv 0 σ H) (hl : ∀ i σ H, i ≤ xs.length → Pv i σ H → SqT K H a xs)
    (hs : ∀ i x T σ H, xs[i]? = some x → Pv i σ H → H T = none → g (.ref T) σ (upd H T (.tup [.int (i : Nat), x])) fun σ2 H2 => tb { D with nx := Pv (i + 1), ct := Pv (i + 1), bk := D.nx } σ2 H2) (hd : ∀ σ H, Pv xs.length σ H → D.nx σ H) :
    ∃ W : Nat → Nat → L2.St → Hp → Prop, (∃ m, W 0 m σ H) ∧ ∀ i m σ H, W i m σ H →
      ((IteT K a).stop i H ∧ D.nx σ H) ∨ ((IteT K a).go i H ∧ ∃ N : L2.St → Hp → Prop, (∀ σ' H', N σ' H' → ∃ m', m' < m ∧ W (i + 1) m' σ' H') ∧ ∀ x H', (IteT K a).yld i H x H' → g x σ H' fun σ2 H2 => tb { D with nx := N, ct := N, bk := D.nx } σ2 H2) := by
  refine ⟨fun i m σ H => m = xs.length - i ∧ i ≤ xs.length ∧ Pv i σ H, ⟨xs.length, by simp, Nat.zero_le _, h0⟩, ?_⟩
  rintro i m σ H ⟨rfl, hi, p⟩
  have hL := hl i σ H hi p
  by_cases h : i < xs.length
  · refine .inr ⟨⟨xs, xs[i], hL, List.getElem?_eq_getElem h⟩, Pv (i + 1), fun σ' H' n => ⟨xs.length - (i + 1), by omega, rfl, by omega, n⟩, ?_⟩
    rintro v H' ⟨T, x, rfl, nT, rfl, hx⟩
    exact hs i x T σ H (hx xs hL) p nT
  · have e : i = xs.length := by omega
    subst e
    exact .inl ⟨⟨xs, hL, Nat.le_refl _⟩, hd σ H p⟩
theorem for_enumL {K : PySem.W.Frag} {a : Addr} {xs : List V} {g : TG} {tb : TS} {D : Ends} {σ : L2.St} {H : Hp} (Pv : Nat → L2.St → Hp → Prop) (h0 : Pv 0 σ H) (hl : ∀ i σ H, i ≤ xs.length → Pv i σ H → SqL K H a xs)
    (hs : ∀ i x T σ H, xs[i]? = some x → Pv i σ H → H T = none → g (.ref T) σ (upd H T (.tup [.int (i : Nat), x])) fun σ2 H2 => tb { D with nx := Pv (i + 1), ct := Pv (i + 1), bk := D.nx } σ2 H2) (hd : ∀ σ H, Pv xs.length σ H → D.nx σ H) :
    ∃ W : Nat → Nat → L2.St → Hp → Prop, (∃ m, W 0 m σ H) ∧ ∀ i m σ H, W i m σ H →
      ((Ite K a).stop i H ∧ D.nx σ H) ∨ ((Ite K a).go i H ∧ ∃ N : L2.St → Hp → Prop, (∀ σ' H', N σ' H' → ∃ m', m' < m ∧ W (i + 1) m' σ' H') ∧ ∀ x H', (Ite K a).yld i H x H' → g x σ H' fun σ2 H2 => tb { D with nx := N, ct := N, bk := D.nx } σ2 H2) := by
  refine ⟨fun i m σ H => m = xs.length - i ∧ i ≤ xs.length ∧ Pv i σ H, ⟨xs.length, by simp, Nat.zero_le _, h0⟩, ?_⟩
  rintro i m σ H ⟨rfl, hi, p⟩
  have hL := hl i σ H hi p
  by_cases h : i < xs.length
  · refine .inr ⟨⟨xs, xs[i], hL, List.getElem?_eq_getElem h⟩, Pv (i + 1), fun σ' H' n => ⟨xs.length - (i + 1), by omega, rfl, by omega, n⟩, ?_⟩
    rintro v H' ⟨T, x, rfl, nT, rfl, hx⟩
    exact hs i x T σ H (hx xs hL) p nT
  · have e : i = xs.length := by omega
    subst e
    exact .inl ⟨⟨xs, hL, Nat.le_refl _⟩, hd σ H p⟩
/-! ### () * k -/
theorem tuple_mul0 (l : Addr) (n : Nat) (dd : Option Addr) (sl : Array (Option Value)) (x : Int) (u : Tok) (c0 : (decide (x < -(2 ^ 63)) || decide (x ≥ 2 ^ 63)) = false) :
    Meets (Builtin.«tuple.__mul__» ⟨[.ref l, .int x u], []⟩) (fun _ R s => s.heap.get? l = some { cls := .type "tuple", dict := dd, data := .seq #[] n, slots := sl } ∧ R (.ok (.ret (Value.ref l))) s) :=
  .of_wp fun prog w A R s h => by
    obtain ⟨hp, g, d, tk, os⟩ := s
    obtain ⟨hl, h⟩ := h
    have f1 := AutoSeq1.idx_int
    have c1 : ((#[] : Array Value).isEmpty || x == 1) = true := rfl
    wp_walk using wpAny_loadPart' hl
    repeat (first
      | (refine wpAny_ite_false (decide_eq_false (by rw [c0]; exact Bool.false_ne_true)) ?_; wp_walk using wpAny_loadPart' hl)
      | (refine wpAny_ite_true (decide_eq_true c1) ?_; wp_walk using wpAny_loadPart' hl))
    exact ⟨_, rfl, h⟩
def rRepZ (K : PySem.W.Frag) : R2 := fun x y H Q => ∃ l k xs, x = .ref l ∧ y = .int k ∧ SqT K H l xs ∧ 1 ≤ k ∧ k ≤ 1000 ∧ xs.length ≤ 1000 ∧ ∀ p H', (∀ b o, H b = some o → H' b = some o) → SqT K H' p (List.replicate k.toNat xs).flatten → Q (.ref p) H'
theorem flat_nil {α : Type} (k : Nat) : (List.replicate k ([] : List α)).flatten = [] := by
  induction k with
  | zero => rfl
  | succ k ih => rw [List.replicate_succ, List.flatten_cons, ih]; rfl
theorem op_repZ {X : Cx} : OpR X (binaryOp .Mult) (rRepZ X.K) := by
  intro pins s σ H x y v u Q I rx ry h
  obtain ⟨l, k, xs, rfl, rfl, hT, h1, h2, hz, q⟩ := h
  by_cases hne : xs = []
  · subst hne
    cases rx
    obtain ⟨t, rfl⟩ := ry
    obtain ⟨its, r, ⟨⟨cls, dd, data, sl⟩, ho, hc, n, hd⟩, hs⟩ := I.tuple hT
    simp only at hc hd
    subst hc hd
    cases r
    have c0 : (decide (k < -(2 ^ 63)) || decide (k ≥ 2 ^ 63)) = false := by
      rw [decide_eq_false (by omega), decide_eq_false (by omega)]
      rfl
    refine wpAny_binaryOp_repeat_ref (T := "tuple") (U := "int") (by decide) ⟨_, ho, rfl⟩ (fun s' => typeIs_int s' k t) noFill_tuple_mul F.fills_int_mul F.slot_int_rmul repeat_tuple F.slot_int_index.lookup
      (call_meets F.slot_int_rmul (typeIs_int s k t) F.entry_int_rmul (F.args_int_rmul_2 _ _) (int_rmul_tuple k t l #[] n dd sl)
        ⟨ho, rfl, ⟨_, ho, rfl⟩, call_meets F.slot_tuple_mul ⟨_, ho, rfl⟩ F.entry_tuple_mul (F.args_tuple_mul_2 _ _) (tuple_mul0 l n dd sl k t c0) ⟨ho, ?_⟩⟩)
    exact ⟨.ref l, H, I, rfl, q l H (fun _ _ h => h) (by rw [flat_nil]; exact hT)⟩
  · refine op_repA pins s σ H _ _ v u Q I rx ry ⟨l, k, xs, rfl, rfl, hT, hne, h1, h2, hz, fun e => ?_, fun e p np => ?_⟩
    · refine q l H (fun _ _ h => h) ?_
      subst e
      show SqT X.K H l ([xs]).flatten
      simpa using hT
    · refine q p _ (fun b o e => by rw [upd_ne (ne_of_none e np)]; exact e) (SqT.of upd_same)
end RR

/-! ## heaps, tuples, data, sorts -/
namespace My
open PySem PySem.Spec PyProof.Rows L2
--ANN _law_pick | cut if tape[1] < len(tape[0]): | cut
/-! ### heaps -/
theorem same_upd {H : Hp} {p : Addr} {o : HO} (h : H p = none) : Same H (upd H p o) := fun b x e => by
  rw [upd_ne (ne_of_none e h)]
  exact e
/-- all but t stays -/
def Moved (t : Addr) (H H' : Hp) : Prop := ∀ b o, b ≠ t → H b = some o → H' b = some o
theorem Moved.refl {t : Addr} {H : Hp} : Moved t H H := fun _ _ _ h => h
theorem Moved.trans {t : Addr} {H H1 H2 : Hp} (a : Moved t H H1) (b : Moved t H1 H2) : Moved t H H2 := fun c o n h => b c o n (a c o n h)
theorem Moved.upd {t : Addr} {H : Hp} {o : HO} : Moved t H (upd H t o) := fun b x n e => by
  rw [upd_ne n]
  exact e
theorem Moved.same {t : Addr} {H H' : Hp} (h : Same H H') : Moved t H H' := fun b o _ e => h b o e
theorem Moved.free {t : Addr} {H H' : Hp} (h : Moved t H H') {p : Addr} (n : p ≠ t) (e : H' p = none) : H p = none := by
  cases q : H p with
  | none => rfl
  | some o =>
    rw [h p o n q] at e
    cases e
/-! ### the tape: where the draws stand -/
def Tape (H : Hp) (t s : Addr) : Prop := ∃ (ns : List Int) (pos rest mx ct : Int), s ≠ t ∧ H t = some (.lst [.ref s, .int pos, .int rest, .int mx, .int ct]) ∧ H s = some (.lst (ns.map V.int)) ∧ 0 ≤ pos
theorem Tape.keep {t s : Addr} {H H' : Hp} (h : Tape H t s) (e : Same H H') : Tape H' t s := by
  obtain ⟨ns, a, b, c, d, h1, h2, h3, h4⟩ := h
  exact ⟨ns, a, b, c, d, h1, e _ _ h2, e _ _ h3, h4⟩
theorem Tape.ne {t s p : Addr} {H : Hp} (h : Tape H t s) (np : H p = none) : p ≠ t := fun e => by
  obtain ⟨ns, a, b, c, d, h1, h2, h3, h4⟩ := h
  rw [e, h2] at np
  cases np
theorem Tape.ne2 {t s p : Addr} {H : Hp} (h : Tape H t s) (np : H p = none) : p ≠ s := fun e => by
  obtain ⟨ns, a, b, c, d, h1, h2, h3, h4⟩ := h
  rw [e, h3] at np
  cases np
theorem Tape.but {t s r : Addr} {H : Hp} {o : HO} (h : Tape H t s) (n : r ≠ t) (n2 : r ≠ s) : Tape (upd H r o) t s := by
  obtain ⟨ns, a, b, c, d, h1, h2, h3, h4⟩ := h
  refine ⟨ns, a, b, c, d, h1, ?_, ?_, h4⟩
  · rw [upd_ne n.symm]
    exact h2
  · rw [upd_ne n2.symm]
    exact h3
section
variable {K : PySem.W.Frag} {H : Hp}
theorem tyTup {a : Addr} {xs : List V} (h : SqT K H a xs) : TyX K H (.ref a) (.type "tuple") := by
  rcases h with (h | ⟨o, h⟩) | h
  · exact .base (.tup h)
  · exact .fTuple h
  · obtain ⟨o, n, vs, e, c, _⟩ := h
    exact .kTuple e c
theorem sT {H' : Hp} {a : Addr} {xs : List V} (e : Same H H') (h : SqT K H a xs) : SqT K H' a xs := by
  rcases h with (h | ⟨o, h⟩) | h
  · exact .inl (.inl (e _ _ h))
  · exact .inl (.inr ⟨o, e _ _ h⟩)
  · exact .inr h
end
/-! ### new tuples, one for each -/
theorem small2000 {n : Nat} (h : n ≤ 2000) : n < sizeLine := by
  show n < 2 ^ 24
  omega
inductive Tups {α : Type} (f : α → List V) (H : Hp) : List Addr → List α → Prop
  | nil : Tups f H [] []
  | cons {p : Addr} {x : α} {ps : List Addr} {xs : List α} : H p = some (.tup (f x)) → Tups f H ps xs → Tups f H (p :: ps) (x :: xs)
section
variable {α : Type} {f : α → List V} {H H' : Hp}
theorem Tups.keep {ps : List Addr} {xs : List α} (h : Tups f H ps xs) (e : ∀ b ys, H b = some (.tup ys) → H' b = some (.tup ys)) : Tups f H' ps xs := by
  induction h with
  | nil => exact .nil
  | cons a _ ih => exact .cons (e _ _ a) ih
theorem Tups.same {ps : List Addr} {xs : List α} (h : Tups f H ps xs) (e : Same H H') : Tups f H' ps xs := h.keep fun b ys z => e _ _ z
theorem Tups.put {ps : List Addr} {xs : List α} (h : Tups f H ps xs) {L : Addr} {ys : List V} {o : HO} (e : H L = some (.lst ys)) : Tups f (upd H L o) ps xs := h.keep fun b zs z => by
  rw [upd_ne (fun q => by rw [q, e] at z; cases z)]
  exact z
theorem Tups.new {ps : List Addr} {xs : List α} (h : Tups f H ps xs) {p : Addr} {o : HO} (e : H p = none) : Tups f (upd H p o) ps xs := h.same (same_upd e)
theorem Tups.snoc {ps : List Addr} {xs : List α} {p : Addr} {x : α} (h : Tups f H ps xs) (e : H p = some (.tup (f x))) : Tups f H (ps ++ [p]) (xs ++ [x]) := by
  induction h with
  | nil => exact .cons e .nil
  | cons a _ ih => exact .cons a ih
theorem Tups.append {ps qs : List Addr} {xs ys : List α} (h : Tups f H ps xs) (k : Tups f H qs ys) : Tups f H (ps ++ qs) (xs ++ ys) := by
  induction h with
  | nil => exact k
  | cons a _ ih => exact .cons a ih
theorem Tups.length {ps : List Addr} {xs : List α} (h : Tups f H ps xs) : ps.length = xs.length := by
  induction h with
  | nil => rfl
  | cons a _ ih => rw [List.length_cons, List.length_cons, ih]
theorem Tups.get {ps : List Addr} {xs : List α} (h : Tups f H ps xs) : ∀ {i : Nat} {v : V}, (ps.map V.ref)[i]? = some v → ∃ p x, v = .ref p ∧ xs[i]? = some x ∧ H p = some (.tup (f x)) := by
  induction h with
  | nil =>
    intro i v h
    simp at h
  | cons a _ ih =>
    intro i v h
    cases i with
    | zero =>
      simp at h
      exact ⟨_, _, h.symm, rfl, a⟩
    | succ i =>
      simp only [List.map_cons, List.getElem?_cons_succ] at h ⊢
      exact ih h
end
def wv : Option Int → V
  | none => .non
  | some w => .int w
def pv2 (p : Int × Int) : List V := [.int p.1, .int p.2]
/-! ### data that is compared -/
def wd : Option Int → PyData
  | none => .none
  | some w => .int w
def pd2 (p : Int × Int) : PyData := .tuple [.int p.1, .int p.2]
def dInts (ns : List Int) : PyData := .list (ns.map PyData.int)
def dWs (ws : List (Option Int)) : PyData := .list (ws.map wd)
def dPrs (ps : List (Int × Int)) : PyData := .list (ps.map pd2)
section
variable {K : PySem.W.Frag} {H : Hp}
theorem dpa_ints : ∀ ns : List Int, DpAll K H (ns.map V.int) (ns.map PyData.int)
  | [] => .nil
  | n :: ns => .cons (.int n) (dpa_ints ns)
theorem dp_wd : ∀ w : Option Int, Dp K H (wv w) (wd w)
  | none => .non
  | some w => .int w
theorem dpa_ws : ∀ ws : List (Option Int), DpAll K H (ws.map wv) (ws.map wd)
  | [] => .nil
  | w :: ws => .cons (dp_wd w) (dpa_ws ws)
theorem dpa_prs {ps : List Addr} {xs : List (Int × Int)} (h : Tups pv2 H ps xs) : DpAll K H (ps.map V.ref) (xs.map pd2) := by
  induction h with
  | nil => exact .nil
  | cons a _ ih => exact .cons (.tup (SqT.of a) (.cons (.int _) (.cons (.int _) .nil))) ih
end
theorem lay_all {α : Type} {f : α → PyData} (h : ∀ x, (f x).canLay0 = true) : ∀ xs : List α, PyData.canLayAll0 (xs.map f) = true
  | [] => by simp [PyData.canLayAll0]
  | x :: xs => by
    rw [List.map_cons, PyData.canLayAll0, h x, lay_all h xs]
    rfl
theorem dep_all {α : Type} {f : α → PyData} {d : Nat} (h : ∀ x, (f x).depth ≤ d) : ∀ xs : List α, PyData.depthAll (xs.map f) ≤ d
  | [] => by simp [PyData.depthAll]
  | x :: xs => by
    have h1 := h x
    have h2 := dep_all h xs
    rw [List.map_cons, PyData.depthAll]
    omega
/-- can be laid, and is at most d deep -/
def Shp (d : Nat) (x : PyData) : Prop := x.canLay0 = true ∧ x.depth ≤ d
theorem Shp.ok {d : Nat} {x : PyData} (h : Shp d x) (hd : d ≤ 64) : SeqAt.shaped x = true := by
  show (x.canLay0 && decide (x.depth ≤ 64)) = true
  rw [Bool.and_eq_true]
  exact ⟨h.1, decide_eq_true (Nat.le_trans h.2 hd)⟩
theorem Shp.int (i : Int) : Shp 1 (.int i) := ⟨by simp [PyData.canLay0], by simp [PyData.depth]⟩
theorem Shp.wd (w : Option Int) : Shp 1 (wd w) := by
  cases w <;> exact ⟨by simp [My.wd, PyData.canLay0], by simp [My.wd, PyData.depth]⟩
theorem Shp.list {α : Type} {f : α → PyData} {d : Nat} (h : ∀ x, Shp d (f x)) (xs : List α) : Shp (d + 1) (.list (xs.map f)) := by
  have h1 := lay_all (fun x => (h x).1) xs
  have h2 := dep_all (fun x => (h x).2) xs
  exact ⟨by simp only [PyData.canLay0]; exact h1, by simp only [PyData.depth]; omega⟩
theorem Shp.tup0 : Shp 1 (.tuple []) := ⟨by simp [PyData.canLay0, PyData.canLayAll0], by simp [PyData.depth, PyData.depthAll]⟩
theorem Shp.tupC {d : Nat} {x : PyData} {xs : List PyData} (h : Shp d x) (t : Shp (d + 1) (.tuple xs)) : Shp (d + 1) (.tuple (x :: xs)) := by
  obtain ⟨a, b⟩ := h
  obtain ⟨c, e⟩ := t
  simp only [PyData.canLay0] at c
  simp only [PyData.depth] at e
  refine ⟨?_, ?_⟩
  · simp only [PyData.canLay0, PyData.canLayAll0, a, c, Bool.and_self]
  · simp only [PyData.depth, PyData.depthAll]
    omega
theorem Shp.up {d e : Nat} {x : PyData} (h : Shp d x) (le : d ≤ e) : Shp e x := ⟨h.1, Nat.le_trans h.2 le⟩
theorem Shp.pd2 (p : Int × Int) : Shp 2 (pd2 p) := .tupC (.int _) (.tupC (.int _) (Shp.tup0.up (by decide)))
theorem Shp.ints (ns : List Int) : Shp 2 (dInts ns) := .list Shp.int ns
theorem Shp.ws (ws : List (Option Int)) : Shp 2 (dWs ws) := .list Shp.wd ws
theorem Shp.prs (ps : List (Int × Int)) : Shp 3 (dPrs ps) := .list Shp.pd2 ps
theorem eqv_same {d : Nat} {x : PyData} (h : Shp d x) : PyData.eqv x x = true := SeqAt.eqv_refl x h.1
theorem iteNE {b : Bool} {A B : Prop} (hb : b = true) (h : B) : if (!b) = true then A else B := by
  subst hb
  exact iteF h
theorem ne_same {d : Nat} {x : PyData} (h : Shp d x) : V.bl (!PyData.eqv x x) = V.bl false := by
  rw [eqv_same h]
  rfl
theorem eq_same {d : Nat} {x : PyData} (h : Shp d x) : V.bl (PyData.eqv x x) = V.bl true := by
  rw [eqv_same h]

theorem flat_one {α : Type} (n : Nat) (x : α) : (List.replicate n [x]).flatten = List.replicate n x := by
  induction n with
  | zero => rfl
  | succ n ih => rw [List.replicate_succ, List.flatten_cons, ih]; rfl
theorem take_snoc {α : Type} {l : List α} {i : Nat} {x : α} (h : l[i]? = some x) : l.take (i + 1) = l.take i ++ [x] := by
  rw [List.take_add_one, h]
  rfl
theorem same_put {H H' : Hp} {p : Addr} {o : HO} (sm : Same H H') (n : H p = none) : Same H (upd H' p o) := fun b x e => (upd_ne (ne_of_none e n)).trans (sm b x e)
theorem ne_no {a b : Int} (h : a = b) : V.bl (!decide (V.int a = V.int b)) = V.bl false := by
  subst h
  rw [decide_eq_true rfl]
  rfl
theorem ixN_nat {n : Nat} {p : Int} (h0 : 0 ≤ p) (h1 : p < (n : Int)) : ixN n p = some p.toNat := by
  unfold ixN
  rw [if_pos h0, if_pos h1]
theorem atI_of {xs : List V} {p : Int} {v : V} (h0 : 0 ≤ p) (h : xs[p.toNat]? = some v) : atI xs p = some v := by
  have e := atI_nat h
  rw [show ((p.toNat : Nat) : Int) = p by omega] at e
  exact e
theorem ixTK {X : Cx} {K : PySem.W.Frag} (h : X.K = K) : IxR X (rIxT K) := h ▸ ix_tup
theorem ixLK {X : Cx} {K : PySem.W.Frag} (h : X.K = K) : IxR X (rIxL K) := h ▸ ix_list
def rLenS (K : PySem.W.Frag) : List V → Hp → VK → Prop := fun xs H Q => ∃ p ys, xs = [.ref p] ∧ (SqL K H p ys ∨ SqT K H p ys) ∧ Q (.int ys.length) H
theorem lenK {X : Cx} {K : PySem.W.Frag} (h : X.K = K) : CallR X (.builtin "len") (rLenS K) := h ▸ call_len_seq
theorem isiK {X : Cx} {K : PySem.W.Frag} (h : X.K = K) : CallR X (.builtin "isinstance") (rIsi K) := h ▸ call_isi
theorem notInK {X : Cx} {K : PySem.W.Frag} (h : X.K = K) : OpR X (compareOp .NotIn) (rIn K true) := h ▸ op_notIn_seq
theorem inK {X : Cx} {K : PySem.W.Frag} (h : X.K = K) : OpR X (compareOp .In) (rIn K false) := h ▸ op_in_seq
/-! ### tuples of ints as data -/
def fI (r : List Int) : List V := r.map V.int
def dI (r : List Int) : PyData := .tuple (r.map PyData.int)
def dT (rs : List (List Int)) : PyData := .list (rs.map dI)
theorem units65 {k : Nat} {A : Around} (r : Room k A) : A.units + 65 < cLine := by
  have := r.un
  omega
theorem Shp.tuple {α : Type} {f : α → PyData} {d : Nat} (h : ∀ x, Shp d (f x)) (xs : List α) : Shp (d + 1) (.tuple (xs.map f)) := by
  have h1 := lay_all (fun x => (h x).1) xs
  have h2 := dep_all (fun x => (h x).2) xs
  exact ⟨by simp only [PyData.canLay0]; exact h1, by simp only [PyData.depth]; omega⟩
theorem Shp.dI (r : List Int) : Shp 2 (dI r) := .tuple Shp.int r
theorem Shp.dT (rs : List (List Int)) : Shp 3 (dT rs) := .list Shp.dI rs
theorem dp_dI {K : PySem.W.Frag} {H : Hp} {p : Addr} {r : List Int} (h : SqT K H p (r.map V.int)) : Dp K H (.ref p) (My.dI r) := .tup h (dpa_ints r)
theorem dpa_dT {K : PySem.W.Frag} {H : Hp} {ps : List Addr} {rs : List (List Int)} (h : Tups fI H ps rs) : DpAll K H (ps.map V.ref) (rs.map My.dI) := by
  induction h with
  | nil => exact .nil
  | cons a _ ih => exact .cons (dp_dI (SqT.of a)) ih
theorem dp_dT {K : PySem.W.Frag} {H : Hp} {L : Addr} {ps : List Addr} {rs : List (List Int)} (e : H L = some (.lst (ps.map V.ref))) (h : Tups fI H ps rs) : Dp K H (.ref L) (My.dT rs) := .lst (SqL.of e) (dpa_dT h)
theorem eqvA : ∀ a b : List Int, PyData.eqvAll (a.map PyData.int) (b.map PyData.int) = decide (a = b)
  | [], [] => by simp [PyData.eqvAll]
  | [], _ :: _ => by simp [PyData.eqvAll]
  | _ :: _, [] => by simp [PyData.eqvAll]
  | x :: a, y :: b => by
    rw [List.map_cons, List.map_cons, PyData.eqvAll, eqvA a b]
    simp only [PyData.eqv]
    by_cases h : x = y
    · subst h
      simp
    · simp [h]
theorem eqvI (a b : List Int) : PyData.eqv (My.dI a) (My.dI b) = decide (a = b) := by
  unfold My.dI
  rw [PyData.eqv]
  exact eqvA a b
theorem not_any {rs : List (List Int)} {r : List Int} (h : r ∉ rs) : ((rs.map My.dI).any fun z => PyData.eqv z (My.dI r)) = false := by
  rw [List.any_map, List.any_eq_false]
  intro x hx
  show ¬ PyData.eqv (My.dI x) (My.dI r) = true
  rw [eqvI]
  intro z
  exact h (of_decide_eq_true z ▸ hx)
/-! ### a tuple whose object is known: its methods -/
def Frz (H : Hp) (p : Addr) (xs : List V) : Prop := ∃ o : Obj, H p = some (.frz o (.tup xs)) ∧ o.dict = none
theorem Frz.sq {K : PySem.W.Frag} {H : Hp} {p : Addr} {xs : List V} (h : Frz H p xs) : SqT K H p xs := let ⟨o, e, _⟩ := h; .inl (.inr ⟨o, e⟩)
theorem Frz.same {H H' : Hp} {p : Addr} {xs : List V} (h : Frz H p xs) (e : Same H H') : Frz H' p xs := let ⟨o, a, b⟩ := h; ⟨o, e _ _ a, b⟩
theorem Frz.moved {t : Addr} {H H' : Hp} {p : Addr} {xs : List V} (h : Frz H p xs) (n : p ≠ t) (e : Moved t H H') : Frz H' p xs := let ⟨o, a, b⟩ := h; ⟨o, e _ _ n a, b⟩
theorem Frz.of {H H' : Hp} {p : Addr} {xs : List V} (h : Frz H p xs) (e : ∀ o, H p = some o → H' p = some o) : Frz H' p xs := let ⟨o, a, b⟩ := h; ⟨o, e _ a, b⟩
theorem Frz.ne {H : Hp} {p q : Addr} {xs : List V} (h : Frz H p xs) (n : H q = none) : p ≠ q := let ⟨_, a, _⟩ := h; ne_of_none a n
theorem Frz.tape {H : Hp} {p t s : Addr} {xs : List V} (h : Frz H p xs) (tp : Tape H t s) : p ≠ t := fun e => by
  obtain ⟨o, a, _⟩ := h
  obtain ⟨_, _, _, _, _, _, e2, _⟩ := tp
  rw [e, e2] at a
  cases a
theorem call_tupleF {X : Cx} : CallR X (.type "tuple") (fun xs H Q => ∃ p ys, xs = [.ref p] ∧ SqL X.K H p ys ∧ ∀ l H', H l = none → Same H H' → Frz H' l ys → (∀ b, b ≠ l → H' b = H b) → Q (.ref l) H') := by
  intro pins s σ H xs us Q I r h
  obtain ⟨p, ys, rfl, hq, q⟩ := h
  obtain ⟨u, rfl, rx⟩ := vals1 r
  cases rx
  obtain ⟨its, r', pl, hz⟩ := I.list hq
  have hlen := r'.length
  refine call_tuple_list pl.isList (fun h' kp => ?_) (by simp only [List.size_toArray] <;> omega)
  have I1 : Inv X pins σ H { s with heap := h' } := I.kept (t' := s.toks) kp
  have I2 : Inv X pins σ (upd H h'.objs.size (.frz { cls := .type "tuple", data := .seq its.toArray } (.tup ys))) { s with heap := h'.push { cls := .type "tuple", data := .seq its.toArray } } :=
    I1.laid (t' := s.toks) (fun b o e => Heap.get?_push_of_some _ e) (Nat.le_refl _) (show ObjOk X.prog X.w _ _ _ (.frz _ (.tup ys)) from ⟨Heap.get?_push_size _ rfl, hz, its, r', IsTup.new _ _⟩)
  have nl := I1.hok.fresh (Nat.le_refl _)
  exact ⟨.ref h'.objs.size, _, I2, rfl, q _ _ nl (same_upd nl) ⟨_, upd_same, rfl⟩ fun b n => upd_ne n⟩
def tTM (r : V → List V → Hp → VK → Prop) (to : TE) (t : TA) : TE := fun σ H Q => to σ H fun x H1 => (∃ p xs, x = .ref p ∧ Frz H1 p xs) ∧ t σ H1 fun xs H2 => r x xs H2 Q
theorem pe_tm {X : Cx} {o e : Expr} {es : List Expr} {to : TE} {t : TA} {name : Str} {apos cpos : Pos} {id : String} {r : V → List V → Hp → VK → Prop} (pa : PlainAttrs "tuple") (slot : Slot "tuple" name id) (hty : typeOf (.builtin id) = pure (.type "method_descriptor")) (hm : MtR X id r) (ho : PE X o to) (ha : PA X (e :: es) t)
    (hbase : attributeBase o name X.env (eval o X.env) = eval o X.env := by rfl)
    (hfew : ((backTo cpos (starEach (e :: es) X.env)).all (fun x => !x.1) && (backToKw cpos (keywordEach [] X.env)).all (fun x => x.1.isSome)
      && decide ((e :: es).length + ([] : List Keyword).length + (if ([] : List Keyword).isEmpty then 0 else 1) < 30)) = true := by rfl)
    (hline : (apos.endLine == cpos.line) = true := by rfl) (hs : starEach (e :: es) X.env = (false, eval e X.env) :: starEach es X.env := by rfl) (hplain : (backTo cpos (starEach es X.env)).any (·.1) = false := by rfl) :
    PE X (.Call (.Attribute o name apos) (e :: es) [] cpos) (tTM r to t) := by
  refine ⟨fun pins s σ H Q I h => ?_⟩
  refine wpAny_Call_method_late hbase hfew hline rfl (thn (ho.run pins s σ H _ I h) fun v s1 ⟨x, H1, I1, r1, ty, q1⟩ => ?_)
  obtain ⟨p, xs, rfl, ob, hp, hd⟩ := ty
  cases r1
  obtain ⟨hob, _, its, _, ⟨o2, ho2, hc2, _⟩⟩ := I1.hok _ _ hp
  have eo : o2 = ob := Option.some.inj (ho2.symm.trans hob)
  subst eo
  refine ⟨"tuple", id, pa, slot, hty, ⟨_, hob, hc2⟩, fun a ea => ?_, ?_⟩
  · cases ea
    exact ⟨_, hob, hd⟩
  have hA := ha.run cpos pins s1 σ H1 _ I1 q1
  rw [hs] at hA ⊢
  refine Calls.callWith_builtin (by show (false || (backTo cpos (starEach es X.env)).any (·.1)) = false; rw [hplain] <;> rfl) (Calls.evalArgs_plain ?_)
  exact thn hA fun us s2 ⟨vs, H2, I2, r2, q2⟩ => hm pins s2 σ H2 (.ref p) vs _ us Q I2 rfl r2 q2
/-! ### t.index(k), t a tuple of ints -/
theorem flat_ints (ys : List Int) : (ys.map V.int).all flatV = true := by
  rw [List.all_map]
  exact List.all_eq_true.mpr fun _ _ => rfl
def rTIndex (K : PySem.W.Frag) : V → List V → Hp → VK → Prop := fun x xs H Q => ∃ p, ∃ ys : List Int, ∃ z j, x = .ref p ∧ xs = [.int z] ∧ SqT K H p (ys.map V.int) ∧ ys[j]? = some z ∧ (∀ m, m < j → ys[m]? ≠ some z) ∧ Q (.int (j : Nat)) H
theorem mt_tindex {X : Cx} : MtR X "tuple.index" (rTIndex X.K) := by
  intro pins s σ H x xs v us Q I rx rs h
  obtain ⟨p, ys, z, j, rfl, rfl, hq, hy, hno, q⟩ := h
  cases rx
  obtain ⟨u, rfl, t, rfl⟩ := vals1 rs
  obtain ⟨its, r, pl, hz⟩ := I.tuple hq
  obtain ⟨⟨cls, dd, dt, sl⟩, ho, hc, n, hd⟩ := pl
  simp only at hc hd
  subst hc
  subst hd
  have hl : its.toArray.size = ys.length := by rw [List.size_toArray, ← r.length, List.length_map]
  have hj : j < its.toArray.size := by rw [hl]; exact (List.getElem?_eq_some_iff.mp hy).1
  have at' : ∀ (m : Nat) (hm : m < its.toArray.size), ∃ y t', ys[m]? = some y ∧ its.toArray[m] = Value.int y t' := fun m hm => by
    have hm' : m < ys.length := by rw [← hl]; exact hm
    obtain ⟨w, hw, t', hw'⟩ := r.get (i := m) (x := .int ys[m]) (by simp [hm'])
    refine ⟨ys[m], t', List.getElem?_eq_getElem hm', ?_⟩
    have e := (List.getElem?_eq_some_iff.mp hw).2
    rw [← hw', ← e]
    simp
  refine call_meets PySem.F.slot_tuple_index ⟨_, ho, rfl⟩ PySem.F.entry_tuple_index (PySem.F.args_tuple_index_2 _ _) (TI.tuple_indexAt p its.toArray n dd sl (.int z t) (eqU (.int z)) j hj ?_ ?_)
    ⟨ho, fun w hw => mem_eqAt (x := .int z) ⟨t, rfl⟩ rfl r (flat_ints ys) w (by simpa using hw), ⟨.int (j : Nat), H, I.tok _, ⟨_, rfl⟩, q⟩⟩
  · obtain ⟨y, t', h1, h2⟩ := at' j hj
    rw [hy] at h1
    cases h1
    rw [h2]
    show (z == z) = true
    exact beq_self_eq_true z
  · intro m hm hmj
    obtain ⟨y, t', h1, h2⟩ := at' m hm
    rw [h2]
    show (y == z) = false
    exact beq_eq_false_iff_ne.mpr fun e => hno m hmj (e ▸ h1)
/-! ### sorted(xs), xs a list of tuples of d ints from 0 to B, of any length -/
/-- the ints of a tuple that H tracks -/
def intsV (H : Hp) : V → List Int
  | .ref a => match H a with
    | some (.tup xs) => xs.filterMap fun v => match v with
      | .int i => some i
      | _ => none
    | _ => []
  | _ => []
theorem ints_fI (r : List Int) : ((fI r).filterMap fun v => match v with
      | V.int i => some i
      | _ => none) = r := by
  unfold fI
  induction r with
  | nil => rfl
  | cons x r ih => simp [ih]
theorem intsV_of {H : Hp} {a : Addr} {r : List Int} (h : H a = some (.tup (fI r))) : intsV H (.ref a) = r := by
  show (match H a with
    | some (.tup xs) => xs.filterMap fun v => match v with
      | V.int i => some i
      | _ => none
    | _ => []) = r
  rw [h]
  exact ints_fI r
abbrev ltC (B : Int) (k : V → List Int) (x y : V) : Bool := decide (TS.code B (k x) < TS.code B (k y))
theorem swoC {α : Type} (f : α → Int) : SrtO.Swo fun x y => decide (f x < f y) := by
  refine ⟨fun x y h => ?_, fun x y z h1 h2 => ?_⟩
  · have a := of_decide_eq_true h
    exact decide_eq_false (by omega)
  · have a := of_decide_eq_false h1
    have b := of_decide_eq_false h2
    exact decide_eq_false (by omega)
def rSortC (K : PySem.W.Frag) (B : Int) (d : Nat) : List V → Hp → VK → Prop := fun vs H Q => ∃ (a : Addr) (ps : List Addr) (rs : List (List Int)), vs = [V.ref a] ∧ SqL K H a (ps.map V.ref) ∧ Tups fI H ps rs ∧ (∀ r ∈ rs, r.length = d ∧ TS.Bd B r) ∧
  ∀ ps' rs' p, Tups fI H ps' rs' → rs'.Perm rs → rs'.Pairwise (fun x y => TS.code B x ≤ TS.code B y) → H p = none → Q (.ref p) (upd H p (.lst (ps'.map V.ref)))
theorem tups_of {H : Hp} : ∀ {ps : List Addr}, (∀ p ∈ ps, ∃ r, H p = some (.tup (fI r))) → Tups fI H ps (ps.map fun p => intsV H (.ref p))
  | [], _ => .nil
  | p :: ps, h => by
    obtain ⟨r, hr⟩ := h p List.mem_cons_self
    refine .cons ?_ (tups_of fun q hq => h q (List.mem_cons_of_mem _ hq))
    show H p = some (.tup (fI (intsV H (.ref p))))
    rw [intsV_of hr]
    exact hr
theorem Tups.ints {H : Hp} {ps : List Addr} {rs : List (List Int)} (h : Tups fI H ps rs) : rs = ps.map fun p => intsV H (.ref p) := by
  induction h with
  | nil => rfl
  | cons a _ ih => rw [List.map_cons, intsV_of a, ← ih]
theorem Tups.mem {α : Type} {f : α → List V} {H : Hp} {ps : List Addr} {rs : List α} (h : Tups f H ps rs) : ∀ p ∈ ps, ∃ r ∈ rs, H p = some (.tup (f r)) := by
  induction h with
  | nil => exact fun _ h => absurd h (by simp)
  | cons a _ ih =>
    intro p hp
    rcases List.mem_cons.mp hp with rfl | hp
    · exact ⟨_, List.mem_cons_self, a⟩
    · obtain ⟨r, hr, e⟩ := ih p hp
      exact ⟨r, List.mem_cons_of_mem _ hr, e⟩
theorem cr_sortC {X : Cx} {B : Int} {d : Nat} (hd : 1 ≤ d) : CallR X (.builtin "sorted") (rSortC X.K B d) := by
  intro pins s σ H vs us Q I r h
  obtain ⟨a, ps, rs, rfl, hs, tu, hb, q⟩ := h
  obtain ⟨its, rv, hl, hz⟩ := I.list hs
  obtain ⟨u, rfl, ru⟩ := vals1 r
  obtain rfl : u = Value.ref a := ru
  obtain ⟨e1, e2⟩ := refs_back rv fun x m => by
    obtain ⟨t, _, e⟩ := List.mem_map.mp m
    exact ⟨t, e.symm⟩
  have key : ∀ v ∈ its, ∃ p, v = Value.ref p ∧ p ∈ ps := fun v hv => by
    obtain ⟨t, rfl⟩ := e2 v hv
    have hm : V.ref t ∈ ps.map V.ref := by rw [e1]; exact List.mem_map.mpr ⟨_, hv, rfl⟩
    obtain ⟨p, hp, e⟩ := List.mem_map.mp hm
    cases e
    exact ⟨t, rfl, hp⟩
  have tin : ∀ v ∈ its, TS.TupInts s.heap v (intsV H (backV v)) ∧ (intsV H (backV v)).length = d ∧ TS.Bd B (intsV H (backV v)) := fun v hv => by
    obtain ⟨p, rfl, hp⟩ := key v hv
    obtain ⟨r, hr, ep⟩ := tu.mem p hp
    have ei : intsV H (backV (Value.ref p)) = r := intsV_of ep
    rw [ei]
    obtain ⟨its2, r2, pt, _⟩ := I.tuple (SqT.of ep)
    have hb' := hb r hr
    exact ⟨⟨p, its2.toArray, rfl, pt, intsAre_of r2⟩, hb'.1, hb'.2⟩
  refine SrtO.sorted_ord (ltv := fun v u => decide (TS.code B (intsV H (backV v)) < TS.code B (intsV H (backV u)))) (swoC fun v => TS.code B (intsV H (backV v))) hl.isList (by rw [← rv.length]; exact hz) (fun h2 h₁ a' ha' kk => ?_) fun out h1 h2 => ?_
  · intro h' keep
    have keep2 : ∀ b o, s.heap.get? b = some o → o.cls = .type "tuple" → h'.get? b = some o := fun b o e c => keep b o (kk b o e).1 (kk b o e).2
    have tin' : ∀ v ∈ its, TS.TupInts h' v (intsV H (backV v)) ∧ (intsV H (backV v)).length = d ∧ TS.Bd B (intsV H (backV v)) := fun v hv => let ⟨x, y, z⟩ := tin v hv; ⟨x.keeps keep2, y, z⟩
    obtain ⟨fs, k1, k2, k3⟩ := TS.firsts_of (h := h') (d := d) (B := B) hd its fun v hv => ⟨_, tin' v hv⟩
    refine ⟨tuples' true, fun Q E hq => ?_, ?_⟩
    · refine PySem.W.kat_kind (T := .type "int") k1 (by omega) (fun f hm => ?_) (by rfl) ?_
      · obtain ⟨x, t, rfl⟩ := k3 f hm
        exact PySem.W.Looks.now
      · have e : (Value.type "int" != Value.type "tuple") = true := by first | decide +kernel | rfl | decide
        rw [e]
        exact hq
    · intro p q hm hm'
      obtain ⟨⟨a1, xs, x1, ⟨o1, ho1, hc1, n1, hd1⟩, i1⟩, l1, b1⟩ := tin' _ hm
      obtain ⟨⟨a2, ys, x2, ⟨o2, ho2, hc2, n2, hd2⟩, i2⟩, l2, b2⟩ := tin' _ hm'
      show wpAny _ _ (keyLt' _ p.1 q.1) (fun r s' => s' = _ ∧ r = decide (TS.code B (intsV H (backV p.1)) < TS.code B (intsV H (backV q.1)))) (fun _ _ => False) _
      generalize intsV H (backV p.1) = ns at *
      generalize intsV H (backV q.1) = ms at *
      rw [x1, x2]
      refine PySem.W.kat_lt ho1 hd1 ho2 hd2 ?_
      have el : xs.size = ys.size := by
        have z1 := i1.length
        have z2 := i2.length
        simp at z1 z2
        omega
      rw [el, decide_eq_false (Nat.lt_irrefl _)]
      exact TS.lex_ints 0 i1 i2 (by omega) b1 b2 ⟨rfl, rfl⟩
  · obtain ⟨ep, he'⟩ := PyProof.Rows.sortedAll_at s.heap its out.toArray
    have h3 : ∀ u ∈ out, ∃ p, u = Value.ref p ∧ p ∈ ps := fun u hu => key u (h2.perm.mem_iff.mp hu)
    have eo : out.map backV = (out.map fun u => match u with
      | Value.ref a => a
      | _ => 0).map V.ref := by
      rw [List.map_map]
      refine List.map_congr_left fun u hu => ?_
      obtain ⟨p, rfl, _⟩ := h3 u hu
      rfl
    have hp : (out.map backV).Perm (ps.map V.ref) := by
      rw [e1]
      exact h2.perm.map backV
    have hlen : (out.map backV).length ≤ sizeLine := by
      rw [hp.length_eq]
      exact hz
    generalize eps : (out.map fun u => match u with
      | Value.ref a => a
      | _ => 0) = ps' at eo
    have pp : ps'.Perm ps := by
      rw [eo] at hp
      have z := hp.map fun v => match v with
        | V.ref a => a
        | _ => 0
      rw [List.map_map, List.map_map] at z
      have id1 : ∀ l : List Addr, l.map ((fun v => match v with
        | V.ref a => a
        | _ => 0) ∘ V.ref) = l := fun l => by
        induction l with
        | nil => rfl
        | cons x l ih => rw [List.map_cons, ih]; rfl
      rw [id1, id1] at z
      exact z
    have tu' : Tups fI H ps' (ps'.map fun p => intsV H (.ref p)) := tups_of fun p hp => by
      obtain ⟨r, _, e⟩ := tu.mem p (pp.mem_iff.mp hp)
      exact ⟨r, e⟩
    have pw : (ps'.map fun p => intsV H (.ref p)).Pairwise (fun x y => TS.code B x ≤ TS.code B y) := by
      have z : (out.map backV).Pairwise (fun x y => TS.code B (intsV H x) ≤ TS.code B (intsV H y)) := List.pairwise_map.mpr (h1.imp fun {x y} h => Int.not_lt.mp (of_decide_eq_false h))
      rw [eo] at z
      rw [List.pairwise_map] at z ⊢
      exact z
    rw [eo] at hlen
    refine ⟨.ref _, upd H (s.heap.objs.size + 1) (.lst (ps'.map V.ref)), I.laid (t' := s.toks) (fun _ _ => PyProof.Rows.sortedAll_old) (Nat.le_succ _) ⟨hlen, out, ep, ?_, he'⟩, rfl, q ps' _ _ tu' ?_ pw (I.hok.fresh (Nat.le_succ _))⟩
    · rw [← eo]
      exact vals_back fun u hu => by
        obtain ⟨p, e, _⟩ := h3 u hu
        exact ⟨p, e⟩
    · rw [tu.ints]
      exact pp.map _
/-- there is just one such list -/
theorem code_inj {B : Int} : ∀ {d : Nat} {x y : List Int}, x.length = d → y.length = d → TS.Bd B x → TS.Bd B y → TS.code B x = TS.code B y → x = y
  | _, [], [], _, _, _, _, _ => rfl
  | _, [], _ :: _, h1, h2, _, _, _ => by
    subst h1
    cases h2
  | _, _ :: _, [], h1, h2, _, _, _ => by
    subst h2
    cases h1
  | _, a :: x, b :: y, h1, h2, b1, b2, e => by
    have hl : x.length = y.length := by
      rw [List.length_cons] at h1 h2
      omega
    rcases Int.lt_trichotomy a b with z | z | z
    · have := TS.code_lt hl b1.tail b2.tail z
      omega
    · subst z
      have e' : TS.code B x = TS.code B y := by
        have n1 := (TS.code_same (B := B) (d := a) hl).symm
        have n2 := (TS.code_same (B := B) (d := a) hl.symm).symm
        have k1 : ¬ TS.code B x < TS.code B y := fun z => by
          have := n1.mp z
          omega
        have k2 : ¬ TS.code B y < TS.code B x := fun z => by
          have := n2.mp z
          omega
        omega
      rw [code_inj (d := x.length) rfl hl.symm b1.tail b2.tail e']
    · have := TS.code_lt hl.symm b2.tail b1.tail z
      omega
theorem sorted_uniq {B : Int} {d : Nat} : ∀ {l m : List (List Int)}, l.Perm m → (∀ r ∈ m, r.length = d ∧ TS.Bd B r) → l.Pairwise (fun x y => TS.code B x ≤ TS.code B y) → m.Pairwise (fun x y => TS.code B x ≤ TS.code B y) → l = m
  | [], m, p, _, _, _ => (List.nil_perm.mp p).symm
  | x :: l, [], p, _, _, _ => absurd p.length_eq (by simp)
  | x :: l, y :: m, p, hb, a, b => by
    have a' := List.pairwise_cons.mp a
    have b' := List.pairwise_cons.mp b
    have hx : x ∈ y :: m := p.mem_iff.mp List.mem_cons_self
    have hy : y ∈ x :: l := p.mem_iff.mpr List.mem_cons_self
    have e1 : TS.code B x ≤ TS.code B y := by
      rcases List.mem_cons.mp hy with e | h
      · rw [e]
        exact Int.le_refl _
      · exact a'.1 y h
    have e2 : TS.code B y ≤ TS.code B x := by
      rcases List.mem_cons.mp hx with e | h
      · rw [e]
        exact Int.le_refl _
      · exact b'.1 x h
    have e : x = y := code_inj (hb x hx).1 (hb y List.mem_cons_self).1 (hb x hx).2 (hb y List.mem_cons_self).2 (Int.le_antisymm e1 e2)
    subst e
    rw [sorted_uniq (List.Perm.cons_inv p) (fun r hr => hb r (List.mem_cons_of_mem _ hr)) a'.2 b'.2]
end My

/-! ### the mathematics of reach -/
namespace Rch
def ins (x : Int) : List Int → List Int
  | [] => [x]
  | y :: r => if x ≤ y then x :: y :: r else y :: ins x r
def isort : List Int → List Int
  | [] => []
  | x :: r => ins x (isort r)
theorem ins_perm (x : Int) : ∀ l : List Int, (ins x l).Perm (x :: l)
  | [] => .refl _
  | y :: r => by
    unfold ins
    split
    · exact .refl _
    · exact ((ins_perm x r).cons y).trans (.swap x y r)
theorem isort_perm : ∀ l : List Int, (isort l).Perm l
  | [] => .refl _
  | x :: r => (ins_perm x (isort r)).trans ((isort_perm r).cons x)
theorem ins_sorted (x : Int) : ∀ l : List Int, l.Pairwise (· ≤ ·) → (ins x l).Pairwise (· ≤ ·)
  | [], _ => List.pairwise_singleton _ _
  | y :: r, h => by
    unfold ins
    have h' := List.pairwise_cons.mp h
    split
    · next hx =>
      refine List.pairwise_cons.mpr ⟨fun z hz => ?_, h⟩
      rcases List.mem_cons.mp hz with e | hz
      · subst e
        exact hx
      · exact Int.le_trans hx (h'.1 z hz)
    · next hx =>
      refine List.pairwise_cons.mpr ⟨fun z hz => ?_, ins_sorted x r h'.2⟩
      rcases List.mem_cons.mp ((ins_perm x r).mem_iff.mp hz) with e | hz
      · subst e
        omega
      · exact h'.1 z hz
theorem isort_sorted : ∀ l : List Int, (isort l).Pairwise (· ≤ ·)
  | [] => .nil
  | x :: r => ins_sorted x _ (isort_sorted r)
theorem uniq : ∀ {l m : List Int}, l.Perm m → l.Pairwise (· ≤ ·) → m.Pairwise (· ≤ ·) → l = m
  | [], m, p, _, _ => (List.nil_perm.mp p).symm
  | x :: l, [], p, _, _ => absurd p.length_eq (by simp)
  | x :: l, y :: m, p, a, b => by
    have a' := List.pairwise_cons.mp a
    have b' := List.pairwise_cons.mp b
    have e : x = y := by
      have h1 : x ∈ y :: m := p.mem_iff.mp List.mem_cons_self
      have h2 : y ∈ x :: l := p.mem_iff.mpr List.mem_cons_self
      rcases List.mem_cons.mp h1 with e | h1
      · exact e
      · rcases List.mem_cons.mp h2 with e | h2
        · exact e.symm
        · exact Int.le_antisymm (a'.1 y h2) (b'.1 x h1)
    subst e
    rw [uniq (List.Perm.cons_inv p) a'.2 b'.2]
theorem isort_of {l m : List Int} (p : m.Perm l) (h : m.Pairwise (· ≤ ·)) : m = isort l := uniq (p.trans (isort_perm l).symm) h (isort_sorted l)
def greedy : Int → List Int → Int
  | T, [] => T
  | T, l :: r => if l > T + 1 then T else greedy (T + l) r
def reachOf (ns : List Int) : Int := greedy 0 (isort ns)
theorem greedy_ge : ∀ (ls : List Int) (T : Int), (∀ x ∈ ls, 0 ≤ x) → T ≤ greedy T ls
  | [], T, _ => Int.le_refl _
  | l :: r, T, h => by
    unfold greedy
    have h0 := h l List.mem_cons_self
    split
    · exact Int.le_refl _
    · have := greedy_ge r (T + l) fun x hx => h x (List.mem_cons_of_mem _ hx)
      omega
theorem greedy_le : ∀ (ls : List Int) (T : Int), (∀ x ∈ ls, 0 ≤ x ∧ x ≤ 40) → greedy T ls ≤ T + 40 * (ls.length : Int)
  | [], T, _ => by
    show T ≤ T + 40 * ((0 : Nat) : Int)
    omega
  | l :: r, T, h => by
    unfold greedy
    have h0 := h l List.mem_cons_self
    rw [List.length_cons]
    split
    · omega
    · have := greedy_le r (T + l) fun x hx => h x (List.mem_cons_of_mem _ hx)
      omega
def Good (ns : List Int) : Prop := 1 ≤ ns.length ∧ ns.length ≤ 8 ∧ ∀ n ∈ ns, 1 ≤ n ∧ n ≤ 40
theorem Good.perm {l m : List Int} (g : Good l) (p : m.Perm l) : Good m := ⟨by rw [p.length_eq]; exact g.1, by rw [p.length_eq]; exact g.2.1, fun n h => g.2.2 n (p.mem_iff.mp h)⟩
theorem isort_congr {l m : List Int} (p : m.Perm l) : isort m = isort l := uniq (((isort_perm m).trans p).trans (isort_perm l).symm) (isort_sorted m) (isort_sorted l)
theorem reach_perm {l m : List Int} (p : m.Perm l) : reachOf m = reachOf l := by
  unfold reachOf
  rw [isort_congr p]
theorem reach_bd {ns : List Int} (g : Good ns) : 0 ≤ reachOf ns ∧ reachOf ns ≤ 320 := by
  have g' := g.perm (isort_perm ns)
  have h1 := greedy_ge (isort ns) 0 fun x hx => by have := g'.2.2 x hx; omega
  have h2 := greedy_le (isort ns) 0 fun x hx => by have := g'.2.2 x hx; omega
  have h3 := g'.2.1
  refine ⟨h1, ?_⟩
  show greedy 0 (isort ns) ≤ 320
  omega
/-- n is a sum of some of ls, and of a number from 0 to T -/
def reps (T : Int) : List Int → Int → Prop
  | [], n => 0 ≤ n ∧ n ≤ T
  | l :: r, n => reps T r n ∨ reps T r (n - l)
theorem reps_perm {T : Int} {l m : List Int} (p : l.Perm m) : ∀ n, reps T l n ↔ reps T m n := by
  induction p with
  | nil => exact fun _ => Iff.rfl
  | cons x _ ih =>
    intro n
    show (reps T _ n ∨ reps T _ (n - x)) ↔ (reps T _ n ∨ reps T _ (n - x))
    rw [ih n, ih (n - x)]
  | swap x y r =>
    intro n
    show ((reps T r n ∨ reps T r (n - x)) ∨ (reps T r (n - y) ∨ reps T r (n - y - x))) ↔ ((reps T r n ∨ reps T r (n - y)) ∨ (reps T r (n - x) ∨ reps T r (n - x - y)))
    rw [show n - y - x = n - x - y by omega]
    constructor
    · rintro ((a | a) | (a | a))
      · exact .inl (.inl a)
      · exact .inr (.inl a)
      · exact .inl (.inr a)
      · exact .inr (.inr a)
    · rintro ((a | a) | (a | a))
      · exact .inl (.inl a)
      · exact .inr (.inl a)
      · exact .inl (.inr a)
      · exact .inr (.inr a)
  | trans _ _ h1 h2 => exact fun n => (h1 n).trans (h2 n)
theorem reps_up {T l : Int} (h0 : 0 ≤ T) (h1 : 1 ≤ l) (h2 : l ≤ T + 1) : ∀ (r : List Int) (n : Int), reps (T + l) r n ↔ reps T (l :: r) n
  | [], n => by
    show (0 ≤ n ∧ n ≤ T + l) ↔ ((0 ≤ n ∧ n ≤ T) ∨ (0 ≤ n - l ∧ n - l ≤ T))
    omega
  | x :: r, n => by
    show (reps (T + l) r n ∨ reps (T + l) r (n - x)) ↔ _
    rw [reps_up h0 h1 h2 r n, reps_up h0 h1 h2 r (n - x)]
    exact (reps_perm (.swap l x r) n)
theorem reps_low {T : Int} : ∀ (ls : List Int) (n : Int), 0 ≤ n → n ≤ T → reps T ls n
  | [], n, a, b => ⟨a, b⟩
  | _ :: r, n, a, b => .inl (reps_low r n a b)
theorem reps_nonneg {T : Int} : ∀ (ls : List Int) (n : Int), (∀ x ∈ ls, 0 ≤ x) → reps T ls n → 0 ≤ n
  | [], n, _, h => h.1
  | l :: r, n, hp, h => by
    have h0 := hp l List.mem_cons_self
    have hr : ∀ x ∈ r, 0 ≤ x := fun x hx => hp x (List.mem_cons_of_mem _ hx)
    rcases h with h | h
    · exact reps_nonneg r n hr h
    · have := reps_nonneg r _ hr h
      omega
theorem reps_not {T : Int} (h0 : 0 ≤ T) : ∀ (ls : List Int) (n : Int), (∀ x ∈ ls, T + 1 < x) → n ≤ T + 1 → reps T ls n → n ≤ T
  | [], n, _, _, h => h.2
  | l :: r, n, hp, hn, h => by
    have hl := hp l List.mem_cons_self
    have hr : ∀ x ∈ r, T + 1 < x := fun x hx => hp x (List.mem_cons_of_mem _ hx)
    rcases h with h | h
    · exact reps_not h0 r n hr hn h
    · have := reps_nonneg r _ (fun x hx => by have := hr x hx; omega) h
      omega
theorem greedy_is : ∀ (ls : List Int) (T : Int), 0 ≤ T → (∀ x ∈ ls, 1 ≤ x) → ls.Pairwise (· ≤ ·) → (∀ n, 0 ≤ n → n ≤ greedy T ls → reps T ls n) ∧ ¬ reps T ls (greedy T ls + 1)
  | [], T, h0, _, _ => ⟨fun n a b => ⟨a, b⟩, fun h => by
    have := h.2
    unfold greedy at this
    omega⟩
  | l :: r, T, h0, hp, hs => by
    have hl := hp l List.mem_cons_self
    have hr : ∀ x ∈ r, 1 ≤ x := fun x hx => hp x (List.mem_cons_of_mem _ hx)
    have hs' := List.pairwise_cons.mp hs
    unfold greedy
    by_cases hc : l > T + 1
    · rw [if_pos hc]
      refine ⟨fun n a b => reps_low _ n a b, fun h => ?_⟩
      have := reps_not h0 (l :: r) (T + 1) (fun x hx => by
        rcases List.mem_cons.mp hx with e | hx
        · omega
        · have := hs'.1 x hx
          omega) (Int.le_refl _) h
      omega
    · rw [if_neg hc]
      have ih := greedy_is r (T + l) (by omega) hr hs'.2
      have up := reps_up h0 hl (by omega : l ≤ T + 1) r
      exact ⟨fun n a b => (up n).mp (ih.1 n a b), fun h => ih.2 ((up _).mpr h)⟩
theorem reach_is {ns : List Int} (g : Good ns) : (∀ n, 0 ≤ n → n ≤ reachOf ns → reps 0 ns n) ∧ ¬ reps 0 ns (reachOf ns + 1) := by
  have g' := g.perm (isort_perm ns)
  have k := greedy_is (isort ns) 0 (Int.le_refl _) (fun x hx => (g'.2.2 x hx).1) (isort_sorted ns)
  exact ⟨fun n a b => (reps_perm (isort_perm ns) n).mp (k.1 n a b), fun h => k.2 ((reps_perm (isort_perm ns) _).mpr h)⟩
/-! ### sums as bits -/
def sumsF (S : Nat) : List Int → Nat
  | [] => S
  | l :: r => sumsF (S ||| S * 2 ^ l.toNat) r
theorem bits_step {S : Nat} {ls : List Int} {l : Int} (hl : 0 ≤ l) (hp : ∀ x ∈ ls, 0 ≤ x) (h : ∀ n : Nat, S.testBit n = true ↔ reps 0 ls (n : Int)) (n : Nat) : (S ||| S * 2 ^ l.toNat).testBit n = true ↔ reps 0 (l :: ls) (n : Int) := by
  rw [← Nat.shiftLeft_eq, Nat.testBit_or, Nat.testBit_shiftLeft, Bool.or_eq_true, Bool.and_eq_true, decide_eq_true_eq, h n, h (n - l.toNat)]
  show _ ↔ (reps 0 ls (n : Int) ∨ reps 0 ls ((n : Int) - l))
  constructor
  · rintro (a | ⟨a, b⟩)
    · exact .inl a
    · refine .inr ?_
      rw [show (n : Int) - l = ((n - l.toNat : Nat) : Int) by omega]
      exact b
  · rintro (a | a)
    · exact .inl a
    · have := reps_nonneg ls _ hp a
      refine .inr ⟨by omega, ?_⟩
      rw [show ((n - l.toNat : Nat) : Int) = (n : Int) - l by omega]
      exact a
theorem bits_all : ∀ (ls acc : List Int) (S : Nat), (∀ x ∈ ls, 0 ≤ x) → (∀ x ∈ acc, 0 ≤ x) → (∀ n : Nat, S.testBit n = true ↔ reps 0 acc (n : Int)) → ∀ n : Nat, (sumsF S ls).testBit n = true ↔ reps 0 (ls.reverse ++ acc) (n : Int)
  | [], acc, S, _, _, h => h
  | l :: r, acc, S, hl, ha, h => by
    intro n
    rw [List.reverse_cons, List.append_assoc]
    exact bits_all r (l :: acc) _ (fun x hx => hl x (List.mem_cons_of_mem _ hx)) (fun x hx => by
      rcases List.mem_cons.mp hx with e | hx
      · subst e
        exact hl x List.mem_cons_self
      · exact ha x hx) (bits_step (hl l List.mem_cons_self) ha h) n
theorem bit_one (n : Nat) : (1 : Nat).testBit n = true ↔ reps 0 [] (n : Int) := by
  show _ ↔ (0 ≤ (n : Int) ∧ (n : Int) ≤ 0)
  cases n with
  | zero => exact ⟨fun _ => ⟨by decide, by decide⟩, fun _ => by decide⟩
  | succ n =>
    rw [Nat.testBit_succ, show 1 / 2 = 0 from rfl, Nat.zero_testBit]
    exact ⟨fun h => absurd h Bool.false_ne_true, fun h => by omega⟩
theorem sums_is {ns : List Int} (g : Good ns) (n : Nat) : (sumsF 1 ns).testBit n = true ↔ reps 0 ns (n : Int) := by
  rw [bits_all ns [] 1 (fun x hx => by have := g.2.2 x hx; omega) (fun _ h => by simp at h) bit_one n, List.append_nil]
  exact reps_perm (List.reverse_perm ns) n
/-- sums // (1 << n) % 2 -/
theorem bit_of (S n : Nat) : (((S : Nat) : Int) / (1 * 2 ^ ((n : Int).toNat))).fmod 2 = if S.testBit n then 1 else 0 := by
  rw [Int.toNat_natCast, Int.one_mul, Int.fmod_eq_emod_of_nonneg _ (by decide), show ((2 : Int) ^ n) = ((2 ^ n : Nat) : Int) by simp, ← Int.natCast_ediv, show ((2 : Int)) = ((2 : Nat) : Int) from rfl, ← Int.natCast_emod, Nat.testBit_eq_decide_div_mod_eq]
  rcases Nat.mod_two_eq_zero_or_one (S / 2 ^ n) with e | e
  · rw [e]; rfl
  · rw [e]; rfl
end Rch

/-! ### the mathematics of tables -/
namespace Tb
def len1 (ls : List Int) (k : Int) : Int := ls.getD k.toNat 0
def rsum (ls : List Int) (r : List Int) : Int := (r.map (len1 ls)).sum
def InR (ls r : List Int) : Prop := ∀ k ∈ r, 0 ≤ k ∧ k < (ls.length : Int)
def Right (ls : List Int) (rs : List (List Int)) : Prop := Rch.Good ls ∧ 1 ≤ rs.length ∧ rs.length ≤ 60 ∧ ∀ (i : Nat) (r : List Int), rs[i]? = some r → InR ls r ∧ r.length ≤ 60 ∧ rsum ls r = (i : Int) + 1
theorem len_at {ls : List Int} {k : Int} (h0 : 0 ≤ k) (h1 : k < (ls.length : Int)) : ls[k.toNat]? = some (len1 ls k) := by
  have h : k.toNat < ls.length := by omega
  unfold len1
  rw [List.getD_eq_getElem?_getD, List.getElem?_eq_getElem h]
  rfl
theorem len_pos {ls : List Int} (g : Rch.Good ls) {k : Int} (h0 : 0 ≤ k) (h1 : k < (ls.length : Int)) : 1 ≤ len1 ls k ∧ len1 ls k ≤ 40 := g.2.2 _ (List.mem_of_getElem? (len_at h0 h1))
theorem rsum_cons (ls : List Int) (k : Int) (r : List Int) : rsum ls (k :: r) = len1 ls k + rsum ls r := by
  unfold rsum
  rw [List.map_cons, List.sum_cons]
theorem rsum_snoc (ls : List Int) (r : List Int) (k : Int) : rsum ls (r ++ [k]) = rsum ls r + len1 ls k := by
  unfold rsum
  rw [List.map_append, List.sum_append]
  simp
theorem rsum_len {ls : List Int} (g : Rch.Good ls) : ∀ {r : List Int}, InR ls r → (r.length : Int) ≤ rsum ls r
  | [], _ => by simp [rsum]
  | k :: r, h => by
    have h1 := h k List.mem_cons_self
    have := (len_pos g h1.1 h1.2).1
    have ih := rsum_len g (r := r) fun x hx => h x (List.mem_cons_of_mem _ hx)
    rw [rsum_cons, List.length_cons]
    omega
/-- when gone, into which loop -/
def go (ls : List Int) : Int → List Int → List (Int × Int)
  | _, [] => []
  | g, k :: r => (g, k) :: go ls (g + len1 ls k) r
theorem go_len (ls : List Int) : ∀ (r : List Int) (g : Int), (go ls g r).length = r.length
  | [], _ => rfl
  | k :: r, g => by
    show (go ls (g + len1 ls k) r).length + 1 = r.length + 1
    rw [go_len ls r]
theorem go_take (ls : List Int) : ∀ (r : List Int) (g : Int) (j : Nat), (go ls g r)[j]? = (r[j]?).map fun k => (g + rsum ls (r.take j), k)
  | [], g, j => by simp [go]
  | k :: r, g, 0 => by
    show some (g, k) = some (g + rsum ls [], k)
    simp [rsum]
  | k :: r, g, j + 1 => by
    show (go ls (g + len1 ls k) r)[j]? = (r[j]?).map fun x => (g + rsum ls (k :: r.take j), x)
    rw [go_take ls r, rsum_cons]
    congr 1
    funext x
    rw [Int.add_assoc]
theorem go_snd (ls : List Int) : ∀ (r : List Int) (g : Int), (go ls g r).map (·.2) = r
  | [], _ => rfl
  | k :: r, g => by
    show k :: (go ls (g + len1 ls k) r).map (·.2) = k :: r
    rw [go_snd ls r]
theorem go_rng {ls : List Int} (G : Rch.Good ls) : ∀ (r : List Int) (g : Int), InR ls r → ∀ p ∈ go ls g r, g ≤ p.1 ∧ p.1 < g + rsum ls r ∧ 0 ≤ p.2 ∧ p.2 < (ls.length : Int)
  | [], _, _, p, hp => absurd hp (by simp [go])
  | k :: r, g, h, p, hp => by
    have hk := h k List.mem_cons_self
    have l1 := (len_pos G hk.1 hk.2).1
    have hr : InR ls r := fun x hx => h x (List.mem_cons_of_mem _ hx)
    have n0 := rsum_len G hr
    rw [rsum_cons]
    rcases List.mem_cons.mp hp with e | hp
    · rw [e]
      show g ≤ g ∧ g < _ ∧ 0 ≤ k ∧ k < _
      omega
    · have := go_rng G r _ hr p hp
      omega
theorem go_up {ls : List Int} (G : Rch.Good ls) : ∀ (r : List Int) (g : Int), InR ls r → (go ls g r).Pairwise fun p q => p.1 < q.1
  | [], _, _ => .nil
  | k :: r, g, h => by
    have hk := h k List.mem_cons_self
    have l1 := (len_pos G hk.1 hk.2).1
    have hr : InR ls r := fun x hx => h x (List.mem_cons_of_mem _ hx)
    refine List.pairwise_cons.mpr ⟨fun q hq => ?_, go_up G r _ hr⟩
    have := go_rng G r _ hr q hq
    show g < q.1
    omega
/-- loop, gone, left -/
def ent (w : Int) (p : Int × Int) : List Int := [p.2, p.1, w - p.1]
def ents (ls : List Int) (w : Int) (r : List Int) : List (List Int) := (go ls 0 r).map (ent w)
def all (ls : List Int) (rs : List (List Int)) : Nat → List (List Int)
  | 0 => []
  | i + 1 => all ls rs i ++ ents ls ((i : Int) + 1) (rs.getD i [])
theorem ents_len (ls : List Int) (w : Int) (r : List Int) : (ents ls w r).length = r.length := by
  unfold ents
  rw [List.length_map, go_len]
theorem getD_row {rs : List (List Int)} {i : Nat} {r : List Int} (h : rs[i]? = some r) : rs.getD i [] = r := by
  rw [List.getD_eq_getElem?_getD, h]
  rfl
theorem all_wait {ls : List Int} {rs : List (List Int)} : ∀ (i : Nat) (e : List Int), e ∈ all ls rs i → ∃ k g w : Int, e = [k, g, w - g] ∧ 1 ≤ w ∧ w ≤ i
  | 0, e, h => absurd h (by simp [all])
  | i + 1, e, h => by
    rcases List.mem_append.mp h with h | h
    · obtain ⟨k, g, w, e1, h1, h2⟩ := all_wait i e h
      exact ⟨k, g, w, e1, h1, by omega⟩
    · obtain ⟨p, _, rfl⟩ := List.mem_map.mp h
      exact ⟨p.2, p.1, (i : Int) + 1, rfl, by omega, by omega⟩
/-- each new one is new -/
theorem new_one {ls : List Int} {rs : List (List Int)} {r : List Int} (G : Rch.Good ls) (hr : InR ls r) {i j : Nat} {p : Int × Int} (hj : (go ls 0 r)[j]? = some p) : ent ((i : Int) + 1) p ∉ all ls rs i ++ ((go ls 0 r).take j).map (ent ((i : Int) + 1)) := by
  intro h
  rcases List.mem_append.mp h with h | h
  · obtain ⟨k, g, w, e, h1, h2⟩ := all_wait i _ h
    unfold ent at e
    have e1 : p.1 = g := by
      have := congrArg (fun z : List Int => z.getD 1 0) e
      exact this
    have e2 : (i : Int) + 1 - p.1 = w - g := by
      have := congrArg (fun z : List Int => z.getD 2 0) e
      exact this
    omega
  · obtain ⟨q, hq, e⟩ := List.mem_map.mp h
    have e1 : q.1 = p.1 := by
      have := congrArg (fun z : List Int => z.getD 1 0) e
      exact this
    obtain ⟨m, hm⟩ := List.mem_iff_getElem?.mp hq
    rw [List.getElem?_take] at hm
    split at hm
    · next hlt =>
      have pw := List.pairwise_iff_getElem.mp (go_up G r 0 hr)
      obtain ⟨hm', em⟩ := List.getElem?_eq_some_iff.mp hm
      obtain ⟨hj', ej⟩ := List.getElem?_eq_some_iff.mp hj
      have := pw m j hm' hj' hlt
      rw [em, ej] at this
      omega
    · cases hm
theorem ents_bd {ls : List Int} {r : List Int} {w : Int} (G : Rch.Good ls) (hr : InR ls r) (hw : rsum ls r = w) (h60 : w ≤ 60) : ∀ e ∈ ents ls w r, e.length = 3 ∧ TS.Bd 1000 e := by
  intro e he
  obtain ⟨p, hp, rfl⟩ := List.mem_map.mp he
  have h := go_rng G r 0 hr p hp
  have g1 := G.2.1
  refine ⟨rfl, fun m hm => ?_⟩
  unfold ent at hm
  simp only [List.mem_cons, List.not_mem_nil, or_false] at hm
  rcases hm with e | e | e <;> subst e <;> omega
theorem all_bd {ls : List Int} {rs : List (List Int)} (R : Right ls rs) : ∀ i, i ≤ rs.length → ∀ e ∈ all ls rs i, e.length = 3 ∧ TS.Bd 1000 e
  | 0, _, e, he => absurd he (by simp [all])
  | i + 1, hi, e, he => by
    rcases List.mem_append.mp he with he | he
    · exact all_bd R i (by omega) e he
    · have hr : rs[i]? = some rs[i] := List.getElem?_eq_getElem (by omega)
      rw [getD_row hr] at he
      obtain ⟨a, b, c⟩ := R.2.2.2 i _ hr
      have := R.2.2.1
      exact ents_bd R.1 a c (by omega) e he
theorem all_len {ls : List Int} {rs : List (List Int)} (R : Right ls rs) : ∀ i, i ≤ rs.length → (all ls rs i).length ≤ 60 * i
  | 0, _ => Nat.le_refl _
  | i + 1, hi => by
    have ih := all_len R i (by omega)
    have hr : rs[i]? = some rs[i] := List.getElem?_eq_getElem (by omega)
    obtain ⟨a, b, c⟩ := R.2.2.2 i _ hr
    show (all ls rs i ++ ents ls ((i : Int) + 1) (rs.getD i [])).length ≤ _
    rw [List.length_append, ents_len, getD_row hr]
    omega
/-- the entries of one wait, when gone ahead -/
def ofWait (w : Int) (e : List Int) : Bool := (e.getD 1 0 + e.getD 2 0) == w
def swap (e : List Int) : List Int := [e.getD 1 0, e.getD 0 0]
def sel (w : Int) (es : List (List Int)) : List (List Int) := (es.filter (ofWait w)).map swap
theorem sel_append (w : Int) (a b : List (List Int)) : sel w (a ++ b) = sel w a ++ sel w b := by
  unfold sel
  rw [List.filter_append, List.map_append]
def gl (ls r : List Int) : List (List Int) := (go ls 0 r).map fun p => [p.1, p.2]
theorem sel_yes (ls : List Int) (w : Int) (r : List Int) : sel w (ents ls w r) = gl ls r := by
  unfold sel ents gl
  rw [List.filter_eq_self.mpr, List.map_map]
  · rfl
  · intro e he
    obtain ⟨p, _, rfl⟩ := List.mem_map.mp he
    show ((p.1 + (w - p.1)) == w) = true
    rw [beq_iff_eq]
    omega
theorem sel_no {ls : List Int} {w v : Int} (r : List Int) (h : v ≠ w) : sel w (ents ls v r) = [] := by
  unfold sel ents
  rw [List.filter_eq_nil_iff.mpr, List.map_nil]
  intro e he
  obtain ⟨p, _, rfl⟩ := List.mem_map.mp he
  show ¬ ((p.1 + (v - p.1)) == w) = true
  rw [beq_iff_eq]
  omega
theorem sel_all {ls : List Int} {rs : List (List Int)} (m : Nat) : ∀ i, sel ((m : Int) + 1) (all ls rs i) = if m < i then gl ls (rs.getD m []) else []
  | 0 => by
    rw [if_neg (by omega)]
    rfl
  | i + 1 => by
    show sel _ (all ls rs i ++ ents ls ((i : Int) + 1) (rs.getD i [])) = _
    rw [sel_append, sel_all m i]
    by_cases h : m < i
    · rw [if_pos h, if_pos (by omega), sel_no _ (by omega), List.append_nil]
    · rw [if_neg h, List.nil_append]
      by_cases h2 : m = i
      · subst h2
        rw [if_pos (by omega), sel_yes]
      · rw [if_neg (by omega), sel_no _ (by omega)]
theorem gl_bd {ls : List Int} {r : List Int} (G : Rch.Good ls) (hr : InR ls r) (h60 : rsum ls r ≤ 60) : ∀ e ∈ gl ls r, e.length = 2 ∧ TS.Bd 1000 e := by
  intro e he
  obtain ⟨p, hp, rfl⟩ := List.mem_map.mp he
  have h := go_rng G r 0 hr p hp
  have g1 := G.2.1
  refine ⟨rfl, fun m hm => ?_⟩
  simp only [List.mem_cons, List.not_mem_nil, or_false] at hm
  rcases hm with e | e <;> subst e <;> omega
theorem gl_sorted {ls : List Int} {r : List Int} (G : Rch.Good ls) (hr : InR ls r) (h60 : rsum ls r ≤ 60) : (gl ls r).Pairwise fun x y => TS.code 1000 x ≤ TS.code 1000 y := by
  unfold gl
  rw [List.pairwise_map]
  refine (List.pairwise_iff_getElem.mpr fun i j hi hj hij => ?_)
  have pw := List.pairwise_iff_getElem.mp (go_up G r 0 hr) i j hi hj hij
  have b1 := go_rng G r 0 hr _ (List.getElem_mem hi)
  have b2 := go_rng G r 0 hr _ (List.getElem_mem hj)
  have g1 := G.2.1
  show (go ls 0 r)[i].1 * 1000 ^ 1 + ((go ls 0 r)[i].2 * 1000 ^ 0 + 0) ≤ (go ls 0 r)[j].1 * 1000 ^ 1 + ((go ls 0 r)[j].2 * 1000 ^ 0 + 0)
  omega
theorem sel_perm {w : Int} {a b : List (List Int)} (p : a.Perm b) : (sel w a).Perm (sel w b) := (p.filter _).map _
theorem gl_snd (ls r : List Int) : (gl ls r).map (fun e => e.getD 1 0) = r := by
  unfold gl
  rw [List.map_map]
  exact go_snd ls r 0
end Tb

/-! ### the mathematics of the line -/
namespace Ln
/-- tick, turn, wait -/
abbrev Let := Int × Int × Option Int
def step (b τ u : Int) (s : List Let × Int) : List Let × Int := if s.2 > b then (s.1 ++ [(τ, u, none)], s.2) else (s.1 ++ [(τ, u, some s.2)], s.2 + 1)
def turns (b τ : Int) : Nat → List Let × Int → List Let × Int
  | 0, s => s
  | k + 1, s => step b τ (1 + (k : Int)) (turns b τ k s)
def close (c : Int) : Int := if c > 0 then c - 1 else c
def pre (b : Int) (cs : List Int) : Nat → List Let × Int
  | 0 => ([], 0)
  | i + 1 => ((turns b (i : Int) (cs.getD i 0).toNat (pre b cs i)).1, close (turns b (i : Int) (cs.getD i 0).toNat (pre b cs i)).2)
def letts (b : Int) (cs : List Int) : List Let := (pre b cs cs.length).1
def behind (b : Int) (cs : List Int) : Nat → List Int
  | 0 => []
  | i + 1 => behind b cs i ++ [(pre b cs (i + 1)).2]
theorem step_len (b τ u : Int) (s : List Let × Int) : (step b τ u s).1.length = s.1.length + 1 := by
  unfold step
  split <;> simp
theorem turns_len (b τ : Int) : ∀ (k : Nat) (s : List Let × Int), (turns b τ k s).1.length = s.1.length + k
  | 0, _ => rfl
  | k + 1, s => by
    unfold turns
    rw [step_len, turns_len b τ k s, Nat.add_assoc]
theorem turns_rng {b τ : Int} : ∀ (k : Nat) (s : List Let × Int), 0 ≤ s.2 → s.2 ≤ b + 1 → 0 ≤ (turns b τ k s).2 ∧ (turns b τ k s).2 ≤ b + 1
  | 0, s, h0, h1 => ⟨h0, h1⟩
  | k + 1, s, h0, h1 => by
    have ih := turns_rng (τ := τ) k s h0 h1
    unfold turns step
    split
    · exact ih
    · show 0 ≤ (turns b τ k s).2 + 1 ∧ (turns b τ k s).2 + 1 ≤ b + 1
      omega
theorem close_rng {b c : Int} (hb : 0 ≤ b) (h0 : 0 ≤ c) (h1 : c ≤ b + 1) : 0 ≤ close c ∧ close c ≤ b := by
  unfold close
  split <;> omega
theorem pre_rng {b : Int} (hb : 0 ≤ b) (cs : List Int) : ∀ i, 0 ≤ (pre b cs i).2 ∧ (pre b cs i).2 ≤ b
  | 0 => ⟨Int.le_refl _, hb⟩
  | i + 1 => by
    have ih := pre_rng hb cs i
    have t := turns_rng (b := b) (τ := (i : Int)) (cs.getD i 0).toNat (pre b cs i) ih.1 (by omega)
    unfold pre
    exact close_rng hb t.1 t.2
theorem pre_len {b : Int} {cs : List Int} (hc : ∀ c ∈ cs, c ≤ 4) : ∀ i, (pre b cs i).1.length ≤ 4 * i
  | 0 => Nat.le_refl _
  | i + 1 => by
    have ih := pre_len (b := b) hc i
    unfold pre
    rw [turns_len]
    have : cs.getD i 0 ≤ 4 := by
      rw [List.getD_eq_getElem?_getD]
      cases h : cs[i]? with
      | none => decide
      | some c => exact hc c (List.mem_of_getElem? h)
    omega
theorem behind_len (b : Int) (cs : List Int) : ∀ i, (behind b cs i).length = i
  | 0 => rfl
  | i + 1 => by
    unfold behind
    rw [List.length_append, behind_len b cs i]
    rfl
theorem getD_of {cs : List Int} {i : Nat} {c : Int} (h : cs[i]? = some c) : cs.getD i 0 = c := by
  rw [List.getD_eq_getElem?_getD, h]
  rfl
/-! pairs of who goes out when -/
def one (l : Let) (n : Int) : List (Int × Int) := match l.2.2 with
  | none => []
  | some w => [(l.1 + w, n)]
def outsFrom : Int → List Let → List (Int × Int)
  | _, [] => []
  | n, l :: r => one l n ++ outsFrom (n + 1) r
theorem outs_snoc : ∀ (L : List Let) (n : Int) (l : Let), outsFrom n (L ++ [l]) = outsFrom n L ++ one l (n + (L.length : Int))
  | [], n, l => by
    show one l n ++ [] = [] ++ one l (n + ((0 : Nat) : Int))
    rw [List.append_nil, List.nil_append]
    congr 1
    omega
  | x :: L, n, l => by
    show one x n ++ outsFrom (n + 1) (L ++ [l]) = (one x n ++ outsFrom (n + 1) L) ++ one l _
    rw [outs_snoc L (n + 1) l, List.append_assoc]
    congr 3
    rw [List.length_cons]
    omega
theorem one_len (l : Let) (n : Int) : (one l n).length ≤ 1 := by
  unfold one
  split <;> simp
theorem outs_len : ∀ (L : List Let) (n : Int), (outsFrom n L).length ≤ L.length
  | [], _ => Nat.le_refl _
  | l :: r, n => by
    show (one l n ++ outsFrom (n + 1) r).length ≤ r.length + 1
    have := outs_len r (n + 1)
    have := one_len l n
    rw [List.length_append]
    omega
def qp : Int → List Int → List (Int × Int)
  | _, [] => []
  | τ, n :: r => (τ, n) :: qp (τ + 1) r
theorem qp_snoc : ∀ (q : List Int) (τ n : Int), qp τ (q ++ [n]) = qp τ q ++ [(τ + (q.length : Int), n)]
  | [], τ, n => by
    show [(τ, n)] = [(τ + ((0 : Nat) : Int), n)]
    rw [show τ + ((0 : Nat) : Int) = τ by omega]
  | x :: q, τ, n => by
    show (τ, x) :: qp (τ + 1) (q ++ [n]) = (τ, x) :: (qp (τ + 1) q ++ [_])
    rw [qp_snoc q (τ + 1) n, List.length_cons]
    congr 4
    omega
/-- a queue of the law's own line, by the letters that came -/
def Led (τ : Int) (s : List Let × Int) (q : List Int) (prs : List (Int × Int)) : Prop := (q.length : Int) = s.2 ∧ prs ++ qp τ q = outsFrom 0 s.1
theorem Led.no {b τ u : Int} {s : List Let × Int} {q : List Int} {prs} (h : Led τ s q prs) (hb : s.2 > b) : Led τ (step b τ u s) q prs ∧ step b τ u s = (s.1 ++ [(τ, u, none)], s.2) := by
  have e : step b τ u s = (s.1 ++ [(τ, u, none)], s.2) := by
    unfold step
    rw [if_pos hb]
  refine ⟨?_, e⟩
  rw [e]
  refine ⟨h.1, ?_⟩
  rw [outs_snoc, ← h.2]
  show _ = _ ++ []
  rw [List.append_nil]
theorem Led.yes {b τ u : Int} {s : List Let × Int} {q : List Int} {prs} (h : Led τ s q prs) (hb : ¬ s.2 > b) : Led τ (step b τ u s) (q ++ [(s.1.length : Int)]) prs ∧ step b τ u s = (s.1 ++ [(τ, u, some s.2)], s.2 + 1) := by
  have e : step b τ u s = (s.1 ++ [(τ, u, some s.2)], s.2 + 1) := by
    unfold step
    rw [if_neg hb]
  refine ⟨?_, e⟩
  rw [e]
  refine ⟨?_, ?_⟩
  · rw [List.length_append]
    show ((q.length + 1 : Nat) : Int) = s.2 + 1
    have := h.1
    omega
  · show _ = outsFrom 0 (s.1 ++ [(τ, u, some s.2)])
    rw [outs_snoc, ← h.2, qp_snoc, ← List.append_assoc, h.1]
    show _ = _ ++ [(τ + s.2, (0 : Int) + (s.1.length : Int))]
    rw [Int.zero_add]
/-- each one goes out in its time -/
def Due (τ : Int) (L : List Let) (q : List Int) (prs : List (Int × Int)) : Prop := prs ++ qp τ q = outsFrom 0 L
theorem Due.pop {τ : Int} {L : List Let} {x : Int} {q : List Int} {prs} (h : Due τ L (x :: q) prs) : Due (τ + 1) L q (prs ++ [(τ, x)]) := by
  unfold Due at *
  rw [← h, List.append_assoc]
  rfl
theorem Due.nil {τ τ' : Int} {L : List Let} {prs} (h : Due τ L [] prs) : Due τ' L [] prs := h
theorem ticks_turns (b τ : Int) : ∀ (k : Nat) (s : List Let × Int), (turns b τ k s).1.map (·.1) = s.1.map (·.1) ++ List.replicate k τ
  | 0, s => by simp [turns]
  | k + 1, s => by
    have ih := ticks_turns b τ k s
    have e : (step b τ (1 + (k : Int)) (turns b τ k s)).1.map (·.1) = (turns b τ k s).1.map (·.1) ++ [τ] := by
      unfold step
      split <;> simp
    unfold turns
    rw [e, ih, List.append_assoc, List.replicate_succ']
def ticksOf (cs : List Int) : Nat → List Int
  | 0 => []
  | i + 1 => ticksOf cs i ++ List.replicate (cs.getD i 0).toNat (i : Int)
theorem ticks_are (b : Int) (cs : List Int) : ∀ i, (pre b cs i).1.map (·.1) = ticksOf cs i
  | 0 => rfl
  | i + 1 => by
    show (turns b (i : Int) (cs.getD i 0).toNat (pre b cs i)).1.map (·.1) = ticksOf cs i ++ _
    rw [ticks_turns, ticks_are b cs i]
theorem ticks_len {cs : List Int} (hc : ∀ c ∈ cs, c ≤ 4) (i : Nat) : (ticksOf cs i).length ≤ 4 * i := by
  rw [← ticks_are 0 cs i, List.length_map]
  exact pre_len hc i
theorem getD_past {cs : List Int} {i : Nat} (h : cs.length ≤ i) : cs.getD i 0 = 0 := by
  rw [List.getD_eq_getElem?_getD, List.getElem?_eq_none h]
  rfl
theorem pre_past {b : Int} (hb : 0 ≤ b) (cs : List Int) : ∀ d : Nat, (pre b cs (cs.length + d)).1 = letts b cs ∧ ((pre b cs (cs.length + d)).2 ≤ b - d ∨ (pre b cs (cs.length + d)).2 ≤ 0)
  | 0 => ⟨rfl, .inl (by
    have := (pre_rng hb cs cs.length).2
    show (pre b cs cs.length).2 ≤ b - ((0 : Nat) : Int)
    omega)⟩
  | d + 1 => by
    have ih := pre_past hb cs d
    have e : turns b ((cs.length + d : Nat) : Int) (cs.getD (cs.length + d) 0).toNat (pre b cs (cs.length + d)) = pre b cs (cs.length + d) := by
      rw [getD_past (by omega)]
      rfl
    have e1 : (pre b cs (cs.length + (d + 1))).1 = (turns b ((cs.length + d : Nat) : Int) (cs.getD (cs.length + d) 0).toNat (pre b cs (cs.length + d))).1 := rfl
    have e2 : (pre b cs (cs.length + (d + 1))).2 = close (turns b ((cs.length + d : Nat) : Int) (cs.getD (cs.length + d) 0).toNat (pre b cs (cs.length + d))).2 := rfl
    rw [e] at e1 e2
    refine ⟨e1.trans ih.1, ?_⟩
    rw [e2]
    unfold close
    have := ih.2
    split <;> omega
end Ln

/-! ## sum(t), t a tuple of ints -/
namespace My
open PySem PySem.Spec PyProof.Rows L2
section
variable {prog : Program} {w : World} {A : Around} {E : Value → Shared → Prop} {s : Shared} {l : Addr} {xs : Array (Int × Tok)}
theorem sum_tupG {Q : Value → Shared → Prop} (hh : A.handled = none) (hl : s.heap.IsTuple l (intItems xs))
    (h : ∀ h' tk t', (∀ b o, s.heap.get? b = some o → h'.get? b = some o) → Q (.int (preSum (numAt xs) xs.size) t') { s with heap := h', toks := tk }) :
    wpAny (model prog w) A (call (.builtin "sum") [.ref l]) Q E s := by
  have hll : l < s.heap.objs.size := by obtain ⟨_, q, _⟩ := hl; exact Heap.lt_size q
  refine call_sum_walkG (wpAny_pyIter_tuple hl ?_)
  refine ⟨_, _, _, _, _, _, numAt xs, rfl, Walks.tuple (A := A.in1) hh s.heap.objs.size l (Nat.ne_of_lt hll) (intItems xs), ⟨⟨_, Heap.get?_push_size _ rfl, rfl, rfl⟩, hl.push _⟩, fun b hb => ?_, (fun _ _ => intItems_at), fun h' tk t' hk => ?_⟩
  · show b < (s.heap.push _).objs.size
    rw [Heap.size_push]
    rcases List.mem_cons.mp hb with rfl | hb
    · exact Nat.lt_succ_self _
    · rw [List.mem_singleton.mp hb]
      exact Nat.lt_succ_of_lt hll
  · have := h h' tk t' fun b o e => hk b o (fun hm => by
      rw [List.mem_singleton.mp hm] at e
      exact absurd (Heap.lt_size e) (Nat.lt_irrefl _)) (Heap.get?_push_of_some _ e)
    simpa [intItems] using this
end
def rSumT (K : PySem.W.Frag) : List V → Hp → VK → Prop := fun vs H Q => ∃ (a : Addr) (ns : List Int), vs = [V.ref a] ∧ SqT K H a (ns.map V.int) ∧ Q (.int ns.sum) H
theorem cr_sumT {X : Cx} (hc : X.calm = true) : CallR X (.builtin "sum") (rSumT X.K) := by
  intro pins s σ H vs us Q I r h
  obtain ⟨a, ns, rfl, hs, q⟩ := h
  obtain ⟨its, rv, hl, _⟩ := I.tuple hs
  rw [Vals.ref1 r]
  have hi := rv.ints
  obtain ⟨xs, e⟩ := hi.allInts.items
  have hn : numsOf (intItems xs).toList = ns := by rw [← e]; exact hi.numsOf
  rw [nums_intItems] at hn
  have hl' : s.heap.IsTuple a (intItems xs) := by
    rw [← e]
    exact hl
  refine sum_tupG (I.ok.hd hc) hl' fun h' tk t' hk => ?_
  rw [preSum_eq, List.take_of_length_le (by simp), hn]
  exact ⟨.int _, H, I.kept hk, ⟨_, rfl⟩, q⟩
/-! ### t + u, both tracked, t not empty -/
def rCatP : R2 := fun x y H Q => ∃ a b xs ys, x = .ref a ∧ y = .ref b ∧ H a = some (.tup xs) ∧ H b = some (.tup ys) ∧ xs ≠ [] ∧ xs.length + ys.length ≤ sizeLine ∧ ∀ p H', Same H H' → H' p = some (.tup (xs ++ ys)) → Q (.ref p) H'
theorem op_catP {X : Cx} : OpR X (binaryOp .Add) rCatP := by
  intro pins s σ H x y v u Q I rx ry h
  obtain ⟨a, b, xs, ys, rfl, rfl, ha, hb, hne, hz, q⟩ := h
  refine op_catA pins s σ H _ _ v u Q I rx ry ⟨a, b, xs, ys, rfl, rfl, SqT.of ha, SqT.of hb, hz, fun e => absurd e hne, fun _ e => ?_, fun _ _ p np => ?_⟩
  · subst e
    refine q a H (fun _ _ h => h) ?_
    rw [List.append_nil]
    exact ha
  · exact q p _ (same_upd np) upd_same
/-! ### xs[i] read where it is changed -/
theorem pgetL {X : Cx} : PGet X (rIxL X.K) := by
  intro pins s σ H o i ov iv Q I r1 r2 h
  obtain ⟨p, xs, k, z, rfl, rfl, hq, he, q⟩ := h
  cases r1
  obtain ⟨t, rfl⟩ := r2
  obtain ⟨its, r, pl, hz⟩ := I.list hq
  obtain ⟨j, h1, h2, h3, h4, h5⟩ := atI_get he
  obtain ⟨w, ew, rw'⟩ := r.get h2
  have hl := r.length
  have hn := line63
  have fin : EP X pins σ Q w s := ⟨z, H, I, rw', q⟩
  by_cases h0 : 0 ≤ k
  · have hj : k.toNat = j := by
      rw [PySem.seqIndex_of h0 h5] at h1
      exact Option.some.inj h1
    exact wpAny_getItem_list pl.isList h0 (by omega) (by rw [hj]; simpa using ew) fin
  · have hj : (k + (its.toArray.size : Int)).toNat = j := by
      rw [PySem.seqIndex_neg (by omega) h4] at h1
      rw [List.size_toArray, ← hl]
      exact Option.some.inj h1
    exact wpAny_mono (wpAny_getItem_list_neg (Q := fun r s' => r = w ∧ EP X pins σ Q r s') pl.isList (by omega) (by rw [List.size_toArray] <;> omega) (by omega) (by rw [hj]; simpa using ew) ⟨rfl, fin⟩) (fun _ _ h => h.2) fun _ _ h => h
/-! ### zip of two lists, the second one not longer -/
theorem for_zipS {K : PySem.W.Frag} {a b : Addr} {xs ys : List V} {g : TG} {tb : TS} {D : Ends} {σ : L2.St} {H : Hp} (hl : ys.length ≤ xs.length) (Pv : Nat → L2.St → Hp → Prop) (h0 : Pv 0 σ H) (hq : ∀ i σ H, Pv i σ H → SqL K H a xs ∧ SqL K H b ys)
    (hs : ∀ (i : Nat) (x y : V) (T : Addr) (σ : L2.St) (H : Hp), xs[i]? = some x → ys[i]? = some y → Pv i σ H → H T = none → g (.ref T) σ (upd H T (.tup [x, y])) fun σ2 H2 => tb { D with nx := Pv (i + 1), ct := Pv (i + 1), bk := D.nx } σ2 H2) (hd : ∀ σ H, Pv ys.length σ H → D.nx σ H) :
    ∃ W : Nat → Nat → L2.St → Hp → Prop, (∃ m, W 0 m σ H) ∧ ∀ i m σ H, W i m σ H →
      ((Itz K a b).stop i H ∧ D.nx σ H) ∨ ((Itz K a b).go i H ∧ ∃ N : L2.St → Hp → Prop, (∀ σ' H', N σ' H' → ∃ m', m' < m ∧ W (i + 1) m' σ' H') ∧ ∀ v H', (Itz K a b).yld i H v H' → g v σ H' fun σ2 H2 => tb { D with nx := N, ct := N, bk := D.nx } σ2 H2) := by
  refine ⟨fun i m σ H => m = ys.length - i ∧ i ≤ ys.length ∧ Pv i σ H, ⟨ys.length, rfl, Nat.zero_le _, h0⟩, ?_⟩
  rintro i m σ H ⟨rfl, hi, p⟩
  obtain ⟨qx, qy⟩ := hq i σ H p
  by_cases h : i < ys.length
  · have hx : xs[i]? = some xs[i] := List.getElem?_eq_getElem (by omega)
    have hy : ys[i]? = some ys[i] := List.getElem?_eq_getElem h
    refine .inr ⟨⟨xs, ys, _, _, qx, qy, hx, hy⟩, Pv (i + 1), fun σ' H' n => ⟨ys.length - (i + 1), by omega, rfl, by omega, n⟩, ?_⟩
    rintro v H' ⟨T, x, y, rfl, nT, rfl, ex, ey⟩
    exact hs i x y T σ H (ex xs qx) (ey ys qy) p nT
  · have e : i = ys.length := by omega
    subst e
    exact .inl ⟨⟨xs, ys, qx, qy, .inr (Nat.le_refl _)⟩, hd σ H p⟩
/-! ### what stays while the tape moves -/
theorem Moved.sq {K : PySem.W.Frag} {t s : Addr} {H H' : Hp} {a : Addr} {xs : List V} (mv : Moved t H H') (tp : Tape H t s) (h : SqT K H a xs) : SqT K H' a xs := by
  obtain ⟨_, _, _, _, _, _, e2, _⟩ := tp
  rcases h with (h | ⟨o, h⟩) | h
  · exact .inl (.inl (mv _ _ (fun z => by rw [z, e2] at h; cases h) h))
  · exact .inl (.inr ⟨o, mv _ _ (fun z => by rw [z, e2] at h; cases h) h⟩)
  · exact .inr h
theorem Moved.tups {α : Type} {f : α → List V} {t s : Addr} {H H' : Hp} {ps : List Addr} {xs : List α} (mv : Moved t H H') (tp : Tape H t s) (h : Tups f H ps xs) : Tups f H' ps xs := h.keep fun b ys e => by
  obtain ⟨_, _, _, _, _, _, e2, _⟩ := tp
  exact mv _ _ (fun z => by rw [z, e2] at e; cases e) e
end My

/-! ### the mathematics of digits and days -/
namespace Dy
open Ln (Let)
/-! doubling -/
def Grd : Int → List Int → Prop
  | _, [] => True
  | T, l :: r => l ≤ T + 1 ∧ Grd (T + l) r
theorem grd_snoc : ∀ (r : List Int) (T l : Int), Grd T r → l ≤ T + r.sum + 1 → Grd T (r ++ [l])
  | [], T, l, _, h => by
    refine ⟨?_, trivial⟩
    simpa using h
  | x :: r, T, l, hg, h => by
    refine ⟨hg.1, grd_snoc r (T + x) l hg.2 ?_⟩
    rw [List.sum_cons] at h
    omega
/-- from the greatest on: each at most one more than the sum of those behind it -/
def GR : List Int → Prop
  | [] => True
  | l :: r => l ≤ r.sum + 1 ∧ GR r
theorem gr_of : ∀ (r : List Int) (T : Int) (acc : List Int), Grd T r → acc.sum = T → GR acc → GR (r.reverse ++ acc)
  | [], _, acc, _, _, h => h
  | x :: r, T, acc, hg, hs, h => by
    rw [List.reverse_cons, List.append_assoc]
    exact gr_of r (T + x) (x :: acc) hg.2 (by rw [List.sum_cons]; omega) ⟨by rw [hs]; exact hg.1, h⟩
/-- digits: the row so far, and what is left -/
def dig (ls : List Int) : List Int → List Int × Int → List Int × Int
  | [], s => s
  | k :: r, s => dig ls r (if Tb.len1 ls k ≤ s.2 then (k :: s.1, s.2 - Tb.len1 ls k) else s)
theorem dig_ok {ls : List Int} : ∀ (ks : List Int) (row : List Int) (w : Int), GR (ks.map (Tb.len1 ls)) → 0 ≤ w → w ≤ (ks.map (Tb.len1 ls)).sum → Tb.InR ls ks → Tb.InR ls row →
    (dig ls ks (row, w)).2 = 0 ∧ Tb.rsum ls (dig ls ks (row, w)).1 = Tb.rsum ls row + w ∧ Tb.InR ls (dig ls ks (row, w)).1
  | [], row, w, _, h0, h1, _, hr => by
    have : w = 0 := by
      simp at h1
      omega
    subst this
    exact ⟨rfl, by show Tb.rsum ls row = Tb.rsum ls row + 0; omega, hr⟩
  | k :: r, row, w, hg, h0, h1, hk, hr => by
    rw [List.map_cons, List.sum_cons] at h1
    have hk' : Tb.InR ls r := fun x hx => hk x (List.mem_cons_of_mem _ hx)
    unfold dig
    by_cases c : Tb.len1 ls k ≤ w
    · rw [if_pos c]
      obtain ⟨a, b, d⟩ := dig_ok r (k :: row) (w - Tb.len1 ls k) hg.2 (by omega) (by omega) hk' (fun x hx => by
        rcases List.mem_cons.mp hx with e | hx
        · rw [e]
          exact hk k List.mem_cons_self
        · exact hr x hx)
      refine ⟨a, ?_, d⟩
      rw [b, Tb.rsum_cons]
      omega
    · rw [if_neg c]
      have := hg.1
      exact dig_ok r row w hg.2 h0 (by omega) hk' hr
/-! layings -/
def rowOf (rs : List (List Int)) (w : Int) : List Int := if w ≤ 0 then [] else rs.getD (w - 1).toNat []
def lay1 (ls : List Int) (rs : List (List Int)) (n : Int) (l : Let) : List (List Int) := match l.2.2 with
  | none => []
  | some w => (Tb.go ls 0 (rowOf rs w)).map fun p => [l.1 + p.1, n, p.2]
def lays (ls : List Int) (rs : List (List Int)) : Int → List Let → List (List Int)
  | _, [] => []
  | n, l :: r => lay1 ls rs n l ++ lays ls rs (n + 1) r
theorem lays_snoc (ls : List Int) (rs : List (List Int)) : ∀ (L : List Let) (n : Int) (l : Let), lays ls rs n (L ++ [l]) = lays ls rs n L ++ lay1 ls rs (n + (L.length : Int)) l
  | [], n, l => by
    show lay1 ls rs n l ++ [] = [] ++ lay1 ls rs (n + ((0 : Nat) : Int)) l
    rw [List.append_nil, List.nil_append]
    congr 1
    omega
  | x :: L, n, l => by
    show lay1 ls rs n x ++ lays ls rs (n + 1) (L ++ [l]) = (lay1 ls rs n x ++ lays ls rs (n + 1) L) ++ lay1 ls rs _ l
    rw [lays_snoc ls rs L (n + 1) l, List.append_assoc]
    congr 3
    rw [List.length_cons]
    omega
/-- who is inside behind a tick, of one laying -/
def ins1 (ls : List Int) (τ : Int) (e : List Int) : Option (List Int) :=
  if e.getD 0 0 ≤ τ ∧ e.getD 0 0 + Tb.len1 ls (e.getD 2 0) - τ > 0 then some [e.getD 2 0, e.getD 1 0, e.getD 0 0 + Tb.len1 ls (e.getD 2 0) - τ] else none
/-- where a letter is, by its age -/
def whr (ls : List Int) : List Int → Int → Option (Int × Int)
  | [], _ => none
  | k :: r, age => if age < Tb.len1 ls k then some (k, Tb.len1 ls k - age) else whr ls r (age - Tb.len1 ls k)
def in1 (ls : List Int) (rs : List (List Int)) (τ n : Int) (l : Let) : List (List Int) := match l.2.2 with
  | none => []
  | some w => if 0 < w ∧ l.1 ≤ τ then (match whr ls (rowOf rs w) (τ - l.1) with
    | none => []
    | some p => [[p.1, n, p.2]]) else []
def inAll (ls : List Int) (rs : List (List Int)) (τ : Int) : Int → List Let → List (List Int)
  | _, [] => []
  | n, l :: r => in1 ls rs τ n l ++ inAll ls rs τ (n + 1) r
theorem inAll_append (ls : List Int) (rs : List (List Int)) (τ : Int) : ∀ (L M : List Let) (n : Int), inAll ls rs τ n (L ++ M) = inAll ls rs τ n L ++ inAll ls rs τ (n + (L.length : Int)) M
  | [], M, n => by
    show inAll ls rs τ n M = inAll ls rs τ (n + ((0 : Nat) : Int)) M
    congr 1
    omega
  | x :: L, M, n => by
    show in1 ls rs τ n x ++ inAll ls rs τ (n + 1) (L ++ M) = (in1 ls rs τ n x ++ inAll ls rs τ (n + 1) L) ++ _
    rw [inAll_append ls rs τ L M (n + 1), List.append_assoc, List.length_cons]
    congr 3
    omega
theorem go_none {ls : List Int} (G : Rch.Good ls) {β n τ : Int} : ∀ (r : List Int) (g : Int), Tb.InR ls r → τ - β < g → ((Tb.go ls g r).map fun p => [β + p.1, n, p.2]).filterMap (ins1 ls τ) = []
  | [], _, _, _ => rfl
  | k :: r, g, h, hg => by
    have hk := h k List.mem_cons_self
    have l1 := (Tb.len_pos G hk.1 hk.2).1
    have hr : Tb.InR ls r := fun x hx => h x (List.mem_cons_of_mem _ hx)
    show List.filterMap (ins1 ls τ) ([β + g, n, k] :: (Tb.go ls (g + Tb.len1 ls k) r).map fun p => [β + p.1, n, p.2]) = []
    have e : ins1 ls τ [β + g, n, k] = none := if_neg (fun z => by
      have : β + g ≤ τ := z.1
      omega)
    rw [List.filterMap_cons_none e]
    exact go_none G r _ hr (by omega)
theorem go_whr {ls : List Int} (G : Rch.Good ls) {β n τ : Int} : ∀ (r : List Int) (g : Int), Tb.InR ls r → g ≤ τ - β → ((Tb.go ls g r).map fun p => [β + p.1, n, p.2]).filterMap (ins1 ls τ) = match whr ls r (τ - β - g) with
    | none => []
    | some p => [[p.1, n, p.2]]
  | [], _, _, _ => rfl
  | k :: r, g, h, hg => by
    have hk := h k List.mem_cons_self
    have l1 := (Tb.len_pos G hk.1 hk.2).1
    have hr : Tb.InR ls r := fun x hx => h x (List.mem_cons_of_mem _ hx)
    show List.filterMap (ins1 ls τ) ([β + g, n, k] :: (Tb.go ls (g + Tb.len1 ls k) r).map fun p => [β + p.1, n, p.2]) = _
    unfold whr
    by_cases c : τ - β - g < Tb.len1 ls k
    · rw [if_pos c]
      have e : ins1 ls τ [β + g, n, k] = some [k, n, β + g + Tb.len1 ls k - τ] := if_pos ⟨by show β + g ≤ τ; omega, by show β + g + Tb.len1 ls k - τ > 0; omega⟩
      rw [List.filterMap_cons_some e, go_none G r _ hr (by omega)]
      show [[k, n, β + g + Tb.len1 ls k - τ]] = [[k, n, Tb.len1 ls k - (τ - β - g)]]
      rw [show β + g + Tb.len1 ls k - τ = Tb.len1 ls k - (τ - β - g) by omega]
    · rw [if_neg c]
      have e : ins1 ls τ [β + g, n, k] = none := if_neg (fun z => by
        have : β + g + Tb.len1 ls k - τ > 0 := z.2
        omega)
      rw [List.filterMap_cons_none e, go_whr G r _ hr (by omega), show τ - β - (g + Tb.len1 ls k) = τ - β - g - Tb.len1 ls k by omega]
theorem rowOf_at {ls : List Int} {rs : List (List Int)} (R : Tb.Right ls rs) {w : Int} (h0 : 0 < w) (h1 : w ≤ (rs.length : Int)) : rs[(w - 1).toNat]? = some (rowOf rs w) ∧ Tb.InR ls (rowOf rs w) ∧ (rowOf rs w).length ≤ 60 ∧ Tb.rsum ls (rowOf rs w) = w := by
  have hl : (w - 1).toNat < rs.length := by omega
  have e : rs[(w - 1).toNat]? = some (rowOf rs w) := by
    unfold rowOf
    rw [if_neg (by omega), List.getD_eq_getElem?_getD, List.getElem?_eq_getElem hl]
    rfl
  obtain ⟨a, b, c⟩ := R.2.2.2 _ _ e
  exact ⟨e, a, b, by rw [c]; omega⟩
/-- waits that are right for a table -/
def Wt (rs : List (List Int)) (L : List Let) : Prop := ∀ l ∈ L, ∀ w, l.2.2 = some w → 0 ≤ w ∧ w ≤ (rs.length : Int)
theorem lay_in {ls : List Int} {rs : List (List Int)} (R : Tb.Right ls rs) {τ n : Int} {l : Let} (h : ∀ w, l.2.2 = some w → 0 ≤ w ∧ w ≤ (rs.length : Int)) : (lay1 ls rs n l).filterMap (ins1 ls τ) = in1 ls rs τ n l := by
  obtain ⟨t, u, wt⟩ := l
  cases wt with
  | none => rfl
  | some w =>
    have hw := h w rfl
    show ((Tb.go ls 0 (rowOf rs w)).map fun p => [t + p.1, n, p.2]).filterMap (ins1 ls τ) = if 0 < w ∧ t ≤ τ then _ else []
    by_cases c0 : 0 < w
    · obtain ⟨_, hin, _, _⟩ := rowOf_at R c0 hw.2
      by_cases c1 : t ≤ τ
      · rw [if_pos ⟨c0, c1⟩, go_whr R.1 _ 0 hin (by omega), show τ - t - 0 = τ - t by omega]
      · rw [if_neg (fun z => c1 z.2), go_none R.1 _ 0 hin (by omega)]
    · rw [if_neg (fun z => c0 z.1)]
      have : rowOf rs w = [] := if_pos (by omega)
      rw [this]
      rfl
theorem lays_in {ls : List Int} {rs : List (List Int)} (R : Tb.Right ls rs) {τ : Int} : ∀ (L : List Let) (n : Int), Wt rs L → (lays ls rs n L).filterMap (ins1 ls τ) = inAll ls rs τ n L
  | [], _, _ => rfl
  | l :: r, n, h => by
    show (lay1 ls rs n l ++ lays ls rs (n + 1) r).filterMap _ = _
    rw [List.filterMap_append, lay_in R (h l List.mem_cons_self), lays_in R r (n + 1) fun x hx => h x (List.mem_cons_of_mem _ hx)]
    rfl
/-! how many -/
theorem whr_iff {ls : List Int} (G : Rch.Good ls) : ∀ (r : List Int) (age : Int), Tb.InR ls r → 0 ≤ age → (whr ls r age).isSome = decide (age < Tb.rsum ls r)
  | [], age, _, h => by
    show false = decide (age < Tb.rsum ls [])
    rw [decide_eq_false]
    simp [Tb.rsum]
    omega
  | k :: r, age, hin, h => by
    have hk := hin k List.mem_cons_self
    have hr : Tb.InR ls r := fun x hx => hin x (List.mem_cons_of_mem _ hx)
    have := Tb.rsum_len G hr
    rw [Tb.rsum_cons]
    unfold whr
    by_cases c : age < Tb.len1 ls k
    · rw [if_pos c, decide_eq_true (by omega)]
      rfl
    · rw [if_neg c, whr_iff G r _ hr (by omega)]
      exact decide_eq_decide.mpr (by omega)
def alive (τ : Int) (l : Let) : Bool := match l.2.2 with
  | none => false
  | some w => decide (l.1 ≤ τ) && decide (τ < l.1 + w)
theorem in1_len {ls : List Int} {rs : List (List Int)} (R : Tb.Right ls rs) {τ n : Int} {l : Let} (h : ∀ w, l.2.2 = some w → 0 ≤ w ∧ w ≤ (rs.length : Int)) : (in1 ls rs τ n l).length = if alive τ l then 1 else 0 := by
  obtain ⟨t, u, wt⟩ := l
  cases wt with
  | none => rfl
  | some w =>
    have hw := h w rfl
    show (if 0 < w ∧ t ≤ τ then _ else []).length = if (decide (t ≤ τ) && decide (τ < t + w)) = true then 1 else 0
    by_cases c0 : 0 < w
    · obtain ⟨_, hin, _, hs⟩ := rowOf_at R c0 hw.2
      by_cases c1 : t ≤ τ
      · rw [if_pos ⟨c0, c1⟩, decide_eq_true c1, Bool.true_and]
        have z := whr_iff R.1 (rowOf rs w) (τ - t) hin (by omega)
        rw [hs] at z
        cases e : whr ls (rowOf rs w) (τ - t) with
        | none =>
          rw [e] at z
          have : ¬ τ < t + w := fun y => by
            rw [decide_eq_true (by omega)] at z
            cases z
          rw [decide_eq_false this]
          rfl
        | some p =>
          rw [e] at z
          have : τ < t + w := by
            have := of_decide_eq_true z.symm
            omega
          rw [decide_eq_true this]
          rfl
      · rw [if_neg (fun z => c1 z.2), decide_eq_false c1]
        rfl
    · rw [if_neg (fun z => c0 z.1)]
      by_cases c1 : t ≤ τ
      · rw [decide_eq_false (by omega : ¬ τ < t + w), Bool.and_false]
        rfl
      · rw [decide_eq_false c1]
        rfl
theorem count_outs {ls : List Int} {rs : List (List Int)} (R : Tb.Right ls rs) {τ : Int} : ∀ (L : List Let) (n : Int), Wt rs L → (∀ l ∈ L, l.1 ≤ τ) → (inAll ls rs τ n L).length = ((Ln.outsFrom n L).filter fun p => decide (τ < p.1)).length
  | [], _, _, _ => rfl
  | l :: r, n, h, ht => by
    show (in1 ls rs τ n l ++ inAll ls rs τ (n + 1) r).length = ((Ln.one l n ++ Ln.outsFrom (n + 1) r).filter _).length
    rw [List.length_append, List.filter_append, List.length_append, in1_len R (h l List.mem_cons_self), count_outs R r (n + 1) (fun x hx => h x (List.mem_cons_of_mem _ hx)) (fun x hx => ht x (List.mem_cons_of_mem _ hx))]
    congr 1
    have hl := ht l List.mem_cons_self
    obtain ⟨t, u, wt⟩ := l
    cases wt with
    | none => rfl
    | some w =>
      show (if (decide (t ≤ τ) && decide (τ < t + w)) = true then 1 else 0) = ([(t + w, n)].filter fun p => decide (τ < p.1)).length
      rw [decide_eq_true (show t ≤ τ from hl), Bool.true_and]
      by_cases c : τ < t + w
      · rw [decide_eq_true c, List.filter_cons_of_pos (by exact decide_eq_true c)]
        rfl
      · rw [decide_eq_false c, List.filter_cons_of_neg (by
          show ¬ decide (τ < t + w) = true
          rw [decide_eq_false c]
          exact Bool.false_ne_true)]
        rfl
theorem qp_ge : ∀ (q : List Int) (τ : Int), ∀ p ∈ Ln.qp τ q, τ ≤ p.1
  | [], _, p, h => absurd h (by simp [Ln.qp])
  | x :: q, τ, p, h => by
    rcases List.mem_cons.mp h with e | h
    · rw [e]
      exact Int.le_refl _
    · have := qp_ge q (τ + 1) p h
      omega
theorem qp_len : ∀ (q : List Int) (τ : Int), (Ln.qp τ q).length = q.length
  | [], _ => rfl
  | x :: q, τ => by
    show (Ln.qp (τ + 1) q).length + 1 = q.length + 1
    rw [qp_len q]
theorem led_turns {b τ : Int} : ∀ (k : Nat) (s : List Let × Int), (∃ q prs, Ln.Led τ s q prs ∧ ∀ p ∈ prs, p.1 < τ) → ∃ q prs, Ln.Led τ (Ln.turns b τ k s) q prs ∧ ∀ p ∈ prs, p.1 < τ
  | 0, _, h => h
  | k + 1, s, h => by
    obtain ⟨q, prs, le, hp⟩ := led_turns (b := b) k s h
    show ∃ q prs, Ln.Led τ (Ln.step b τ (1 + (k : Int)) (Ln.turns b τ k s)) q prs ∧ _
    by_cases c : (Ln.turns b τ k s).2 > b
    · exact ⟨q, prs, (le.no c).1, hp⟩
    · exact ⟨_, prs, (le.yes c).1, hp⟩
theorem led_pre (b : Int) (cs : List Int) : ∀ i : Nat, ∃ q prs, Ln.Led (i : Int) (Ln.pre b cs i) q prs ∧ ∀ p ∈ prs, p.1 < (i : Int)
  | 0 => ⟨[], [], ⟨rfl, rfl⟩, fun p h => by simp at h⟩
  | i + 1 => by
    obtain ⟨q, prs, le, hp⟩ := led_turns (b := b) (cs.getD i 0).toNat _ (led_pre b cs i)
    have ei : ((i + 1 : Nat) : Int) = (i : Int) + 1 := by omega
    rw [ei]
    have le1 := le.1
    cases q with
    | nil =>
      refine ⟨[], prs, ⟨?_, le.2⟩, fun p h => by have := hp p h; omega⟩
      show ((0 : Nat) : Int) = Ln.close (Ln.turns b (i : Int) (cs.getD i 0).toNat (Ln.pre b cs i)).2
      rw [← le1]
      rfl
    | cons x r =>
      refine ⟨r, prs ++ [((i : Int), x)], ⟨?_, Ln.Due.pop le.2⟩, fun p h => ?_⟩
      · show (r.length : Int) = Ln.close (Ln.turns b (i : Int) (cs.getD i 0).toNat (Ln.pre b cs i)).2
        rw [List.length_cons] at le1
        unfold Ln.close
        rw [if_pos (by omega)]
        omega
      · rcases List.mem_append.mp h with h | h
        · have := hp p h
          omega
        · rw [List.mem_singleton.mp h]
          show (i : Int) < _
          omega
theorem turns_new {b τ : Int} : ∀ (k : Nat) (s : List Let × Int), 0 ≤ s.2 → s.2 ≤ b + 1 → ∃ new, (Ln.turns b τ k s).1 = s.1 ++ new ∧ ∀ l ∈ new, l.1 = τ ∧ ∀ w, l.2.2 = some w → 0 ≤ w ∧ w ≤ b
  | 0, s, _, _ => ⟨[], by show s.1 = s.1 ++ []; rw [List.append_nil], fun l h => by simp at h⟩
  | k + 1, s, h0, h1 => by
    obtain ⟨new, e, hn⟩ := turns_new (b := b) (τ := τ) k s h0 h1
    have rg := Ln.turns_rng (b := b) (τ := τ) k s h0 h1
    show ∃ new, (Ln.step b τ (1 + (k : Int)) (Ln.turns b τ k s)).1 = s.1 ++ new ∧ _
    unfold Ln.step
    by_cases c : (Ln.turns b τ k s).2 > b
    · rw [if_pos c]
      refine ⟨new ++ [(τ, 1 + (k : Int), none)], by show (Ln.turns b τ k s).1 ++ [_] = _; rw [e, List.append_assoc], fun l h => ?_⟩
      rcases List.mem_append.mp h with h | h
      · exact hn l h
      · rw [List.mem_singleton.mp h]
        exact ⟨rfl, fun w z => by cases z⟩
    · rw [if_neg c]
      refine ⟨new ++ [(τ, 1 + (k : Int), some (Ln.turns b τ k s).2)], by show (Ln.turns b τ k s).1 ++ [_] = _; rw [e, List.append_assoc], fun l h => ?_⟩
      rcases List.mem_append.mp h with h | h
      · exact hn l h
      · rw [List.mem_singleton.mp h]
        refine ⟨rfl, fun w z => ?_⟩
        have z' := Option.some.inj z
        omega
theorem pre_in {b : Int} (hb : 0 ≤ b) (cs : List Int) : ∀ (i : Nat), ∀ l ∈ (Ln.pre b cs i).1, 0 ≤ l.1 ∧ l.1 < (i : Int) ∧ ∀ w, l.2.2 = some w → 0 ≤ w ∧ w ≤ b
  | 0, l, h => absurd h (by simp [Ln.pre])
  | i + 1, l, h => by
    have rg := Ln.pre_rng hb cs i
    obtain ⟨new, e, hn⟩ := turns_new (b := b) (τ := (i : Int)) (cs.getD i 0).toNat (Ln.pre b cs i) rg.1 (by omega)
    have h' : l ∈ (Ln.pre b cs i).1 ++ new := e ▸ h
    rcases List.mem_append.mp h' with h | h
    · obtain ⟨x, y, z⟩ := pre_in hb cs i l h
      exact ⟨x, by omega, z⟩
    · obtain ⟨x, z⟩ := hn l h
      exact ⟨by omega, by omega, z⟩
theorem pre_app {b : Int} (hb : 0 ≤ b) (cs : List Int) (i : Nat) : ∀ d : Nat, ∃ rest, (Ln.pre b cs (i + d)).1 = (Ln.pre b cs i).1 ++ rest ∧ ∀ l ∈ rest, (i : Int) ≤ l.1
  | 0 => ⟨[], by rw [List.append_nil]; rfl, fun l h => by simp at h⟩
  | d + 1 => by
    obtain ⟨rest, e, hr⟩ := pre_app hb cs i d
    have rg := Ln.pre_rng hb cs (i + d)
    obtain ⟨new, e2, hn⟩ := turns_new (b := b) (τ := ((i + d : Nat) : Int)) (cs.getD (i + d) 0).toNat (Ln.pre b cs (i + d)) rg.1 (by omega)
    refine ⟨rest ++ new, ?_, fun l h => ?_⟩
    · show (Ln.turns b ((i + d : Nat) : Int) (cs.getD (i + d) 0).toNat (Ln.pre b cs (i + d))).1 = _
      rw [e2, e, List.append_assoc]
    · rcases List.mem_append.mp h with h | h
      · exact hr l h
      · have := (hn l h).1
        omega
theorem late_none {ls : List Int} {rs : List (List Int)} {τ : Int} : ∀ (L : List Let) (n : Int), (∀ l ∈ L, τ < l.1) → inAll ls rs τ n L = []
  | [], _, _ => rfl
  | l :: r, n, h => by
    show in1 ls rs τ n l ++ inAll ls rs τ (n + 1) r = []
    rw [late_none r (n + 1) fun x hx => h x (List.mem_cons_of_mem _ hx), List.append_nil]
    have hl := h l List.mem_cons_self
    unfold in1
    split
    · rfl
    · rw [if_neg (fun z => by omega)]
theorem letts_wt {rs : List (List Int)} (cs : List Int) : Wt rs (Ln.letts (rs.length : Int) cs) := fun l hl w hw => (pre_in (by omega) cs cs.length l hl).2.2 w hw
theorem count_in {ls : List Int} {rs : List (List Int)} (R : Tb.Right ls rs) (cs : List Int) {i : Nat} (hi : i < cs.length) : ((inAll ls rs (i : Int) 0 (Ln.letts (rs.length : Int) cs)).length : Int) = (Ln.pre (rs.length : Int) cs (i + 1)).2 := by
  have hb : (0 : Int) ≤ (rs.length : Int) := by omega
  obtain ⟨rest, e, hr⟩ := pre_app hb cs (i + 1) (cs.length - (i + 1))
  rw [show i + 1 + (cs.length - (i + 1)) = cs.length by omega] at e
  have el : Ln.letts (rs.length : Int) cs = (Ln.pre (rs.length : Int) cs (i + 1)).1 ++ rest := e
  rw [el, inAll_append, late_none rest _ (fun l h => by have := hr l h; omega), List.append_nil]
  rw [count_outs R _ 0 (fun l hl w hw => (pre_in hb cs (i + 1) l hl).2.2 w hw) (fun l hl => by have := (pre_in hb cs (i + 1) l hl).2.1; omega)]
  obtain ⟨q, prs, le, hp⟩ := led_pre (rs.length : Int) cs (i + 1)
  rw [← le.2, List.filter_append, List.filter_eq_nil_iff.mpr (fun p h => by
    have := hp p h
    show ¬ decide ((i : Int) < p.1) = true
    rw [decide_eq_false (by omega)]
    exact Bool.false_ne_true), List.nil_append, List.filter_eq_self.mpr (fun p h => by
    have := qp_ge q _ p h
    exact decide_eq_true (by omega)), qp_len]
  exact le.1
theorem none_in {ls : List Int} {rs : List (List Int)} (R : Tb.Right ls rs) (cs : List Int) {τ : Int} (h : (cs.length : Int) + (rs.length : Int) < τ) : inAll ls rs τ 0 (Ln.letts (rs.length : Int) cs) = [] := by
  have hb : (0 : Int) ≤ (rs.length : Int) := by omega
  have key : ∀ (L : List Let) (n : Int), (∀ l ∈ L, l.1 < (cs.length : Int) ∧ ∀ w, l.2.2 = some w → 0 ≤ w ∧ w ≤ (rs.length : Int)) → inAll ls rs τ n L = [] := by
    intro L
    induction L with
    | nil => exact fun _ _ => rfl
    | cons l r ih =>
      intro n hl
      show in1 ls rs τ n l ++ inAll ls rs τ (n + 1) r = []
      rw [ih (n + 1) fun x hx => hl x (List.mem_cons_of_mem _ hx), List.append_nil]
      obtain ⟨h1, h2⟩ := hl l List.mem_cons_self
      have z := in1_len R (τ := τ) (n := n) h2
      have : alive τ l = false := by
        obtain ⟨t, u, wt⟩ := l
        cases wt with
        | none => rfl
        | some w =>
          have := h2 w rfl
          show (decide (t ≤ τ) && decide (τ < t + w)) = false
          have h1' : t < (cs.length : Int) := h1
          rw [decide_eq_false (by omega : ¬ τ < t + w), Bool.and_false]
      rw [this] at z
      exact List.length_eq_zero_iff.mp z
  exact key _ 0 fun l hl => (pre_in hb cs cs.length l hl).2
theorem behind_at (b : Int) (cs : List Int) : ∀ (n i : Nat), i < n → (Ln.behind b cs n)[i]? = some (Ln.pre b cs (i + 1)).2
  | 0, i, h => absurd h (Nat.not_lt_zero _)
  | n + 1, i, h => by
    show (Ln.behind b cs n ++ [(Ln.pre b cs (n + 1)).2])[i]? = _
    rcases Nat.lt_or_ge i n with c | c
    · rw [List.getElem?_append_left (by rw [Ln.behind_len]; exact c)]
      exact behind_at b cs n i c
    · have : i = n := by omega
      subst this
      rw [List.getElem?_append_right (by rw [Ln.behind_len]; exact Nat.le_refl _), Ln.behind_len, Nat.sub_self]
      rfl
/-! bounds for sorting -/
theorem lays_bd {ls : List Int} {rs : List (List Int)} (R : Tb.Right ls rs) (m : Int) : ∀ (L : List Let) (n : Int), 0 ≤ n → n + (L.length : Int) ≤ 2000 → Wt rs L → (∀ l ∈ L, 0 ≤ l.1 ∧ l.1 < 500) → ∀ e ∈ lays ls rs n L, e.length = 3 ∧ TS.Bd 10000 e ∧ 0 ≤ e.getD 2 0 ∧ e.getD 2 0 < (ls.length : Int)
  | [], _, _, _, _, _, e, h => absurd h (by simp [lays])
  | l :: r, n, h0, h1, hw, ht, e, h => by
    rw [List.length_cons] at h1
    rcases List.mem_append.mp (show e ∈ lay1 ls rs n l ++ lays ls rs (n + 1) r from h) with h | h
    · have hl := ht l List.mem_cons_self
      obtain ⟨t, u, wt⟩ := l
      cases wt with
      | none => exact absurd h (by simp [lay1])
      | some w =>
        have hww := hw _ List.mem_cons_self w rfl
        obtain ⟨p, hp, rfl⟩ := List.mem_map.mp (show e ∈ (Tb.go ls 0 (rowOf rs w)).map fun p => [t + p.1, n, p.2] from h)
        by_cases c : 0 < w
        · obtain ⟨_, hin, _, hs⟩ := rowOf_at R c hww.2
          have b := Tb.go_rng R.1 _ 0 hin p hp
          have g1 := R.1.2.1
          have r60 := R.2.2.1
          have hl0 : 0 ≤ t ∧ t < 500 := hl
          refine ⟨rfl, fun x hx => ?_, b.2.2.1, b.2.2.2⟩
          simp only [List.mem_cons, List.not_mem_nil, or_false] at hx
          rcases hx with e | e | e <;> subst e <;> omega
        · have : rowOf rs w = [] := if_pos (by omega)
          rw [this] at hp
          exact absurd hp (by simp [Tb.go])
    · exact lays_bd R m r (n + 1) (by omega) (by omega) (fun x hx => hw x (List.mem_cons_of_mem _ hx)) (fun x hx => ht x (List.mem_cons_of_mem _ hx)) e h
theorem ins_bd {ls : List Int} (G : Rch.Good ls) {τ : Int} {es : List (List Int)} (h : ∀ e ∈ es, e.length = 3 ∧ TS.Bd 10000 e ∧ 0 ≤ e.getD 2 0 ∧ e.getD 2 0 < (ls.length : Int)) (h1 : 0 ≤ τ) : ∀ e ∈ es.filterMap (ins1 ls τ), e.length = 3 ∧ TS.Bd 20000 e := by
  intro e he
  obtain ⟨x, hx, ex⟩ := List.mem_filterMap.mp he
  obtain ⟨hl, hb, h2, h3⟩ := h x hx
  unfold ins1 at ex
  split at ex
  · next c =>
    have ex' := (Option.some.inj ex).symm
    subst ex'
    have lp := Tb.len_pos G h2 h3
    have b0 : 0 ≤ x.getD 0 0 ∧ x.getD 0 0 < 10000 := by
      match x, hl with
      | [a, b, c], _ => exact hb a List.mem_cons_self
    have b1 : 0 ≤ x.getD 1 0 ∧ x.getD 1 0 < 10000 := by
      match x, hl with
      | [a, b, c], _ => exact hb b (List.mem_cons_of_mem _ List.mem_cons_self)
    have g1 := G.2.1
    refine ⟨rfl, fun y hy => ?_⟩
    simp only [List.mem_cons, List.not_mem_nil, or_false] at hy
    rcases hy with e | e | e <;> subst e <;> omega
  · cases ex
end Dy

/-! ### what stands twice in a sorted list -/
namespace Mt
def prs (es : List (List Int)) : List (List Int) := es.map fun e => [e.getD 0 0, e.getD 2 0]
def Ok2 (rs : List (List Int)) : Prop := ∀ r ∈ rs, r.length = 2 ∧ TS.Bd 10000 r
abbrev Up (rs : List (List Int)) : Prop := rs.Pairwise fun x y => TS.code 10000 x ≤ TS.code 10000 y
theorem strict_count : ∀ {rs : List (List Int)}, Ok2 rs → Up rs → (∀ (i : Nat) x y, rs[i]? = some x → rs[i + 1]? = some y → x ≠ y) → ∀ r, rs.count r ≤ 1
  | [], _, _, _, r => by simp
  | [x], _, _, _, r => by
    rw [List.count_cons]
    split <;> simp
  | x :: y :: rs, hb, hu, ha, r => by
    have hb' : Ok2 (y :: rs) := fun z hz => hb z (List.mem_cons_of_mem _ hz)
    obtain ⟨h1, h2⟩ := List.pairwise_cons.mp hu
    have ih := strict_count hb' h2 (fun i a b h h' => ha (i + 1) a b (by simpa using h) (by simpa using h')) r
    have hxy : x ≠ y := ha 0 x y rfl rfl
    by_cases e : x = r
    · subst e
      have hn : x ∉ y :: rs := fun hm => by
        rcases List.mem_cons.mp hm with z | hm
        · exact hxy z
        · have c1 := h1 y List.mem_cons_self
          have c2 := (List.pairwise_cons.mp h2).1 x hm
          have bx := hb x List.mem_cons_self
          have bY := hb y (List.mem_cons_of_mem _ List.mem_cons_self)
          exact hxy (My.code_inj bx.1 bY.1 bx.2 bY.2 (Int.le_antisymm c1 c2))
      rw [List.count_cons_self, List.count_eq_zero_of_not_mem hn]
      exact Nat.le_refl _
    · rw [List.count_cons_of_ne e]
      exact ih
theorem twice_least {rs : List (List Int)} (hb : Ok2 rs) (hu : Up rs) {i : Nat} {x : List Int} (h1 : rs[i]? = some x) (h2 : rs[i + 1]? = some x) (ha : ∀ (j : Nat) a b, j < i → rs[j]? = some a → rs[j + 1]? = some b → a ≠ b) :
    2 ≤ rs.count x ∧ ∀ r, 2 ≤ rs.count r → TS.code 10000 x ≤ TS.code 10000 r := by
  have hi : i + 1 < rs.length := (List.getElem?_eq_some_iff.mp h2).1
  have e : rs = rs.take (i + 1) ++ rs.drop (i + 1) := (List.take_append_drop _ _).symm
  have ec : ∀ r, rs.count r = (rs.take (i + 1)).count r + (rs.drop (i + 1)).count r := fun r => by
    rw [← List.count_append, ← e]
  have et : rs.take (i + 1) = rs.take i ++ [x] := by
    rw [List.take_add_one, h1]
    rfl
  have ed : rs.drop (i + 1) = x :: rs.drop (i + 1 + 1) := by
    rw [List.drop_eq_getElem_cons hi]
    congr 1
    rw [List.getElem?_eq_getElem hi] at h2
    exact Option.some.inj h2
  have m1 : x ∈ rs.take (i + 1) := by
    rw [et]
    simp
  have m2 : x ∈ rs.drop (i + 1) := by
    rw [ed]
    exact List.mem_cons_self
  refine ⟨?_, fun r hr => ?_⟩
  · have a := List.count_pos_iff.mpr m1
    have b := List.count_pos_iff.mpr m2
    rw [ec]
    omega
  · have ht : (rs.take (i + 1)).count r ≤ 1 := by
      refine strict_count (fun z hz => hb z (List.mem_of_mem_take hz)) (hu.sublist (List.take_sublist _ _)) (fun j a b ja jb => ?_) r
      have hj : j + 1 < (rs.take (i + 1)).length := (List.getElem?_eq_some_iff.mp jb).1
      rw [List.length_take] at hj
      rw [List.getElem?_take_of_lt (by omega)] at ja jb
      exact ha j a b (by omega) ja jb
    rw [ec] at hr
    have hm : r ∈ rs.drop (i + 1) := List.count_pos_iff.mp (by omega)
    rw [ed] at hm
    have hd : Up (x :: rs.drop (i + 1 + 1)) := by
      rw [← ed]
      exact hu.sublist (List.drop_sublist _ _)
    rcases List.mem_cons.mp hm with z | hm
    · rw [z]
      exact Int.le_refl _
    · exact (List.pairwise_cons.mp hd).1 r hm
/-- the first that stands twice -/
def Least (rs : List (List Int)) (x : List Int) : Prop := 2 ≤ rs.count x ∧ ∀ r, 2 ≤ rs.count r → TS.code 10000 x ≤ TS.code 10000 r
theorem Least.perm {rs rs' : List (List Int)} {x : List Int} (h : Least rs x) (p : rs.Perm rs') : Least rs' x := ⟨by rw [← p.count_eq]; exact h.1, fun r hr => h.2 r (by rw [p.count_eq]; exact hr)⟩
end Mt
namespace Mt
theorem code2 {a b c d : Int} (h1 : TS.Bd 10000 [a, b]) (h2 : TS.Bd 10000 [c, d]) (h : HT.lexLt [a, b] [c, d] = true) : TS.code 10000 [a, b] ≤ TS.code 10000 [c, d] := by
  have hb : TS.Bd 10000 [b] := fun m hm => h1 m (List.mem_cons_of_mem _ hm)
  have hd : TS.Bd 10000 [d] := fun m hm => h2 m (List.mem_cons_of_mem _ hm)
  rw [HT.lexLt_cons] at h
  by_cases e : a = c
  · rw [if_pos e, HT.lexLt_cons] at h
    by_cases e2 : b = d
    · rw [e, e2]
      exact Int.le_refl _
    · rw [if_neg e2] at h
      have lt := of_decide_eq_true h
      rw [e]
      exact Int.le_of_lt ((TS.code_same (B := 10000) (d := c) (r := [b]) (q := [d]) rfl).mpr (TS.code_lt (B := 10000) (d := b) (e := d) (r := []) (q := []) rfl (fun m hm => by cases hm) (fun m hm => by cases hm) lt))
  · rw [if_neg e] at h
    exact Int.le_of_lt (TS.code_lt rfl hb hd (of_decide_eq_true h))
theorem code2' {a b c d : Int} (h1 : TS.Bd 10000 [a, b]) (h2 : TS.Bd 10000 [c, d]) (h : HT.lexLt [a, b] [c, d] = false) : TS.code 10000 [c, d] ≤ TS.code 10000 [a, b] := by
  by_cases e : a = c
  · by_cases e2 : b = d
    · rw [e, e2]
      exact Int.le_refl _
    · refine code2 h2 h1 ?_
      rw [HT.lexLt_cons, if_pos e.symm, HT.lexLt_cons, if_neg (Ne.symm e2)]
      rw [HT.lexLt_cons, if_pos e, HT.lexLt_cons, if_neg e2] at h
      have := of_decide_eq_false h
      exact decide_eq_true (by omega)
  · refine code2 h2 h1 ?_
    rw [HT.lexLt_cons, if_neg (Ne.symm e)]
    rw [HT.lexLt_cons, if_neg e] at h
    have := of_decide_eq_false h
    exact decide_eq_true (by omega)
/-- what the law has seen, and the best so far -/
def Best (P : List (List Int)) : Option (List Int) → Prop
  | none => ∀ r, P.count r ≤ 1
  | some b => b ∈ P ∧ Least P b
theorem cnt (P : List (List Int)) (k r : List Int) : (P ++ [k]).count r = P.count r + if k = r then 1 else 0 := by
  rw [List.count_append, List.count_cons, List.count_nil]
  by_cases e : k = r
  · rw [if_pos e, if_pos (by rw [e]; exact beq_self_eq_true r)]
  · rw [if_neg e, if_neg (by simpa using e)]
theorem best_new {P : List (List Int)} {k : List Int} {o : Option (List Int)} (h : Best P o) (hk : k ∉ P) : Best (P ++ [k]) o := by
  have c0 : P.count k = 0 := List.count_eq_zero_of_not_mem hk
  cases o with
  | none =>
    intro r
    have := h r
    rw [cnt]
    by_cases e : k = r
    · rw [if_pos e, ← e, c0]
      exact Nat.le_refl _
    · rw [if_neg e]
      exact this
  | some b =>
    obtain ⟨hm, h1, h2⟩ := h
    refine ⟨List.mem_append_left _ hm, ?_, fun r hr => h2 r ?_⟩
    · rw [cnt]
      omega
    · rw [cnt] at hr
      by_cases e : k = r
      · rw [if_pos e, ← e, c0] at hr
        omega
      · rw [if_neg e] at hr
        exact hr
theorem best_first {P : List (List Int)} {k : List Int} (h : Best P none) (hk : k ∈ P) : Best (P ++ [k]) (some k) := by
  have c0 := List.count_pos_iff.mpr hk
  refine ⟨List.mem_append_left _ hk, ?_, fun r hr => ?_⟩
  · rw [cnt, if_pos rfl]
    omega
  · by_cases e : k = r
    · rw [e]
      exact Int.le_refl _
    · have := h r
      rw [cnt, if_neg e] at hr
      omega
theorem best_less {P : List (List Int)} {k b : List Int} (h : Best P (some b)) (hk : k ∈ P) (hc : TS.code 10000 k ≤ TS.code 10000 b) : Best (P ++ [k]) (some k) := by
  have c0 := List.count_pos_iff.mpr hk
  obtain ⟨hm, h1, h2⟩ := h
  refine ⟨List.mem_append_left _ hk, ?_, fun r hr => ?_⟩
  · rw [cnt, if_pos rfl]
    omega
  · by_cases e : k = r
    · rw [e]
      exact Int.le_refl _
    · rw [cnt, if_neg e] at hr
      exact Int.le_trans hc (h2 r hr)
theorem best_more {P : List (List Int)} {k b : List Int} (h : Best P (some b)) (hc : TS.code 10000 b ≤ TS.code 10000 k) : Best (P ++ [k]) (some b) := by
  obtain ⟨hm, h1, h2⟩ := h
  refine ⟨List.mem_append_left _ hm, ?_, fun r hr => ?_⟩
  · rw [cnt]
    omega
  · by_cases e : k = r
    · rw [← e]
      exact hc
    · rw [cnt, if_neg e] at hr
      exact h2 r hr
end Mt

/-! ### exceptions of own classes as values: made, asked for their class -/
namespace EX6
open PySem PySem.Spec PyProof.Rows L2
/-- C(e, ..) as a value, C an exception class with its own __init__ -/
def tNewE (C : Addr) (sp : Sp) (dvs : List V) (ta : TA) : TE := fun σ H Q => ta σ H fun vs H1 => vs.length ≤ 1000 ∧ ∀ a, H1 a = none → sp (.ref a :: (vs ++ dvs)) (upd H1 a (exo a C none)) (fun v H2 => v = .non ∧ Q (.ref a) H2) (fun _ _ _ => False)
theorem pe_newE {X : Cx} {CX : CXT} {x : Str} {C fI : Addr} {k : Nat} {fd : FuncData} {ps : List Str} {sp : Sp} {ds : List Value} {dvs : List V} {e : Expr} {es : List Expr} {ta : TA} {p pos : Pos} (T : OexC X.K C) (iC : PySem.W.findIn X.K (.ref C) "__init__" = some (some (.ref fI))) (tI : PySem.W.typeIn X.K (.ref fI) = some (.type "function"))
    (F1 : FnOk X.prog X.w X.K X.mg X.base CX k fI fd ps sp) (hr : Room (k + 1) X.A) (hb : Binds X.K fd ps ds) (hd : Vals dvs ds) (hx : Passes CX X (fun _ _ _ => False)) (hg : Gl X x) (hm : X.mg x = some (.ref C)) (ha : PA X (e :: es) ta)
    (hdb : (x == ("__debug__" : Str)) = false := by decide) (he : starEach (e :: es) X.env = (false, eval e X.env) :: starEach es X.env := by rfl) (hpl : (backTo pos (starEach es X.env)).any (·.1) = false := by rfl) :
    PE X (.Call (.Name x p) (e :: es) [] pos) (tNewE C sp dvs ta) := by
  refine ⟨fun pins s σ H Q I h => ?_⟩
  obtain ⟨nm, q, N, bs, bm, sn, sub, ab, col, dd, k0, k1, k2, k3, k5, hC, hbm⟩ := T.cls
  refine wpAny_Call_Name_kw (ld_glob I hg hm ?_ hdb)
  refine PySem.W.callWith_K (h₀ := X.base) I.ok.mod.kin T.kC (thn (ha.run pos pins s σ H _ I h) fun us s1 ⟨vs, H1, I1, r1, hz, q1⟩ => ⟨I1.kIn, ?_⟩) he hpl
  show wpAny _ _ (call (.ref C) us) _ _ _
  obtain ⟨hp, g, dr, tk, os⟩ := s1
  have hsz : hp.objs.size ≤ hp.objs.size + 1 := Nat.le_succ _
  have hn : H1 (hp.objs.size + 1) = none := I1.hok.fresh hsz
  have hq := q1 (hp.objs.size + 1) hn
  have kk : ∀ b o, hp.get? b = some o → ((hp.push (PySem.W.kdv_tup us)).push (PySem.HandSPX.excO C hp.objs.size)).get? b = some o := fun b o e => Heap.get?_push_of_some _ (Heap.get?_push_of_some _ e)
  have hget : ((hp.push (PySem.W.kdv_tup us)).push (PySem.HandSPX.excO C hp.objs.size)).get? (hp.objs.size + 1) = some (PySem.HandSPX.excO C hp.objs.size) := by heap_get
  have I2 : Inv X pins σ (upd H1 (hp.objs.size + 1) (exo (hp.objs.size + 1) C none)) ⟨(hp.push (PySem.W.kdv_tup us)).push (PySem.HandSPX.excO C hp.objs.size), g, dr, tk, os⟩ :=
    I1.laid (t' := tk) (a := hp.objs.size + 1) (o := exo (hp.objs.size + 1) C none) (h' := (hp.push (PySem.W.kdv_tup us)).push (PySem.HandSPX.excO C hp.objs.size)) kk hsz (exo_ok hget)
  have r2 : Vals (V.ref (hp.objs.size + 1) :: (vs ++ dvs)) (Value.ref (hp.objs.size + 1) :: (us ++ ds)) := .cons rfl (r1.append hd)
  have hl : (Value.ref (hp.objs.size + 1) :: us ++ ds).length = ps.length := by
    have e := r2.length
    rw [F1.len _ _ _ _ hq] at e
    exact e.symm
  have hus : us.length ≤ sizeLine := by
    rw [← Paired.length r1, sizeLine_eq]
    omega
  refine wpAny_call (PySem.HandSPX.call_own F.excBase_ValueError (fun Y => PySem.HandSPX.refsVE_contains Y bm hbm) (I1.kIn _ _ hC) (PySem.W.looks_findIn I1.kIn iC) (fun self => PySem.W.bind_fn I1.kIn self tI) hus
    (codeAny_mono (F1.run _ X.stack _ _ ⟨Value.ref (hp.objs.size + 1) :: us, []⟩ (Value.ref (hp.objs.size + 1) :: (us ++ ds)) _ _ (fun _ _ _ => False) (hr.make C us []) (I2.env0.make C us []) (hb _ (Value.ref (hp.objs.size + 1) :: us) I2.kIn hl) r2 hq) fun r s' hq' => ?_))
  cases r with
  | error er => exact hx pins σ _ _ er s' I2 hq'
  | ok fl =>
    cases fl with
    | ret u =>
      obtain ⟨v, H', I3, rv, ev, q3⟩ := I2.after hq'
      subst ev
      exact ⟨rv, ⟨V.ref (hp.objs.size + 1), H', I3, rfl, q3⟩⟩
    | next => exact False.elim hq'
    | brk => exact False.elim hq'
    | cont => exact False.elim hq'
/-- isinstance(e, c), e an exception of the own class at C that stands in the heap with its dict -/
def rIsX (K : PySem.W.Frag) (C : Addr) : List V → Hp → VK → Prop := fun xs H Q => ∃ (a d : Addr) (fs : List (Str × V)) (c : V) (cv : Value) (b : Bool), xs = [.ref a, c] ∧ H a = some (exo a C (some d)) ∧ H d = some (exd d fs) ∧ ClsV c cv ∧ PySem.W.kitOne K (.ref C) cv = some b ∧ Q (.bl b) H
theorem call_isX {X : Cx} {C : Addr} (E : ExcC X.K C) : CallR X (.builtin "isinstance") (rIsX X.K C) := by
  intro pins s σ H xs us Q I r h
  obtain ⟨a, d, fs, c, cv, b, rfl, ea, ed, k, e, q⟩ := h
  obtain ⟨u1, u2, rfl, r1, r2⟩ := vals2 r
  have e2 := k.eq r2
  subst e2
  cases (show u1 = Value.ref a from r1)
  obtain ⟨⟨t1, hget⟩, _⟩ := I.hok a _ ea
  obtain ⟨⟨mA, hns, _⟩, _⟩ := I.hok d _ ed
  obtain ⟨od, ho, _⟩ := lookIn_ns hns
  obtain ⟨cd, hcD, _⟩ := PySem.W.any_some E.hd
  have J : PySem.W.InstAt s.heap a ({ cls := .ref C, dict := some d, data := .fields #[.ref t1, .none, .none, .none, .bool false, .none] } : Obj) C (some od) := ⟨hget, rfl, rfl, ho⟩
  exact PySem.W.kia_one (PySem.W.kitx_exc (by rw [hcD]; rfl) E.hg E.hk E.hs E.ha E.hn E.ht E.hm) I.kIn J e (fun z => nomatch z) fun tk => ⟨.bl b, H, I.tok tk, rfl, q⟩
theorem kit_own {K : PySem.W.Frag} {a b : Addr} (h1 : PySem.W.subIn K (.ref a) (.ref b) = some true) (h2 : PySem.W.isClsIn K b = true) (h3 : PySem.W.typeIn K (.ref b) = some (.type "type")) : PySem.W.kitOne K (.ref a) (.ref b) = some true := by
  unfold PySem.W.kitOne
  split
  · rfl
  · have h2' : (PySem.W.clsIn K b).isSome = true := h2
    show (if ((PySem.W.clsIn K b).isSome && PySem.W.typeIn K (.ref b) == some (.type "type")) = true then PySem.W.subIn K (.ref a) (.ref b) else none) = some true
    rw [h2', h3, if_pos (by rfl)]
    exact h1
theorem kit_ownN {K : PySem.W.Frag} {a b : Addr} (h1 : PySem.W.subIn K (.ref a) (.ref b) = some false) (h2 : PySem.W.isClsIn K b = true) (h3 : PySem.W.typeIn K (.ref b) = some (.type "type")) (h4 : (Value.ref a == Value.ref b) = false) : PySem.W.kitOne K (.ref a) (.ref b) = some false := by
  unfold PySem.W.kitOne
  rw [h4, if_neg Bool.false_ne_true]
  have h2' : (PySem.W.clsIn K b).isSome = true := h2
  show (if ((PySem.W.clsIn K b).isSome && PySem.W.typeIn K (.ref b) == some (.type "type")) = true then PySem.W.subIn K (.ref a) (.ref b) else none) = some false
  rw [h2', h3, if_pos (by rfl)]
  exact h1
end EX6
/-! ### a tuple times an int of any sign -/
namespace RN6
open PySem PySem.Spec PyProof.Rows L2
theorem tuple_mulN (l : Addr) (items : Array Value) (n : Nat) (dd : Option Addr) (sl : Array (Option Value)) (x : Int) (u : Tok) (c0 : (decide (x < -(2 ^ 63)) || decide (x ≥ 2 ^ 63)) = false) (c1 : (items.isEmpty || x == 1) = false) (c2 : (decide (x ≤ 0) || items.isEmpty) = true) :
    Meets (Builtin.«tuple.__mul__» ⟨[.ref l, .int x u], []⟩) (fun _ R s => s.heap.get? l = some { cls := .type "tuple", dict := dd, data := .seq items n, slots := sl } ∧
      R (.ok (.ret (Value.ref s.heap.objs.size))) { s with heap := s.heap.push { cls := Value.type "tuple", data := Data.seq #[] }, toks := s.toks }) :=
  .of_wp fun prog w A R s h => by
    obtain ⟨hp, g, d, tk, os⟩ := s
    obtain ⟨hl, h⟩ := h
    have f1 := AutoSeq1.idx_int
    wp_walk using wpAny_loadPart' hl
    repeat (first
      | (refine wpAny_ite_false (decide_eq_false (by rw [c0]; exact Bool.false_ne_true)) ?_; wp_walk using wpAny_loadPart' hl)
      | (refine wpAny_ite_false (decide_eq_false (by rw [c1]; exact Bool.false_ne_true)) ?_; wp_walk using wpAny_loadPart' hl)
      | (refine wpAny_ite_true (decide_eq_true c2) ?_; wp_walk using wpAny_loadPart' hl))
    exact ⟨_, rfl, h⟩
def rRepN (K : PySem.W.Frag) : R2 := fun x y H Q => ∃ l k xs, x = .ref l ∧ y = .int k ∧ SqT K H l xs ∧ -1000 ≤ k ∧ k ≤ 1000 ∧ xs.length ≤ 1000 ∧ ∀ p H', (∀ b o, H b = some o → H' b = some o) → SqT K H' p (List.replicate k.toNat xs).flatten → Q (.ref p) H'
theorem op_repN {X : Cx} : OpR X (binaryOp .Mult) (rRepN X.K) := by
  intro pins s σ H x y v u Q I rx ry h
  obtain ⟨l, k, xs, rfl, rfl, hT, h1, h2, hz, q⟩ := h
  by_cases hk : 1 ≤ k
  · exact RR.op_repZ pins s σ H _ _ v u Q I rx ry ⟨l, k, xs, rfl, rfl, hT, hk, h2, hz, q⟩
  · have c0 : (decide (k < -(2 ^ 63)) || decide (k ≥ 2 ^ 63)) = false := by
      rw [decide_eq_false (by omega), decide_eq_false (by omega)]
      rfl
    have e0 : k.toNat = 0 := by omega
    cases rx
    obtain ⟨t, rfl⟩ := ry
    obtain ⟨its, r, ⟨⟨cls, dd, data, sl⟩, ho, hc, n, hd⟩, hs⟩ := I.tuple hT
    simp only at hc hd
    subst hc hd
    by_cases hne : xs = []
    · subst hne
      cases r
      refine wpAny_binaryOp_repeat_ref (T := "tuple") (U := "int") (by decide) ⟨_, ho, rfl⟩ (fun s' => typeIs_int s' k t) noFill_tuple_mul F.fills_int_mul F.slot_int_rmul repeat_tuple F.slot_int_index.lookup
        (call_meets F.slot_int_rmul (typeIs_int s k t) F.entry_int_rmul (F.args_int_rmul_2 _ _) (int_rmul_tuple k t l #[] n dd sl)
          ⟨ho, rfl, ⟨_, ho, rfl⟩, call_meets F.slot_tuple_mul ⟨_, ho, rfl⟩ F.entry_tuple_mul (F.args_tuple_mul_2 _ _) (RR.tuple_mul0 l n dd sl k t c0) ⟨ho, ?_⟩⟩)
      exact ⟨.ref l, H, I, rfl, q l H (fun _ _ h => h) (by rw [RR.flat_nil]; exact hT)⟩
    · have hle : its.length = xs.length := r.length.symm
      have hn : its ≠ [] := fun e => hne (by
        rw [e] at hle
        exact List.eq_nil_of_length_eq_zero hle.symm)
      have hi : its.toArray.isEmpty = false := by
        cases its with
        | nil => exact absurd rfl hn
        | cons a b => rfl
      have c1 : (its.toArray.isEmpty || k == 1) = false := by
        rw [hi, Bool.false_or]
        exact beq_eq_false_iff_ne.mpr (by omega)
      have c2 : (decide (k ≤ 0) || its.toArray.isEmpty) = true := by
        rw [decide_eq_true (by omega)]
        rfl
      refine wpAny_binaryOp_repeat_ref (T := "tuple") (U := "int") (by decide) ⟨_, ho, rfl⟩ (fun s' => typeIs_int s' k t) noFill_tuple_mul F.fills_int_mul F.slot_int_rmul repeat_tuple F.slot_int_index.lookup
        (call_meets F.slot_int_rmul (typeIs_int s k t) F.entry_int_rmul (F.args_int_rmul_2 _ _) (int_rmul_tuple k t l its.toArray n dd sl)
          ⟨ho, rfl, ⟨_, ho, rfl⟩, call_meets F.slot_tuple_mul ⟨_, ho, rfl⟩ F.entry_tuple_mul (F.args_tuple_mul_2 _ _) (tuple_mulN l its.toArray n dd sl k t c0 c1 c2) ⟨ho, ?_⟩⟩)
      have hf : H s.heap.objs.size = none := I.hok.fresh (Nat.le_refl _)
      refine ⟨.ref s.heap.objs.size, _, I.laid (t' := s.toks) (o := .tup []) (fun b ob q => Heap.get?_push_of_some _ q) (Nat.le_refl _) ?_, rfl, q _ _ (fun b o e => by rw [upd_ne (ne_of_none e hf)]; exact e) (SqT.of ?_)⟩
      · exact ⟨Nat.zero_le _, [], .nil, IsTup.new _ _⟩
      · rw [upd_same, e0]
        rfl
end RN6

set_option Elab.async false
set_option linter.all false
set_option maxRecDepth 100000
set_option maxHeartbeats 4000000
namespace My
open PySem PySem.Spec PyProof.Rows L2
def topS (i : Nat) : Stmt := PySem.Challenge.pw_loopstore_k19_whole_the_first_meeting_of.main.body.getD i (.Pass ⟨0, 0, 0, 0⟩)
abbrev s_is_integer : Stmt := topS 13
theorem sc_is_integer : FnScope ["thing"] ["thing"] (defScope s_is_integer) := ⟨rfl, rfl, rfl, by decide +kernel, rfl, by decide +kernel, by decide +kernel⟩
abbrev s_is_number : Stmt := topS 14
theorem sc_is_number : FnScope ["thing", "least", "most"] ["thing", "least", "most"] (defScope s_is_number) := ⟨rfl, rfl, rfl, by decide +kernel, rfl, by decide +kernel, by decide +kernel⟩
abbrev s_are_numbers : Stmt := topS 15
theorem sc_are_numbers : FnScope ["things", "least", "most", "thing"] ["things", "least", "most"] (defScope s_are_numbers) := ⟨rfl, rfl, rfl, by decide +kernel, rfl, by decide +kernel, by decide +kernel⟩
abbrev s_is_comings : Stmt := topS 16
theorem sc_is_comings : FnScope ["comers", "thing"] ["comers", "thing"] (defScope s_is_comings) := ⟨rfl, rfl, rfl, by decide +kernel, rfl, by decide +kernel, by decide +kernel⟩
abbrev s_is_loops : Stmt := topS 17
theorem sc_is_loops : FnScope ["thing"] ["thing"] (defScope s_is_loops) := ⟨rfl, rfl, rfl, by decide +kernel, rfl, by decide +kernel, by decide +kernel⟩
abbrev s_is_row : Stmt := topS 18
theorem sc_is_row : FnScope ["loops", "thing"] ["loops", "thing"] (defScope s_is_row) := ⟨rfl, rfl, rfl, by decide +kernel, rfl, by decide +kernel, by decide +kernel⟩
abbrev s_check_comers : Stmt := topS 19
theorem sc_check_comers : FnScope ["thing"] ["thing"] (defScope s_check_comers) := ⟨rfl, rfl, rfl, by decide +kernel, rfl, by decide +kernel, by decide +kernel⟩
abbrev s_check_comings : Stmt := topS 20
theorem sc_check_comings : FnScope ["comers", "thing"] ["comers", "thing"] (defScope s_check_comings) := ⟨rfl, rfl, rfl, by decide +kernel, rfl, by decide +kernel, by decide +kernel⟩
abbrev s_follow_line : Stmt := topS 22
theorem sc_follow_line : FnScope ["bound", "line", "comings", "letters", "behind", "tick", "number", "turn"] ["bound", "line", "comings"] (defScope s_follow_line) := ⟨rfl, rfl, rfl, by decide +kernel, rfl, by decide +kernel, by decide +kernel⟩
abbrev s_letters_of : Stmt := topS 23
theorem sc_letters_of : FnScope ["bound", "comings", "letters", "_"] ["bound", "comings"] (defScope s_letters_of) := ⟨rfl, rfl, rfl, by decide +kernel, rfl, by decide +kernel, by decide +kernel⟩
abbrev s_row_sum : Stmt := topS 25
theorem sc_row_sum : FnScope ["loops", "row", "loop"] ["loops", "row"] (defScope s_row_sum) := ⟨rfl, rfl, rfl, by decide +kernel, rfl, by decide +kernel, by decide +kernel⟩
abbrev s_row_entries : Stmt := topS 27
theorem sc_row_entries : FnScope ["loops", "row", "found", "gone", "left", "loop"] ["loops", "row"] (defScope s_row_entries) := ⟨rfl, rfl, rfl, by decide +kernel, rfl, by decide +kernel, by decide +kernel⟩
abbrev s_wait_row : Stmt := topS 28
theorem sc_wait_row : FnScope ["table", "wait"] ["table", "wait"] (defScope s_wait_row) := ⟨rfl, rfl, rfl, by decide +kernel, rfl, by decide +kernel, by decide +kernel⟩
abbrev s_wait_entries : Stmt := topS 29
theorem sc_wait_entries : FnScope ["table", "wait"] ["table", "wait"] (defScope s_wait_entries) := ⟨rfl, rfl, rfl, by decide +kernel, rfl, by decide +kernel, by decide +kernel⟩
abbrev s_layings_of : Stmt := topS 31
theorem sc_layings_of : FnScope ["table", "tick", "letter", "wait", "loop", "gone", "left"] ["table", "tick", "letter", "wait"] (defScope s_layings_of) := ⟨rfl, rfl, rfl, by decide +kernel, rfl, by decide +kernel, by decide +kernel⟩
abbrev s_changed_layings : Stmt := topS 32
theorem sc_changed_layings : FnScope ["one", "other", "comings", "change", "found", "letter", "tick", "_", "wait"] ["one", "other", "comings", "change"] (defScope s_changed_layings) := ⟨rfl, rfl, rfl, by decide +kernel, rfl, by decide +kernel, by decide +kernel⟩
abbrev s_table_layings : Stmt := topS 33
theorem sc_table_layings : FnScope ["table", "comings"] ["table", "comings"] (defScope s_table_layings) := ⟨rfl, rfl, rfl, by decide +kernel, rfl, by decide +kernel, by decide +kernel⟩
abbrev s_first_meet : Stmt := topS 34
theorem sc_first_meet : FnScope ["layings", "found", "one", "other", "tick", "letter", "loop"] ["layings"] (defScope s_first_meet) := ⟨rfl, rfl, rfl, by decide +kernel, rfl, by decide +kernel, by decide +kernel⟩
abbrev s_check_meet : Stmt := topS 35
theorem sc_check_meet : FnScope ["layings", "met"] ["layings"] (defScope s_check_meet) := ⟨rfl, rfl, rfl, by decide +kernel, rfl, by decide +kernel, by decide +kernel⟩
abbrev s_day : Stmt := topS 36
theorem sc_day : FnScope ["table", "comers", "comings", "layings"] ["table", "comers", "comings"] (defScope s_day) := ⟨rfl, rfl, rfl, by decide +kernel, rfl, by decide +kernel, by decide +kernel⟩
abbrev s__law_tape : Stmt := topS 38
theorem sc__law_tape : FnScope ["script"] ["script"] (defScope s__law_tape) := ⟨rfl, rfl, rfl, by decide +kernel, rfl, by decide +kernel, by decide +kernel⟩
abbrev s__law_pick : Stmt := topS 39
theorem sc__law_pick : FnScope ["tape", "size", "digit", "cell", "mixed"] ["tape", "size"] (defScope s__law_pick) := ⟨rfl, rfl, rfl, by decide +kernel, rfl, by decide +kernel, by decide +kernel⟩
abbrev s__law_loops : Stmt := topS 40
theorem sc__law_loops : FnScope ["tape", "most", "longest", "many", "found", "k"] ["tape", "most", "longest"] (defScope s__law_loops) := ⟨rfl, rfl, rfl, by decide +kernel, rfl, by decide +kernel, by decide +kernel⟩
abbrev s__law_row : Stmt := topS 41
theorem sc__law_row : FnScope ["tape", "loops", "wait", "row", "left", "again", "turn", "fitting", "k"] ["tape", "loops", "wait"] (defScope s__law_row) := ⟨rfl, rfl, rfl, by decide +kernel, rfl, by decide +kernel, by decide +kernel⟩
abbrev s__law_rows : Stmt := topS 42
theorem sc__law_rows : FnScope ["tape", "loops", "bound", "wait"] ["tape", "loops", "bound"] (defScope s__law_rows) := ⟨rfl, rfl, rfl, by decide +kernel, rfl, by decide +kernel, by decide +kernel⟩
abbrev s__law_order : Stmt := topS 43
theorem sc__law_order : FnScope ["loops", "pair", "k"] ["loops"] (defScope s__law_order) := ⟨rfl, rfl, rfl, by decide +kernel, rfl, by decide +kernel, by decide +kernel⟩
abbrev s__law_digits : Stmt := topS 44
theorem sc__law_digits : FnScope ["loops", "wait", "row", "left", "loop"] ["loops", "wait"] (defScope s__law_digits) := ⟨rfl, rfl, rfl, by decide +kernel, rfl, by decide +kernel, by decide +kernel⟩
abbrev s__law_doubled : Stmt := topS 45
theorem sc__law_doubled : FnScope ["tape", "most", "row", "turn", "length", "found"] ["tape", "most"] (defScope s__law_doubled) := ⟨rfl, rfl, rfl, by decide +kernel, rfl, by decide +kernel, by decide +kernel⟩
abbrev s__law_doubled_rows : Stmt := topS 46
theorem sc__law_doubled_rows : FnScope ["loops", "wait"] ["loops"] (defScope s__law_doubled_rows) := ⟨rfl, rfl, rfl, by decide +kernel, rfl, by decide +kernel, by decide +kernel⟩
abbrev s__law_scene : Stmt := topS 47
theorem sc__law_scene : FnScope ["tape", "most", "loops", "rows"] ["tape", "most"] (defScope s__law_scene) := ⟨rfl, rfl, rfl, by decide +kernel, rfl, by decide +kernel, by decide +kernel⟩
abbrev s__law_comings : Stmt := topS 48
theorem sc__law_comings : FnScope ["tape", "comers", "most", "found", "greedy", "k", "number"] ["tape", "comers", "most"] (defScope s__law_comings) := ⟨rfl, rfl, rfl, by decide +kernel, rfl, by decide +kernel, by decide +kernel⟩
abbrev s__law_line : Stmt := topS 49
theorem sc__law_line : FnScope ["bound", "comings", "found", "line", "tick", "turn"] ["bound", "comings"] (defScope s__law_line) := ⟨rfl, rfl, rfl, by decide +kernel, rfl, by decide +kernel, by decide +kernel⟩
abbrev s__law_entries : Stmt := topS 50
theorem sc__law_entries : FnScope ["loops", "row", "total", "found", "gone", "k"] ["loops", "row"] (defScope s__law_entries) := ⟨rfl, rfl, rfl, by decide +kernel, rfl, by decide +kernel, by decide +kernel⟩
abbrev s__law_layings : Stmt := topS 51
theorem sc__law_layings : FnScope ["loops", "rows", "comings", "letters", "found", "letter", "tick", "turn", "wait", "loop", "gone", "left"] ["loops", "rows", "comings"] (defScope s__law_layings) := ⟨rfl, rfl, rfl, by decide +kernel, rfl, by decide +kernel, by decide +kernel⟩
abbrev s__law_meet : Stmt := topS 52
theorem sc__law_meet : FnScope ["layings", "seen", "best", "tick", "letter", "loop"] ["layings"] (defScope s__law_meet) := ⟨rfl, rfl, rfl, by decide +kernel, rfl, by decide +kernel, by decide +kernel⟩
abbrev s__law_asked : Stmt := topS 53
theorem sc__law_asked : FnScope ["table", "comers", "comings", "told", "e"] ["table", "comers", "comings"] (defScope s__law_asked) := ⟨rfl, rfl, rfl, by decide +kernel, rfl, by decide +kernel, by decide +kernel⟩
abbrev s_law : Stmt := topS 54
theorem sc_law : FnScope ["script", "tape", "turn", "loops", "rows", "comers", "comings", "table", "due", "again", "told"] ["script"] (defScope s_law) := ⟨rfl, rfl, rfl, by decide +kernel, rfl, by decide +kernel, by decide +kernel⟩
abbrev s_Meet___init__ : Stmt := inClass (topS 5) 0
theorem sc_Meet___init__ : FnScope ["self", "tick", "loop"] ["self", "tick", "loop"] (defScope s_Meet___init__) := ⟨rfl, rfl, rfl, by decide +kernel, rfl, by decide +kernel, by decide +kernel⟩
abbrev s_Table___init__ : Stmt := inClass (topS 26) 0
theorem sc_Table___init__ : FnScope ["self", "loops", "rows", "at", "row"] ["self", "loops", "rows"] (defScope s_Table___init__) := ⟨rfl, rfl, rfl, by decide +kernel, rfl, by decide +kernel, by decide +kernel⟩
structure Tx (K : PySem.W.Frag) (mg : Str → Option Value) where
  a_is_integer : Addr
  d_is_integer : FuncData
  F_is_integer : Fun K "is_integer" "is_integer" s_is_integer a_is_integer d_is_integer
  b_is_integer : Binds K d_is_integer ["thing"] []
  g_is_integer : mg "is_integer" = some (.ref a_is_integer)
  a_is_number : Addr
  d_is_number : FuncData
  F_is_number : Fun K "is_number" "is_number" s_is_number a_is_number d_is_number
  b_is_number : Binds K d_is_number ["thing", "least", "most"] []
  g_is_number : mg "is_number" = some (.ref a_is_number)
  a_are_numbers : Addr
  d_are_numbers : FuncData
  F_are_numbers : Fun K "are_numbers" "are_numbers" s_are_numbers a_are_numbers d_are_numbers
  b_are_numbers : Binds K d_are_numbers ["things", "least", "most"] []
  g_are_numbers : mg "are_numbers" = some (.ref a_are_numbers)
  a_is_comings : Addr
  d_is_comings : FuncData
  F_is_comings : Fun K "is_comings" "is_comings" s_is_comings a_is_comings d_is_comings
  b_is_comings : Binds K d_is_comings ["comers", "thing"] []
  g_is_comings : mg "is_comings" = some (.ref a_is_comings)
  a_is_loops : Addr
  d_is_loops : FuncData
  F_is_loops : Fun K "is_loops" "is_loops" s_is_loops a_is_loops d_is_loops
  b_is_loops : Binds K d_is_loops ["thing"] []
  g_is_loops : mg "is_loops" = some (.ref a_is_loops)
  a_is_row : Addr
  d_is_row : FuncData
  F_is_row : Fun K "is_row" "is_row" s_is_row a_is_row d_is_row
  b_is_row : Binds K d_is_row ["loops", "thing"] []
  g_is_row : mg "is_row" = some (.ref a_is_row)
  a_check_comers : Addr
  d_check_comers : FuncData
  F_check_comers : Fun K "check_comers" "check_comers" s_check_comers a_check_comers d_check_comers
  b_check_comers : Binds K d_check_comers ["thing"] []
  g_check_comers : mg "check_comers" = some (.ref a_check_comers)
  a_check_comings : Addr
  d_check_comings : FuncData
  F_check_comings : Fun K "check_comings" "check_comings" s_check_comings a_check_comings d_check_comings
  b_check_comings : Binds K d_check_comings ["comers", "thing"] []
  g_check_comings : mg "check_comings" = some (.ref a_check_comings)
  a_follow_line : Addr
  d_follow_line : FuncData
  F_follow_line : Fun K "follow_line" "follow_line" s_follow_line a_follow_line d_follow_line
  b_follow_line : Binds K d_follow_line ["bound", "line", "comings"] []
  g_follow_line : mg "follow_line" = some (.ref a_follow_line)
  a_letters_of : Addr
  d_letters_of : FuncData
  F_letters_of : Fun K "letters_of" "letters_of" s_letters_of a_letters_of d_letters_of
  b_letters_of : Binds K d_letters_of ["bound", "comings"] []
  g_letters_of : mg "letters_of" = some (.ref a_letters_of)
  a_row_sum : Addr
  d_row_sum : FuncData
  F_row_sum : Fun K "row_sum" "row_sum" s_row_sum a_row_sum d_row_sum
  b_row_sum : Binds K d_row_sum ["loops", "row"] []
  g_row_sum : mg "row_sum" = some (.ref a_row_sum)
  a_row_entries : Addr
  d_row_entries : FuncData
  F_row_entries : Fun K "row_entries" "row_entries" s_row_entries a_row_entries d_row_entries
  b_row_entries : Binds K d_row_entries ["loops", "row"] []
  g_row_entries : mg "row_entries" = some (.ref a_row_entries)
  a_wait_row : Addr
  d_wait_row : FuncData
  F_wait_row : Fun K "wait_row" "wait_row" s_wait_row a_wait_row d_wait_row
  b_wait_row : Binds K d_wait_row ["table", "wait"] []
  g_wait_row : mg "wait_row" = some (.ref a_wait_row)
  a_wait_entries : Addr
  d_wait_entries : FuncData
  F_wait_entries : Fun K "wait_entries" "wait_entries" s_wait_entries a_wait_entries d_wait_entries
  b_wait_entries : Binds K d_wait_entries ["table", "wait"] []
  g_wait_entries : mg "wait_entries" = some (.ref a_wait_entries)
  a_layings_of : Addr
  d_layings_of : FuncData
  F_layings_of : Fun K "layings_of" "layings_of" s_layings_of a_layings_of d_layings_of
  b_layings_of : Binds K d_layings_of ["table", "tick", "letter", "wait"] []
  g_layings_of : mg "layings_of" = some (.ref a_layings_of)
  a_changed_layings : Addr
  d_changed_layings : FuncData
  F_changed_layings : Fun K "changed_layings" "changed_layings" s_changed_layings a_changed_layings d_changed_layings
  b_changed_layings : Binds K d_changed_layings ["one", "other", "comings", "change"] []
  g_changed_layings : mg "changed_layings" = some (.ref a_changed_layings)
  a_table_layings : Addr
  d_table_layings : FuncData
  F_table_layings : Fun K "table_layings" "table_layings" s_table_layings a_table_layings d_table_layings
  b_table_layings : Binds K d_table_layings ["table", "comings"] []
  g_table_layings : mg "table_layings" = some (.ref a_table_layings)
  a_first_meet : Addr
  d_first_meet : FuncData
  F_first_meet : Fun K "first_meet" "first_meet" s_first_meet a_first_meet d_first_meet
  b_first_meet : Binds K d_first_meet ["layings"] []
  g_first_meet : mg "first_meet" = some (.ref a_first_meet)
  a_check_meet : Addr
  d_check_meet : FuncData
  F_check_meet : Fun K "check_meet" "check_meet" s_check_meet a_check_meet d_check_meet
  b_check_meet : Binds K d_check_meet ["layings"] []
  g_check_meet : mg "check_meet" = some (.ref a_check_meet)
  a_day : Addr
  d_day : FuncData
  F_day : Fun K "day" "day" s_day a_day d_day
  b_day : Binds K d_day ["table", "comers", "comings"] []
  g_day : mg "day" = some (.ref a_day)
  a__law_tape : Addr
  d__law_tape : FuncData
  F__law_tape : Fun K "_law_tape" "_law_tape" s__law_tape a__law_tape d__law_tape
  b__law_tape : Binds K d__law_tape ["script"] []
  g__law_tape : mg "_law_tape" = some (.ref a__law_tape)
  a__law_pick : Addr
  d__law_pick : FuncData
  F__law_pick : Fun K "_law_pick" "_law_pick" s__law_pick a__law_pick d__law_pick
  b__law_pick : Binds K d__law_pick ["tape", "size"] []
  g__law_pick : mg "_law_pick" = some (.ref a__law_pick)
  a__law_loops : Addr
  d__law_loops : FuncData
  F__law_loops : Fun K "_law_loops" "_law_loops" s__law_loops a__law_loops d__law_loops
  b__law_loops : Binds K d__law_loops ["tape", "most", "longest"] []
  g__law_loops : mg "_law_loops" = some (.ref a__law_loops)
  a__law_row : Addr
  d__law_row : FuncData
  F__law_row : Fun K "_law_row" "_law_row" s__law_row a__law_row d__law_row
  b__law_row : Binds K d__law_row ["tape", "loops", "wait"] []
  g__law_row : mg "_law_row" = some (.ref a__law_row)
  a__law_rows : Addr
  d__law_rows : FuncData
  F__law_rows : Fun K "_law_rows" "_law_rows" s__law_rows a__law_rows d__law_rows
  b__law_rows : Binds K d__law_rows ["tape", "loops", "bound"] []
  g__law_rows : mg "_law_rows" = some (.ref a__law_rows)
  a__law_order : Addr
  d__law_order : FuncData
  F__law_order : Fun K "_law_order" "_law_order" s__law_order a__law_order d__law_order
  b__law_order : Binds K d__law_order ["loops"] []
  g__law_order : mg "_law_order" = some (.ref a__law_order)
  a__law_digits : Addr
  d__law_digits : FuncData
  F__law_digits : Fun K "_law_digits" "_law_digits" s__law_digits a__law_digits d__law_digits
  b__law_digits : Binds K d__law_digits ["loops", "wait"] []
  g__law_digits : mg "_law_digits" = some (.ref a__law_digits)
  a__law_doubled : Addr
  d__law_doubled : FuncData
  F__law_doubled : Fun K "_law_doubled" "_law_doubled" s__law_doubled a__law_doubled d__law_doubled
  b__law_doubled : Binds K d__law_doubled ["tape", "most"] []
  g__law_doubled : mg "_law_doubled" = some (.ref a__law_doubled)
  a__law_doubled_rows : Addr
  d__law_doubled_rows : FuncData
  F__law_doubled_rows : Fun K "_law_doubled_rows" "_law_doubled_rows" s__law_doubled_rows a__law_doubled_rows d__law_doubled_rows
  b__law_doubled_rows : Binds K d__law_doubled_rows ["loops"] []
  g__law_doubled_rows : mg "_law_doubled_rows" = some (.ref a__law_doubled_rows)
  a__law_scene : Addr
  d__law_scene : FuncData
  F__law_scene : Fun K "_law_scene" "_law_scene" s__law_scene a__law_scene d__law_scene
  b__law_scene : Binds K d__law_scene ["tape", "most"] []
  g__law_scene : mg "_law_scene" = some (.ref a__law_scene)
  a__law_comings : Addr
  d__law_comings : FuncData
  F__law_comings : Fun K "_law_comings" "_law_comings" s__law_comings a__law_comings d__law_comings
  b__law_comings : Binds K d__law_comings ["tape", "comers", "most"] []
  g__law_comings : mg "_law_comings" = some (.ref a__law_comings)
  a__law_line : Addr
  d__law_line : FuncData
  F__law_line : Fun K "_law_line" "_law_line" s__law_line a__law_line d__law_line
  b__law_line : Binds K d__law_line ["bound", "comings"] []
  g__law_line : mg "_law_line" = some (.ref a__law_line)
  a__law_entries : Addr
  d__law_entries : FuncData
  F__law_entries : Fun K "_law_entries" "_law_entries" s__law_entries a__law_entries d__law_entries
  b__law_entries : Binds K d__law_entries ["loops", "row"] []
  g__law_entries : mg "_law_entries" = some (.ref a__law_entries)
  a__law_layings : Addr
  d__law_layings : FuncData
  F__law_layings : Fun K "_law_layings" "_law_layings" s__law_layings a__law_layings d__law_layings
  b__law_layings : Binds K d__law_layings ["loops", "rows", "comings"] []
  g__law_layings : mg "_law_layings" = some (.ref a__law_layings)
  a__law_meet : Addr
  d__law_meet : FuncData
  F__law_meet : Fun K "_law_meet" "_law_meet" s__law_meet a__law_meet d__law_meet
  b__law_meet : Binds K d__law_meet ["layings"] []
  g__law_meet : mg "_law_meet" = some (.ref a__law_meet)
  a__law_asked : Addr
  d__law_asked : FuncData
  F__law_asked : Fun K "_law_asked" "_law_asked" s__law_asked a__law_asked d__law_asked
  b__law_asked : Binds K d__law_asked ["table", "comers", "comings"] []
  g__law_asked : mg "_law_asked" = some (.ref a__law_asked)
  a_law : Addr
  d_law : FuncData
  F_law : Fun K "law" "law" s_law a_law d_law
  b_law : Binds K d_law ["script"] []
  g_law : mg "law" = some (.ref a_law)
  m_all : mg "all" = none
  m_bool : mg "bool" = none
  m_enumerate : mg "enumerate" = none
  m_int : mg "int" = none
  m_isinstance : mg "isinstance" = none
  m_len : mg "len" = none
  m_list : mg "list" = none
  m_max : mg "max" = none
  m_range : mg "range" = none
  m_sorted : mg "sorted" = none
  m_sum : mg "sum" = none
  m_tuple : mg "tuple" = none
  m_zip : mg "zip" = none
  t_MOST_BOUND : Tok
  g_MOST_BOUND : mg "MOST_BOUND" = some (.int 60 t_MOST_BOUND)
  t_MOST_COMERS : Tok
  g_MOST_COMERS : mg "MOST_COMERS" = some (.int 4 t_MOST_COMERS)
  t_MOST_ITEMS : Tok
  g_MOST_ITEMS : mg "MOST_ITEMS" = some (.int 60 t_MOST_ITEMS)
  t_MOST_LENGTH : Tok
  g_MOST_LENGTH : mg "MOST_LENGTH" = some (.int 40 t_MOST_LENGTH)
  t_MOST_LOOPS : Tok
  g_MOST_LOOPS : mg "MOST_LOOPS" = some (.int 8 t_MOST_LOOPS)
  t_MOST_TICKS : Tok
  g_MOST_TICKS : mg "MOST_TICKS" = some (.int 400 t_MOST_TICKS)
  c_LoopError : Addr
  g_LoopError : mg "LoopError" = some (.ref c_LoopError)
  c_Meet : Addr
  g_Meet : mg "Meet" = some (.ref c_Meet)
  c_Table : Addr
  g_Table : mg "Table" = some (.ref c_Table)
  a_Meet___init__ : Addr
  d_Meet___init__ : FuncData
  F_Meet___init__ : Fun K "__init__" "Meet.__init__" s_Meet___init__ a_Meet___init__ d_Meet___init__
  b_Meet___init__ : Binds K d_Meet___init__ ["self", "tick", "loop"] []
  x_Meet : OexC K c_Meet
  i_Meet : PySem.W.findIn K (.ref c_Meet) "__init__" = some (some (.ref a_Meet___init__))
  ti_Meet : PySem.W.typeIn K (.ref a_Meet___init__) = some (.type "function")
  e_Meet : PySem.W.exmOne K (.ref c_Meet) (.ref c_Meet) = some true
  n_Meet_tick : PySem.W.findIn K (.ref c_Meet) "tick" = some none
  n_Meet_loop : PySem.W.findIn K (.ref c_Meet) "loop" = some none
  a_Table___init__ : Addr
  d_Table___init__ : FuncData
  F_Table___init__ : Fun K "__init__" "Table.__init__" s_Table___init__ a_Table___init__ d_Table___init__
  b_Table___init__ : Binds K d_Table___init__ ["self", "loops", "rows"] []
  mk_Table : Mk K c_Table a_Table___init__
  cl_Table : Cls K c_Table
  n_Table_loops : NoAttr K c_Table "loops"
  n_Table_rows : NoAttr K c_Table "rows"
  n_Table_bound : NoAttr K c_Table "bound"
  ec_Meet : ExcC K c_Meet
  kt_Meet_LoopError : PySem.W.kitOne K (.ref c_Meet) (.ref c_LoopError) = some true
def tv (l : Ln.Let) : List V := [.int l.1, .int l.2.1, wv l.2.2]
/-- comings that are right -/
def Rt (k : Int) (cs : List Int) : Prop := cs.length ≤ 400 ∧ ∀ c ∈ cs, 0 ≤ c ∧ c ≤ k
theorem Rt.four {k : Int} {cs : List Int} (h : Rt k cs) (hk : k ≤ 4) : ∀ c ∈ cs, c ≤ 4 := fun c hc => by
  have := h.2 c hc
  omega
theorem Rt.all {k : Int} {cs : List Int} (h : Rt k cs) : (cs.all fun n => decide (0 ≤ n) && decide (n ≤ k)) = true := by
  rw [List.all_eq_true]
  intro n hn
  have := h.2 n hn
  rw [Bool.and_eq_true]
  exact ⟨decide_eq_true this.1, decide_eq_true this.2⟩

section
variable {P : Program} {w : World} {K : PySem.W.Frag} {mg : Str → Option Value} {base : Heap}
def spTape (K : PySem.W.Frag) : Sp := fun vs H Q _ => ∃ (a : Addr) (ns : List Int), vs = [.ref a] ∧ SqL K H a (ns.map V.int) ∧ ∀ t s H', H t = none → H s = none → Same H H' → Tape H' t s → Q (.ref t) H'
theorem ok__law_tape (T : Tx K mg) : FnOk P w K mg base CX0 1 T.a__law_tape T.d__law_tape ["script"] (spTape K) := by
  refine T.F__law_tape.ok sc__law_tape (fun vs H Q E h => ?_) (fun cdv A outer s H vs Q E hr h => ?_)
  · obtain ⟨a, ns, rfl, _⟩ := h
    rfl
  · obtain ⟨a, ns, rfl, hS, q⟩ := h
    refine ⟨_, ((pss_one (ps_ret (pe_lst (pa_cons (pe_callTy call_list_of (by rfl) T.m_list (by decide +kernel) (pa_cons (pv 0) pa_nil)) (pa_cons pe_int (pa_cons pe_int (pa_cons pe_int (pa_cons pe_int pa_nil))))))))), ?_⟩
    refine ⟨.ref a, rfl, a, _, rfl, .inl hS, fun l nl => ?_⟩
    refine ⟨by show 5 ≤ sizeLine; decide, fun t nt => ?_⟩
    have nlt : l ≠ t := fun e => by
      rw [← e, upd_same] at nt
      cases nt
    have s1 : Same H (upd H l (.lst (ns.map V.int))) := same_upd nl
    refine q t l _ (Same.free s1 nt) nl (s1.trans (same_upd nt)) ⟨ns, 0, 0, 1, 0, nlt, upd_same, ?_, by decide⟩
    rw [upd_ne nlt, upd_same]
def spPick (K : PySem.W.Frag) : Sp := fun vs H Q _ => ∃ (t s : Addr) (n : Int), vs = [.ref t, .int n] ∧ (0 < n ∧ n < 2 ^ 60) ∧ Tape H t s ∧ ∀ r H', 0 ≤ r → r < n → Moved t H H' → Tape H' t s → Q (.int r) H'
theorem fm_of {a b : Int} (h : 0 < b) : 0 ≤ a.fmod b ∧ a.fmod b < b := by
  rw [Int.fmod_eq_emod_of_nonneg a (Int.le_of_lt h)]
  exact ⟨Int.emod_nonneg a (by omega), Int.emod_lt_of_pos a h⟩
theorem ok__law_pick (T : Tx K mg) : FnOk P w K mg base CX0 1 T.a__law_pick T.d__law_pick ["tape", "size"] (spPick K) := by
  refine T.F__law_pick.ok sc__law_pick (fun vs H Q E h => ?_) (fun cdv A outer s H vs Q E hr h => ?_)
  · obtain ⟨t, l, n, rfl, _⟩ := h
    rfl
  · obtain ⟨t, l, n, rfl, ⟨hn, hn2⟩, ⟨ns, pos, rest, mx, ct, hlt, ht, hl, hp⟩, q⟩ := h
    have wd : ∀ i : Int, CDivW i n := fun i => wide_div hn (b := 60) (by omega) (by decide) (by decide)
    refine ⟨_, ((pss_cons (ps_if (pt_cmpR op_gt (pe_ix ix_list (pv 0) pe_int (fun _ _ => rfl)) pe_int (nomark _)) (pss_cons (ps_set (i := 2) sc__law_pick.nd rfl (.inl rfl) (pe_op op_modN (pe_callTy call_int1 (by rfl) T.m_int (by decide +kernel) (pa_cons (pe_ix ix_list (pv 0) pe_int (fun _ _ => rfl)) pa_nil)) (pv 1)))
  (pss_cons (ps_asg (pe_op op_fdivW (pe_ix ix_list (pv 0) pe_int (fun _ _ => rfl)) (pv 1)) (pg_sub (pv 0) pe_int set_list))
  (pss_one (ps_ret (pv 2))))) pss_nil)
  (pss_cons (ps_asg (pe_op op_add (pe_ix ix_list (pv 0) pe_int (fun _ _ => rfl)) pe_int) (pg_sub (pv 0) pe_int set_list))
  (pss_cons (ps_set (i := 3) sc__law_pick.nd rfl (.inl rfl) pe_int)
  (Evl.pss_cut (ps_if (pt_cmpR op_lt (pe_ix ix_list (pv 0) pe_int (fun _ _ => rfl)) (pe_callB call_len_seq (by rfl) T.m_len PySem.boot_len (pa_cons (pe_ix ix_list (pv 0) pe_int (fun _ _ => rfl)) pa_nil)) (nomark _)) (pss_cons (ps_set (i := 3) sc__law_pick.nd rfl (.inl rfl) (pe_ix ix_list (pe_ix ix_list (pv 0) pe_int (fun _ _ => rfl)) (pe_ix ix_list (pv 0) pe_int (fun _ _ => rfl)) (fun _ _ => rfl)))
  (pss_one (ps_asg (pe_op op_add (pe_ix ix_list (pv 0) pe_int (fun _ _ => rfl)) pe_int) (pg_sub (pv 0) pe_int set_list)))) pss_nil)
  (pss_cons (ps_if (pt_cmpR op_ge (pv 3) (pe_op op_pow pe_int pe_int) (nomark _)) (pss_cons (ps_asg (pe_op op_fdivW (pv 3) (pv 1)) (pg_sub (pv 0) pe_int set_list))
  (pss_one (ps_ret (pe_op op_modN (pe_callTy call_int1 (by rfl) T.m_int (by decide +kernel) (pa_cons (pv 3) pa_nil)) (pv 1))))) pss_nil)
  (pss_cons (ps_set (i := 4) sc__law_pick.nd rfl (.inl rfl) (pe_op op_modN (pe_callTy call_int1 (by rfl) T.m_int (by decide +kernel) (pa_cons (pe_op op_add (pe_op op_add (pe_op op_mul (pe_ix ix_list (pv 0) pe_int (fun _ _ => rfl)) pe_int) (pe_op op_modN (pe_callTy call_int1 (by rfl) T.m_int (by decide +kernel) (pa_cons (pv 3) pa_nil)) pe_int)) (pe_op op_mul (pe_ix ix_list (pv 0) pe_int (fun _ _ => rfl)) pe_int)) pa_nil)) pe_int))
  (pss_cons (ps_set (i := 4) sc__law_pick.nd rfl (.inl rfl) (pe_op op_modN (pe_callTy call_int1 (by rfl) T.m_int (by decide +kernel) (pa_cons (pe_op op_mul (pv 4) (pe_op op_add (pe_op op_fdivW (pv 4) pe_int) pe_int)) pa_nil)) pe_int))
  (pss_cons (ps_asg (pv 4) (pg_sub (pv 0) pe_int set_list))
  (pss_one (ps_ret (pe_op op_modN (pe_callTy call_int1 (by rfl) T.m_int (by decide +kernel) (pa_cons (pe_op op_fdivW (pv 4) pe_int) pa_nil)) (pv 1))))))))))))), ?_⟩
    -- tape[2] > 1
    refine ⟨.ref t, rfl, t, _, 2, _, rfl, rfl, SqL.of ht, atI_nat (j := 2) rfl, _, _, rfl, rfl, _, rfl, ite2 (fun h1 => ?_) (fun h1 => ?_)⟩
    · -- digit
      refine ⟨.ref t, rfl, t, _, 2, _, rfl, rfl, SqL.of ht, atI_nat (j := 2) rfl, .inl ⟨_, rfl, ?_⟩⟩
      refine ⟨.int n, rfl, _, _, rfl, rfl, by omega, ?_⟩
      -- tape[2] = tape[2] // size
      refine ⟨.ref t, rfl, t, _, 2, _, rfl, rfl, SqL.of ht, atI_nat (j := 2) rfl, .int n, rfl, _, _, rfl, rfl, wd _, ?_⟩
      refine ⟨.ref t, rfl, t, _, 2, 2, rfl, rfl, ht, rfl, ?_⟩
      -- return digit
      refine ⟨_, rfl, ?_⟩
      refine q _ _ (fm_of hn).1 (fm_of hn).2 Moved.upd ⟨ns, pos, _, mx, ct, hlt, upd_same, ?_, hp⟩
      rw [upd_ne hlt]
      exact hl
    · -- tape[4] = tape[4] + 1
      refine ⟨.ref t, rfl, t, _, 4, _, rfl, rfl, SqL.of ht, atI_nat (j := 4) rfl, _, _, rfl, rfl, ?_⟩
      refine ⟨.ref t, rfl, t, _, 4, 4, rfl, rfl, ht, rfl, ?_⟩
      -- cell = 0; the first cut
      refine ⟨fun σ' H1 => ∃ (cell p2 : Int) (σ3 σ4 : Option V), σ' = [some (.ref t), some (.int n), σ3, some (.int cell), σ4] ∧ 0 ≤ p2 ∧ H1 t = some (.lst [.ref l, .int p2, .int rest, .int mx, .int (ct + 1)]) ∧ H1 l = some (.lst (ns.map V.int)) ∧ Moved t H H1, ?_, fun σ' H1 hm => ?_⟩
      · have hl1 : (upd H t (.lst [.ref l, .int pos, .int rest, .int mx, .int (ct + 1)])) l = some (.lst (ns.map V.int)) := by
          rw [upd_ne hlt]
          exact hl
        refine ⟨.ref t, rfl, t, _, 1, _, rfl, rfl, SqL.of upd_same, atI_nat (j := 1) rfl, .ref t, rfl, t, _, 0, _, rfl, rfl, SqL.of upd_same, atI_nat (j := 0) rfl, l, _, rfl, .inl (SqL.of hl1), _, _, rfl, rfl, _, rfl, ite2 (fun h2 => ?_) (fun h2 => ?_)⟩
        · have h3 : pos < ((ns.map V.int).length : Int) := of_decide_eq_true h2
          obtain ⟨j, rfl⟩ : ∃ j : Nat, pos = (j : Int) := ⟨pos.toNat, by omega⟩
          have hj : j < ns.length := by
            rw [List.length_map] at h3
            omega
          have gj : (ns.map V.int)[j]? = some (.int ns[j]) := by
            rw [List.getElem?_map, List.getElem?_eq_getElem hj]
            rfl
          -- cell = tape[0][tape[1]]
          refine ⟨.ref t, rfl, t, _, 0, _, rfl, rfl, SqL.of upd_same, atI_nat (j := 0) rfl, .ref t, rfl, t, _, 1, _, rfl, rfl, SqL.of upd_same, atI_nat (j := 1) rfl, l, _, _, _, rfl, rfl, SqL.of hl1, atI_nat gj, ?_⟩
          -- tape[1] = tape[1] + 1
          refine ⟨.ref t, rfl, t, _, 1, _, rfl, rfl, SqL.of upd_same, atI_nat (j := 1) rfl, _, _, rfl, rfl, ?_⟩
          refine ⟨.ref t, rfl, t, _, 1, 1, rfl, rfl, upd_same, rfl, ?_⟩
          rw [upd_upd]
          exact ⟨_, _, _, _, rfl, by omega, upd_same, (by rw [upd_ne hlt]; exact hl), Moved.upd⟩
        · exact ⟨_, _, _, _, rfl, hp, upd_same, hl1, Moved.upd⟩
      · obtain ⟨cell, p2, σ3, σ4, rfl, hp2, ht1, hl1, mv⟩ := hm
        -- cell >= 10 ** 18
        refine ⟨.int cell, rfl, 10, 18, rfl, rfl, ⟨by decide, by decide, by decide⟩, _, _, rfl, rfl, _, rfl, ite2 (fun h2 => ?_) (fun h2 => ?_)⟩
        · refine ⟨.int cell, rfl, .int n, rfl, _, _, rfl, rfl, wd _, .ref t, rfl, t, _, 2, 2, rfl, rfl, ht1, rfl, ?_⟩
          refine ⟨.int cell, rfl, .inl ⟨_, rfl, .int n, rfl, _, _, rfl, rfl, by omega, ?_⟩⟩
          refine q _ _ (fm_of hn).1 (fm_of hn).2 (mv.trans Moved.upd) ⟨ns, p2, _, mx, _, hlt, upd_same, ?_, hp2⟩
          rw [upd_ne hlt]
          exact hl1
        · -- mixed = ..
          refine ⟨.ref t, rfl, t, _, 3, _, rfl, rfl, SqL.of ht1, atI_nat (j := 3) rfl, _, _, rfl, rfl, .inr ⟨by decide, by decide⟩, ?_⟩
          refine ⟨.int cell, rfl, .inl ⟨_, rfl, _, _, rfl, rfl, (by show (2147483629 : Int) ≠ 0; decide), _, _, rfl, rfl, ?_⟩⟩
          refine ⟨.ref t, rfl, t, _, 4, _, rfl, rfl, SqL.of ht1, atI_nat (j := 4) rfl, _, _, rfl, rfl, .inr ⟨by decide, by decide⟩, _, _, rfl, rfl, ?_⟩
          refine .inl ⟨_, rfl, _, _, rfl, rfl, (by show (2147483647 : Int) ≠ 0; decide), ?_⟩
          have bm := fm_of (a := mx * 48271 + cell.fmod 2147483629 + (ct + 1) * 69621) (b := 2147483647) (by decide)
          -- mixed = int(mixed * ..) % ..
          refine ⟨_, rfl, _, rfl, _, _, rfl, rfl, ⟨by decide, by decide⟩, _, _, rfl, rfl, _, _, rfl, rfl, .inl ⟨Int.lt_of_lt_of_le (by decide) bm.1, Int.lt_trans bm.2 (by decide)⟩, .inl ⟨_, rfl, _, _, rfl, rfl, (by show (2147483399 : Int) ≠ 0; decide), ?_⟩⟩
          -- tape[3] = mixed
          refine ⟨_, rfl, .ref t, rfl, t, _, 3, 3, rfl, rfl, ht1, rfl, ?_⟩
          refine ⟨_, rfl, _, _, rfl, rfl, ⟨by decide, by decide⟩, .inl ⟨_, rfl, .int n, rfl, _, _, rfl, rfl, by omega, ?_⟩⟩
          refine q _ _ (fm_of hn).1 (fm_of hn).2 (mv.trans Moved.upd) ⟨ns, p2, _, _, _, hlt, upd_same, ?_, hp2⟩
          rw [upd_ne hlt]
          exact hl1
end

section
variable {P : Program} {w : World} {K : PySem.W.Frag} {mg : Str → Option Value} {base : Heap}
def spIsInt (K : PySem.W.Frag) : Sp := fun vs H Q _ => ∃ i : Int, vs = [.int i] ∧ Q (.bl true) H
theorem ok_is_integer (T : Tx K mg) : FnOk P w K mg base CX0 1 T.a_is_integer T.d_is_integer ["thing"] (spIsInt K) := by
  refine T.F_is_integer.ok sc_is_integer (fun vs H Q E h => ?_) (fun cdv A outer s H vs Q E hr h => ?_)
  · obtain ⟨i, rfl, _⟩ := h
    rfl
  · obtain ⟨i, rfl, q⟩ := h
    refine ⟨_, ((pss_one (ps_ret (pe_and (pe_callB call_isi (by rfl) T.m_isinstance (by decide +kernel) (pa_cons (pv 0) (pa_cons (pe_bltn (v := .ty "int") (by rfl) T.m_int (by decide +kernel) rfl) pa_nil))) (pe_one (pe_not (pe_callB call_isi (by rfl) T.m_isinstance (by decide +kernel) (pa_cons (pv 0) (pa_cons (pe_bltn (v := .ty "bool") (by rfl) T.m_bool (by decide +kernel) rfl) pa_nil))))))))), ?_⟩
    refine ⟨.int i, rfl, .int i, .ty "int", _, _, true, rfl, .ty _, .base (.int i), kit_ty (by decide +kernel), true, rfl, iteT ?_⟩
    refine ⟨.int i, rfl, .int i, .ty "bool", _, _, false, rfl, .ty _, .base (.int i), kit_ty (by decide +kernel), false, rfl, ?_⟩
    exact q
def spIsNum (K : PySem.W.Frag) : Sp := fun vs H Q _ => ∃ i a b : Int, vs = [.int i, .int a, .int b] ∧ Q (.bl (decide (a ≤ i) && decide (i ≤ b))) H
theorem ok_is_number (T : Tx K mg) : FnOk P w K mg base CX0 2 T.a_is_number T.d_is_number ["thing", "least", "most"] (spIsNum K) := by
  refine T.F_is_number.ok sc_is_number (fun vs H Q E h => ?_) (fun cdv A outer s H vs Q E hr h => ?_)
  · obtain ⟨i, a, b, rfl, _⟩ := h
    rfl
  · obtain ⟨i, a, b, rfl, q⟩ := h
    refine ⟨_, ((pss_one (ps_ret (pe_and (pe_call (ok_is_integer T) (hr.mono (by decide)) (by rfl) T.g_is_integer T.F_is_integer.kp T.b_is_integer .nil pass0 (pa_cons (pv 0) pa_nil)) (pe_one (pe_chain op_le op_le (pv 1) (pv 0) (pv 2))))))), ?_⟩
    refine ⟨.int i, rfl, i, rfl, true, rfl, iteT ?_⟩
    refine ⟨.int a, rfl, .int i, rfl, a, i, rfl, rfl, _, rfl, ?_⟩
    by_cases h : a ≤ i
    · rw [decide_eq_true h] at q ⊢
      refine iteT ⟨.int b, rfl, i, b, rfl, rfl, ?_⟩
      exact q
    · rw [decide_eq_false h] at q ⊢
      exact iteF q
def spAreNums (K : PySem.W.Frag) : Sp := fun vs H Q _ => ∃ (a : Addr) (ns : List Int) (lo hi : Int), vs = [.ref a, .int lo, .int hi] ∧ SqT K H a (ns.map V.int) ∧ ns.length ≤ 1000 ∧
  ∀ H', Same H H' → Q (.bl (ns.all fun n => decide (lo ≤ n) && decide (n ≤ hi))) H'
theorem ok_are_numbers (T : Tx K mg) : FnOk P w K mg base CX0 3 T.a_are_numbers T.d_are_numbers ["things", "least", "most"] (spAreNums K) := by
  refine T.F_are_numbers.ok sc_are_numbers (fun vs H Q E h => ?_) (fun cdv A outer s H vs Q E hr h => ?_)
  · obtain ⟨a, ns, lo, hi, rfl, _⟩ := h
    rfl
  · obtain ⟨a, ns, lo, hi, rfl, hT, hlen, q⟩ := h
    refine ⟨_, ((pss_one (ps_ret (pe_callB (cr_all rfl) (by rfl) T.m_all (by decide +kernel) (pa_cons (pe_lc (own := [("thing", 3)]) (g := (gName 3)) (tt := tYes) rfl sc_are_numbers.nd (pi_tup (pv 0)) (blkOk_by (own := [("thing", 3)]) (N := ["things", "least", "most", "thing"]) (sc := defScope s_are_numbers) (by decide +kernel)) (fun _ _ _ _ _ => pg_name (i := 3) sc_are_numbers.nd rfl (.inl rfl)) (fun _ _ _ _ _ => pts_nil) (fun _ _ _ _ _ => (pe_call (ok_is_number T) (hr.mono (by decide)) (by rfl) T.g_is_number T.F_is_number.kp T.b_is_number .nil pass0 (pa_cons (pv 3) (pa_cons (pv 1) (pa_cons (pv 2) pa_nil)))))) pa_nil))))), ?_⟩
    refine ⟨.ref a, rfl, a, rfl, ⟨_, hT⟩, fun D hD => lc_tup (K := K) (a := a) (xs := ns.map V.int)
      (fun i H' => Same H H' ∧ H D = none ∧ H' D = some (.lst (((ns.take i).map fun n => decide (lo ≤ n) && decide (n ≤ hi)).map V.bl)))
      ⟨same_upd hD, hD, upd_same⟩ (fun i H' _ p => sT p.1 hT) (fun i x H' hx p => ?_) (fun H' p => ?_)⟩
    · obtain ⟨sm, nD, eD⟩ := p
      rw [List.getElem?_map] at hx
      obtain ⟨n, hn, rfl⟩ := Option.map_eq_some_iff.mp hx
      refine ⟨rfl, ?_⟩
      refine ⟨.int n, rfl, .int lo, rfl, .int hi, rfl, n, lo, hi, rfl, ?_⟩
      have hi' : i < ns.length := (List.getElem?_eq_some_iff.mp hn).1
      refine ⟨_, eD, ?_, ?_⟩
      · rw [List.length_map, List.length_map, List.length_take]
        exact small1000 (by omega)
      · refine ⟨fun b o e => ?_, nD, ?_⟩
        · rw [upd_ne (ne_of_none e nD)]
          exact sm b o e
        · rw [upd_same, List.take_add_one, hn, List.map_append, List.map_append]
          rfl
    · obtain ⟨sm, nD, eD⟩ := p
      rw [List.length_map, List.take_of_length_le (Nat.le_refl _)] at eD
      refine ⟨D, _, rfl, SqL.of eD, ?_⟩
      have e2 : ((ns.map fun n => decide (lo ≤ n) && decide (n ≤ hi)).all id) = ns.all fun n => decide (lo ≤ n) && decide (n ≤ hi) := by
        rw [List.all_map]
        rfl
      rw [e2]
      exact q H' sm
end

section
variable {P : Program} {w : World} {K : PySem.W.Frag} {mg : Str → Option Value} {base : Heap}
theorem good_all {ns : List Int} (g : Rch.Good ns) : (ns.all fun n => decide (1 ≤ n) && decide (n ≤ 40)) = true := by
  rw [List.all_eq_true]
  intro n hn
  have := g.2.2 n hn
  rw [Bool.and_eq_true]
  exact ⟨decide_eq_true this.1, decide_eq_true this.2⟩
def spIsLoops (K : PySem.W.Frag) : Sp := fun vs H Q _ => ∃ (a : Addr) (ns : List Int), vs = [.ref a] ∧ SqT K H a (ns.map V.int) ∧ Rch.Good ns ∧ ∀ H', Same H H' → Q (.bl true) H'
theorem ok_is_loops (T : Tx K mg) : FnOk P w K mg base CX0 4 T.a_is_loops T.d_is_loops ["thing"] (spIsLoops K) := by
  refine T.F_is_loops.ok sc_is_loops (fun vs H Q E h => ?_) (fun cdv A outer s H vs Q E hr h => ?_)
  · obtain ⟨a, ns, rfl, _⟩ := h
    rfl
  · obtain ⟨a, ns, rfl, hT, g, q⟩ := h
    refine ⟨_, ((pss_one (ps_ret (pe_and (pe_callB call_isi (by rfl) T.m_isinstance (by decide +kernel) (pa_cons (pv 0) (pa_cons (pe_bltn (v := .ty "tuple") (by rfl) T.m_tuple (by decide +kernel) rfl) pa_nil))) (pe_and (pe_chain op_le op_le pe_int (pe_callB call_len_seq (by rfl) T.m_len PySem.boot_len (pa_cons (pv 0) pa_nil)) (pe_glob (v := .int 8) rfl T.g_MOST_LOOPS ⟨_, rfl⟩)) (pe_one (pe_call (ok_are_numbers T) (hr.mono (by decide)) (by rfl) T.g_are_numbers T.F_are_numbers.kp T.b_are_numbers .nil pass0 (pa_cons (pv 0) (pa_cons pe_int (pa_cons (pe_glob (v := .int 40) rfl T.g_MOST_LENGTH ⟨_, rfl⟩) pa_nil)))))))))), ?_⟩
    refine ⟨.ref a, rfl, .ref a, .ty "tuple", _, _, true, rfl, .ty _, tyTup hT, kit_ty (by decide +kernel), true, rfl, iteT ?_⟩
    have g1 := g.1
    have g2 := g.2.1
    refine ⟨.ref a, rfl, a, _, rfl, .inr hT, 1, _, rfl, rfl, true, ?_, iteT ⟨_, 8, rfl, rfl, true, ?_, iteT ?_⟩⟩
    · show V.bl (decide ((1 : Int) ≤ ((ns.map V.int).length : Int))) = V.bl true
      rw [List.length_map, decide_eq_true (by omega)]
    · show V.bl (decide (((ns.map V.int).length : Int) ≤ (8 : Int))) = V.bl true
      rw [List.length_map, decide_eq_true (by omega)]
    · refine ⟨.ref a, rfl, a, ns, 1, 40, rfl, hT, by omega, fun H' sm => ?_⟩
      have e := good_all g
      rw [e]
      exact q H' sm
end

/-! ### the checks -/
section
variable {P : Program} {w : World} {K : PySem.W.Frag} {mg : Str → Option Value} {base : Heap}
def spIsComings (K : PySem.W.Frag) : Sp := fun vs H Q _ => ∃ (a : Addr) (cs : List Int) (k : Int), vs = [.int k, .ref a] ∧ SqT K H a (cs.map V.int) ∧ Rt k cs ∧ ∀ H', Same H H' → Q (.bl true) H'
theorem ok_is_comings (T : Tx K mg) : FnOk P w K mg base CX0 4 T.a_is_comings T.d_is_comings ["comers", "thing"] (spIsComings K) := by
  refine T.F_is_comings.ok sc_is_comings (fun vs H Q E h => ?_) (fun cdv A outer s H vs Q E hr h => ?_)
  · obtain ⟨a, cs, k, rfl, _⟩ := h
    rfl
  · obtain ⟨a, cs, k, rfl, hT, g, q⟩ := h
    refine ⟨_, ((pss_one (ps_ret (pe_and (pe_callB call_isi (by rfl) T.m_isinstance (by decide +kernel) (pa_cons (pv 1) (pa_cons (pe_bltn (v := .ty "tuple") (by rfl) T.m_tuple (by decide +kernel) rfl) pa_nil))) (pe_and (pe_cmpR op_le (pe_callB call_len_seq (by rfl) T.m_len PySem.boot_len (pa_cons (pv 1) pa_nil)) (pe_glob (v := .int 400) rfl T.g_MOST_TICKS ⟨_, rfl⟩) (nomark _)) (pe_one (pe_call (ok_are_numbers T) (hr.mono (by decide)) (by rfl) T.g_are_numbers T.F_are_numbers.kp T.b_are_numbers .nil pass0 (pa_cons (pv 1) (pa_cons pe_int (pa_cons (pv 0) pa_nil)))))))))), ?_⟩
    refine ⟨.ref a, rfl, .ref a, .ty "tuple", _, _, true, rfl, .ty _, tyTup hT, kit_ty (by decide +kernel), true, rfl, iteT ?_⟩
    have g1 := g.1
    refine ⟨.ref a, rfl, a, _, rfl, .inr hT, _, 400, rfl, rfl, true, ?_, iteT ?_⟩
    · show V.bl (decide (((cs.map V.int).length : Int) ≤ (400 : Int))) = V.bl true
      rw [List.length_map, decide_eq_true (by omega)]
    · refine ⟨.ref a, rfl, .int k, rfl, a, cs, 0, k, rfl, hT, by omega, fun H' sm => ?_⟩
      have e := g.all
      rw [e]
      exact q H' sm
def spChkComings (K : PySem.W.Frag) : Sp := fun vs H Q _ => ∃ (a : Addr) (cs : List Int) (k : Int), vs = [.int k, .ref a] ∧ SqT K H a (cs.map V.int) ∧ Rt k cs ∧ ∀ H', Same H H' → Q .non H'
theorem ok_check_comings (T : Tx K mg) : FnOk P w K mg base CX0 5 T.a_check_comings T.d_check_comings ["comers", "thing"] (spChkComings K) := by
  refine T.F_check_comings.ok sc_check_comings (fun vs H Q E h => ?_) (fun cdv A outer s H vs Q E hr h => ?_)
  · obtain ⟨a, cs, k, rfl, _⟩ := h
    rfl
  · obtain ⟨a, cs, k, rfl, hT, g, q⟩ := h
    refine ⟨_, ((pss_one (ps_if (pt_not (pt_val (pe_call (ok_is_comings T) (hr.mono (by decide)) (by rfl) T.g_is_comings T.F_is_comings.kp T.b_is_comings .nil pass0 (pa_cons (pv 0) (pa_cons (pv 1) pa_nil))))) (pss_one ps_never) pss_nil))), ?_⟩
    refine ⟨.int k, rfl, .ref a, rfl, a, cs, k, rfl, hT, g, fun H' sm => ⟨true, rfl, iteF ?_⟩⟩
    exact q H' sm
def spChkNum (lo hi : Int) (K : PySem.W.Frag) : Sp := fun vs H Q _ => ∃ k : Int, vs = [.int k] ∧ lo ≤ k ∧ k ≤ hi ∧ Q .non H
theorem ok_check_comers (T : Tx K mg) : FnOk P w K mg base CX0 3 T.a_check_comers T.d_check_comers ["thing"] (spChkNum 2 4 K) := by
  refine T.F_check_comers.ok sc_check_comers (fun vs H Q E h => ?_) (fun cdv A outer s H vs Q E hr h => ?_)
  · obtain ⟨k, rfl, _⟩ := h
    rfl
  · obtain ⟨k, rfl, h1, h2, q⟩ := h
    refine ⟨_, ((pss_one (ps_if (pt_not (pt_val (pe_call (ok_is_number T) (hr.mono (by decide)) (by rfl) T.g_is_number T.F_is_number.kp T.b_is_number .nil pass0 (pa_cons (pv 0) (pa_cons pe_int (pa_cons (pe_glob (v := .int 4) rfl T.g_MOST_COMERS ⟨_, rfl⟩) pa_nil)))))) (pss_one ps_never) pss_nil))), ?_⟩
    refine ⟨.int k, rfl, k, 2, 4, rfl, true, ?_, iteF ?_⟩
    · rw [decide_eq_true h1, decide_eq_true h2]
      rfl
    · exact q
/-! ### the line -/
def spFollow (K : PySem.W.Frag) : Sp := fun vs H Q _ => ∃ (a : Addr) (cs : List Int) (b k : Int), vs = [.int b, .int 0, .ref a] ∧ SqT K H a (cs.map V.int) ∧ Rt k cs ∧ k ≤ 4 ∧ 0 ≤ b ∧
  ∀ L B p ps H', Same H H' → H L = none → H B = none → L ≠ B → H' L = some (.lst (ps.map V.ref)) → Tups tv H' ps (Ln.letts b cs) → H' B = some (.lst ((Ln.behind b cs cs.length).map V.int)) → H' p = some (.tup [.ref L, .ref B]) → Q (.ref p) H'
theorem ok_follow_line (T : Tx K mg) : FnOk P w K mg base CX0 1 T.a_follow_line T.d_follow_line ["bound", "line", "comings"] (spFollow K) := by
  refine T.F_follow_line.ok sc_follow_line (fun vs H Q E h => ?_) (fun cdv A outer s H vs Q E hr h => ?_)
  · obtain ⟨a, cs, b, k, rfl, _⟩ := h
    rfl
  · obtain ⟨a, cs, b, k, rfl, hT, g, hk, hb, q⟩ := h
    have g4 := g.four hk
    have g1 := g.1
    refine ⟨_, ((pss_cons (ps_set (i := 3) sc_follow_line.nd rfl (.inl rfl) (pe_lst pa_nil))
  (pss_cons (ps_set (i := 4) sc_follow_line.nd rfl (.inl rfl) (pe_lst pa_nil))
  (pss_cons (ps_for PassesOwn.never rfl (RR.pi_enumT (by rfl) T.m_enumerate (pa_cons (pv 2) pa_nil)) (pg_tup rfl (pgs_cons (pg_name (i := 5) sc_follow_line.nd rfl (.inl rfl)) (pgs_cons (pg_name (i := 6) sc_follow_line.nd rfl (.inl rfl)) pgs_nil)))
   (pss_cons (ps_for PassesOwn.never rfl (pi_range2 (by rfl) T.m_range (pa_cons pe_int (pa_cons (pe_op op_add (pv 6) pe_int) pa_nil))) (pg_name (i := 7) sc_follow_line.nd rfl (.inl rfl))
   (pss_one (ps_if (pt_cmpR op_gt (pv 1) (pv 0) (nomark _)) (pss_one (ps_expr (pe_bm PySem.F.plainAttrs_list PySem.F.slot_list_append PySem.F.type_list_append mt_append (pv 3) (pa_cons (pe_tup (pa_cons (pv 5) (pa_cons (pv 7) (pa_cons pe_non pa_nil)))) pa_nil)))) (pss_cons (ps_expr (pe_bm PySem.F.plainAttrs_list PySem.F.slot_list_append PySem.F.type_list_append mt_append (pv 3) (pa_cons (pe_tup (pa_cons (pv 5) (pa_cons (pv 7) (pa_cons (pv 1) pa_nil)))) pa_nil)))
  (pss_one (ps_aug (i := 1) sc_follow_line.nd rfl (.inl rfl) pe_int ip_add))))))
  (Evl.pss_cut (ps_if (pt_cmpR op_gt (pv 1) pe_int (nomark _)) (pss_one (ps_aug (i := 1) sc_follow_line.nd rfl (.inl rfl) pe_int ip_sub)) pss_nil)
  (pss_one (ps_expr (pe_bm PySem.F.plainAttrs_list PySem.F.slot_list_append PySem.F.type_list_append mt_append (pv 4) (pa_cons (pv 1) pa_nil)))))))
  (pss_one (ps_ret (pe_tup (pa_cons (pv 3) (pa_cons (pv 4) pa_nil))))))))), ?_⟩
    refine ⟨Nat.zero_le _, fun L nL => ⟨Nat.zero_le _, fun B nB => ?_⟩⟩
    have hBL : B ≠ L := fun e => by
      rw [e, upd_same] at nB
      cases nB
    have hHB : H B = none := Same.free (same_upd nL) nB
    have s2 : Same H (upd (upd H L (.lst [])) B (.lst [])) := (same_upd nL).trans (same_upd nB)
    refine ⟨.ref a, rfl, a, _, rfl, sT s2 hT, RR.for_enumT (K := K) (xs := cs.map V.int)
      (fun i σ H' => ∃ y5 y6 y7 ps, σ = [some (.int b), some (.int (Ln.pre b cs i).2), some (.ref a), some (.ref L), some (.ref B), y5, y6, y7] ∧ H' L = some (.lst (ps.map V.ref)) ∧ Tups tv H' ps (Ln.pre b cs i).1 ∧ H' B = some (.lst ((Ln.behind b cs i).map V.int)) ∧ Same H H')
      ⟨_, _, _, [], rfl, by rw [upd_ne hBL.symm, upd_same]; rfl, .nil, upd_same, s2⟩ (fun i σ H' _ h => ?_) (fun i x T σ H' hx h nT => ?_) (fun σ H' h => ?_)⟩
    · obtain ⟨_, _, _, _, _, _, _, _, sm⟩ := h
      exact sT sm hT
    · obtain ⟨y5, y6, y7, ps, rfl, eL, tu, eB, sm⟩ := h
      rw [List.getElem?_map] at hx
      obtain ⟨c, hc, rfl⟩ := Option.map_eq_some_iff.mp hx
      have bc := g.2 c (List.mem_of_getElem? hc)
      have ec := Ln.getD_of hc
      have hi : i < cs.length := (List.getElem?_eq_some_iff.mp hc).1
      have smT : Same H' (upd H' T (.tup [.int (i : Nat), .int c])) := same_upd nT
      refine ⟨T, _, rfl, SqT.of upd_same, rfl, _, [_], rfl, _, [], rfl, rfl, ?_⟩
      refine ⟨.int c, rfl, _, _, rfl, rfl, 1, c + 1, rfl, ⟨by omega, by omega, by omega, by omega⟩, for_range (lo := 1) (n := (c + 1 - 1).toNat)
        (fun j σ H2 => ∃ y7 ps, σ = [some (.int b), some (.int (Ln.turns b (i : Int) j (Ln.pre b cs i)).2), some (.ref a), some (.ref L), some (.ref B), some (.int (i : Nat)), some (.int c), y7] ∧ H2 L = some (.lst (ps.map V.ref)) ∧ Tups tv H2 ps (Ln.turns b (i : Int) j (Ln.pre b cs i)).1 ∧ H2 B = some (.lst ((Ln.behind b cs i).map V.int)) ∧ Same H H2)
        ⟨_, ps, rfl, smT _ _ eL, tu.new nT, smT _ _ eB, sm.trans smT⟩ (fun j σ H2 hj h => ?_) (fun σ H2 h => ?_)⟩
      · obtain ⟨y7, ps, rfl, eL, tu, eB, sm⟩ := h
        have zl : ps.length ≤ 1640 := by
          rw [tu.length, Ln.turns_len]
          have := Ln.pre_len (b := b) g4 i
          omega
        refine ⟨_, rfl, _, rfl, _, _, rfl, rfl, _, rfl, ite2 (fun h1 => ?_) (fun h1 => ?_)⟩
        · have hb1 : (Ln.turns b (i : Int) j (Ln.pre b cs i)).2 > b := of_decide_eq_true h1
          have es : Ln.turns b (i : Int) (j + 1) (Ln.pre b cs i) = ((Ln.turns b (i : Int) j (Ln.pre b cs i)).1 ++ [((i : Int), 1 + (j : Int), none)], (Ln.turns b (i : Int) j (Ln.pre b cs i)).2) := if_pos hb1
          refine ⟨.ref L, rfl, .inl ⟨rfl, _, SqL.of eL⟩, _, rfl, _, rfl, by show 3 ≤ sizeLine; decide, fun p np => ?_⟩
          have s3 := same_upd (o := .tup (tv ((i : Int), 1 + (j : Int), none))) np
          refine ⟨L, _, _, rfl, rfl, s3 _ _ eL, by rw [List.length_map]; exact small2000 (by omega), ?_⟩
          refine ⟨_, ps ++ [p], by rw [es]; rfl, by rw [upd_same, List.map_append]; rfl, ?_, ?_, fun b o e => ?_⟩
          · rw [es]
            exact ((tu.new np).snoc (x := ((i : Int), 1 + (j : Int), none)) upd_same).put (s3 _ _ eL)
          · rw [upd_ne hBL]
            exact s3 _ _ eB
          · rw [upd_ne (ne_of_none e nL)]
            exact s3 _ _ (sm _ _ e)
        · have hb1 : ¬ (Ln.turns b (i : Int) j (Ln.pre b cs i)).2 > b := fun z => h1 (decide_eq_true z)
          have es : Ln.turns b (i : Int) (j + 1) (Ln.pre b cs i) = ((Ln.turns b (i : Int) j (Ln.pre b cs i)).1 ++ [((i : Int), 1 + (j : Int), some (Ln.turns b (i : Int) j (Ln.pre b cs i)).2)], (Ln.turns b (i : Int) j (Ln.pre b cs i)).2 + 1) := if_neg hb1
          refine ⟨.ref L, rfl, .inl ⟨rfl, _, SqL.of eL⟩, _, rfl, _, rfl, _, rfl, by show 3 ≤ sizeLine; decide, fun p np => ?_⟩
          have s3 := same_upd (o := .tup (tv ((i : Int), 1 + (j : Int), some (Ln.turns b (i : Int) j (Ln.pre b cs i)).2))) np
          refine ⟨L, _, _, rfl, rfl, s3 _ _ eL, by rw [List.length_map]; exact small2000 (by omega), ?_⟩
          refine ⟨_, rfl, _, _, rfl, rfl, ?_⟩
          refine ⟨_, ps ++ [p], by rw [es]; rfl, by rw [upd_same, List.map_append]; rfl, ?_, ?_, fun b o e => ?_⟩
          · rw [es]
            exact ((tu.new np).snoc (x := ((i : Int), 1 + (j : Int), some (Ln.turns b (i : Int) j (Ln.pre b cs i)).2)) upd_same).put (s3 _ _ eL)
          · rw [upd_ne hBL]
            exact s3 _ _ eB
          · rw [upd_ne (ne_of_none e nL)]
            exact s3 _ _ (sm _ _ e)
      · obtain ⟨y7, ps, rfl, eL, tu, eB, sm⟩ := h
        have en : (c + 1 - 1).toNat = (cs.getD i 0).toNat := by
          rw [ec]
          omega
        rw [en] at tu ⊢
        refine ⟨fun σ' H3 => ∃ y7, σ' = [some (.int b), some (.int (Ln.pre b cs (i + 1)).2), some (.ref a), some (.ref L), some (.ref B), some (.int (i : Nat)), some (.int c), y7] ∧ H3 = H2, ?_, fun σ' H3 hm => ?_⟩
        · refine ⟨_, rfl, _, _, rfl, rfl, _, rfl, ite2 (fun h1 => ?_) (fun h1 => ?_)⟩
          · refine ⟨_, rfl, _, _, rfl, rfl, ?_⟩
            refine ⟨y7, ?_, rfl⟩
            have e : (Ln.pre b cs (i + 1)).2 = (Ln.turns b (i : Int) (cs.getD i 0).toNat (Ln.pre b cs i)).2 - 1 := if_pos (of_decide_eq_true h1)
            rw [e]
            rfl
          · refine ⟨y7, ?_, rfl⟩
            have e : (Ln.pre b cs (i + 1)).2 = (Ln.turns b (i : Int) (cs.getD i 0).toNat (Ln.pre b cs i)).2 := if_neg (fun z => h1 (decide_eq_true z))
            rw [e]
        · obtain ⟨y7, rfl, rfl⟩ := hm
          refine ⟨.ref B, rfl, .inl ⟨rfl, _, SqL.of eB⟩, _, rfl, B, _, _, rfl, rfl, eB, by rw [List.length_map, Ln.behind_len]; exact small1000 (by omega), ?_⟩
          refine ⟨_, _, _, ps, rfl, by rw [upd_ne hBL.symm]; exact eL, tu.put eB, ?_, fun b o e => ?_⟩
          · rw [upd_same]
            show _ = some (HO.lst ((Ln.behind b cs i ++ [(Ln.pre b cs (i + 1)).2]).map V.int))
            rw [List.map_append]
            rfl
          · rw [upd_ne (ne_of_none e hHB)]
            exact sm _ _ e
    · obtain ⟨y5, y6, y7, ps, rfl, eL, tu, eB, sm⟩ := h
      rw [List.length_map] at tu eB
      refine ⟨.ref L, rfl, .ref B, rfl, by show 2 ≤ sizeLine; decide, fun p np => ?_⟩
      have s3 := same_upd (o := .tup [.ref L, .ref B]) np
      exact q L B p ps _ (sm.trans s3) nL hHB hBL.symm (s3 _ _ eL) (tu.new np) (s3 _ _ eB) upd_same
def spLetters (K : PySem.W.Frag) : Sp := fun vs H Q _ => ∃ (a : Addr) (cs : List Int) (b k : Int), vs = [.int b, .ref a] ∧ SqT K H a (cs.map V.int) ∧ Rt k cs ∧ k ≤ 4 ∧ 0 ≤ b ∧
  ∀ L ps H', Same H H' → H L = none → H' L = some (.lst (ps.map V.ref)) → Tups tv H' ps (Ln.letts b cs) → Q (.ref L) H'
theorem ok_letters_of (T : Tx K mg) : FnOk P w K mg base CX0 2 T.a_letters_of T.d_letters_of ["bound", "comings"] (spLetters K) := by
  refine T.F_letters_of.ok sc_letters_of (fun vs H Q E h => ?_) (fun cdv A outer s H vs Q E hr h => ?_)
  · obtain ⟨a, cs, b, k, rfl, _⟩ := h
    rfl
  · obtain ⟨a, cs, b, k, rfl, hT, g, hk, hb, q⟩ := h
    refine ⟨_, ((pss_cons (ps_asg (pe_call (ok_follow_line T) (hr.mono (by decide)) (by rfl) T.g_follow_line T.F_follow_line.kp T.b_follow_line .nil pass0 (pa_cons (pv 0) (pa_cons pe_int (pa_cons (pv 1) pa_nil)))) (pg_tup rfl (pgs_cons (pg_name (i := 2) sc_letters_of.nd rfl (.inl rfl)) (pgs_cons (pg_name (i := 3) sc_letters_of.nd rfl (.inl rfl)) pgs_nil))))
  (pss_one (ps_ret (pv 2))))), ?_⟩
    refine ⟨.int b, rfl, .ref a, rfl, a, cs, b, k, rfl, hT, g, hk, hb, fun L B p ps H' sm nL nB hLB eL tu eB ep => ?_⟩
    refine ⟨p, _, rfl, SqT.of ep, rfl, _, [_], rfl, _, [], rfl, rfl, ?_⟩
    exact ⟨.ref L, rfl, q L ps H' sm nL eL tu⟩
end

/-! ### tables -/
theorem kRL : ¬ (("rows" : Str) = "loops") := by decide +kernel
theorem kBL : ¬ (("bound" : Str) = "loops") := by decide +kernel
theorem kBR : ¬ (("bound" : Str) = "rows") := by decide +kernel
theorem kLR : ¬ (("loops" : Str) = "rows") := by decide +kernel
theorem kLB : ¬ (("loops" : Str) = "bound") := by decide +kernel
theorem kRB : ¬ (("rows" : Str) = "bound") := by decide +kernel
def tflds (a b : Addr) (n : Int) : List (Str × V) := putF "bound" (.int n) (putF "rows" (.ref b) (putF "loops" (.ref a) []))
theorem tf_loops (a b : Addr) (n : Int) : (tflds a b n).lookup ("loops" : Str) = some (.ref a) := by
  unfold tflds
  rw [lookup_putF, if_neg kLB, lookup_putF, if_neg kLR, lookup_putF, if_pos rfl]
theorem tf_rows (a b : Addr) (n : Int) : (tflds a b n).lookup ("rows" : Str) = some (.ref b) := by
  unfold tflds
  rw [lookup_putF, if_neg kRB, lookup_putF, if_pos rfl]
theorem tf_bound (a b : Addr) (n : Int) : (tflds a b n).lookup ("bound" : Str) = some (.int n) := by
  unfold tflds
  rw [lookup_putF, if_pos rfl]
theorem putF_len (f : Str) (v : V) : ∀ fs : List (Str × V), (putF f v fs).length ≤ fs.length + 1
  | [] => Nat.le_refl _
  | (g, u) :: fs => by
    unfold putF
    split
    · simp
    · have := putF_len f v fs
      simp only [List.length_cons]
      omega
/-- a table stands at p -/
structure TabAt (K : PySem.W.Frag) (C : Addr) (H : Hp) (p : Addr) (ls : List Int) (rs : List (List Int)) : Prop where
  ob : ∃ dx a b ps, H p = some (.ins C dx (tflds a b (rs.length : Int))) ∧ SqT K H a (ls.map V.int) ∧ SqT K H b (ps.map V.ref) ∧ Tups fI H ps rs
theorem TabAt.same {K : PySem.W.Frag} {C : Addr} {H H' : Hp} {p : Addr} {ls : List Int} {rs : List (List Int)} (h : TabAt K C H p ls rs) (e : Same H H') : TabAt K C H' p ls rs := by
  obtain ⟨dx, a, b, ps, h1, h2, h3, h4⟩ := h.ob
  exact ⟨dx, a, b, ps, e _ _ h1, sT e h2, sT e h3, h4.same e⟩
theorem Tups.at {α : Type} {f : α → List V} {H : Hp} {ps : List Addr} {xs : List α} (h : Tups f H ps xs) : ∀ {i : Nat} {x : α}, xs[i]? = some x → ∃ p, (ps.map V.ref)[i]? = some (.ref p) ∧ H p = some (.tup (f x)) := by
  induction h with
  | nil =>
    intro i x h
    simp at h
  | cons a _ ih =>
    intro i x h
    cases i with
    | zero =>
      simp at h
      subst h
      exact ⟨_, rfl, a⟩
    | succ i =>
      simp only [List.map_cons, List.getElem?_cons_succ] at h ⊢
      exact ih h
section
variable {P : Program} {w : World} {K : PySem.W.Frag} {mg : Str → Option Value} {base : Heap}
def spIsRow (K : PySem.W.Frag) : Sp := fun vs H Q _ => ∃ (a r : Addr) (ls row : List Int), vs = [.ref a, .ref r] ∧ SqT K H a (ls.map V.int) ∧ SqT K H r (row.map V.int) ∧ Tb.InR ls row ∧ row.length ≤ 60 ∧ ∀ H', Same H H' → Q (.bl true) H'
theorem ok_is_row (T : Tx K mg) : FnOk P w K mg base CX0 4 T.a_is_row T.d_is_row ["loops", "thing"] (spIsRow K) := by
  refine T.F_is_row.ok sc_is_row (fun vs H Q E h => ?_) (fun cdv A outer s H vs Q E hr h => ?_)
  · obtain ⟨a, r, ls, row, rfl, _⟩ := h
    rfl
  · obtain ⟨a, r, ls, row, rfl, hA, hR, hin, hlen, q⟩ := h
    refine ⟨_, ((pss_one (ps_ret (pe_and (pe_callB call_isi (by rfl) T.m_isinstance (by decide +kernel) (pa_cons (pv 1) (pa_cons (pe_bltn (v := .ty "tuple") (by rfl) T.m_tuple (by decide +kernel) rfl) pa_nil))) (pe_and (pe_cmpR op_le (pe_callB call_len_seq (by rfl) T.m_len PySem.boot_len (pa_cons (pv 1) pa_nil)) (pe_glob (v := .int 60) rfl T.g_MOST_ITEMS ⟨_, rfl⟩) (nomark _)) (pe_one (pe_call (ok_are_numbers T) (hr.mono (by decide)) (by rfl) T.g_are_numbers T.F_are_numbers.kp T.b_are_numbers .nil pass0 (pa_cons (pv 1) (pa_cons pe_int (pa_cons (pe_op op_sub (pe_callB call_len_seq (by rfl) T.m_len PySem.boot_len (pa_cons (pv 0) pa_nil)) pe_int) pa_nil)))))))))), ?_⟩
    refine ⟨.ref r, rfl, .ref r, .ty "tuple", _, _, true, rfl, .ty _, tyTup hR, kit_ty (by decide +kernel), true, rfl, iteT ?_⟩
    refine ⟨.ref r, rfl, r, _, rfl, .inr hR, _, 60, rfl, rfl, true, ?_, iteT ?_⟩
    · show V.bl (decide (((row.map V.int).length : Int) ≤ (60 : Int))) = V.bl true
      rw [List.length_map, decide_eq_true (by omega)]
    · refine ⟨.ref r, rfl, .ref a, rfl, a, _, rfl, .inr hA, _, _, rfl, rfl, r, row, 0, (((ls.map V.int).length : Nat) : Int) - 1, rfl, hR, by omega, fun H' sm => ?_⟩
      have e : (row.all fun n => decide ((0 : Int) ≤ n) && decide (n ≤ (((ls.map V.int).length : Nat) : Int) - 1)) = true := by
        rw [List.all_eq_true]
        intro n hn
        have := hin n hn
        rw [List.length_map, Bool.and_eq_true]
        exact ⟨decide_eq_true this.1, decide_eq_true (by omega)⟩
      rw [e]
      exact q H' sm
def spRowSum (K : PySem.W.Frag) : Sp := fun vs H Q _ => ∃ (a r : Addr) (ls row : List Int), vs = [.ref a, .ref r] ∧ SqT K H a (ls.map V.int) ∧ SqT K H r (row.map V.int) ∧ Tb.InR ls row ∧ row.length ≤ 1000 ∧ ∀ H', Same H H' → Q (.int (Tb.rsum ls row)) H'
theorem ok_row_sum (T : Tx K mg) : FnOk P w K mg base CX0 1 T.a_row_sum T.d_row_sum ["loops", "row"] (spRowSum K) := by
  refine T.F_row_sum.ok sc_row_sum (fun vs H Q E h => ?_) (fun cdv A outer s H vs Q E hr h => ?_)
  · obtain ⟨a, r, ls, row, rfl, _⟩ := h
    rfl
  · obtain ⟨a, r, ls, row, rfl, hA, hR, hin, hlen, q⟩ := h
    refine ⟨_, ((pss_one (ps_ret (pe_callB (cr_sum rfl) (by rfl) T.m_sum (by decide +kernel) (pa_cons (pe_lc (own := [("loop", 2)]) (g := (gName 2)) (tt := tYes) rfl sc_row_sum.nd (pi_tup (pv 1)) (blkOk_by (own := [("loop", 2)]) (N := ["loops", "row", "loop"]) (sc := defScope s_row_sum) (by decide +kernel)) (fun _ _ _ _ _ => pg_name (i := 2) sc_row_sum.nd rfl (.inl rfl)) (fun _ _ _ _ _ => pts_nil) (fun _ _ _ _ _ => (pe_ix (ixTK (K := K) (by rfl)) (pv 0) (pv 2) (fun _ _ => rfl)))) pa_nil))))), ?_⟩
    refine ⟨.ref r, rfl, r, rfl, ⟨_, hR⟩, fun D hD => lc_tup (K := K) (a := r) (xs := row.map V.int)
      (fun i H' => Same H H' ∧ H' D = some (.lst (((row.take i).map (Tb.len1 ls)).map V.int)))
      ⟨same_upd hD, upd_same⟩ (fun i H' _ p => sT p.1 hR) (fun i x H' hx p => ?_) (fun H' p => ?_)⟩
    · obtain ⟨sm, eD⟩ := p
      rw [List.getElem?_map] at hx
      obtain ⟨n, hn, rfl⟩ := Option.map_eq_some_iff.mp hx
      have hk := hin n (List.mem_of_getElem? hn)
      have hi' : i < row.length := (List.getElem?_eq_some_iff.mp hn).1
      refine ⟨rfl, ?_⟩
      refine ⟨.ref a, rfl, .int n, rfl, a, _, _, .int (Tb.len1 ls n), rfl, rfl, sT sm hA, atI_of hk.1 ?_, ?_⟩
      · rw [List.getElem?_map, Tb.len_at hk.1 hk.2]
        rfl
      · refine ⟨_, eD, ?_, fun b o e => ?_, ?_⟩
        · rw [List.length_map, List.length_map, List.length_take]
          exact small1000 (by omega)
        · rw [upd_ne (ne_of_none e hD)]
          exact sm b o e
        · rw [upd_same, take_snoc hn, List.map_append, List.map_append]
          rfl
    · obtain ⟨sm, eD⟩ := p
      rw [List.length_map, List.take_of_length_le (Nat.le_refl _)] at eD
      exact ⟨D, _, rfl, SqL.of eD, q H' sm⟩
def spTInit (K : PySem.W.Frag) (C : Addr) : Sp := fun vs H Q _ => ∃ (p dx a b : Addr) (ls : List Int) (ps : List Addr) (rs : List (List Int)), vs = [.ref p, .ref a, .ref b] ∧ H p = some (.ins C dx []) ∧ SqT K H a (ls.map V.int) ∧ SqT K H b (ps.map V.ref) ∧ Tups fI H ps rs ∧ Tb.Right ls rs ∧
  ∀ H', (∀ c o, c ≠ p → H c = some o → H' c = some o) → H' p = some (.ins C dx (tflds a b (rs.length : Int))) → Q .non H'
theorem ok_Table___init__ (T : Tx K mg) : FnOk P w K mg base CX0 5 T.a_Table___init__ T.d_Table___init__ ["self", "loops", "rows"] (spTInit K T.c_Table) := by
  refine T.F_Table___init__.ok sc_Table___init__ (fun vs H Q E h => ?_) (fun cdv A outer s H vs Q E hr h => ?_)
  · obtain ⟨p, dx, a, b, ls, ps, rs, rfl, _⟩ := h
    rfl
  · obtain ⟨p, dx, a, b, ls, ps, rs, rfl, hp, hA, hB, tu, R, q⟩ := h
    have el := tu.length
    have r1 := R.2.1
    have r2 := R.2.2.1
    refine ⟨_, ((pss_cons (ps_if (pt_not (pt_val (pe_call (ok_is_loops T) (hr.mono (by decide)) (by rfl) T.g_is_loops T.F_is_loops.kp T.b_is_loops .nil pass0 (pa_cons (pv 1) pa_nil)))) (pss_one ps_never) pss_nil)
  (pss_cons (ps_if (PW.pt (pw_or (pt_not (pt_val (pe_callB call_isi (by rfl) T.m_isinstance (by decide +kernel) (pa_cons (pv 2) (pa_cons (pe_bltn (v := .ty "tuple") (by rfl) T.m_tuple (by decide +kernel) rfl) pa_nil))))) (pw_or1 (pt_not (pt_chain op_le op_le pe_int (pe_callB call_len_seq (by rfl) T.m_len PySem.boot_len (pa_cons (pv 2) pa_nil)) (pe_glob (v := .int 60) rfl T.g_MOST_BOUND ⟨_, rfl⟩)))))) (pss_one ps_never) pss_nil)
  (pss_cons (ps_for PassesOwn.never rfl (RR.pi_enumT (by rfl) T.m_enumerate (pa_cons (pv 2) pa_nil)) (pg_tup rfl (pgs_cons (pg_name (i := 3) sc_Table___init__.nd rfl (.inl rfl)) (pgs_cons (pg_name (i := 4) sc_Table___init__.nd rfl (.inl rfl)) pgs_nil)))
   (pss_one (ps_if (PW.pt (pw_or (pt_not (pt_val (pe_call (ok_is_row T) (hr.mono (by decide)) (by rfl) T.g_is_row T.F_is_row.kp T.b_is_row .nil pass0 (pa_cons (pv 1) (pa_cons (pv 4) pa_nil))))) (pw_or1 (pt_cmpR op_ne (pe_call (ok_row_sum T) (hr.mono (by decide)) (by rfl) T.g_row_sum T.F_row_sum.kp T.b_row_sum .nil pass0 (pa_cons (pv 1) (pa_cons (pv 4) pa_nil))) (pe_op op_add (pv 3) pe_int) (nomark _))))) (pss_one ps_never) pss_nil)))
  (pss_cons (ps_fld (pv 0) (pv 1) rfl)
  (pss_cons (ps_fld (pv 0) (pv 2) rfl)
  (pss_one (ps_fld (pv 0) (pe_callB call_len_seq (by rfl) T.m_len PySem.boot_len (pa_cons (pv 2) pa_nil)) rfl)))))))), ?_⟩
    refine ⟨.ref a, rfl, a, ls, rfl, hA, R.1, fun H1 s1 => ⟨true, rfl, iteF ?_⟩⟩
    have hB1 := sT s1 hB
    refine ⟨.ref b, rfl, .ref b, .ty "tuple", _, _, true, rfl, .ty _, tyTup hB1, kit_ty (by decide +kernel), true, rfl, iteF ?_⟩
    refine ⟨.ref b, rfl, b, _, rfl, .inr hB1, 1, _, rfl, rfl, true, ?_, iteT ⟨_, 60, rfl, rfl, true, ?_, iteF ?_⟩⟩
    · show V.bl (decide ((1 : Int) ≤ ((ps.map V.ref).length : Int))) = V.bl true
      rw [List.length_map, decide_eq_true (by omega)]
    · show V.bl (decide (((ps.map V.ref).length : Int) ≤ (60 : Int))) = V.bl true
      rw [List.length_map, decide_eq_true (by omega)]
    · refine ⟨.ref b, rfl, b, _, rfl, hB1, RR.for_enumT (K := K) (xs := ps.map V.ref)
        (fun i σ H' => ∃ y3 y4, σ = [some (.ref p), some (.ref a), some (.ref b), y3, y4] ∧ Same H H')
        ⟨_, _, rfl, s1⟩ (fun i σ H' _ h => ?_) (fun i x X σ H' hx h nX => ?_) (fun σ H' h => ?_)⟩
      · obtain ⟨_, _, _, sm⟩ := h
        exact sT sm hB
      · obtain ⟨y3, y4, rfl, sm⟩ := h
        obtain ⟨r, row, rfl, hrow, er⟩ := tu.get hx
        obtain ⟨hin, hl60, hsum⟩ := R.2.2.2 i row hrow
        have sX := same_upd (o := .tup [.int (i : Nat), .ref r]) nX
        have sm2 := sm.trans sX
        refine ⟨X, _, rfl, SqT.of upd_same, rfl, _, [_], rfl, _, [], rfl, rfl, ?_⟩
        refine ⟨.ref a, rfl, .ref r, rfl, a, r, ls, row, rfl, sT sm2 hA, SqT.of (sm2 _ _ er), hin, hl60, fun H2 s2 => ⟨true, rfl, iteF ?_⟩⟩
        have sm3 := sm2.trans s2
        refine ⟨.ref a, rfl, .ref r, rfl, a, r, ls, row, rfl, sT sm3 hA, SqT.of (sm3 _ _ er), hin, by omega, fun H3 s3 => ?_⟩
        refine ⟨_, rfl, _, _, rfl, rfl, rfl, false, ne_no hsum, iteF ?_⟩
        exact ⟨_, _, rfl, sm3.trans s3⟩
      · obtain ⟨y3, y4, rfl, sm⟩ := h
        have hp1 := sm _ _ hp
        have hab : ∀ {X : Hp} {c : Addr} {xs : List V} {o : HO} {fs : List (Str × V)}, X p = some (.ins T.c_Table dx fs) → SqT K X c xs → SqT K (upd X p o) c xs := fun {X c xs o fs} h1 h2 => by
          rcases h2 with (h2 | ⟨z, h2⟩) | h2
          · exact .inl (.inl (by rw [upd_ne (fun e => by rw [e, h1] at h2; cases h2)]; exact h2))
          · exact .inl (.inr ⟨z, by rw [upd_ne (fun e => by rw [e, h1] at h2; cases h2)]; exact h2⟩)
          · exact .inr h2
        refine ⟨.ref a, rfl, .ref p, rfl, p, T.c_Table, dx, [], rfl, hp1, T.cl_Table, T.n_Table_loops, by show 0 < 1000; decide, ?_⟩
        refine ⟨.ref b, rfl, .ref p, rfl, p, T.c_Table, dx, _, rfl, upd_same, T.cl_Table, T.n_Table_rows, by show 1 < 1000; decide, ?_⟩
        have hB3 := hab upd_same (hab hp1 (sT sm hB) (o := .ins T.c_Table dx (putF "loops" (.ref a) []))) (o := .ins T.c_Table dx (putF "rows" (.ref b) (putF "loops" (.ref a) [])))
        refine ⟨.ref b, rfl, b, _, rfl, .inr hB3, .ref p, rfl, p, T.c_Table, dx, _, rfl, upd_same, T.cl_Table, T.n_Table_bound, Nat.lt_of_le_of_lt (putF_len _ _ _) (by show 2 < 1000; decide), ?_⟩
        refine q _ (fun c o n e => ?_) ?_
        · rw [upd_ne n, upd_ne n, upd_ne n]
          exact sm _ _ e
        · rw [upd_same, List.length_map, el]
          rfl
end

/-! ### the entries of a row, and of a wait -/
section
variable {P : Program} {w : World} {K : PySem.W.Frag} {mg : Str → Option Value} {base : Heap}
def spRowEnt (K : PySem.W.Frag) : Sp := fun vs H Q _ => ∃ (a r : Addr) (ls row : List Int), vs = [.ref a, .ref r] ∧ SqT K H a (ls.map V.int) ∧ SqT K H r (row.map V.int) ∧ Tb.InR ls row ∧ row.length ≤ 1000 ∧
  ∀ L ps H', Same H H' → H L = none → H' L = some (.lst (ps.map V.ref)) → Tups fI H' ps (Tb.ents ls (Tb.rsum ls row) row) → Q (.ref L) H'
theorem ok_row_entries (T : Tx K mg) : FnOk P w K mg base CX0 2 T.a_row_entries T.d_row_entries ["loops", "row"] (spRowEnt K) := by
  refine T.F_row_entries.ok sc_row_entries (fun vs H Q E h => ?_) (fun cdv A outer s H vs Q E hr h => ?_)
  · obtain ⟨a, r, ls, row, rfl, _⟩ := h
    rfl
  · obtain ⟨a, r, ls, row, rfl, hA, hR, hin, hl, q⟩ := h
    refine ⟨_, ((pss_cons (ps_set (i := 2) sc_row_entries.nd rfl (.inl rfl) (pe_lst pa_nil))
  (pss_cons (ps_set (i := 3) sc_row_entries.nd rfl (.inl rfl) pe_int)
  (pss_cons (ps_set (i := 4) sc_row_entries.nd rfl (.inl rfl) (pe_call (ok_row_sum T) (hr.mono (by decide)) (by rfl) T.g_row_sum T.F_row_sum.kp T.b_row_sum .nil pass0 (pa_cons (pv 0) (pa_cons (pv 1) pa_nil))))
  (pss_cons (ps_for PassesOwn.never rfl (pi_tup (pv 1)) (pg_name (i := 5) sc_row_entries.nd rfl (.inl rfl))
   (pss_cons (ps_expr (pe_bm PySem.F.plainAttrs_list PySem.F.slot_list_append PySem.F.type_list_append mt_append (pv 2) (pa_cons (pe_tup (pa_cons (pv 5) (pa_cons (pv 3) (pa_cons (pv 4) pa_nil)))) pa_nil)))
  (pss_cons (ps_aug (i := 3) sc_row_entries.nd rfl (.inl rfl) (pe_ix ix_tup (pv 0) (pv 5) (fun _ _ => rfl)) ip_add)
  (pss_one (ps_aug (i := 4) sc_row_entries.nd rfl (.inl rfl) (pe_ix ix_tup (pv 0) (pv 5) (fun _ _ => rfl)) ip_sub)))))
  (pss_one (ps_ret (pv 2)))))))), ?_⟩
    refine ⟨Nat.zero_le _, fun L nL => ?_⟩
    have s1 := same_upd (o := .lst []) nL
    refine ⟨.ref a, rfl, .ref r, rfl, a, r, ls, row, rfl, sT s1 hA, sT s1 hR, hin, hl, fun H2 s2 => ?_⟩
    have sA := s1.trans s2
    have eL := s2 _ _ (upd_same (H := H) (a := L) (o := .lst []))
    refine ⟨.ref r, rfl, r, rfl, ⟨_, sT sA hR⟩, for_tup (K := K) (xs := row.map V.int)
      (fun i σ H' => ∃ (y5 : Option V) (qs : List Addr), σ = [some (.ref a), some (.ref r), some (.ref L), some (.int (Tb.rsum ls (row.take i))), some (.int (Tb.rsum ls row - Tb.rsum ls (row.take i))), y5] ∧ H' L = some (.lst (qs.map V.ref)) ∧ Tups fI H' qs ((Tb.ents ls (Tb.rsum ls row) row).take i) ∧ Same H H')
      ⟨_, [], by
        show _ = [some (V.ref a), some (.ref r), some (.ref L), some (.int 0), some (.int (Tb.rsum ls row - 0)), none]
        rw [Int.sub_zero]
        rfl, eL, .nil, sA⟩ (fun i σ H' _ h => ?_) (fun i x σ H' hx h => ?_) (fun σ H' h => ?_)⟩
    · obtain ⟨_, _, _, _, _, sm⟩ := h
      exact sT sm hR
    · obtain ⟨y5, qs, rfl, eL, tq, sm⟩ := h
      rw [List.getElem?_map] at hx
      obtain ⟨k, hk, rfl⟩ := Option.map_eq_some_iff.mp hx
      have bk := hin k (List.mem_of_getElem? hk)
      have hi' : i < row.length := (List.getElem?_eq_some_iff.mp hk).1
      have hg : (Tb.ents ls (Tb.rsum ls row) row)[i]? = some [k, Tb.rsum ls (row.take i), Tb.rsum ls row - Tb.rsum ls (row.take i)] := by
        unfold Tb.ents
        rw [List.getElem?_map, Tb.go_take, hk, Int.zero_add]
        rfl
      have zq : qs.length ≤ 1000 := by
        rw [tq.length, List.length_take]
        omega
      generalize Tb.rsum ls row = W at *
      refine ⟨.ref L, rfl, .inl ⟨rfl, _, SqL.of eL⟩, .int k, rfl, _, rfl, _, rfl, by show 3 ≤ sizeLine; decide, fun t nt => ?_⟩
      have s3 := same_upd (o := .tup [V.int k, .int (Tb.rsum ls (row.take i)), .int (W - Tb.rsum ls (row.take i))]) nt
      refine ⟨L, _, _, rfl, rfl, s3 _ _ eL, by rw [List.length_map]; exact small1000 zq, ?_⟩
      have sm4 : Same H (upd (upd H' t (.tup [V.int k, .int (Tb.rsum ls (row.take i)), .int (W - Tb.rsum ls (row.take i))])) L (.lst (qs.map V.ref ++ [V.ref t]))) := same_put (sm.trans s3) nL
      have at1 : atI (ls.map V.int) k = some (.int (Tb.len1 ls k)) := atI_of bk.1 (by rw [List.getElem?_map, Tb.len_at bk.1 bk.2]; rfl)
      refine ⟨_, rfl, .ref a, rfl, .int k, rfl, a, _, _, _, rfl, rfl, sT sm4 hA, at1, _, _, rfl, rfl, ?_⟩
      refine ⟨_, rfl, .ref a, rfl, .int k, rfl, a, _, _, _, rfl, rfl, sT sm4 hA, at1, _, _, rfl, rfl, ?_⟩
      refine ⟨some (.int k), qs ++ [t], ?_, by rw [upd_same, List.map_append]; rfl, ?_, sm4⟩
      · rw [take_snoc hk, Tb.rsum_snoc]
        show [some (V.ref a), some (.ref r), some (.ref L), some (.int (Tb.rsum ls (row.take i) + Tb.len1 ls k)), some (.int (W - Tb.rsum ls (row.take i) - Tb.len1 ls k)), some (.int k)] = _
        rw [Int.sub_sub]
      · rw [take_snoc hg]
        refine ((tq.new nt).snoc ?_).put (s3 _ _ eL)
        rw [upd_same]
        rfl
    · obtain ⟨y5, qs, rfl, eL, tq, sm⟩ := h
      rw [List.length_map, List.take_of_length_le (by rw [Tb.ents_len]; exact Nat.le_refl _)] at tq
      exact ⟨.ref L, rfl, q L qs H' sm nL eL tq⟩
end

/-! ### the row of a wait, and its entries -/
section
variable {P : Program} {w : World} {K : PySem.W.Frag} {mg : Str → Option Value} {base : Heap}
def spWaitRow (K : PySem.W.Frag) (C : Addr) : Sp := fun vs H Q _ => ∃ (p : Addr) (wt : Int) (ls : List Int) (rs : List (List Int)), vs = [.ref p, .int wt] ∧ TabAt K C H p ls rs ∧ Tb.Right ls rs ∧ 0 ≤ wt ∧ wt ≤ (rs.length : Int) ∧
  ∀ r H', Same H H' → SqT K H' r ((Dy.rowOf rs wt).map V.int) → Q (.ref r) H'
theorem ok_wait_row (T : Tx K mg) : FnOk P w K mg base CX0 1 T.a_wait_row T.d_wait_row ["table", "wait"] (spWaitRow K T.c_Table) := by
  refine T.F_wait_row.ok sc_wait_row (fun vs H Q E h => ?_) (fun cdv A outer s H vs Q E hr h => ?_)
  · obtain ⟨p, m, ls, rs, rfl, _⟩ := h
    rfl
  · obtain ⟨p, wt, ls, rs, rfl, tab, R, hw0, hw1, q⟩ := h
    obtain ⟨dx, a, b, ps, ep, hA, hB, tu⟩ := tab.ob
    refine ⟨_, ((pss_one (ps_ret (pe_ifExp (pt_cmpR op_gt (pv 1) pe_int (nomark _)) (pe_ix ix_tup (pe_fld (pv 0) rfl) (pe_op op_sub (pv 1) pe_int) (fun _ _ => rfl)) (pe_tup pa_nil))))), ?_⟩
    by_cases c0 : wt > 0
    · obtain ⟨hrow, hin, hl60, hsum⟩ := Dy.rowOf_at R c0 hw1
      generalize Dy.rowOf rs wt = row at hrow hin hl60 hsum q
      obtain ⟨r, hr', er⟩ := tu.at hrow
      refine ⟨.int _, rfl, _, _, rfl, rfl, true, congrArg V.bl (decide_eq_true c0), iteT ?_⟩
      refine ⟨.ref p, rfl, p, T.c_Table, dx, _, _, rfl, ep, T.cl_Table, T.n_Table_rows, tf_rows _ _ _, .int _, rfl, _, _, rfl, rfl, b, _, _, _, rfl, rfl, hB, atI_of (by show (0 : Int) ≤ wt - 1; omega) hr', ?_⟩
      exact q r H (fun _ _ e => e) (SqT.of er)
    · have e0 : Dy.rowOf rs wt = [] := if_pos (by omega)
      rw [e0] at q
      refine ⟨.int _, rfl, _, _, rfl, rfl, false, congrArg V.bl (decide_eq_false c0), iteF ?_⟩
      refine ⟨Nat.zero_le _, fun t nt => ?_⟩
      exact q t _ (same_upd nt) (SqT.of upd_same)
theorem rowOf_ok {ls : List Int} {rs : List (List Int)} (R : Tb.Right ls rs) {wt : Int} (h0 : 0 ≤ wt) (h1 : wt ≤ (rs.length : Int)) : Tb.InR ls (Dy.rowOf rs wt) ∧ (Dy.rowOf rs wt).length ≤ 60 ∧ Tb.rsum ls (Dy.rowOf rs wt) = wt := by
  by_cases c : 0 < wt
  · obtain ⟨_, a, b, c⟩ := Dy.rowOf_at R c h1
    exact ⟨a, b, c⟩
  · rw [show Dy.rowOf rs wt = [] from if_pos (by omega)]
    refine ⟨fun k hk => absurd hk (by simp), Nat.zero_le _, ?_⟩
    show (0 : Int) = wt
    omega
def spWaitEnt (K : PySem.W.Frag) (C : Addr) : Sp := fun vs H Q _ => ∃ (p : Addr) (wt : Int) (ls : List Int) (rs : List (List Int)), vs = [.ref p, .int wt] ∧ TabAt K C H p ls rs ∧ Tb.Right ls rs ∧ 0 ≤ wt ∧ wt ≤ (rs.length : Int) ∧
  ∀ L ps H', Same H H' → H L = none → H' L = some (.lst (ps.map V.ref)) → Tups fI H' ps (Tb.ents ls wt (Dy.rowOf rs wt)) → Q (.ref L) H'
theorem ok_wait_entries (T : Tx K mg) : FnOk P w K mg base CX0 3 T.a_wait_entries T.d_wait_entries ["table", "wait"] (spWaitEnt K T.c_Table) := by
  refine T.F_wait_entries.ok sc_wait_entries (fun vs H Q E h => ?_) (fun cdv A outer s H vs Q E hr h => ?_)
  · obtain ⟨p, m, ls, rs, rfl, _⟩ := h
    rfl
  · obtain ⟨p, wt, ls, rs, rfl, tab, R, hw0, hw1, q⟩ := h
    obtain ⟨dx, a, b, ps, ep, hA, hB, tu⟩ := tab.ob
    obtain ⟨hin, hl, hs⟩ := rowOf_ok R hw0 hw1
    refine ⟨_, ((pss_one (ps_ret (pe_call (ok_row_entries T) (hr.mono (by decide)) (by rfl) T.g_row_entries T.F_row_entries.kp T.b_row_entries .nil pass0 (pa_cons (pe_fld (pv 0) rfl) (pa_cons (pe_call (ok_wait_row T) (hr.mono (by decide)) (by rfl) T.g_wait_row T.F_wait_row.kp T.b_wait_row .nil pass0 (pa_cons (pv 0) (pa_cons (pv 1) pa_nil))) pa_nil)))))), ?_⟩
    refine ⟨.ref p, rfl, p, T.c_Table, dx, _, _, rfl, ep, T.cl_Table, T.n_Table_loops, tf_loops _ _ _, .ref p, rfl, .int wt, rfl, p, wt, ls, rs, rfl, tab, R, hw0, hw1, fun r H2 s2 hr2 => ?_⟩
    refine ⟨a, r, ls, _, rfl, sT s2 hA, hr2, hin, by omega, fun L qs H3 s3 nL eL tq => ?_⟩
    rw [hs] at tq
    exact q L qs H3 (s2.trans s3) (Same.free s2 nL) eL tq
end

/-! ### layings of a letter -/
section
variable {P : Program} {w : World} {K : PySem.W.Frag} {mg : Str → Option Value} {base : Heap}
def spLayOf (K : PySem.W.Frag) (C : Addr) : Sp := fun vs H Q _ => ∃ (p : Addr) (β n wt : Int) (ls : List Int) (rs : List (List Int)), vs = [.ref p, .int β, .int n, .int wt] ∧ TabAt K C H p ls rs ∧ Tb.Right ls rs ∧ 0 ≤ wt ∧ wt ≤ (rs.length : Int) ∧
  ∀ L ps H', Same H H' → H L = none → H' L = some (.lst (ps.map V.ref)) → Tups fI H' ps ((Tb.go ls 0 (Dy.rowOf rs wt)).map fun p => [β + p.1, n, p.2]) → Q (.ref L) H'
theorem row_short {ls : List Int} {rs : List (List Int)} (R : Tb.Right ls rs) {wt : Int} (h1 : wt ≤ (rs.length : Int)) : (Dy.rowOf rs wt).length ≤ 60 := by
  by_cases c : 0 < wt
  · exact (Dy.rowOf_at R c h1).2.2.1
  · rw [show Dy.rowOf rs wt = [] from if_pos (by omega)]
    exact Nat.zero_le _
theorem ok_layings_of (T : Tx K mg) : FnOk P w K mg base CX0 4 T.a_layings_of T.d_layings_of ["table", "tick", "letter", "wait"] (spLayOf K T.c_Table) := by
  refine T.F_layings_of.ok sc_layings_of (fun vs H Q E h => ?_) (fun cdv A outer s H vs Q E hr h => ?_)
  · obtain ⟨p, β, n, wt, ls, rs, rfl, _⟩ := h
    rfl
  · obtain ⟨p, β, n, wt, ls, rs, rfl, tab, R, hw0, hw1, q⟩ := h
    have r60 := row_short R hw1
    refine ⟨_, ((pss_one (ps_ret (pe_lc (own := [("loop", 4), ("gone", 5), ("left", 6)]) (g := (gTup K 3 (gCons (gName 4) (gCons (gName 5) (gCons (gName 6) gNil))))) (tt := tYes) rfl sc_layings_of.nd (pi_list (pe_call (ok_wait_entries T) (hr.mono (by decide)) (by rfl) T.g_wait_entries T.F_wait_entries.kp T.b_wait_entries .nil pass0 (pa_cons (pv 0) (pa_cons (pv 3) pa_nil)))) (blkOk_by (own := [("loop", 4), ("gone", 5), ("left", 6)]) (N := ["table", "tick", "letter", "wait", "loop", "gone", "left"]) (sc := defScope s_layings_of) (by decide +kernel)) (fun _ _ _ _ _ => pg_tup rfl (pgs_cons (pg_name (i := 4) sc_layings_of.nd rfl (.inl rfl)) (pgs_cons (pg_name (i := 5) sc_layings_of.nd rfl (.inl rfl)) (pgs_cons (pg_name (i := 6) sc_layings_of.nd rfl (.inl rfl)) pgs_nil)))) (fun _ _ _ _ _ => pts_nil) (fun _ _ _ _ _ => (pe_tup (pa_cons (pe_op op_add (pv 1) (pv 5)) (pa_cons (pv 2) (pa_cons (pv 4) pa_nil))))))))), ?_⟩
    refine ⟨.ref p, rfl, .int wt, rfl, p, wt, ls, rs, rfl, tab, R, hw0, hw1, fun M ms H2 s2 nM eM tM => ?_⟩
    refine ⟨M, rfl, ⟨_, SqL.of eM⟩, fun D hD => lc_list (K := K) (a := M) (xs := ms.map V.ref)
      (fun j H3 => ∃ ds, Same H2 H3 ∧ H3 D = some (.lst (ds.map V.ref)) ∧ Tups fI H3 ds (((Tb.go ls 0 (Dy.rowOf rs wt)).take j).map fun p => [β + p.1, n, p.2]))
      ⟨[], same_upd hD, upd_same, .nil⟩ (fun j H3 _ h => ?_) (fun j x H3 hx h => ?_) (fun H3 h => ?_)⟩
    · obtain ⟨_, s3, _⟩ := h
      exact SqL.of (s3 _ _ eM)
    · obtain ⟨ds, s3, eD, td⟩ := h
      obtain ⟨t, e0, rfl, hg, et⟩ := tM.get hx
      have hj : j < (Tb.ents ls wt (Dy.rowOf rs wt)).length := (List.getElem?_eq_some_iff.mp hg).1
      rw [Tb.ents_len] at hj
      unfold Tb.ents at hg
      rw [List.getElem?_map] at hg
      obtain ⟨g, hg2, rfl⟩ := Option.map_eq_some_iff.mp hg
      clear hg
      have hg := hg2
      refine ⟨t, _, rfl, SqT.of (s3 _ _ et), rfl, _, [_, _], rfl, _, [_], rfl, _, [], rfl, rfl, rfl, ?_⟩
      refine ⟨_, rfl, _, rfl, _, _, rfl, rfl, _, rfl, _, rfl, by show 3 ≤ sizeLine; decide, fun u nu => ?_⟩
      have s4 := same_upd (o := .tup (fI [β + g.1, n, g.2])) nu
      refine ⟨_, s4 _ _ eD, ?_, ds ++ [u], fun b o e => ?_, by rw [upd_same, List.map_append]; rfl, ?_⟩
      · rw [List.length_map, td.length, List.length_map, List.length_take]
        exact small1000 (by omega)
      · rw [upd_ne (ne_of_none e hD)]
        exact s4 _ _ (s3 _ _ e)
      · rw [take_snoc hg, List.map_append]
        exact ((td.new nu).snoc upd_same).put (s4 _ _ eD)
    · obtain ⟨ds, s3, eD, td⟩ := h
      rw [List.length_map, tM.length, Tb.ents_len, ← Tb.go_len ls (Dy.rowOf rs wt) 0, List.take_length] at td
      exact q D ds H3 (s2.trans s3) (Same.free s2 hD) eD td
end

/-! ### the layings of a day -/
section
variable {P : Program} {w : World} {K : PySem.W.Frag} {mg : Str → Option Value} {base : Heap}
theorem letts_len {b : Int} {cs : List Int} (g4 : ∀ c ∈ cs, c ≤ 4) (g1 : cs.length ≤ 400) : (Ln.letts b cs).length ≤ 1600 := by
  have := Ln.pre_len (b := b) g4 cs.length
  unfold Ln.letts
  omega
def spCLay (K : PySem.W.Frag) (C : Addr) : Sp := fun vs H Q _ => ∃ (p a : Addr) (ls : List Int) (rs : List (List Int)) (cs : List Int) (k : Int), vs = [.ref p, .ref p, .ref a, .int 0] ∧ TabAt K C H p ls rs ∧ Tb.Right ls rs ∧ SqT K H a (cs.map V.int) ∧ Rt k cs ∧ k ≤ 4 ∧
  ∀ L ps es H', Same H H' → H L = none → H' L = some (.lst (ps.map V.ref)) → Tups fI H' ps es → es.Perm (Dy.lays ls rs 0 (Ln.letts (rs.length : Int) cs)) → es.Pairwise (fun x y => TS.code 10000 x ≤ TS.code 10000 y) → Q (.ref L) H'
def spTLay (K : PySem.W.Frag) (C : Addr) : Sp := fun vs H Q _ => ∃ (p a : Addr) (ls : List Int) (rs : List (List Int)) (cs : List Int) (k : Int), vs = [.ref p, .ref a] ∧ TabAt K C H p ls rs ∧ Tb.Right ls rs ∧ SqT K H a (cs.map V.int) ∧ Rt k cs ∧ k ≤ 4 ∧
  ∀ L ps es H', Same H H' → H L = none → H' L = some (.lst (ps.map V.ref)) → Tups fI H' ps es → es.Perm (Dy.lays ls rs 0 (Ln.letts (rs.length : Int) cs)) → es.Pairwise (fun x y => TS.code 10000 x ≤ TS.code 10000 y) → Q (.ref L) H'
theorem lay1_len {ls : List Int} {rs : List (List Int)} (R : Tb.Right ls rs) {n : Int} {l : Ln.Let} (h : ∀ w, l.2.2 = some w → 0 ≤ w ∧ w ≤ (rs.length : Int)) : (Dy.lay1 ls rs n l).length ≤ 60 := by
  obtain ⟨t, u, wt⟩ := l
  cases wt with
  | none => exact Nat.zero_le _
  | some w =>
    show ((Tb.go ls 0 (Dy.rowOf rs w)).map _).length ≤ 60
    rw [List.length_map, Tb.go_len]
    exact row_short R (h w rfl).2
theorem lays_len {ls : List Int} {rs : List (List Int)} (R : Tb.Right ls rs) : ∀ (L : List Ln.Let) (n : Int), Dy.Wt rs L → (Dy.lays ls rs n L).length ≤ 60 * L.length
  | [], _, _ => Nat.le_refl _
  | l :: r, n, h => by
    show (Dy.lay1 ls rs n l ++ Dy.lays ls rs (n + 1) r).length ≤ 60 * (r.length + 1)
    have h1 := lay1_len R (n := n) (h l List.mem_cons_self)
    have h2 := lays_len R r (n + 1) fun x hx => h x (List.mem_cons_of_mem _ hx)
    rw [List.length_append]
    omega
theorem ok_changed_layings (T : Tx K mg) : FnOk P w K mg base CX0 5 T.a_changed_layings T.d_changed_layings ["one", "other", "comings", "change"] (spCLay K T.c_Table) := by
  refine T.F_changed_layings.ok sc_changed_layings (fun vs H Q E h => ?_) (fun cdv A outer s H vs Q E hr h => ?_)
  · obtain ⟨p, a, ls, rs, cs, k, rfl, _⟩ := h
    rfl
  · obtain ⟨p, a, ls, rs, cs, k, rfl, tab, R, hT, g, hk, q⟩ := h
    have g4 := g.four hk
    have zl := letts_len (b := (rs.length : Int)) g4 g.1
    have hwt := Dy.letts_wt (rs := rs) cs
    have r60 := R.2.2.1
    obtain ⟨dx, la, ra, rps, ep, _, _, _⟩ := tab.ob
    refine ⟨_, ((pss_cons (ps_set (i := 4) sc_changed_layings.nd rfl (.inl rfl) (pe_lst pa_nil))
  (pss_cons (ps_for PassesOwn.never rfl (pi_enum (by rfl) T.m_enumerate (pa_cons (pe_call (ok_letters_of T) (hr.mono (by decide)) (by rfl) T.g_letters_of T.F_letters_of.kp T.b_letters_of .nil pass0 (pa_cons (pe_fld (pv 0) rfl) (pa_cons (pv 2) pa_nil))) pa_nil)) (pg_tup rfl (pgs_cons (pg_name (i := 5) sc_changed_layings.nd rfl (.inl rfl)) (pgs_cons (pg_tup rfl (pgs_cons (pg_name (i := 6) sc_changed_layings.nd rfl (.inl rfl)) (pgs_cons (pg_name (i := 7) sc_changed_layings.nd rfl (.inl rfl)) (pgs_cons (pg_name (i := 8) sc_changed_layings.nd rfl (.inl rfl)) pgs_nil)))) pgs_nil)))
   (pss_one (ps_if (pt_cmpR op_notN (pv 8) pe_non (nomark _)) (pss_one (ps_expr (pe_bm PySem.F.plainAttrs_list PySem.F.slot_list_extend PySem.F.type_list_extend mt_extend (pv 4) (pa_cons (pe_call (ok_layings_of T) (hr.mono (by decide)) (by rfl) T.g_layings_of T.F_layings_of.kp T.b_layings_of .nil pass0 (pa_cons (pe_ifExp (pt_cmpR op_lt (pv 6) (pv 3) (nomark _)) (pv 0) (pv 1)) (pa_cons (pv 6) (pa_cons (pv 5) (pa_cons (pv 8) pa_nil))))) pa_nil)))) pss_nil)))
  (pss_one (ps_ret (pe_callB (cr_sortC (B := 10000) (d := 3) (by decide)) (by rfl) T.m_sorted (by decide +kernel) (pa_cons (pv 4) pa_nil))))))), ?_⟩
    refine ⟨Nat.zero_le _, fun D nD => ?_⟩
    have sD := same_upd (o := .lst []) nD
    refine ⟨.ref p, rfl, p, T.c_Table, dx, _, _, rfl, sD _ _ ep, T.cl_Table, T.n_Table_bound, tf_bound _ _ _, .ref a, rfl, a, cs, _, k, rfl, sT sD hT, g, hk, by omega, fun L ps H1 s1 nL eL tu => ?_⟩
    have hLD : L ≠ D := fun e => by
      rw [e, upd_same] at nL
      cases nL
    refine ⟨L, _, rfl, SqL.of eL, RR.for_enumL (K := K) (xs := ps.map V.ref)
      (fun i σ H' => ∃ (y3 y4 y5 y6 : Option V) (qs : List Addr), σ = [some (.ref p), some (.ref p), some (.ref a), some (.int 0), some (.ref D), y3, y4, y5, y6] ∧ H' D = some (.lst (qs.map V.ref)) ∧ Tups fI H' qs (Dy.lays ls rs 0 ((Ln.letts (rs.length : Int) cs).take i)) ∧ H' L = some (.lst (ps.map V.ref)) ∧ Tups tv H' ps (Ln.letts (rs.length : Int) cs) ∧ Same H H')
      ⟨_, _, _, _, [], rfl, s1 _ _ upd_same, .nil, eL, tu, sD.trans s1⟩ (fun i σ H' _ h => ?_) (fun i x X σ H' hx h nX => ?_) (fun σ H' h => ?_)⟩
    · obtain ⟨_, _, _, _, _, _, _, _, e, _⟩ := h
      exact SqL.of e
    · obtain ⟨y3, y4, y5, y6, qs, rfl, eD, tq, eL', tu', sm⟩ := h
      obtain ⟨r, l, rfl, hl, er⟩ := tu'.get hx
      have hi : i < (Ln.letts (rs.length : Int) cs).length := (List.getElem?_eq_some_iff.mp hl).1
      have sX : Same H' (upd H' X (.tup [.int (i : Nat), .ref r])) := same_upd nX
      have eo : Dy.lays ls rs 0 ((Ln.letts (rs.length : Int) cs).take (i + 1)) = Dy.lays ls rs 0 ((Ln.letts (rs.length : Int) cs).take i) ++ Dy.lay1 ls rs (i : Int) l := by
        rw [take_snoc hl, Dy.lays_snoc, List.length_take, Int.zero_add, Nat.min_eq_left (by omega)]
      have zq : qs.length ≤ 96000 := by
        rw [tq.length]
        have := lays_len R ((Ln.letts (rs.length : Int) cs).take i) 0 fun x hx => hwt x (List.mem_of_mem_take hx)
        rw [List.length_take] at this
        omega
      refine ⟨X, _, rfl, SqT.of upd_same, rfl, _, [_], rfl, _, [], rfl, r, _, rfl, SqT.of (sX _ _ er), rfl, _, [_, _], rfl, _, [_], rfl, _, [], rfl, rfl, rfl, ?_⟩
      have hlw := hwt l (List.mem_of_getElem? hl)
      obtain ⟨lt, lu, lw⟩ := l
      cases lw with
      | none =>
        refine ⟨.non, rfl, rfl, false, rfl, iteF ?_⟩
        refine ⟨_, _, _, _, qs, rfl, sX _ _ eD, ?_, sX _ _ eL', tu'.new nX, sm.trans sX⟩
        rw [eo]
        show Tups fI _ qs (_ ++ [])
        rw [List.append_nil]
        exact tq.new nX
      | some wt =>
        obtain ⟨w0, w1⟩ := hlw wt rfl
        refine ⟨.int wt, rfl, rfl, true, rfl, iteT ?_⟩
        have smX := sm.trans sX
        have lt0 : 0 ≤ lt := (Dy.pre_in (by omega : (0 : Int) ≤ (rs.length : Int)) cs cs.length _ (List.mem_of_getElem? hl)).1
        refine ⟨.ref D, rfl, .inl ⟨rfl, _, SqL.of (sX _ _ eD)⟩, ?_⟩
        refine ⟨.int lt, rfl, .int 0, rfl, _, _, rfl, rfl, false, congrArg V.bl (decide_eq_false (by omega)), iteF ?_⟩
        refine ⟨.ref p, rfl, .int lt, rfl, .int (i : Nat), rfl, .int wt, rfl, p, lt, (i : Int), wt, ls, rs, rfl, tab.same smX, R, w0, w1, fun M ms H3 s3 nM eM tM => ?_⟩
        have eD3 := s3 _ _ (sX _ _ eD)
        have zm : ms.length ≤ 60 := by
          rw [tM.length, List.length_map, Tb.go_len]
          exact row_short R w1
        refine ⟨D, M, _, _, rfl, rfl, eD3, eM, ?_, ?_⟩
        · rw [List.length_map, List.length_map]
          show _ ≤ 2 ^ 24
          omega
        · refine ⟨_, _, _, _, qs ++ ms, rfl, by rw [upd_same, List.map_append], ?_, ?_, ?_, same_put (smX.trans s3) nD⟩
          · rw [eo]
            exact (((tq.new nX).same s3).append tM).put eD3
          · rw [upd_ne hLD]
            exact s3 _ _ (sX _ _ eL')
          · exact ((tu'.new nX).same s3).put eD3
    · obtain ⟨y3, y4, y5, y6, qs, rfl, eD, tq, eL', tu', sm⟩ := h
      rw [List.length_map, tu.length, List.take_of_length_le (Nat.le_refl _)] at tq
      have hb := Dy.lays_bd R 0 (Ln.letts (rs.length : Int) cs) 0 (by omega) (by omega) hwt (fun l hl => by
        obtain ⟨x, y, _⟩ := Dy.pre_in (by omega : (0 : Int) ≤ (rs.length : Int)) cs cs.length l hl
        have := g.1
        exact ⟨x, by omega⟩)
      refine ⟨.ref D, rfl, D, qs, _, rfl, SqL.of eD, tq, fun r hr => ⟨(hb r hr).1, (hb r hr).2.1⟩, fun ps' rs' M tu2 pm pw nM => ?_⟩
      exact q M ps' rs' _ (sm.trans (same_upd nM)) (Same.free sm nM) upd_same (tu2.new nM) pm pw
theorem ok_table_layings (T : Tx K mg) : FnOk P w K mg base CX0 6 T.a_table_layings T.d_table_layings ["table", "comings"] (spTLay K T.c_Table) := by
  refine T.F_table_layings.ok sc_table_layings (fun vs H Q E h => ?_) (fun cdv A outer s H vs Q E hr h => ?_)
  · obtain ⟨p, a, ls, rs, cs, k, rfl, _⟩ := h
    rfl
  · obtain ⟨p, a, ls, rs, cs, k, rfl, tab, R, hT, g, hk, q⟩ := h
    refine ⟨_, ((pss_one (ps_ret (pe_call (ok_changed_layings T) (hr.mono (by decide)) (by rfl) T.g_changed_layings T.F_changed_layings.kp T.b_changed_layings .nil pass0 (pa_cons (pv 0) (pa_cons (pv 0) (pa_cons (pv 1) (pa_cons pe_int pa_nil)))))))), ?_⟩
    exact ⟨.ref p, rfl, .ref p, rfl, .ref a, rfl, p, a, ls, rs, cs, k, rfl, tab, R, hT, g, hk, q⟩
end

theorem cut1 (xs : List V) : cutV xs (some 1) none = xs.drop 1 := by
  unfold cutV
  rw [show HT.sIx xs.length 0 (some 1) = min 1 xs.length from HT.sIx_nat xs.length 0 1, HT.sIx_none]
  cases xs with
  | nil => rfl
  | cons x r =>
    rw [show min 1 (x :: r).length = 1 by
      rw [List.length_cons]
      omega]
    show (List.take ((x :: r).length - 1) r) = r
    rw [List.length_cons, Nat.add_sub_cancel]
    exact List.take_length

/-! ### two letters that enter one loop at one tick -/
theorem exm_self {K : PySem.W.Frag} {S : Addr} (h1 : PySem.W.subIn K (.ref S) (.type "BaseException") = some true) (h2 : PySem.W.isClsIn K S = true) (h3 : PySem.W.typeIn K (.ref S) = some (.type "type")) (h4 : PySem.W.subIn K (.ref S) (.ref S) = some true) :
    PySem.W.exmOne K (.ref S) (.ref S) = some true := by
  have a : (PySem.W.subIn K (.ref S) (.type "BaseException") == some true) = true := by
    rw [h1]
    rfl
  have h2' : (PySem.W.clsIn K S).isSome = true := h2
  have b : ((PySem.W.clsIn K S).isSome && PySem.W.typeIn K (.ref S) == some (.type "type")) = true := by
    rw [h2', h3]
    rfl
  unfold PySem.W.exmOne
  rw [if_pos a]
  show (if _ then PySem.W.subIn K (.ref S) (.ref S) else none) = some true
  rw [if_pos b]
  exact h4
section
variable {P : Program} {w : World} {K : PySem.W.Frag} {mg : Str → Option Value} {base : Heap}
def spMeetI (K : PySem.W.Frag) (C : Addr) : Sp := fun vs H Q _ => ∃ (a : Addr) (t l : V), vs = [.ref a, t, l] ∧ H a = some (exo a C none) ∧
  ∀ dx, H dx = none → dx ≠ a → Q .non (upd (upd (upd H dx (exd dx [("tick", t)])) a (exo a C (some dx))) dx (exd dx [("loop", l), ("tick", t)]))
theorem ok_Meet___init__ (T : Tx K mg) : FnOk P w K mg base CX0 1 T.a_Meet___init__ T.d_Meet___init__ ["self", "tick", "loop"] (spMeetI K T.c_Meet) := by
  refine T.F_Meet___init__.ok sc_Meet___init__ (fun vs H Q E h => ?_) (fun cdv A outer s H vs Q E hr h => ?_)
  · obtain ⟨a, t, l, rfl, _⟩ := h
    rfl
  · obtain ⟨a, t, l, rfl, ea, q⟩ := h
    refine ⟨_, ((pss_cons (ps_ost (pv 0) (pv 1))
  (pss_one (ps_ost (pv 0) (pv 2))))), ?_⟩
    refine ⟨t, rfl, .ref a, rfl, a, T.c_Meet, rfl, T.x_Meet, T.n_Meet_tick, .inl ⟨ea, fun dx nd ne => ?_⟩⟩
    refine ⟨l, rfl, .ref a, rfl, a, T.c_Meet, rfl, T.x_Meet, T.n_Meet_loop, .inr ⟨dx, _, upd_same, (upd_ne ne).trans upd_same, by show 1 ≤ 900; decide, ?_⟩⟩
    exact q dx nd ne
def spFM (K : PySem.W.Frag) : Sp := fun vs H Q _ => ∃ (L : Addr) (ps : List Addr) (es : List (List Int)), vs = [.ref L] ∧ H L = some (.lst (ps.map V.ref)) ∧ Tups fI H ps es ∧ (∀ e ∈ es, e.length = 3 ∧ TS.Bd 10000 e) ∧ es.length ≤ 96000 ∧
  ((∀ r, (Mt.prs es).count r ≤ 1) → ∀ H', Same H H' → Q .non H') ∧ (∀ t l p H', Mt.Least (Mt.prs es) [t, l] → Same H H' → H' p = some (.tup [.int t, .int l]) → Q (.ref p) H')
theorem prs_bd {es : List (List Int)} (h : ∀ e ∈ es, e.length = 3 ∧ TS.Bd 10000 e) : ∀ r ∈ Mt.prs es, r.length = 2 ∧ TS.Bd 10000 r := fun r hr => by
  obtain ⟨e, he, rfl⟩ := List.mem_map.mp hr
  obtain ⟨h1, h2⟩ := h e he
  match e, h1, h2 with
  | [a, b, c], _, h2 =>
    refine ⟨rfl, fun m hm => ?_⟩
    have hm' : m ∈ [a, c] := hm
    simp only [List.mem_cons, List.not_mem_nil, or_false] at hm'
    rcases hm' with z | z
    · exact h2 m (by rw [z]; simp)
    · exact h2 m (by rw [z]; simp)
theorem small96 {n : Nat} (h : n ≤ 96000) : n < sizeLine := by
  show n < 2 ^ 24
  omega
theorem ok_first_meet (T : Tx K mg) : FnOk P w K mg base CX0 1 T.a_first_meet T.d_first_meet ["layings"] (spFM K) := by
  refine T.F_first_meet.ok sc_first_meet (fun vs H Q E h => ?_) (fun cdv A outer s H vs Q E hr h => ?_)
  · obtain ⟨L, ps, es, rfl, _⟩ := h
    rfl
  · obtain ⟨L, ps, es, rfl, eL, tu, hb, zes, q0, q1⟩ := h
    refine ⟨_, ((pss_cons (ps_set (i := 1) sc_first_meet.nd rfl (.inl rfl) (pe_callB (cr_sortC (B := 10000) (d := 2) (by decide)) (by rfl) T.m_sorted (by decide +kernel) (pa_cons (pe_lc (own := [("tick", 4), ("letter", 5), ("loop", 6)]) (g := (gTup K 3 (gCons (gName 4) (gCons (gName 5) (gCons (gName 6) gNil))))) (tt := tYes) rfl sc_first_meet.nd (pi_list (pv 0)) (blkOk_by (own := [("tick", 4), ("letter", 5), ("loop", 6)]) (N := ["layings", "found", "one", "other", "tick", "letter", "loop"]) (sc := defScope s_first_meet) (by decide +kernel)) (fun _ _ _ _ _ => pg_tup rfl (pgs_cons (pg_name (i := 4) sc_first_meet.nd rfl (.inl rfl)) (pgs_cons (pg_name (i := 5) sc_first_meet.nd rfl (.inl rfl)) (pgs_cons (pg_name (i := 6) sc_first_meet.nd rfl (.inl rfl)) pgs_nil)))) (fun _ _ _ _ _ => pts_nil) (fun _ _ _ _ _ => (pe_tup (pa_cons (pv 4) (pa_cons (pv 6) pa_nil))))) pa_nil)))
  (pss_cons (ps_for PassesOwn.never rfl (pi_zip (by rfl) T.m_zip (pa_cons (pv 1) (pa_cons (pe_slice sl_list (pv 1) (po_some pe_int) po_none) pa_nil))) (pg_tup rfl (pgs_cons (pg_name (i := 2) sc_first_meet.nd rfl (.inl rfl)) (pgs_cons (pg_name (i := 3) sc_first_meet.nd rfl (.inl rfl)) pgs_nil)))
   (pss_one (ps_if (pt_cmpR (op_eqD hr.units) (pv 2) (pv 3) (nomark _)) (pss_one (ps_ret (pv 2))) pss_nil)))
  (pss_one (ps_ret pe_non))))), ?_⟩
    refine ⟨.ref L, rfl, L, rfl, ⟨_, SqL.of eL⟩, fun D hD => lc_list (K := K) (a := L) (xs := ps.map V.ref)
      (fun j H' => ∃ ds : List Addr, Same H H' ∧ H' D = some (.lst (ds.map V.ref)) ∧ Tups fI H' ds (Mt.prs (es.take j)))
      ⟨[], same_upd hD, upd_same, .nil⟩ (fun j H' _ h => let ⟨_, sm, _⟩ := h; SqL.of (sm _ _ eL)) (fun j x H' hx h => ?_) (fun H1 h => ?_)⟩
    · obtain ⟨ds, sm, eD, td⟩ := h
      obtain ⟨r, e, rfl, he, er⟩ := tu.get hx
      have hj : j < es.length := (List.getElem?_eq_some_iff.mp he).1
      obtain ⟨hl3, _⟩ := hb e (List.mem_of_getElem? he)
      obtain ⟨x1, x2, x3, rfl⟩ : ∃ x1 x2 x3, e = [x1, x2, x3] := by
        match e, hl3 with
        | [a, b, c], _ => exact ⟨_, _, _, rfl⟩
      refine ⟨r, _, rfl, SqT.of (sm _ _ er), rfl, _, [_, _], rfl, _, [_], rfl, _, [], rfl, rfl, rfl, ?_⟩
      refine ⟨.int x1, rfl, .int x3, rfl, by show 2 ≤ sizeLine; decide, fun u nu => ?_⟩
      have s2 := same_upd (o := .tup (fI [x1, x3])) nu
      refine ⟨_, s2 _ _ eD, ?_, ds ++ [u], same_put (sm.trans s2) hD, by rw [upd_same, List.map_append]; rfl, ?_⟩
      · rw [List.length_map, td.length]
        unfold Mt.prs
        rw [List.length_map, List.length_take]
        exact small96 (by omega)
      · rw [take_snoc he]
        unfold Mt.prs
        rw [List.map_append]
        exact ((td.new nu).snoc (x := [x1, x3]) upd_same).put (s2 _ _ eD)
    · obtain ⟨ds, sm, eD, td⟩ := h
      rw [List.length_map, tu.length, List.take_of_length_le (Nat.le_refl _)] at td
      have hb2 := prs_bd hb
      refine ⟨D, ds, _, rfl, SqL.of eD, td, hb2, fun qs rs M tq pm pw nM => ?_⟩
      have sM := same_upd (o := .lst (qs.map V.ref)) nM
      have tqM := tq.new (o := .lst (qs.map V.ref)) nM
      have eM : (upd H1 M (.lst (qs.map V.ref))) M = some (.lst (qs.map V.ref)) := upd_same
      have s1 := sm.trans sM
      generalize upd H1 M (.lst (qs.map V.ref)) = H2 at *
      have hbr : Mt.Ok2 rs := fun r hr => hb2 r (pm.mem_iff.mp hr)
      refine ⟨.ref M, rfl, .ref M, rfl, 1, rfl, M, _, rfl, SqL.of eM, fun c nc => ?_⟩
      have ecut : cutV (qs.map V.ref) (some 1) none = (qs.drop 1).map V.ref := by
        rw [cut1, List.map_drop]
      rw [ecut]
      have s3 := same_upd (o := .lst ((qs.drop 1).map V.ref)) nc
      have sA := s1.trans s3
      have hMc : M ≠ c := ne_of_none eM nc
      refine ⟨M, c, _, _, rfl, SqL.of (s3 _ _ eM), SqL.of upd_same, for_zipS (K := K) (xs := qs.map V.ref) (ys := (qs.drop 1).map V.ref) (by rw [List.length_map, List.length_map, List.length_drop]; omega)
        (fun i σ H' => ∃ (y2 y3 y4 y5 y6 : Option V), σ = [some (.ref L), some (.ref M), y2, y3, y4, y5, y6] ∧ (∀ (j : Nat) x y, j < i → rs[j]? = some x → rs[j + 1]? = some y → x ≠ y) ∧ Same (upd H2 c (.lst ((qs.drop 1).map V.ref))) H')
        ⟨_, _, _, _, _, rfl, fun j x y h => absurd h (Nat.not_lt_zero _), fun _ _ e => e⟩ (fun i σ H' h => ?_) (fun i x y X σ H' hx hy h nX => ?_) (fun σ H' h => ?_)⟩
      · obtain ⟨_, _, _, _, _, _, _, sm'⟩ := h
        exact ⟨SqL.of (sm' _ _ (s3 _ _ eM)), SqL.of (sm' _ _ upd_same)⟩
      · obtain ⟨y2, y3, y4, y5, y6, rfl, adj, sm'⟩ := h
        obtain ⟨px, a, rfl, ha, ea⟩ := tqM.get hx
        have hy' : (qs.map V.ref)[i + 1]? = some y := by
          rw [List.getElem?_map, List.getElem?_drop] at hy
          rw [List.getElem?_map, Nat.add_comm i 1]
          exact hy
        obtain ⟨py, b, rfl, hb', eb⟩ := tqM.get hy'
        have sX := same_upd (o := .tup [V.ref px, .ref py]) nX
        have sB := (s3.trans sm').trans sX
        refine ⟨X, _, rfl, SqT.of upd_same, rfl, _, [_], rfl, _, [], rfl, rfl, ?_⟩
        refine ⟨.ref px, rfl, .ref py, rfl, dI a, dI b, dp_dI (SqT.of (sB _ _ ea)), dp_dI (SqT.of (sB _ _ eb)), (Shp.dI _).ok (by decide), (Shp.dI _).ok (by decide), ?_⟩
        by_cases c1 : a = b
        · refine ⟨true, congrArg V.bl (by rw [eqvI, decide_eq_true c1]), iteT ?_⟩
          subst c1
          obtain ⟨hl2, _⟩ := hbr a (List.mem_of_getElem? ha)
          obtain ⟨t, l, rfl⟩ : ∃ t l, a = [t, l] := by
            match a, hl2 with
            | [t, l], _ => exact ⟨_, _, rfl⟩
          have le : Mt.Least (Mt.prs es) [t, l] := Mt.Least.perm (Mt.twice_least hbr pw ha hb' adj) pm
          exact ⟨.ref px, rfl, q1 t l px _ le (s1.trans sB) (sB _ _ ea)⟩
        · refine ⟨false, congrArg V.bl (by rw [eqvI, decide_eq_false c1]), iteF ?_⟩
          refine ⟨_, _, _, _, _, rfl, fun j a' b' hj h1 h2 => ?_, sm'.trans sX⟩
          by_cases ej : j = i
          · subst ej
            rw [ha] at h1
            rw [hb'] at h2
            rw [← Option.some.inj h1, ← Option.some.inj h2]
            exact c1
          · exact adj j a' b' (by omega) h1 h2
      · obtain ⟨y2, y3, y4, y5, y6, rfl, adj, sm'⟩ := h
        refine q0 (fun r => ?_) H' (sA.trans sm')
        rw [← pm.count_eq]
        refine Mt.strict_count hbr pw (fun j a b h1 h2 => adj j a b ?_ h1 h2) r
        have := (List.getElem?_eq_some_iff.mp h2).1
        rw [List.length_map, List.length_drop, tqM.length]
        omega
/-- no two letters enter one loop at one tick -/
def NoM (ls : List Int) (rs : List (List Int)) (cs : List Int) : Prop := ∀ r, (Mt.prs (Dy.lays ls rs 0 (Ln.letts (rs.length : Int) cs))).count r ≤ 1
theorem lays_ok {ls : List Int} {rs : List (List Int)} {cs : List Int} {k : Int} (R : Tb.Right ls rs) (g : Rt k cs) (hk : k ≤ 4) {es : List (List Int)} (pm : es.Perm (Dy.lays ls rs 0 (Ln.letts (rs.length : Int) cs))) :
    (∀ e ∈ es, e.length = 3 ∧ TS.Bd 10000 e) ∧ es.length ≤ 96000 ∧ (Mt.prs es).Perm (Mt.prs (Dy.lays ls rs 0 (Ln.letts (rs.length : Int) cs))) := by
  have g4 := g.four hk
  have zl := letts_len (b := (rs.length : Int)) g4 g.1
  have hwt := Dy.letts_wt (rs := rs) cs
  have r60 := R.2.2.1
  have hb := Dy.lays_bd R 0 (Ln.letts (rs.length : Int) cs) 0 (by omega) (by omega) hwt (fun l hl => by
    obtain ⟨x, y, _⟩ := Dy.pre_in (by omega : (0 : Int) ≤ (rs.length : Int)) cs cs.length l hl
    have := g.1
    exact ⟨x, by omega⟩)
  refine ⟨fun e he => ?_, ?_, pm.map _⟩
  · obtain ⟨h1, h2, _⟩ := hb e (pm.mem_iff.mp he)
    exact ⟨h1, h2⟩
  · rw [pm.length_eq]
    have := lays_len R (Ln.letts (rs.length : Int) cs) 0 hwt
    omega
def spCM (K : PySem.W.Frag) : Sp := fun vs H Q _ => ∃ (L : Addr) (ps : List Addr) (es : List (List Int)), vs = [.ref L] ∧ H L = some (.lst (ps.map V.ref)) ∧ Tups fI H ps es ∧ (∀ e ∈ es, e.length = 3 ∧ TS.Bd 10000 e) ∧ es.length ≤ 96000 ∧ (∀ r, (Mt.prs es).count r ≤ 1) ∧ ∀ H', Same H H' → Q .non H'
theorem ok_check_meet (T : Tx K mg) : FnOk P w K mg base CX0 3 T.a_check_meet T.d_check_meet ["layings"] (spCM K) := by
  refine T.F_check_meet.ok sc_check_meet (fun vs H Q E h => ?_) (fun cdv A outer s H vs Q E hr h => ?_)
  · obtain ⟨L, ps, es, rfl, _⟩ := h
    rfl
  · obtain ⟨L, ps, es, rfl, eL, tu, hb, zes, hc, q⟩ := h
    refine ⟨_, ((pss_cons (ps_set (i := 1) sc_check_meet.nd rfl (.inl rfl) (pe_call (ok_first_meet T) (hr.mono (by decide)) (by rfl) T.g_first_meet T.F_first_meet.kp T.b_first_meet .nil pass0 (pa_cons (pv 0) pa_nil)))
  (pss_one (ps_if (pt_cmpR op_notN (pv 1) pe_non (nomark _)) (pss_one ps_never) pss_nil)))), ?_⟩
    refine ⟨.ref L, rfl, L, ps, es, rfl, eL, tu, hb, zes, fun _ H2 s2 => ?_, fun t l x H2 le _ _ => ?_⟩
    · refine ⟨.non, rfl, rfl, false, rfl, iteF ?_⟩
      exact q H2 s2
    · have := hc [t, l]
      have := le.1
      omega
def spCMX (K : PySem.W.Frag) (M : Addr) : Sp := fun vs H Q E => ∃ (L : Addr) (ps : List Addr) (es : List (List Int)), vs = [.ref L] ∧ H L = some (.lst (ps.map V.ref)) ∧ Tups fI H ps es ∧ (∀ e ∈ es, e.length = 3 ∧ TS.Bd 10000 e) ∧ es.length ≤ 96000 ∧
  ((∀ r, (Mt.prs es).count r ≤ 1) → ∀ H', Same H H' → Q .non H') ∧
  ∀ t l d H', Mt.Least (Mt.prs es) [t, l] → Same H H' → H d = none → H' d = some (.xd [("loop", .int l), ("tick", .int t)]) → E (.ref M) (some d) H'
theorem ok_check_meet_x (T : Tx K mg) : FnOk P w K mg base (L2.CX P w) 3 T.a_check_meet T.d_check_meet ["layings"] (spCMX K T.c_Meet) := by
  refine T.F_check_meet.okX sc_check_meet (fun vs H Q E h => ?_) (fun cdv A outer s H vs Q E hr h => ?_)
  · obtain ⟨L, ps, es, rfl, _⟩ := h
    rfl
  · obtain ⟨L, ps, es, rfl, eL, tu, hb, zes, qn, q⟩ := h
    refine ⟨_, ((pss_cons (ps_set (i := 1) sc_check_meet.nd rfl (.inl rfl) (pe_call (ok_first_meet T) (hr.mono (by decide)) (by rfl) T.g_first_meet T.F_first_meet.kp T.b_first_meet .nil pass0 (pa_cons (pv 0) pa_nil)))
  (pss_one (ps_if (pt_cmpR op_notN (pv 1) pe_non (nomark _)) (pss_one (ps_raise rfl (takes_of rfl rfl rfl rfl) (pmk_oex T.x_Meet T.i_Meet T.ti_Meet (ok_Meet___init__ T) (hr.mono (by decide)) T.b_Meet___init__ .nil pass0 (by rfl) T.g_Meet (pa_cons (pe_ix ix_tup (pv 1) pe_int (fun _ _ => rfl)) (pa_cons (pe_ix ix_tup (pv 1) pe_int (fun _ _ => rfl)) pa_nil))))) pss_nil)))), ?_⟩
    refine ⟨.ref L, rfl, L, ps, es, rfl, eL, tu, hb, zes, fun hc H2 s2 => ?_, fun t l x H2 le s2 ex => ?_⟩
    · refine ⟨.non, rfl, rfl, false, rfl, iteF ?_⟩
      exact qn hc H2 s2
    · refine ⟨.ref x, rfl, rfl, true, rfl, iteT ?_⟩
      refine ⟨.ref x, rfl, x, _, 0, _, rfl, rfl, SqT.of ex, atI_nat (j := 0) rfl, .ref x, rfl, x, _, 1, _, rfl, rfl, SqT.of ex, atI_nat (j := 1) rfl, by show 2 ≤ 1000; decide, fun e ne => ?_⟩
      refine ⟨e, .int t, .int l, rfl, upd_same, fun dx ndx hne => ⟨rfl, dx, _, (upd_ne hne.symm).trans upd_same, upd_same, ?_, ?_⟩⟩
      · rw [upd_ne hne] at ndx
        exact ndx
      · have nd2 : H2 dx = none := by
          rw [upd_ne hne] at ndx
          exact ndx
        refine q t l dx _ le (fun b o eb => ?_) (Same.free s2 nd2) upd_same
        have eb2 := s2 _ _ eb
        have b1 : b ≠ e := ne_of_none eb2 ne
        have b2 : b ≠ dx := ne_of_none eb2 nd2
        rw [upd_ne b2, del_ne b1, upd_ne b2, upd_ne b1, upd_ne b2, upd_ne b1]
        exact eb2
def spDay (K : PySem.W.Frag) (C : Addr) : Sp := fun vs H Q _ => ∃ (p a : Addr) (k : Int) (ls : List Int) (rs : List (List Int)) (cs : List Int), vs = [.ref p, .int k, .ref a] ∧ TabAt K C H p ls rs ∧ Tb.Right ls rs ∧ SqT K H a (cs.map V.int) ∧ Rt k cs ∧ 2 ≤ k ∧ k ≤ 4 ∧ NoM ls rs cs ∧
  ∀ L ps es H', Same H H' → H L = none → H' L = some (.lst (ps.map V.ref)) → Tups fI H' ps es → es.Perm (Dy.lays ls rs 0 (Ln.letts (rs.length : Int) cs)) → es.Pairwise (fun x y => TS.code 10000 x ≤ TS.code 10000 y) → Q (.ref L) H'
theorem ok_day (T : Tx K mg) : FnOk P w K mg base CX0 7 T.a_day T.d_day ["table", "comers", "comings"] (spDay K T.c_Table) := by
  refine T.F_day.ok sc_day (fun vs H Q E h => ?_) (fun cdv A outer s H vs Q E hr h => ?_)
  · obtain ⟨p, a, k, ls, rs, cs, rfl, _⟩ := h
    rfl
  · obtain ⟨p, a, k, ls, rs, cs, rfl, tab, R, hT, g, hk2, hk4, nm, q⟩ := h
    refine ⟨_, ((pss_cons (ps_expr (pe_call (ok_check_comers T) (hr.mono (by decide)) (by rfl) T.g_check_comers T.F_check_comers.kp T.b_check_comers .nil pass0 (pa_cons (pv 1) pa_nil)))
  (pss_cons (ps_expr (pe_call (ok_check_comings T) (hr.mono (by decide)) (by rfl) T.g_check_comings T.F_check_comings.kp T.b_check_comings .nil pass0 (pa_cons (pv 1) (pa_cons (pv 2) pa_nil))))
  (pss_cons (ps_set (i := 3) sc_day.nd rfl (.inl rfl) (pe_call (ok_table_layings T) (hr.mono (by decide)) (by rfl) T.g_table_layings T.F_table_layings.kp T.b_table_layings .nil pass0 (pa_cons (pv 0) (pa_cons (pv 2) pa_nil))))
  (pss_cons (ps_expr (pe_call (ok_check_meet T) (hr.mono (by decide)) (by rfl) T.g_check_meet T.F_check_meet.kp T.b_check_meet .nil pass0 (pa_cons (pv 3) pa_nil)))
  (pss_one (ps_ret (pv 3)))))))), ?_⟩
    refine ⟨.int k, rfl, k, rfl, hk2, hk4, ?_⟩
    refine ⟨.int k, rfl, .ref a, rfl, a, cs, k, rfl, hT, g, fun H0 s0 => ?_⟩
    refine ⟨.ref p, rfl, .ref a, rfl, p, a, ls, rs, cs, k, rfl, tab.same s0, R, sT s0 hT, g, hk4, fun L ps es H1 s1 nL eL tu pm pw => ?_⟩
    obtain ⟨hb, zes, pp⟩ := lays_ok R g hk4 pm
    have hc : ∀ r, (Mt.prs es).count r ≤ 1 := fun r => by
      rw [pp.count_eq]
      exact nm r
    refine ⟨.ref L, rfl, L, ps, es, rfl, eL, tu, hb, zes, hc, fun H2 s2 => ?_⟩
    exact ⟨.ref L, rfl, q L ps es H2 ((s0.trans s1).trans s2) (Same.free s0 nL) (s2 _ _ eL) (tu.same s2) pm pw⟩
def spDayX (K : PySem.W.Frag) (C M : Addr) : Sp := fun vs H Q E => ∃ (p a : Addr) (k : Int) (ls : List Int) (rs : List (List Int)) (cs : List Int), vs = [.ref p, .int k, .ref a] ∧ TabAt K C H p ls rs ∧ Tb.Right ls rs ∧ SqT K H a (cs.map V.int) ∧ Rt k cs ∧ 2 ≤ k ∧ k ≤ 4 ∧
  (NoM ls rs cs → ∀ L ps es H', Same H H' → H L = none → H' L = some (.lst (ps.map V.ref)) → Tups fI H' ps es → es.Perm (Dy.lays ls rs 0 (Ln.letts (rs.length : Int) cs)) → es.Pairwise (fun x y => TS.code 10000 x ≤ TS.code 10000 y) → Q (.ref L) H') ∧
  ∀ t l d H', Mt.Least (Mt.prs (Dy.lays ls rs 0 (Ln.letts (rs.length : Int) cs))) [t, l] → Same H H' → H d = none → H' d = some (.xd [("loop", .int l), ("tick", .int t)]) → E (.ref M) (some d) H'
theorem ok_day_x (T : Tx K mg) : FnOk P w K mg base (L2.CX P w) 7 T.a_day T.d_day ["table", "comers", "comings"] (spDayX K T.c_Table T.c_Meet) := by
  refine T.F_day.okX sc_day (fun vs H Q E h => ?_) (fun cdv A outer s H vs Q E hr h => ?_)
  · obtain ⟨p, a, k, ls, rs, cs, rfl, _⟩ := h
    rfl
  · obtain ⟨p, a, k, ls, rs, cs, rfl, tab, R, hT, g, hk2, hk4, qn, q⟩ := h
    refine ⟨_, ((pss_cons (ps_expr (pe_call (ok_check_comers T) (hr.mono (by decide)) (by rfl) T.g_check_comers T.F_check_comers.kp T.b_check_comers .nil pass0 (pa_cons (pv 1) pa_nil)))
  (pss_cons (ps_expr (pe_call (ok_check_comings T) (hr.mono (by decide)) (by rfl) T.g_check_comings T.F_check_comings.kp T.b_check_comings .nil pass0 (pa_cons (pv 1) (pa_cons (pv 2) pa_nil))))
  (pss_cons (ps_set (i := 3) sc_day.nd rfl (.inl rfl) (pe_call (ok_table_layings T) (hr.mono (by decide)) (by rfl) T.g_table_layings T.F_table_layings.kp T.b_table_layings .nil pass0 (pa_cons (pv 0) (pa_cons (pv 2) pa_nil))))
  (pss_cons (ps_expr (pe_callS (ok_check_meet_x T) (hr.mono (by decide)) (by rfl) T.g_check_meet T.F_check_meet.kp T.b_check_meet (fun σ => passAt (takes_of rfl rfl rfl rfl) σ) (pa_cons (pv 3) pa_nil)))
  (pss_one (ps_ret (pv 3)))))))), ?_⟩
    refine ⟨.int k, rfl, k, rfl, hk2, hk4, ?_⟩
    refine ⟨.int k, rfl, .ref a, rfl, a, cs, k, rfl, hT, g, fun H0 s0 => ?_⟩
    refine ⟨.ref p, rfl, .ref a, rfl, p, a, ls, rs, cs, k, rfl, tab.same s0, R, sT s0 hT, g, hk4, fun L ps es H1 s1 nL eL tu pm pw => ?_⟩
    obtain ⟨hb, zes, pp⟩ := lays_ok R g hk4 pm
    refine ⟨.ref L, rfl, L, ps, es, rfl, eL, tu, hb, zes, fun hc H2 s2 => ?_, fun t l dx H2 le s2 ndx edx => ?_⟩
    · exact ⟨.ref L, rfl, qn (fun r => by rw [← pp.count_eq]; exact hc r) L ps es H2 ((s0.trans s1).trans s2) (Same.free s0 nL) (s2 _ _ eL) (tu.same s2) pm pw⟩
    · exact q t l dx _ (le.perm pp) ((s0.trans s1).trans s2) (Same.free (s0.trans s1) ndx) edx
end

/-! ### the law's own line -/
section
variable {P : Program} {w : World} {K : PySem.W.Frag} {mg : Str → Option Value} {base : Heap}
theorem ok__law_line (T : Tx K mg) : FnOk P w K mg base CX0 1 T.a__law_line T.d__law_line ["bound", "comings"] (spLetters K) := by
  refine T.F__law_line.ok sc__law_line (fun vs H Q E h => ?_) (fun cdv A outer s H vs Q E hr h => ?_)
  · obtain ⟨a, cs, b, k, rfl, _⟩ := h
    rfl
  · obtain ⟨a, cs, b, k, rfl, hT, g, hk, hb, q⟩ := h
    have g4 := g.four hk
    have g1 := g.1
    refine ⟨_, ((pss_cons (ps_set (i := 2) sc__law_line.nd rfl (.inl rfl) (pe_lst pa_nil))
  (pss_cons (ps_set (i := 3) sc__law_line.nd rfl (.inl rfl) pe_int)
  (pss_cons (ps_for PassesOwn.never rfl (pi_range1 (by rfl) T.m_range (pa_cons (pe_callB call_len_seq (by rfl) T.m_len PySem.boot_len (pa_cons (pv 1) pa_nil)) pa_nil)) (pg_name (i := 4) sc__law_line.nd rfl (.inl rfl))
   (pss_cons (ps_for PassesOwn.never rfl (pi_range1 (by rfl) T.m_range (pa_cons (pe_ix ix_tup (pv 1) (pv 4) (fun _ _ => rfl)) pa_nil)) (pg_name (i := 5) sc__law_line.nd rfl (.inl rfl))
   (pss_one (ps_if (pt_cmpR op_le (pv 3) (pv 0) (nomark _)) (pss_cons (ps_expr (pe_bm PySem.F.plainAttrs_list PySem.F.slot_list_append PySem.F.type_list_append mt_append (pv 2) (pa_cons (pe_tup (pa_cons (pv 4) (pa_cons (pe_op op_add (pv 5) pe_int) (pa_cons (pv 3) pa_nil)))) pa_nil)))
  (pss_one (ps_set (i := 3) sc__law_line.nd rfl (.inl rfl) (pe_op op_add (pv 3) pe_int)))) (pss_one (ps_expr (pe_bm PySem.F.plainAttrs_list PySem.F.slot_list_append PySem.F.type_list_append mt_append (pv 2) (pa_cons (pe_tup (pa_cons (pv 4) (pa_cons (pe_op op_add (pv 5) pe_int) (pa_cons pe_non pa_nil)))) pa_nil)))))))
  (pss_one (ps_set (i := 3) sc__law_line.nd rfl (.inl rfl) (pe_callB (call_max2 rfl) (by rfl) T.m_max (by decide +kernel) (pa_cons pe_int (pa_cons (pe_op op_sub (pv 3) pe_int) pa_nil)))))))
  (pss_one (ps_ret (pv 2))))))), ?_⟩
    refine ⟨Nat.zero_le _, fun L nL => ?_⟩
    have s2 := same_upd (o := .lst []) nL
    refine ⟨.ref a, rfl, a, _, rfl, .inr (sT s2 hT), _, rfl, by rw [List.length_map]; omega, by rw [List.length_map]; omega, for_range (lo := 0) (n := ((((cs.map V.int).length : Nat) : Int)).toNat)
      (fun i σ H' => ∃ (y4 y5 : Option V) (ps : List Addr), σ = [some (.int b), some (.ref a), some (.ref L), some (.int (Ln.pre b cs i).2), y4, y5] ∧ H' L = some (.lst (ps.map V.ref)) ∧ Tups tv H' ps (Ln.pre b cs i).1 ∧ Same H H')
      ⟨_, _, [], rfl, upd_same, .nil, s2⟩ (fun i σ H' hi h => ?_) (fun σ H' h => ?_)⟩
    · obtain ⟨y4, y5, ps, rfl, eL, tu, sm⟩ := h
      rw [List.length_map] at hi
      have hi' : i < cs.length := by omega
      rw [Int.zero_add]
      have hc : cs[i]? = some cs[i] := List.getElem?_eq_getElem hi'
      have bc := g.2 cs[i] (List.mem_of_getElem? hc)
      have ec := Ln.getD_of hc
      generalize cs[i] = c at hc bc ec
      refine ⟨.ref a, rfl, .int (i : Int), rfl, a, _, _, .int c, rfl, rfl, sT sm hT, atI_nat (by rw [List.getElem?_map, hc]; rfl), c, rfl, by omega, by omega, for_range (lo := 0) (n := c.toNat)
        (fun j σ H2 => ∃ (y5 : Option V) (ps : List Addr), σ = [some (.int b), some (.ref a), some (.ref L), some (.int (Ln.turns b (i : Int) j (Ln.pre b cs i)).2), some (.int (i : Nat)), y5] ∧ H2 L = some (.lst (ps.map V.ref)) ∧ Tups tv H2 ps (Ln.turns b (i : Int) j (Ln.pre b cs i)).1 ∧ Same H H2)
        ⟨_, ps, rfl, eL, tu, sm⟩ (fun j σ H2 hj h => ?_) (fun σ H2 h => ?_)⟩
      · obtain ⟨y5, ps, rfl, eL, tu, sm⟩ := h
        have zl : ps.length ≤ 1640 := by
          rw [tu.length, Ln.turns_len]
          have := Ln.pre_len (b := b) g4 i
          omega
        rw [Int.zero_add]
        have eT : ∀ (H3 : Hp) (p : Addr) (x : V), (upd H3 p (.tup [.int (i : Int), .int ((j : Int) + 1), x])) p = some (.tup [.int (i : Int), .int (1 + (j : Int)), x]) := fun H3 p x => by
          rw [upd_same, Int.add_comm (j : Int) 1]
        refine ⟨_, rfl, _, rfl, _, _, rfl, rfl, _, rfl, ite2 (fun h1 => ?_) (fun h1 => ?_)⟩
        · have hb1 : ¬ (Ln.turns b (i : Int) j (Ln.pre b cs i)).2 > b := by
            have := of_decide_eq_true h1
            omega
          have es : Ln.turns b (i : Int) (j + 1) (Ln.pre b cs i) = ((Ln.turns b (i : Int) j (Ln.pre b cs i)).1 ++ [((i : Int), 1 + (j : Int), some (Ln.turns b (i : Int) j (Ln.pre b cs i)).2)], (Ln.turns b (i : Int) j (Ln.pre b cs i)).2 + 1) := if_neg hb1
          refine ⟨.ref L, rfl, .inl ⟨rfl, _, SqL.of eL⟩, _, rfl, _, rfl, _, _, rfl, rfl, _, rfl, by show 3 ≤ sizeLine; decide, fun p np => ?_⟩
          have s3 := same_upd (o := .tup [.int (i : Int), .int ((j : Int) + 1), .int (Ln.turns b (i : Int) j (Ln.pre b cs i)).2]) np
          refine ⟨L, _, _, rfl, rfl, s3 _ _ eL, by rw [List.length_map]; exact small2000 (by omega), ?_⟩
          refine ⟨_, rfl, _, _, rfl, rfl, ?_⟩
          refine ⟨_, ps ++ [p], by rw [es]; rfl, by rw [upd_same, List.map_append]; rfl, ?_, same_put (sm.trans s3) nL⟩
          rw [es]
          exact ((tu.new np).snoc (x := ((i : Int), 1 + (j : Int), some (Ln.turns b (i : Int) j (Ln.pre b cs i)).2)) (eT _ _ _)).put (s3 _ _ eL)
        · have hb1 : (Ln.turns b (i : Int) j (Ln.pre b cs i)).2 > b := by
            have : ¬ (Ln.turns b (i : Int) j (Ln.pre b cs i)).2 ≤ b := fun z => h1 (decide_eq_true z)
            omega
          have es : Ln.turns b (i : Int) (j + 1) (Ln.pre b cs i) = ((Ln.turns b (i : Int) j (Ln.pre b cs i)).1 ++ [((i : Int), 1 + (j : Int), none)], (Ln.turns b (i : Int) j (Ln.pre b cs i)).2) := if_pos hb1
          refine ⟨.ref L, rfl, .inl ⟨rfl, _, SqL.of eL⟩, _, rfl, _, rfl, _, _, rfl, rfl, by show 3 ≤ sizeLine; decide, fun p np => ?_⟩
          have s3 := same_upd (o := .tup [.int (i : Int), .int ((j : Int) + 1), .non]) np
          refine ⟨L, _, _, rfl, rfl, s3 _ _ eL, by rw [List.length_map]; exact small2000 (by omega), ?_⟩
          refine ⟨_, ps ++ [p], by rw [es]; rfl, by rw [upd_same, List.map_append]; rfl, ?_, same_put (sm.trans s3) nL⟩
          rw [es]
          exact ((tu.new np).snoc (x := ((i : Int), 1 + (j : Int), none)) (eT _ _ _)).put (s3 _ _ eL)
      · obtain ⟨y5, ps, rfl, eL, tu, sm⟩ := h
        rw [← ec] at tu ⊢
        have rg := Ln.pre_rng hb cs i
        have rt := Ln.turns_rng (b := b) (τ := (i : Int)) (cs.getD i 0).toNat (Ln.pre b cs i) rg.1 (by omega)
        refine ⟨_, rfl, _, _, rfl, rfl, 0, (Ln.turns b (i : Int) (cs.getD i 0).toNat (Ln.pre b cs i)).2 - 1, rfl, ?_⟩
        refine ⟨some (.int (i : Int)), y5, ps, ?_, eL, tu, sm⟩
        have e : (Ln.pre b cs (i + 1)).2 = if (Ln.turns b (i : Int) (cs.getD i 0).toNat (Ln.pre b cs i)).2 - 1 > 0 then (Ln.turns b (i : Int) (cs.getD i 0).toNat (Ln.pre b cs i)).2 - 1 else 0 := by
          show Ln.close (Ln.turns b (i : Int) (cs.getD i 0).toNat (Ln.pre b cs i)).2 = _
          unfold Ln.close
          split <;> split <;> omega
        rw [e]
        rfl
    · obtain ⟨y4, y5, ps, rfl, eL, tu, sm⟩ := h
      rw [List.length_map, Int.toNat_natCast] at tu
      exact ⟨.ref L, rfl, q L ps H' sm nL eL tu⟩
end

/-! ### the law's own entries -/
section
variable {P : Program} {w : World} {K : PySem.W.Frag} {mg : Str → Option Value} {base : Heap}
def spLEnt (K : PySem.W.Frag) : Sp := fun vs H Q _ => ∃ (a r : Addr) (ls row : List Int), vs = [.ref a, .ref r] ∧ SqT K H a (ls.map V.int) ∧ SqT K H r (row.map V.int) ∧ Tb.InR ls row ∧ row.length ≤ 60 ∧
  ∀ L ps H', Same H H' → H L = none → H' L = some (.lst (ps.map V.ref)) → Tups fI H' ps (Tb.ents ls (Tb.rsum ls row) row) → Q (.ref L) H'
theorem ok__law_entries (T : Tx K mg) : FnOk P w K mg base CX0 1 T.a__law_entries T.d__law_entries ["loops", "row"] (spLEnt K) := by
  refine T.F__law_entries.ok sc__law_entries (fun vs H Q E h => ?_) (fun cdv A outer s H vs Q E hr h => ?_)
  · obtain ⟨a, r, ls, row, rfl, _⟩ := h
    rfl
  · obtain ⟨a, r, ls, row, rfl, hA, hR, hin, hlen, q⟩ := h
    refine ⟨_, ((pss_cons (ps_set (i := 2) sc__law_entries.nd rfl (.inl rfl) (pe_callB (cr_sum rfl) (by rfl) T.m_sum (by decide +kernel) (pa_cons (pe_lc (own := [("k", 5)]) (g := (gName 5)) (tt := tYes) rfl sc__law_entries.nd (pi_tup (pv 1)) (blkOk_by (own := [("k", 5)]) (N := ["loops", "row", "total", "found", "gone", "k"]) (sc := defScope s__law_entries) (by decide +kernel)) (fun _ _ _ _ _ => pg_name (i := 5) sc__law_entries.nd rfl (.inl rfl)) (fun _ _ _ _ _ => pts_nil) (fun _ _ _ _ _ => (pe_ix (ixTK (K := K) (by rfl)) (pv 0) (pv 5) (fun _ _ => rfl)))) pa_nil)))
  (pss_cons (ps_set (i := 3) sc__law_entries.nd rfl (.inl rfl) (pe_lst pa_nil))
  (pss_cons (ps_set (i := 4) sc__law_entries.nd rfl (.inl rfl) pe_int)
  (pss_cons (ps_for PassesOwn.never rfl (pi_tup (pv 1)) (pg_name (i := 5) sc__law_entries.nd rfl (.inl rfl))
   (pss_cons (ps_expr (pe_bm PySem.F.plainAttrs_list PySem.F.slot_list_append PySem.F.type_list_append mt_append (pv 3) (pa_cons (pe_tup (pa_cons (pv 5) (pa_cons (pv 4) (pa_cons (pe_op op_sub (pv 2) (pv 4)) pa_nil)))) pa_nil)))
  (pss_one (ps_set (i := 4) sc__law_entries.nd rfl (.inl rfl) (pe_op op_add (pv 4) (pe_ix (ixTK (K := K) (by rfl)) (pv 0) (pv 5) (fun _ _ => rfl)))))))
  (pss_one (ps_ret (pv 3)))))))), ?_⟩
    refine ⟨.ref r, rfl, r, rfl, ⟨_, hR⟩, fun D hD => lc_tup (K := K) (a := r) (xs := row.map V.int)
      (fun i H' => Same H H' ∧ H' D = some (.lst (((row.take i).map (Tb.len1 ls)).map V.int)))
      ⟨same_upd hD, upd_same⟩ (fun i H' _ p => sT p.1 hR) (fun i x H' hx p => ?_) (fun H' p => ?_)⟩
    · obtain ⟨sm, eD⟩ := p
      rw [List.getElem?_map] at hx
      obtain ⟨n, hn, rfl⟩ := Option.map_eq_some_iff.mp hx
      have hk := hin n (List.mem_of_getElem? hn)
      have hi' : i < row.length := (List.getElem?_eq_some_iff.mp hn).1
      refine ⟨rfl, ?_⟩
      refine ⟨.ref a, rfl, .int n, rfl, a, _, _, .int (Tb.len1 ls n), rfl, rfl, sT sm hA, atI_of hk.1 ?_, ?_⟩
      · rw [List.getElem?_map, Tb.len_at hk.1 hk.2]
        rfl
      · refine ⟨_, eD, ?_, fun b o e => ?_, ?_⟩
        · rw [List.length_map, List.length_map, List.length_take]
          exact small1000 (by omega)
        · rw [upd_ne (ne_of_none e hD)]
          exact sm b o e
        · rw [upd_same, take_snoc hn, List.map_append, List.map_append]
          rfl
    · obtain ⟨sm0, eD⟩ := p
      rw [List.length_map, List.take_of_length_le (Nat.le_refl _)] at eD
      refine ⟨D, _, rfl, SqL.of eD, ?_⟩
      refine ⟨Nat.zero_le _, fun L nL => ?_⟩
      have s1 := sm0.trans (same_upd (o := .lst []) nL)
      refine ⟨.ref r, rfl, r, rfl, ⟨_, sT s1 hR⟩, for_tup (K := K) (xs := row.map V.int)
        (fun i σ H' => ∃ (y5 : Option V) (qs : List Addr), σ = [some (.ref a), some (.ref r), some (.int (Tb.rsum ls row)), some (.ref L), some (.int (Tb.rsum ls (row.take i))), y5] ∧ H' L = some (.lst (qs.map V.ref)) ∧ Tups fI H' qs (((Tb.go ls 0 row).take i).map (Tb.ent (Tb.rsum ls row))) ∧ Same H H')
        ⟨_, [], rfl, upd_same, .nil, s1⟩ (fun i σ H' _ h => ?_) (fun i x σ H' hx h => ?_) (fun σ H' h => ?_)⟩
      · obtain ⟨_, _, _, _, _, sm⟩ := h
        exact sT sm hR
      · obtain ⟨y5, qs, rfl, eL, tq, sm⟩ := h
        rw [List.getElem?_map] at hx
        obtain ⟨k, hk, rfl⟩ := Option.map_eq_some_iff.mp hx
        have bk := hin k (List.mem_of_getElem? hk)
        have hi' : i < row.length := (List.getElem?_eq_some_iff.mp hk).1
        have hg : (Tb.go ls 0 row)[i]? = some (Tb.rsum ls (row.take i), k) := by
          rw [Tb.go_take, hk, Int.zero_add]
          rfl
        have zq : qs.length ≤ 60 := by
          rw [tq.length, List.length_map, List.length_take]
          omega
        refine ⟨.ref L, rfl, .inl ⟨rfl, _, SqL.of eL⟩, _, rfl, _, rfl, _, rfl, _, rfl, _, _, rfl, rfl, by show 3 ≤ sizeLine; decide, fun t nt => ?_⟩
        have s3 := same_upd (o := .tup (fI (Tb.ent (Tb.rsum ls row) (Tb.rsum ls (row.take i), k)))) nt
        refine ⟨L, _, _, rfl, rfl, s3 _ _ eL, by rw [List.length_map]; exact small1000 (by omega), ?_⟩
        have sm4 : Same H (upd (upd H' t (.tup (fI (Tb.ent (Tb.rsum ls row) (Tb.rsum ls (row.take i), k))))) L (.lst (qs.map V.ref ++ [V.ref t]))) := same_put (sm.trans s3) (Same.free sm0 nL)
        refine ⟨_, rfl, .ref a, rfl, .int k, rfl, a, _, _, .int (Tb.len1 ls k), rfl, rfl, sT sm4 hA, atI_of bk.1 (by rw [List.getElem?_map, Tb.len_at bk.1 bk.2]; rfl), _, _, rfl, rfl, ?_⟩
        refine ⟨some (.int k), qs ++ [t], ?_, by rw [upd_same, List.map_append]; rfl, ?_, sm4⟩
        · rw [take_snoc hk, Tb.rsum_snoc]
          rfl
        · rw [take_snoc hg, List.map_append]
          exact ((tq.new nt).snoc (x := Tb.ent (Tb.rsum ls row) (Tb.rsum ls (row.take i), k)) upd_same).put (s3 _ _ eL)
      · obtain ⟨y5, qs, rfl, eL, tq, sm⟩ := h
        rw [List.length_map, List.take_of_length_le (by rw [Tb.go_len]; exact Nat.le_refl _)] at tq
        exact ⟨.ref L, rfl, q L qs H' sm (Same.free sm0 nL) eL tq⟩
end

/-! ### the law's own layings and meetings -/
section
variable {P : Program} {w : World} {K : PySem.W.Frag} {mg : Str → Option Value} {base : Heap}
def spLLay (K : PySem.W.Frag) : Sp := fun vs H Q _ => ∃ (la ra a : Addr) (ls : List Int) (rs : List (List Int)) (ps : List Addr) (cs : List Int) (k : Int), vs = [.ref la, .ref ra, .ref a] ∧ SqT K H la (ls.map V.int) ∧ SqT K H ra (ps.map V.ref) ∧ Tups fI H ps rs ∧ Tb.Right ls rs ∧ SqT K H a (cs.map V.int) ∧ Rt k cs ∧ k ≤ 4 ∧
  ∀ L ps es H', Same H H' → H L = none → H' L = some (.lst (ps.map V.ref)) → Tups fI H' ps es → es.Perm (Dy.lays ls rs 0 (Ln.letts (rs.length : Int) cs)) → es.Pairwise (fun x y => TS.code 10000 x ≤ TS.code 10000 y) → Q (.ref L) H'
theorem ok__law_layings (T : Tx K mg) : FnOk P w K mg base CX0 2 T.a__law_layings T.d__law_layings ["loops", "rows", "comings"] (spLLay K) := by
  refine T.F__law_layings.ok sc__law_layings (fun vs H Q E h => ?_) (fun cdv A outer s H vs Q E hr h => ?_)
  · obtain ⟨la, ra, a, ls, rs, ps, cs, k, rfl, _⟩ := h
    rfl
  · obtain ⟨la, ra, a, ls, rs, rps, cs, k, rfl, hL, hR, tr, R, hT, g, hk, q⟩ := h
    have g4 := g.four hk
    have zl := letts_len (b := (rs.length : Int)) g4 g.1
    have hwt := Dy.letts_wt (rs := rs) cs
    have el : (((rps.map V.ref).length : Nat) : Int) = (rs.length : Int) := by rw [List.length_map, tr.length]
    refine ⟨_, ((pss_cons (ps_set (i := 3) sc__law_layings.nd rfl (.inl rfl) (pe_call (ok__law_line T) (hr.mono (by decide)) (by rfl) T.g__law_line T.F__law_line.kp T.b__law_line .nil pass0 (pa_cons (pe_callB call_len_seq (by rfl) T.m_len PySem.boot_len (pa_cons (pv 1) pa_nil)) (pa_cons (pv 2) pa_nil))))
  (pss_cons (ps_set (i := 4) sc__law_layings.nd rfl (.inl rfl) (pe_lst pa_nil))
  (pss_cons (ps_for PassesOwn.never rfl (pi_range1 (by rfl) T.m_range (pa_cons (pe_callB call_len_seq (by rfl) T.m_len PySem.boot_len (pa_cons (pv 3) pa_nil)) pa_nil)) (pg_name (i := 5) sc__law_layings.nd rfl (.inr rfl))
   (pss_cons (ps_asg (pe_ix ix_list (pv 3) (pv 5) (fun _ _ => rfl)) (pg_tup rfl (pgs_cons (pg_name (i := 6) sc__law_layings.nd rfl (.inr rfl)) (pgs_cons (pg_name (i := 7) sc__law_layings.nd rfl (.inl rfl)) (pgs_cons (pg_name (i := 8) sc__law_layings.nd rfl (.inl rfl)) pgs_nil)))))
  (pss_one (ps_if (PW.pt (pw_and (pt_cmpR op_notN (pv 8) pe_non (nomark _)) (pw_and1 (pt_cmpR op_gt (pv 8) pe_int (nomark _))))) (pss_one (ps_set (i := 4) sc__law_layings.nd rfl (.inl rfl) (pe_op op_cat (pv 4) (pe_lc (own := [("loop", 9), ("gone", 10), ("left", 11)]) (g := (gTup K 3 (gCons (gName 9) (gCons (gName 10) (gCons (gName 11) gNil))))) (tt := tYes) rfl sc__law_layings.nd (pi_list (pe_call (ok__law_entries T) (hr.mono (by decide)) (by rfl) T.g__law_entries T.F__law_entries.kp T.b__law_entries .nil pass0 (pa_cons (pv 0) (pa_cons (pe_ix (ixTK (K := K) (by rfl)) (pv 1) (pe_op op_sub (pv 8) pe_int) (fun _ _ => rfl)) pa_nil)))) (blkOk_by (own := [("loop", 9), ("gone", 10), ("left", 11)]) (N := ["loops", "rows", "comings", "letters", "found", "letter", "tick", "turn", "wait", "loop", "gone", "left"]) (sc := defScope s__law_layings) (by decide +kernel)) (fun _ _ _ _ _ => pg_tup rfl (pgs_cons (pg_name (i := 9) sc__law_layings.nd rfl (.inl rfl)) (pgs_cons (pg_name (i := 10) sc__law_layings.nd rfl (.inl rfl)) (pgs_cons (pg_name (i := 11) sc__law_layings.nd rfl (.inl rfl)) pgs_nil)))) (fun _ _ _ _ _ => pts_nil) (fun _ _ _ _ _ => (pe_tup (pa_cons (pe_op op_add (pv 6) (pv 10)) (pa_cons (pv 5) (pa_cons (pv 9) pa_nil))))))))) pss_nil))))
  (pss_one (ps_ret (pe_callB (cr_sortC (B := 10000) (d := 3) (by decide)) (by rfl) T.m_sorted (by decide +kernel) (pa_cons (pv 4) pa_nil)))))))), ?_⟩
    refine ⟨.ref ra, rfl, ra, _, rfl, .inr hR, .ref a, rfl, a, cs, (((rps.map V.ref).length : Nat) : Int), k, rfl, hT, g, hk, by omega, fun L ps H1 s1 nL eL tu => ?_⟩
    rw [el] at tu
    refine ⟨Nat.zero_le _, fun D0 nD0 => ?_⟩
    have sD := same_upd (o := .lst []) nD0
    refine ⟨.ref L, rfl, L, _, rfl, .inl (SqL.of (sD _ _ eL)), _, rfl, by rw [List.length_map, tu.length]; omega, by rw [List.length_map, tu.length]; omega, for_range (lo := 0) (n := ((((ps.map V.ref).length : Nat) : Int)).toNat)
      (fun i σ H' => ∃ (D : Addr) (y5 y6 y7 y8 y9 y10 y11 : Option V) (qs : List Addr), σ = [some (.ref la), some (.ref ra), some (.ref a), some (.ref L), some (.ref D), y5, y6, y7, y8, y9, y10, y11] ∧ H' D = some (.lst (qs.map V.ref)) ∧ Tups fI H' qs (Dy.lays ls rs 0 ((Ln.letts (rs.length : Int) cs).take i)) ∧ Same H1 H')
      ⟨D0, _, _, _, _, _, _, _, [], rfl, upd_same, .nil, sD⟩ (fun i σ H' hi h => ?_) (fun σ H' h => ?_)⟩
    · obtain ⟨D, y5, y6, y7, y8, y9, y10, y11, qs, rfl, eD, tq, sm⟩ := h
      rw [List.length_map, tu.length] at hi
      have hi' : i < (Ln.letts (rs.length : Int) cs).length := by omega
      rw [Int.zero_add]
      obtain ⟨l, hl⟩ : ∃ l, (Ln.letts (rs.length : Int) cs)[i]? = some l := ⟨_, List.getElem?_eq_getElem hi'⟩
      obtain ⟨r, hr', er⟩ := tu.at hl
      have eo : Dy.lays ls rs 0 ((Ln.letts (rs.length : Int) cs).take (i + 1)) = Dy.lays ls rs 0 ((Ln.letts (rs.length : Int) cs).take i) ++ Dy.lay1 ls rs (i : Int) l := by
        rw [take_snoc hl, Dy.lays_snoc, List.length_take, Int.zero_add, Nat.min_eq_left (by omega)]
      have zq : qs.length ≤ 96000 := by
        rw [tq.length]
        have := lays_len R ((Ln.letts (rs.length : Int) cs).take i) 0 fun x hx => hwt x (List.mem_of_mem_take hx)
        rw [List.length_take] at this
        omega
      have hlw := hwt l (List.mem_of_getElem? hl)
      obtain ⟨lt, lu, lw⟩ := l
      refine ⟨.ref L, rfl, .int (i : Int), rfl, L, _, _, .ref r, rfl, rfl, SqL.of (sm _ _ eL), atI_nat hr', r, _, rfl, SqT.of (sm _ _ er), rfl, _, [_, _], rfl, _, [_], rfl, _, [], rfl, rfl, ?_⟩
      cases lw with
      | none =>
        refine ⟨.non, rfl, rfl, false, rfl, iteF ?_⟩
        refine ⟨D, _, _, _, _, _, _, _, qs, rfl, eD, ?_, sm⟩
        rw [eo]
        show Tups fI _ qs (_ ++ [])
        rw [List.append_nil]
        exact tq
      | some wt =>
        obtain ⟨w0, w1⟩ := hlw wt rfl
        refine ⟨.int wt, rfl, rfl, true, rfl, iteT ?_⟩
        refine ⟨.int wt, rfl, _, _, rfl, rfl, _, rfl, ite2 (fun c1 => ?_) (fun c1 => ?_)⟩
        · have c1' : wt > 0 := of_decide_eq_true c1
          obtain ⟨hrow, hin, hl60, hsum⟩ := Dy.rowOf_at R c1' w1
          have trm := (tr.same s1).same sm
          obtain ⟨rr, hrr, err⟩ := trm.at hrow
          have sH := s1.trans sm
          refine ⟨.ref D, rfl, .ref la, rfl, .ref ra, rfl, .int wt, rfl, _, _, rfl, rfl, ra, _, _, .ref rr, rfl, rfl, sT sH hR, atI_of (by show (0 : Int) ≤ wt - 1; omega) hrr, la, rr, ls, Dy.rowOf rs wt, rfl, sT sH hL, SqT.of err, hin, hl60, fun M es H3 s3 nM eM tM => ?_⟩
          refine ⟨M, rfl, ⟨_, SqL.of eM⟩, fun D2 hD2 => lc_list (K := K) (a := M) (xs := es.map V.ref)
            (fun j H4 => ∃ ds : List Addr, Same H3 H4 ∧ H4 D2 = some (.lst (ds.map V.ref)) ∧ Tups fI H4 ds (((Tb.go ls 0 (Dy.rowOf rs wt)).take j).map fun p => [lt + p.1, (i : Int), p.2]))
            ⟨[], same_upd hD2, upd_same, .nil⟩ (fun j H4 _ h => let ⟨_, s4, _⟩ := h; SqL.of (s4 _ _ eM)) (fun j x H4 hx h => ?_) (fun H4 h => ?_)⟩
          · obtain ⟨ds, s4, eD2, td⟩ := h
            obtain ⟨p, e, rfl, he, ep⟩ := tM.get hx
            obtain ⟨gk, hg, rfl⟩ : ∃ gk, (Tb.go ls 0 (Dy.rowOf rs wt))[j]? = some gk ∧ e = Tb.ent (Tb.rsum ls (Dy.rowOf rs wt)) gk := by
              unfold Tb.ents at he
              rw [List.getElem?_map] at he
              obtain ⟨gk, h1, h2⟩ := Option.map_eq_some_iff.mp he
              exact ⟨gk, h1, h2.symm⟩
            have hj : j < (Tb.go ls 0 (Dy.rowOf rs wt)).length := (List.getElem?_eq_some_iff.mp hg).1
            rw [Tb.go_len] at hj
            refine ⟨p, _, rfl, SqT.of (s4 _ _ ep), rfl, _, [_, _], rfl, _, [_], rfl, _, [], rfl, rfl, rfl, ?_⟩
            refine ⟨.int lt, rfl, .int gk.1, rfl, _, _, rfl, rfl, .int i, rfl, .int gk.2, rfl, by show 3 ≤ sizeLine; decide, fun u nu => ?_⟩
            have s5 := same_upd (o := .tup (fI [lt + gk.1, (i : Int), gk.2])) nu
            refine ⟨_, s5 _ _ eD2, ?_, ds ++ [u], same_put (s4.trans s5) hD2, by rw [upd_same, List.map_append]; rfl, ?_⟩
            · rw [List.length_map, td.length, List.length_map, List.length_take]
              exact small1000 (by omega)
            · rw [take_snoc hg, List.map_append]
              exact ((td.new nu).snoc (x := [lt + gk.1, (i : Int), gk.2]) upd_same).put (s5 _ _ eD2)
          · obtain ⟨ds, s4, eD2, td⟩ := h
            have elM : (es.map V.ref).length = (Tb.go ls 0 (Dy.rowOf rs wt)).length := by
              rw [List.length_map, tM.length]
              unfold Tb.ents
              rw [List.length_map]
            rw [elM, List.take_of_length_le (Nat.le_refl _)] at td
            have s34 := s3.trans s4
            refine ⟨D, D2, _, _, rfl, rfl, s34 _ _ eD, eD2, ?_, fun p np => ?_⟩
            · rw [List.length_map, List.length_map, td.length, List.length_map, Tb.go_len]
              show _ ≤ 2 ^ 24
              omega
            have s6 := same_upd (o := .lst (qs.map V.ref ++ ds.map V.ref)) np
            refine ⟨p, _, _, _, _, _, _, _, qs ++ ds, rfl, by rw [upd_same, List.map_append], ?_, (sm.trans s34).trans s6⟩
            rw [eo]
            exact ((tq.same s34).append td).new np
        · have c1' : ¬ wt > 0 := fun z => c1 (decide_eq_true z)
          refine ⟨D, _, _, _, _, _, _, _, qs, rfl, eD, ?_, sm⟩
          rw [eo]
          have e0 : Dy.rowOf rs wt = [] := if_pos (by omega)
          have e1 : Dy.lay1 ls rs (i : Int) (lt, lu, some wt) = [] := by
            show (Tb.go ls 0 (Dy.rowOf rs wt)).map _ = []
            rw [e0]
            rfl
          rw [e1, List.append_nil]
          exact tq
    · obtain ⟨D, y5, y6, y7, y8, y9, y10, y11, qs, rfl, eD, tq, sm⟩ := h
      rw [List.length_map, tu.length, Int.toNat_natCast, List.take_of_length_le (Nat.le_refl _)] at tq
      obtain ⟨hb, _, _⟩ := lays_ok R g hk (List.Perm.refl (Dy.lays ls rs 0 (Ln.letts (rs.length : Int) cs)))
      refine ⟨.ref D, rfl, D, qs, _, rfl, SqL.of eD, tq, hb, fun ps' rs' M tu2 pm pw nM => ?_⟩
      exact q M ps' rs' _ ((s1.trans sm).trans (same_upd nM)) (Same.free (s1.trans sm) nM) upd_same (tu2.new nM) pm pw
/-- the best so far, as a value -/
def BestV (H : Hp) (v : V) : Option (List Int) → Prop
  | none => v = .non
  | some b => ∃ p t l, v = .ref p ∧ b = [t, l] ∧ H p = some (.tup [.int t, .int l])
theorem BestV.same {H H' : Hp} {v : V} {o : Option (List Int)} (h : BestV H v o) (e : ∀ p xs, H p = some (.tup xs) → H' p = some (.tup xs)) : BestV H' v o := match o, h with
  | none, h => h
  | some _, ⟨p, t, l, h1, h2, h3⟩ => ⟨p, t, l, h1, h2, e _ _ h3⟩
def spLMeet (K : PySem.W.Frag) : Sp := fun vs H Q _ => ∃ (L : Addr) (ps : List Addr) (es : List (List Int)), vs = [.ref L] ∧ H L = some (.lst (ps.map V.ref)) ∧ Tups fI H ps es ∧ (∀ e ∈ es, e.length = 3 ∧ TS.Bd 10000 e) ∧ es.length ≤ 96000 ∧
  ∀ v o H', Same H H' → Mt.Best (Mt.prs es) o → BestV H' v o → Q v H'
theorem prs_snoc {es : List (List Int)} {i : Nat} {a b c : Int} (h : es[i]? = some [a, b, c]) : Mt.prs (es.take (i + 1)) = Mt.prs (es.take i) ++ [[a, c]] := by
  rw [take_snoc h]
  unfold Mt.prs
  rw [List.map_append]
  rfl
theorem ok__law_meet (T : Tx K mg) : FnOk P w K mg base CX0 1 T.a__law_meet T.d__law_meet ["layings"] (spLMeet K) := by
  refine T.F__law_meet.ok sc__law_meet (fun vs H Q E h => ?_) (fun cdv A outer s H vs Q E hr h => ?_)
  · obtain ⟨L, ps, es, rfl, _⟩ := h
    rfl
  · obtain ⟨L, ps, es, rfl, eL, tu, hb, zes, q⟩ := h
    have hb2 := prs_bd hb
    refine ⟨_, ((pss_cons (ps_set (i := 1) sc__law_meet.nd rfl (.inl rfl) pe_dnewT)
  (pss_cons (ps_set (i := 2) sc__law_meet.nd rfl (.inl rfl) pe_non)
  (pss_cons (ps_for PassesOwn.never rfl (pi_list (pv 0)) (pg_tup rfl (pgs_cons (pg_name (i := 3) sc__law_meet.nd rfl (.inl rfl)) (pgs_cons (pg_name (i := 4) sc__law_meet.nd rfl (.inl rfl)) (pgs_cons (pg_name (i := 5) sc__law_meet.nd rfl (.inl rfl)) pgs_nil))))
   (Evl.pss_cut (ps_if (PW.pt (pw_and (pt_cmp (pc_din (by exact hu_of hr) (pe_tup (pa_cons (pv 3) (pa_cons (pv 5) pa_nil))) (pv 1))) (pw_and1 (PW.pt (pw_or (pt_cmpR op_isN (pv 2) pe_non (nomark _)) (pw_or1 (pt_cmpR (op_ltT hr.units0) (pe_tup (pa_cons (pv 3) (pa_cons (pv 5) pa_nil))) (pv 2) (nomark _)))))))) (pss_one (ps_set (i := 2) sc__law_meet.nd rfl (.inl rfl) (pe_tup (pa_cons (pv 3) (pa_cons (pv 5) pa_nil))))) pss_nil)
  (pss_one (ps_dput (by exact hu_of hr) (pv 1) (pe_tup (pa_cons (pv 3) (pa_cons (pv 5) pa_nil))) pe_bl rfl))))
  (pss_one (ps_ret (pv 2))))))), ?_⟩
    refine fun d nd => ?_
    have sd := same_upd (o := .dT []) nd
    refine ⟨.ref L, rfl, L, rfl, ⟨_, SqL.of (sd _ _ eL)⟩, for_list (K := K) (xs := ps.map V.ref)
      (fun i σ H' => ∃ (v : V) (o : Option (List Int)) (y3 y4 y5 : Option V) (kvs : List (List Key × V)), σ = [some (.ref L), some (.ref d), some v, y3, y4, y5] ∧ H' d = some (.dT kvs) ∧ kvs.length ≤ i ∧ (∀ t l : Int, (valV kvs [.inl t, .inl l]).isSome = decide ([t, l] ∈ Mt.prs (es.take i))) ∧ Mt.Best (Mt.prs (es.take i)) o ∧ BestV H' v o ∧ Same H H')
      ⟨.non, none, _, _, _, [], rfl, upd_same, Nat.le_refl _, fun t l => rfl, fun r => Nat.zero_le _, rfl, sd⟩ (fun i σ H' _ h => ?_) (fun i x σ H' hx h => ?_) (fun σ H' h => ?_)⟩
    · obtain ⟨_, _, _, _, _, _, _, _, _, _, _, _, sm⟩ := h
      exact SqL.of (sm _ _ eL)
    · obtain ⟨v, o, y3, y4, y5, kvs, rfl, ed, zk, hin, hbest, hv, sm⟩ := h
      obtain ⟨r, e, rfl, he, er⟩ := tu.get hx
      have hi : i < es.length := (List.getElem?_eq_some_iff.mp he).1
      obtain ⟨hl3, _⟩ := hb e (List.mem_of_getElem? he)
      obtain ⟨x1, x2, x3, rfl⟩ : ∃ x1 x2 x3, e = [x1, x2, x3] := by
        match e, hl3 with
        | [a, b, c], _ => exact ⟨_, _, _, rfl⟩
      have eP := prs_snoc he
      have hbk : TS.Bd 10000 [x1, x3] := (hb2 [x1, x3] (List.mem_map.mpr ⟨[x1, x2, x3], List.mem_of_getElem? he, rfl⟩)).2
      refine ⟨r, _, rfl, SqT.of (sm _ _ er), rfl, _, [_, _], rfl, _, [_], rfl, _, [], rfl, rfl, ?_⟩
      refine ⟨fun σ' H2 => ∃ (v' : V) (o' : Option (List Int)), σ' = [some (.ref L), some (.ref d), some v', some (.int x1), some (.int x2), some (.int x3)] ∧ Mt.Best (Mt.prs (es.take (i + 1))) o' ∧ BestV H2 v' o' ∧ Same H' H2, ?_, fun σ' H2 hm => ?_⟩
      · refine ⟨.int x1, rfl, .int x3, rfl, by show 2 ≤ sizeLine; decide, fun u nu => ?_⟩
        have su := same_upd (o := .tup [V.int x1, .int x3]) nu
        refine ⟨.ref d, rfl, d, _, rfl, DGet.t (k := [.inl x1, .inl x3]) (su _ _ ed) upd_same, _, rfl, ?_⟩
        rw [hin, eP]
        by_cases c1 : [x1, x3] ∈ Mt.prs (es.take i)
        · rw [decide_eq_true c1]
          refine iteT ?_
          cases o with
          | none =>
            obtain rfl : v = .non := hv
            refine ⟨.non, rfl, rfl, true, rfl, iteT (iteT ?_)⟩
            refine ⟨.int x1, rfl, .int x3, rfl, by show 2 ≤ sizeLine; decide, fun p np => ?_⟩
            exact ⟨.ref p, some [x1, x3], rfl, Mt.best_first hbest c1, ⟨p, x1, x3, rfl, rfl, upd_same⟩, su.trans (same_upd np)⟩
          | some b =>
            obtain ⟨p, t, l, rfl, rfl, ep⟩ := hv
            have hbb : TS.Bd 10000 [t, l] := (hb2 [t, l] ((List.Sublist.map _ (List.take_sublist _ _)).subset hbest.1)).2
            refine ⟨.ref p, rfl, rfl, false, rfl, iteF ?_⟩
            refine ⟨.int x1, rfl, .int x3, rfl, by show 2 ≤ sizeLine; decide, fun u2 nu2 => ?_⟩
            have su2 := su.trans (same_upd (o := .tup [V.int x1, .int x3]) nu2)
            refine ⟨.ref p, rfl, u2, p, [x1, x3], [t, l], rfl, rfl, SqT.of upd_same, SqT.of (su2 _ _ ep), _, rfl, ?_⟩
            cases c2 : HT.lexLt [x1, x3] [t, l] with
            | true =>
              refine iteT ?_
              refine ⟨.int x1, rfl, .int x3, rfl, by show 2 ≤ sizeLine; decide, fun q nq => ?_⟩
              exact ⟨.ref q, some [x1, x3], rfl, Mt.best_less hbest c1 (Mt.code2 hbk hbb c2), ⟨q, x1, x3, rfl, rfl, upd_same⟩, su2.trans (same_upd nq)⟩
            | false =>
              refine iteF ?_
              exact ⟨.ref p, some [t, l], rfl, Mt.best_more hbest (Mt.code2' hbk hbb c2), ⟨p, t, l, rfl, rfl, su2 _ _ ep⟩, su2⟩
        · rw [decide_eq_false c1]
          refine iteF ?_
          exact ⟨v, o, rfl, Mt.best_new hbest c1, hv.same fun p xs e => su _ _ e, su⟩
      · obtain ⟨v', o', rfl, hbest', hv', s2⟩ := hm
        refine ⟨.ref d, rfl, .int x1, rfl, .int x3, rfl, by show 2 ≤ sizeLine; decide, fun u nu => ?_⟩
        have su := s2.trans (same_upd (o := .tup [V.int x1, .int x3]) nu)
        refine ⟨d, _, rfl, DPut.t (k := [.inl x1, .inl x3]) (su _ _ ed) upd_same (small96 (by omega)), ?_⟩
        refine ⟨v', o', _, _, _, putK kvs [.inl x1, .inl x3] (.bl true), rfl, upd_same, ?_, fun t l => ?_, hbest', ?_, ?_⟩
        · exact Nat.le_trans (length_putK _ _ _) (by omega)
        · rw [valV_put, eP]
          by_cases e1 : [t, l] = [x1, x3]
          · have e2 : ([.inl t, .inl l] : List Key) = [.inl x1, .inl x3] := by
              injection e1 with a b
              injection b with b c
              rw [a, b]
            rw [if_pos e2, decide_eq_true (by rw [e1]; simp)]
            rfl
          · have e2 : ¬ ([.inl t, .inl l] : List Key) = [.inl x1, .inl x3] := fun z => e1 (by
              injection z with a b
              injection b with b c
              injection a with a
              injection b with b
              rw [a, b])
            rw [if_neg e2, hin]
            refine decide_eq_decide.mpr ⟨fun z => List.mem_append_left _ z, fun z => ?_⟩
            rcases List.mem_append.mp z with z | z
            · exact z
            · exact absurd (List.mem_singleton.mp z) e1
        · exact hv'.same fun p xs e => by
            rw [upd_ne (fun z => by
              have e3 := su _ _ ed
              have e4 := same_upd (o := .tup [V.int x1, .int x3]) nu _ _ e
              rw [z, e3] at e4
              cases e4)]
            exact same_upd nu _ _ e
        · exact same_put (sm.trans su) nd
    · obtain ⟨v, o, y3, y4, y5, kvs, rfl, ed, zk, hin, hbest, hv, sm⟩ := h
      rw [List.length_map, tu.length, List.take_of_length_le (Nat.le_refl _)] at hbest
      exact ⟨v, rfl, q v o H' sm hbest hv⟩
end

/-! ### drawn comings; the law's own line -/
section
variable {P : Program} {w : World} {K : PySem.W.Frag} {mg : Str → Option Value} {base : Heap}
def spComings (K : PySem.W.Frag) : Sp := fun vs H Q _ => ∃ (t s : Addr) (k m : Int), vs = [.ref t, .int k, .int m] ∧ (1 ≤ k ∧ k ≤ 1000) ∧ (0 ≤ m ∧ m ≤ 1000) ∧ Tape H t s ∧
  ∀ a (cs : List Int) H', (cs.length : Int) ≤ m → (∀ c ∈ cs, 0 ≤ c ∧ c ≤ k) → a ≠ t → H a = none → Moved t H H' → Tape H' t s → H' a = some (.tup (cs.map V.int)) → Q (.ref a) H'
theorem all_snoc {k : Int} {cs : List Int} (h : ∀ c ∈ cs, 0 ≤ c ∧ c ≤ k) {x : Int} (h0 : 0 ≤ x) (h1 : x ≤ k) : ∀ c ∈ cs ++ [x], 0 ≤ c ∧ c ≤ k := fun c hc => by
  rcases List.mem_append.mp hc with hc | hc
  · exact h c hc
  · rw [List.mem_singleton.mp hc]
    exact ⟨h0, h1⟩
theorem ok__law_comings (T : Tx K mg) : FnOk P w K mg base CX0 2 T.a__law_comings T.d__law_comings ["tape", "comers", "most"] (spComings K) := by
  refine T.F__law_comings.ok sc__law_comings (fun vs H Q E h => ?_) (fun cdv A outer s H vs Q E hr h => ?_)
  · obtain ⟨t, sc, k, m, rfl, _⟩ := h
    rfl
  · obtain ⟨t, sc, k, m, rfl, hk, hm, tp, q⟩ := h
    refine ⟨_, ((pss_cons (ps_set (i := 3) sc__law_comings.nd rfl (.inl rfl) (pe_lst pa_nil))
  (pss_cons (ps_set (i := 4) sc__law_comings.nd rfl (.inl rfl) (pe_call (ok__law_pick T) (hr.mono (by decide)) (by rfl) T.g__law_pick T.F__law_pick.kp T.b__law_pick .nil pass0 (pa_cons (pv 0) (pa_cons pe_int pa_nil))))
  (pss_cons (ps_for PassesOwn.never rfl (pi_range1 (by rfl) T.m_range (pa_cons (pe_call (ok__law_pick T) (hr.mono (by decide)) (by rfl) T.g__law_pick T.F__law_pick.kp T.b__law_pick .nil pass0 (pa_cons (pv 0) (pa_cons (pe_op op_add (pv 2) pe_int) pa_nil))) pa_nil)) (pg_name (i := 5) sc__law_comings.nd rfl (.inl rfl))
   (pss_cons (ps_set (i := 6) sc__law_comings.nd rfl (.inl rfl) (pe_call (ok__law_pick T) (hr.mono (by decide)) (by rfl) T.g__law_pick T.F__law_pick.kp T.b__law_pick .nil pass0 (pa_cons (pv 0) (pa_cons (pe_op op_add (pv 1) pe_int) pa_nil))))
  (Evl.pss_cut (ps_if (PW.pt (pw_and (pt_cmpR op_eq (pv 4) pe_int (nomark _)) (pw_and1 (pt_cmpR op_eq (pe_call (ok__law_pick T) (hr.mono (by decide)) (by rfl) T.g__law_pick T.F__law_pick.kp T.b__law_pick .nil pass0 (pa_cons (pv 0) (pa_cons pe_int pa_nil))) pe_int (nomark _))))) (pss_one (ps_set (i := 6) sc__law_comings.nd rfl (.inl rfl) (pv 1))) pss_nil)
  (pss_one (ps_expr (pe_bm PySem.F.plainAttrs_list PySem.F.slot_list_append PySem.F.type_list_append mt_append (pv 3) (pa_cons (pv 6) pa_nil)))))))
  (pss_one (ps_ret (pe_callTy call_tuple_of (by rfl) T.m_tuple (by decide +kernel) (pa_cons (pv 3) pa_nil)))))))), ?_⟩
    refine ⟨Nat.zero_le _, fun L nL => ?_⟩
    have hLt : L ≠ t := tp.ne nL
    have hLs : L ≠ sc := tp.ne2 nL
    have tp0 := tp.keep (same_upd (o := .lst []) nL)
    have mv0 : Moved t H (upd H L (.lst [])) := Moved.same (same_upd nL)
    refine ⟨.ref t, rfl, t, sc, 3, rfl, ⟨by decide, by decide⟩, tp0, fun gr H1 hg0 hg3 mv1 tp1 => ?_⟩
    refine ⟨.ref t, rfl, .int m, rfl, _, _, rfl, rfl, t, sc, m + 1, rfl, ⟨by omega, by omega⟩, tp1, fun n H2 hn0 hn1 mv2 tp2 => ?_⟩
    refine ⟨n, rfl, by omega, by omega, for_range (lo := 0) (n := n.toNat)
      (fun i σ H' => ∃ y5 y6 cs, σ = [some (.ref t), some (.int k), some (.int m), some (.ref L), some (.int gr), y5, y6] ∧ H' L = some (.lst (cs.map V.int)) ∧ cs.length = i ∧ (∀ c ∈ cs, 0 ≤ c ∧ c ≤ k) ∧ (∀ b o, b ≠ t → b ≠ L → H b = some o → H' b = some o) ∧ Tape H' t sc)
      ⟨_, _, [], rfl, mv2 _ _ hLt (mv1 _ _ hLt upd_same), rfl, fun _ h => by simp at h, fun b o n1 n2 e => mv2 b o n1 (mv1 b o n1 (mv0 b o n1 e)), tp2⟩ (fun i σ H' hi h => ?_) (fun σ H' h => ?_)⟩
    · obtain ⟨y5, y6, cs, rfl, eL, el, hc, kp, tp'⟩ := h
      refine ⟨.ref t, rfl, .int k, rfl, _, _, rfl, rfl, t, sc, k + 1, rfl, ⟨by omega, by omega⟩, tp', fun x H3 hx0 hx1 mv3 tp3 => ?_⟩
      refine ⟨fun σ' H4 => ∃ z y5, σ' = [some (.ref t), some (.int k), some (.int m), some (.ref L), some (.int gr), y5, some (.int z)] ∧ 0 ≤ z ∧ z ≤ k ∧ Moved t H3 H4 ∧ Tape H4 t sc, ?_, fun σ' H4 hm => ?_⟩
      · refine ⟨.int gr, rfl, rfl, _, rfl, ite2 (fun c1 => ?_) (fun c1 => ?_)⟩
        · refine ⟨.ref t, rfl, t, sc, 2, rfl, ⟨by decide, by decide⟩, tp3, fun x2 H4 _ _ mv4 tp4 => ?_⟩
          by_cases c2 : V.int x2 = V.int 0
          · refine ⟨rfl, true, congrArg V.bl (decide_eq_true c2), iteT ?_⟩
            exact ⟨.int k, rfl, k, _, rfl, by omega, Int.le_refl _, mv4, tp4⟩
          · refine ⟨rfl, false, congrArg V.bl (decide_eq_false c2), iteF ?_⟩
            exact ⟨x, _, rfl, hx0, by omega, mv4, tp4⟩
        · exact ⟨x, _, rfl, hx0, by omega, Moved.refl, tp3⟩
      · obtain ⟨z, y5, rfl, hz0, hz1, mv4, tp4⟩ := hm
        have eL4 : H4 L = some (.lst (cs.map V.int)) := mv4 L _ hLt (mv3 L _ hLt eL)
        refine ⟨.ref L, rfl, .inl ⟨rfl, _, SqL.of eL4⟩, _, rfl, L, _, _, rfl, rfl, eL4, by rw [List.length_map]; exact small1000 (by omega), ?_⟩
        refine ⟨_, _, cs ++ [z], rfl, by rw [upd_same, List.map_append]; rfl, by rw [List.length_append, el]; rfl, all_snoc hc hz0 hz1, fun b o n1 n2 e => ?_, tp4.but hLt hLs⟩
        rw [upd_ne n2]
        exact mv4 b o n1 (mv3 b o n1 (kp b o n1 n2 e))
    · obtain ⟨y5, y6, cs, rfl, eL, el, hc, kp, tp'⟩ := h
      refine ⟨.ref L, rfl, L, _, rfl, .inl ⟨SqL.of eL, fun p np => ?_⟩⟩
      have hpt : p ≠ t := tp'.ne np
      have hpL : p ≠ L := fun e => by
        rw [e, eL] at np
        cases np
      have hHp : H p = none := by
        cases z : H p with
        | none => rfl
        | some o =>
          rw [kp p o hpt hpL z] at np
          cases np
      refine q p cs _ (by omega) hc hpt hHp (fun b o n1 e => ?_) (tp'.keep (same_upd np)) upd_same
      rw [upd_ne (ne_of_none e hHp)]
      exact kp b o n1 (ne_of_none e nL) e
end

/-! ### drawn loops and rows -/
theorem iteB {b : Bool} {A B : Prop} (h1 : b = true → A) (h2 : b = false → B) : if b = true then A else B := by
  cases b with
  | true => exact iteT (h1 rfl)
  | false => exact iteF (h2 rfl)
theorem good_set {ns : List Int} {j : Nat} {x : Int} (g : Rch.Good ns) (h1 : 1 ≤ x) (h2 : x ≤ 40) : Rch.Good (ns.set j x) := ⟨by rw [List.length_set]; exact g.1, by rw [List.length_set]; exact g.2.1, fun n hn => by
  rcases List.mem_or_eq_of_mem_set hn with hn | hn
  · exact g.2.2 n hn
  · rw [hn]
    exact ⟨h1, h2⟩⟩
theorem first_of {ls : List Int} {x : Int} (h : x ∈ ls) : ∃ j : Nat, ls[j]? = some x ∧ ∀ m, m < j → ls[m]? ≠ some x := by
  induction ls with
  | nil => exact absurd h (by simp)
  | cons y r ih =>
    by_cases e : y = x
    · exact ⟨0, by rw [e]; rfl, fun m hm => absurd hm (Nat.not_lt_zero _)⟩
    · have hr : x ∈ r := by
        rcases List.mem_cons.mp h with z | z
        · exact absurd z.symm e
        · exact z
      obtain ⟨j, h1, h2⟩ := ih hr
      refine ⟨j + 1, by rw [List.getElem?_cons_succ]; exact h1, fun m hm => ?_⟩
      cases m with
      | zero =>
        intro z
        exact e (Option.some.inj z)
      | succ m =>
        rw [List.getElem?_cons_succ]
        exact h2 m (by omega)
section
variable {P : Program} {w : World} {K : PySem.W.Frag} {mg : Str → Option Value} {base : Heap}
def spLoops (K : PySem.W.Frag) : Sp := fun vs H Q _ => ∃ (t s : Addr) (m lg : Int), vs = [.ref t, .int m, .int lg] ∧ (1 ≤ m ∧ m ≤ 8) ∧ (1 ≤ lg ∧ lg ≤ 40) ∧ Tape H t s ∧
  ∀ a (ls : List Int) H', Rch.Good ls → (ls.length : Int) ≤ m → (1 : Int) ∈ ls → a ≠ t → H a = none → Moved t H H' → Tape H' t s → Frz H' a (ls.map V.int) → Q (.ref a) H'
theorem ok__law_loops (T : Tx K mg) : FnOk P w K mg base CX0 2 T.a__law_loops T.d__law_loops ["tape", "most", "longest"] (spLoops K) := by
  refine T.F__law_loops.ok sc__law_loops (fun vs H Q E h => ?_) (fun cdv A outer s H vs Q E hr h => ?_)
  · obtain ⟨t, sc, m, lg, rfl, _⟩ := h
    rfl
  · obtain ⟨t, sc, m, lg, rfl, hm, hlg, tp, q⟩ := h
    refine ⟨_, ((pss_cons (ps_set (i := 3) sc__law_loops.nd rfl (.inl rfl) (pe_op op_add pe_int (pe_call (ok__law_pick T) (hr.mono (by decide)) (by rfl) T.g__law_pick T.F__law_pick.kp T.b__law_pick .nil pass0 (pa_cons (pv 0) (pa_cons (pv 1) pa_nil)))))
  (pss_cons (ps_setLc (i := 4) (own := [("k", 5)]) (g := (gName 5)) (tt := tYes) rfl sc__law_loops.nd rfl rfl (sw_true rfl rfl rfl (by decide +kernel)) (pi_range1 (by rfl) T.m_range (pa_cons (pv 3) pa_nil)) (blkOk_by (own := [("k", 5)]) (N := ["tape", "most", "longest", "many", "found", "k"]) (sc := defScope s__law_loops) (by decide +kernel)) (fun _ _ _ _ _ => pg_name (i := 5) sc__law_loops.nd rfl (.inl rfl)) (fun _ _ _ _ _ => pts_nil) (fun _ _ _ _ _ => (pe_op op_add pe_int (pe_call (ok__law_pick T) (hr.mono (by decide)) (by rfl) T.g__law_pick T.F__law_pick.kp T.b__law_pick .nil pass0 (pa_cons (pv 0) (pa_cons (pv 2) pa_nil))))))
  (pss_cons (ps_asg pe_int (pg_sub (pv 4) (pe_call (ok__law_pick T) (hr.mono (by decide)) (by rfl) T.g__law_pick T.F__law_pick.kp T.b__law_pick .nil pass0 (pa_cons (pv 0) (pa_cons (pv 3) pa_nil))) set_list))
  (pss_one (ps_ret (pe_callTy call_tupleF (by rfl) T.m_tuple (by decide +kernel) (pa_cons (pv 4) pa_nil)))))))), ?_⟩
    refine ⟨.ref t, rfl, .int m, rfl, t, sc, m, rfl, ⟨by omega, by omega⟩, tp, fun d H1 hd0 hd1 mv1 tp1 => ?_⟩
    refine ⟨1, d, rfl, rfl, ?_⟩
    refine ⟨.int _, rfl, _, rfl, by show -(2 ^ 62) ≤ 1 + d; omega, by show 1 + d < 2 ^ 62; omega, fun D hD => lc_range (lo := 0) (n := (1 + d).toNat)
      (fun i H' => ∃ ls : List Int, H' D = some (.lst (ls.map V.int)) ∧ ls.length = i ∧ (∀ l ∈ ls, 1 ≤ l ∧ l ≤ 40) ∧ (∀ b o, b ≠ t → b ≠ D → H b = some o → H' b = some o) ∧ Tape H' t sc)
      ⟨[], upd_same, rfl, fun _ h => by simp at h, fun b o n1 n2 e => by rw [upd_ne n2]; exact mv1 b o n1 e, tp1.keep (same_upd hD)⟩ (fun i H' hi h => ?_) (fun H' h => ?_)⟩
    · obtain ⟨ls, eD, el, hl, kp, tp'⟩ := h
      have hDt : D ≠ t := tp1.ne hD
      refine ⟨rfl, ?_⟩
      refine ⟨.ref t, rfl, .int lg, rfl, t, sc, lg, rfl, ⟨by omega, by omega⟩, tp', fun x H2 hx0 hx1 mv2 tp2 => ?_⟩
      have eD2 := mv2 D _ hDt eD
      refine ⟨1, x, rfl, rfl, _, eD2, by rw [List.length_map]; exact small1000 (by omega), ls ++ [1 + x], by rw [upd_same, List.map_append]; rfl, by rw [List.length_append, el]; rfl, fun l hm' => ?_, fun b o n1 n2 e => ?_, tp2.but hDt (tp1.ne2 hD)⟩
      · rcases List.mem_append.mp hm' with hm' | hm'
        · exact hl l hm'
        · rw [List.mem_singleton.mp hm']
          exact ⟨by omega, by omega⟩
      · rw [upd_ne n2]
        exact mv2 b o n1 (kp b o n1 n2 e)
    · obtain ⟨ls, eD, el, hl, kp, tp'⟩ := h
      have hDt : D ≠ t := tp1.ne hD
      have hDs : D ≠ sc := tp1.ne2 hD
      have g : Rch.Good ls := ⟨by omega, by omega, hl⟩
      refine ⟨.ref D, rfl, .ref t, rfl, .int _, rfl, t, sc, 1 + d, rfl, ⟨by omega, by omega⟩, tp', fun j H3 hj0 hj1 mv3 tp3 => ?_⟩
      have eD3 := mv3 D _ hDt eD
      refine ⟨D, _, j, j.toNat, rfl, rfl, eD3, by rw [List.length_map]; exact ixN_nat hj0 (by omega), ?_⟩
      refine ⟨.ref D, rfl, D, _, rfl, SqL.of upd_same, fun p H5 np s5 fz ot => ?_⟩
      have tp4 := tp3.but (o := .lst ((ls.map V.int).set j.toNat (V.int 1))) hDt hDs
      have hpt : p ≠ t := tp4.ne np
      have hpD : p ≠ D := fun e => by
        rw [e, upd_same] at np
        cases np
      have np3 : H3 p = none := by
        rw [upd_ne hpD] at np
        exact np
      have hHp : H p = none := by
        cases z : H p with
        | none => rfl
        | some o =>
          rw [mv3 p o hpt (kp p o hpt hpD z)] at np3
          cases np3
      refine q p (ls.set j.toNat 1) H5 (good_set g (by decide) (by decide)) (by rw [List.length_set]; omega) (List.mem_set (by omega) _) hpt hHp (fun b o n1 e => ?_) (tp4.keep s5) (by rw [List.map_set]; exact fz)
      have nD : b ≠ D := ne_of_none (mv1 b o n1 e) hD
      refine s5 _ _ ?_
      rw [upd_ne nD]
      exact mv3 b o n1 (kp b o n1 nD e)
def spRow (K : PySem.W.Frag) : Sp := fun vs H Q _ => ∃ (t s a : Addr) (ls : List Int) (wt : Int), vs = [.ref t, .ref a, .int wt] ∧ Tape H t s ∧ Frz H a (ls.map V.int) ∧ Rch.Good ls ∧ (1 : Int) ∈ ls ∧ 0 ≤ wt ∧ wt ≤ 60 ∧
  ∀ r (row : List Int) H', Tb.InR ls row → Tb.rsum ls row = wt → r ≠ t → H r = none → Moved t H H' → Tape H' t s → H' r = some (.tup (row.map V.int)) → Q (.ref r) H'
theorem ok__law_row (T : Tx K mg) : FnOk P w K mg base CX0 2 T.a__law_row T.d__law_row ["tape", "loops", "wait"] (spRow K) := by
  refine T.F__law_row.ok sc__law_row (fun vs H Q E h => ?_) (fun cdv A outer s H vs Q E hr h => ?_)
  · obtain ⟨t, sc, a, ls, wt, rfl, _⟩ := h
    rfl
  · obtain ⟨t, sc, a, ls, wt, rfl, tp, ea, g, h1s, hw0, hw60, q⟩ := h
    have g1 := g.1
    have g2 := g.2.1
    have hat : a ≠ t := ea.tape tp
    refine ⟨_, ((pss_cons (ps_set (i := 3) sc__law_row.nd rfl (.inr rfl) (pe_lst pa_nil))
  (pss_cons (ps_set (i := 4) sc__law_row.nd rfl (.inr rfl) (pv 2))
  (pss_cons (ps_set (i := 5) sc__law_row.nd rfl (.inr rfl) (pe_cmpR op_eq (pe_call (ok__law_pick T) (hr.mono (by decide)) (by rfl) T.g__law_pick T.F__law_pick.kp T.b__law_pick .nil pass0 (pa_cons (pv 0) (pa_cons pe_int pa_nil))) pe_int (nomark _)))
  (Evl.pss_cut (ps_for PassesOwn.never rfl (pi_range1 (by rfl) T.m_range (pa_cons pe_int pa_nil)) (pg_name (i := 6) sc__law_row.nd rfl (.inl rfl))
   (pss_cons (ps_setLc (i := 7) (own := [("k", 8)]) (g := (gName 8)) rfl sc__law_row.nd rfl rfl (sw_true rfl rfl rfl (by decide +kernel)) (pi_range1 (by rfl) T.m_range (pa_cons (pe_callB call_len_seq (by rfl) T.m_len PySem.boot_len (pa_cons (pv 1) pa_nil)) pa_nil)) (blkOk_by (own := [("k", 8)]) (N := ["tape", "loops", "wait", "row", "left", "again", "turn", "fitting", "k"]) (sc := defScope s__law_row) (by decide +kernel)) (fun _ _ _ _ _ => pg_name (i := 8) sc__law_row.nd rfl (.inl rfl)) (fun _ _ _ _ _ => (pts_one (PW.pt (pw_and (pt_cmpR op_le (pe_ix (ixTK (K := K) (by rfl)) (pv 1) (pv 8) (fun _ _ => rfl)) (pv 4) (nomark _)) (pw_and1 (PW.pt (pw_or (pt_val (pv 5)) (pw_or1 (pt_cmpR (notInK (K := K) (by rfl)) (pv 8) (pv 3) (by rfl)))))))))) (fun _ _ _ _ _ => (pv 8)))
  (pss_cons (ps_if (PW.pt (pw_or (pt_cmpR op_eq (pe_callB call_len_seq (by rfl) T.m_len PySem.boot_len (pa_cons (pv 7) pa_nil)) pe_int (nomark _)) (pw_or1 (pt_cmpR op_eq (pv 4) pe_int (nomark _))))) (pss_one ps_break) pss_nil)
  (pss_cons (ps_expr (pe_bm PySem.F.plainAttrs_list PySem.F.slot_list_append PySem.F.type_list_append mt_append (pv 3) (pa_cons (pe_ix ix_list (pv 7) (pe_call (ok__law_pick T) (hr.mono (by decide)) (by rfl) T.g__law_pick T.F__law_pick.kp T.b__law_pick .nil pass0 (pa_cons (pv 0) (pa_cons (pe_callB call_len_seq (by rfl) T.m_len PySem.boot_len (pa_cons (pv 7) pa_nil)) pa_nil))) (fun _ _ => rfl)) pa_nil)))
  (pss_one (ps_set (i := 4) sc__law_row.nd rfl (.inr rfl) (pe_op op_sub (pv 4) (pe_ix ix_tup (pv 1) (pe_ix ix_list (pv 3) (pe_un un_neg pe_int) (fun _ _ => rfl)) (fun _ _ => rfl)))))))))
  (pss_cons (ps_for PassesOwn.never rfl (pi_range1 (by rfl) T.m_range (pa_cons (pv 4) pa_nil)) (pg_name (i := 6) sc__law_row.nd rfl (.inl rfl))
   (pss_one (ps_expr (pe_bm PySem.F.plainAttrs_list PySem.F.slot_list_append PySem.F.type_list_append mt_append (pv 3) (pa_cons (pe_tm PySem.F.plainAttrs_tuple PySem.F.slot_tuple_index PySem.F.type_tuple_index mt_tindex (pv 1) (pa_cons pe_int pa_nil)) pa_nil)))))
  (pss_one (ps_ret (pe_callTy call_tuple_of (by rfl) T.m_tuple (by decide +kernel) (pa_cons (pv 3) pa_nil)))))))))), ?_⟩
    refine ⟨Nat.zero_le _, fun R nR => ?_⟩
    have hRt : R ≠ t := tp.ne nR
    have hRs : R ≠ sc := tp.ne2 nR
    have s1 := same_upd (o := .lst []) nR
    have tp0 := tp.keep s1
    refine ⟨.int wt, rfl, ?_⟩
    refine ⟨.ref t, rfl, t, sc, 12, rfl, ⟨by decide, by decide⟩, tp0, fun ag H1 hg0 hg1 mv1 tp1 => ?_⟩
    refine ⟨rfl, ?_⟩
    have hRa : a ≠ R := ea.ne nR
    refine ⟨fun σ H' => ∃ (y6 y7 y8 : Option V) (row : List Int) (lf : Int) (bb : Bool), σ = [some (.ref t), some (.ref a), some (.int wt), some (.ref R), some (.int lf), some (.bl bb), y6, y7, y8] ∧ H' R = some (.lst (row.map V.int)) ∧ Tb.InR ls row ∧ Tb.rsum ls row + lf = wt ∧ 0 ≤ lf ∧ row.length ≤ 8 ∧ (∀ b o, b ≠ t → b ≠ R → H b = some o → H' b = some o) ∧ Tape H' t sc, ?_, fun σ' H' hm => ?_⟩
    refine ⟨8, rfl, by decide, by decide, for_range (lo := 0) (n := (8 : Int).toNat)
      (fun i σ H' => ∃ (y6 y7 y8 : Option V) (row : List Int) (lf : Int) (bb : Bool), σ = [some (.ref t), some (.ref a), some (.int wt), some (.ref R), some (.int lf), some (.bl bb), y6, y7, y8] ∧ H' R = some (.lst (row.map V.int)) ∧ Tb.InR ls row ∧ Tb.rsum ls row + lf = wt ∧ 0 ≤ lf ∧ row.length ≤ i ∧ (∀ b o, b ≠ t → b ≠ R → H b = some o → H' b = some o) ∧ Tape H' t sc)
      ⟨_, _, _, [], wt, _, rfl, mv1 R _ hRt upd_same, fun k h => by simp at h, by simp [Tb.rsum], hw0, Nat.le_refl _, fun b o n1 n2 e => mv1 b o n1 (s1 _ _ e), tp1⟩ (fun i σ H' hi h => ?_) (fun σ H' h => ?_)⟩
    · obtain ⟨y6, y7, y8, row, lf, bb, rfl, eR, hin, hs, hl0, hlen, kp, tp'⟩ := h
      have ea' := ea.of (kp a · hat hRa)
      -- fitting
      refine ⟨.ref a, rfl, a, _, rfl, .inr ea'.sq, _, rfl, by rw [List.length_map]; omega, by rw [List.length_map]; omega, fun D hD => lc_range (lo := 0) (n := ((((ls.map V.int).length : Nat) : Int)).toNat)
        (fun j H2 => ∃ ks : List Int, Same H' H2 ∧ H2 D = some (.lst (ks.map V.int)) ∧ ks.length ≤ j ∧ ∀ k ∈ ks, 0 ≤ k ∧ k < (ls.length : Int) ∧ Tb.len1 ls k ≤ lf)
        ⟨[], same_upd hD, upd_same, Nat.le_refl _, fun _ h => by simp at h⟩ (fun j H2 hj h => ?_) (fun H2 h => ?_)⟩
      · obtain ⟨ks, s2, eD, zk, hk⟩ := h
        rw [List.length_map] at hj
        rw [Int.zero_add]
        have hj' : (j : Int) < (ls.length : Int) := by omega
        have keepIt : Tb.len1 ls (j : Int) ≤ lf → ∃ acc, H2 D = some (.lst acc) ∧ acc.length < sizeLine ∧ ∃ ks : List Int, Same H' (upd H2 D (.lst (acc ++ [V.int (j : Int)]))) ∧ (upd H2 D (.lst (acc ++ [V.int (j : Int)]))) D = some (.lst (ks.map V.int)) ∧ ks.length ≤ j + 1 ∧ ∀ k ∈ ks, 0 ≤ k ∧ k < (ls.length : Int) ∧ Tb.len1 ls k ≤ lf := fun hle => by
          refine ⟨_, eD, by rw [List.length_map]; exact small1000 (by omega), ks ++ [(j : Int)], same_put s2 hD, by rw [upd_same, List.map_append]; rfl, by rw [List.length_append]; show ks.length + 1 ≤ j + 1; omega, fun k hm => ?_⟩
          rcases List.mem_append.mp hm with hm | hm
          · exact hk k hm
          · rw [List.mem_singleton.mp hm]
            exact ⟨by omega, hj', hle⟩
        have skip : ∃ ks : List Int, Same H' H2 ∧ H2 D = some (.lst (ks.map V.int)) ∧ ks.length ≤ j + 1 ∧ ∀ k ∈ ks, 0 ≤ k ∧ k < (ls.length : Int) ∧ Tb.len1 ls k ≤ lf := ⟨ks, s2, eD, by omega, hk⟩
        refine ⟨rfl, ?_⟩
        refine ⟨.ref a, rfl, .int (j : Int), rfl, a, _, _, .int (Tb.len1 ls (j : Int)), rfl, rfl, (ea'.same s2).sq, atI_of (by omega) (by rw [List.getElem?_map, Tb.len_at (by omega) hj']; rfl), .int lf, rfl, _, _, rfl, rfl, _, rfl, ite2 (fun c1 => ?_) (fun c1 => ?_)⟩
        · have hle := of_decide_eq_true c1
          refine ⟨.bl bb, rfl, bb, rfl, iteB (fun c2 => ?_) (fun c2 => ?_)⟩
          · exact iteT ⟨_, rfl, keepIt hle⟩
          · refine ⟨.int (j : Int), rfl, .ref R, rfl, R, _, rfl, .inl (SqL.of (s2 _ _ eR)), rfl, flat_ints _, _, rfl, ?_⟩
            refine iteB (fun c3 => ?_) (fun c3 => ?_)
            · exact ⟨_, rfl, keepIt hle⟩
            · exact skip
        · exact iteF skip
      · obtain ⟨ks, s2, eD, zk, hk⟩ := h
        have hDt : D ≠ t := tp'.ne hD
        have hDR : D ≠ R := fun e => by
          rw [e, eR] at hD
          cases hD
        have tp2 := tp'.keep s2
        have eR2 := s2 _ _ eR
        have kp2 : ∀ b o, b ≠ t → b ≠ R → H b = some o → H2 b = some o := fun b o n1 n2 e => s2 _ _ (kp b o n1 n2 e)
        have hi8 : i < 8 := hi
        have stop : ∀ y6 y7 y8, ∃ (z6 z7 z8 : Option V) (row : List Int) (lf' : Int) (bb' : Bool), [some (V.ref t), some (.ref a), some (.int wt), some (.ref R), some (.int lf), some (.bl bb), y6, y7, y8] = [some (.ref t), some (.ref a), some (.int wt), some (.ref R), some (.int lf'), some (.bl bb'), z6, z7, z8] ∧ H2 R = some (.lst (row.map V.int)) ∧ Tb.InR ls row ∧ Tb.rsum ls row + lf' = wt ∧ 0 ≤ lf' ∧ row.length ≤ 8 ∧ (∀ b o, b ≠ t → b ≠ R → H b = some o → H2 b = some o) ∧ Tape H2 t sc := fun y6 y7 y8 => ⟨y6, y7, y8, row, lf, bb, rfl, eR2, hin, hs, hl0, by omega, kp2, tp2⟩
        refine ⟨.ref D, rfl, D, _, rfl, .inl (SqL.of eD), rfl, _, rfl, ite2 (fun c1 => ?_) (fun c1 => ?_)⟩
        · exact stop _ _ _
        · have zk1 : 1 ≤ ks.length := by
            cases ks with
            | nil => exact absurd rfl (fun z => c1 (decide_eq_true z))
            | cons x r =>
              rw [List.length_cons]
              omega
          by_cases c2 : V.int lf = V.int 0
          · exact ⟨.int lf, rfl, rfl, true, congrArg V.bl (decide_eq_true c2), iteT (stop _ _ _)⟩
          refine ⟨.int lf, rfl, rfl, false, congrArg V.bl (decide_eq_false c2), iteF ?_⟩
          -- row.append(fitting[pick])
          refine ⟨.ref R, rfl, .inl ⟨rfl, _, SqL.of eR2⟩, .ref D, rfl, .ref t, rfl, .ref D, rfl, D, _, rfl, .inl (SqL.of eD), t, sc, _, rfl, ⟨?_, ?_⟩, tp2, fun j H3 hj0 hj1 mv3 tp3 => ?_⟩
          · rw [List.length_map]
            omega
          · have : ks.length ≤ ls.length := by rw [List.length_map] at zk; omega
            rw [List.length_map]
            omega
          · rw [List.length_map] at hj1
            have eD3 := mv3 D _ hDt eD
            have eR3 := mv3 R _ hRt eR2
            have ea3 := (ea'.same s2).moved hat mv3
            have hjk : j.toNat < ks.length := by omega
            obtain ⟨k, hk'⟩ : ∃ k, k = ks[j.toNat] := ⟨_, rfl⟩
            have gk : (ks.map V.int)[j.toNat]? = some (.int k) := by
              rw [List.getElem?_map, List.getElem?_eq_getElem hjk, hk']
              rfl
            obtain ⟨b0, b1, b2⟩ := hk k (by rw [hk']; exact List.getElem_mem hjk)
            have bp := Tb.len_pos g b0 b1
            refine ⟨D, _, j, _, rfl, rfl, SqL.of eD3, atI_of hj0 gk, R, _, _, rfl, rfl, eR3, by rw [List.length_map]; exact small1000 (by omega), ?_⟩
            have ea4 : Frz (upd H3 R (.lst (row.map V.int ++ [V.int k]))) a (ls.map V.int) := ea3.of fun o e => by
              rw [upd_ne hRa]
              exact e
            -- left = left - loops[row[-1]]
            refine ⟨.int lf, rfl, .ref a, rfl, .ref R, rfl, 1, rfl, R, _, -1, _, rfl, rfl, SqL.of upd_same, atI_last _ _, a, _, k, .int (Tb.len1 ls k), rfl, rfl, ea4.sq, atI_of b0 (by rw [List.getElem?_map, Tb.len_at b0 b1]; rfl), _, _, rfl, rfl, ?_⟩
            refine ⟨_, _, _, row ++ [k], _, _, rfl, by rw [upd_same, List.map_append]; rfl, fun x hx => ?_, ?_, ?_, by rw [List.length_append]; show row.length + 1 ≤ i + 1; omega, fun b o n1 n2 e => ?_, tp3.but hRt hRs⟩
            · rcases List.mem_append.mp hx with hx | hx
              · exact hin x hx
              · rw [List.mem_singleton.mp hx]
                exact ⟨b0, b1⟩
            · rw [Tb.rsum_snoc]
              show Tb.rsum ls row + Tb.len1 ls k + (lf - Tb.len1 ls k) = wt
              omega
            · show 0 ≤ lf - Tb.len1 ls k
              omega
            · rw [upd_ne n2]
              exact mv3 b o n1 (kp2 b o n1 n2 e)
    · exact h
    · obtain ⟨y6, y7, y8, row, lf, bb, rfl, eR, hin, hs, hl0, hlen, kp, tp'⟩ := hm
      obtain ⟨jx, hjx, hjn⟩ := first_of h1s
      have hlf : lf ≤ 60 := by
        have := Tb.rsum_len g hin
        omega
      refine ⟨.int lf, rfl, lf, rfl, ?_, ?_, for_range (lo := 0) (n := lf.toNat)
        (fun i σ H' => ∃ (y6 : Option V) (row : List Int), σ = [some (.ref t), some (.ref a), some (.int wt), some (.ref R), some (.int lf), some (.bl bb), y6, y7, y8] ∧ H' R = some (.lst (row.map V.int)) ∧ Tb.InR ls row ∧ Tb.rsum ls row + (lf - (i : Int)) = wt ∧ row.length ≤ 8 + i ∧ (∀ b o, b ≠ t → b ≠ R → H b = some o → H' b = some o) ∧ Tape H' t sc)
        ⟨_, row, rfl, eR, hin, by omega, hlen, kp, tp'⟩ (fun i σ H2 hi h => ?_) (fun σ H2 h => ?_)⟩
      · have := Tb.rsum_len g hin
        omega
      · have := Tb.rsum_len g hin
        omega
      · obtain ⟨y6, row, rfl, eR, hin, hs, hlen, kp, tp'⟩ := h
        have ea' := ea.of (kp a · hat hRa)
        have hjl : jx < ls.length := (List.getElem?_eq_some_iff.mp hjx).1
        have l1 : Tb.len1 ls (jx : Int) = 1 := by
          unfold Tb.len1
          rw [Int.toNat_natCast, List.getD_eq_getElem?_getD, hjx]
          rfl
        refine ⟨.ref R, rfl, .inl ⟨rfl, _, SqL.of eR⟩,   .ref a, rfl, ⟨a, _, rfl, ea'⟩, a, ls, 1, jx, rfl, rfl, ea'.sq, hjx, hjn, R, _, _, rfl, rfl, eR, by rw [List.length_map]; exact small1000 (by omega), ?_⟩
        refine ⟨_, row ++ [(jx : Int)], rfl, by rw [upd_same, List.map_append]; rfl, fun x hx => ?_, ?_, by rw [List.length_append]; show row.length + 1 ≤ 8 + (i + 1); omega, fun b o n1 n2 e => ?_, tp'.but hRt hRs⟩
        · rcases List.mem_append.mp hx with hx | hx
          · exact hin x hx
          · rw [List.mem_singleton.mp hx]
            exact ⟨by omega, by omega⟩
        · rw [Tb.rsum_snoc, l1]
          omega
        · rw [upd_ne n2]
          exact kp b o n1 n2 e
      · obtain ⟨y6, row, rfl, eR, hin, hs, hlen, kp, tp'⟩ := h
        refine ⟨.ref R, rfl, R, _, rfl, .inl ⟨SqL.of eR, fun p np => ?_⟩⟩
        have hpt : p ≠ t := tp'.ne np
        have hpR : p ≠ R := fun e => by
          rw [e, eR] at np
          cases np
        have hHp : H p = none := by
          cases z : H p with
          | none => rfl
          | some o =>
            rw [kp p o hpt hpR z] at np
            cases np
        refine q p row _ hin (by omega) hpt hHp (fun b o n1 e => ?_) (tp'.keep (same_upd np)) upd_same
        rw [upd_ne (ne_of_none e hHp)]
        exact kp b o n1 (ne_of_none e nR) e
def spRows (K : PySem.W.Frag) : Sp := fun vs H Q _ => ∃ (t s a : Addr) (ls : List Int) (bd : Int), vs = [.ref t, .ref a, .int bd] ∧ Tape H t s ∧ Frz H a (ls.map V.int) ∧ Rch.Good ls ∧ (1 : Int) ∈ ls ∧ 1 ≤ bd ∧ bd ≤ 60 ∧
  ∀ r ps (rs : List (List Int)) H', Tb.Right ls rs → (rs.length : Int) = bd → r ≠ t → H r = none → Moved t H H' → Tape H' t s → H' r = some (.tup (ps.map V.ref)) → Tups fI H' ps rs → Q (.ref r) H'
theorem ok__law_rows (T : Tx K mg) : FnOk P w K mg base CX0 3 T.a__law_rows T.d__law_rows ["tape", "loops", "bound"] (spRows K) := by
  refine T.F__law_rows.ok sc__law_rows (fun vs H Q E h => ?_) (fun cdv A outer s H vs Q E hr h => ?_)
  · obtain ⟨t, sc, a, ls, bd, rfl, _⟩ := h
    rfl
  · obtain ⟨t, sc, a, ls, bd, rfl, tp, ea, g, h1s, hb1, hb60, q⟩ := h
    have hat : a ≠ t := ea.tape tp
    refine ⟨_, ((pss_one (ps_ret (pe_callTy call_tuple_of (by rfl) T.m_tuple (by decide +kernel) (pa_cons (pe_lc (own := [("wait", 3)]) (g := (gName 3)) (tt := tYes) rfl sc__law_rows.nd (pi_range2 (by rfl) T.m_range (pa_cons pe_int (pa_cons (pe_op op_add (pv 2) pe_int) pa_nil))) (blkOk_by (own := [("wait", 3)]) (N := ["tape", "loops", "bound", "wait"]) (sc := defScope s__law_rows) (by decide +kernel)) (fun _ _ _ _ _ => pg_name (i := 3) sc__law_rows.nd rfl (.inl rfl)) (fun _ _ _ _ _ => pts_nil) (fun _ _ _ _ _ => (pe_call (ok__law_row T) (hr.mono (by decide)) (by rfl) T.g__law_row T.F__law_row.kp T.b__law_row .nil pass0 (pa_cons (pv 0) (pa_cons (pv 1) (pa_cons (pv 3) pa_nil)))))) pa_nil))))), ?_⟩
    refine ⟨.int bd, rfl, _, _, rfl, rfl, 1, bd + 1, rfl, ⟨by omega, by omega, by omega, by omega⟩, fun D hD => lc_range (lo := 1) (n := (bd + 1 - 1).toNat)
      (fun i H' => ∃ (ps : List Addr) (rs : List (List Int)), H' D = some (.lst (ps.map V.ref)) ∧ Tups fI H' ps rs ∧ rs.length = i ∧ (∀ (j : Nat) (r : List Int), rs[j]? = some r → Tb.InR ls r ∧ Tb.rsum ls r = (j : Int) + 1) ∧ (∀ b o, b ≠ t → b ≠ D → H b = some o → H' b = some o) ∧ Tape H' t sc)
      ⟨[], [], upd_same, .nil, rfl, fun j r h => by simp at h, fun b o n1 n2 e => by rw [upd_ne n2]; exact e, tp.keep (same_upd hD)⟩ (fun i H' hi h => ?_) (fun H' h => ?_)⟩
    · obtain ⟨ps, rs, eD, tu, el, hrs, kp, tp'⟩ := h
      have hDt : D ≠ t := tp.ne hD
      have hDs : D ≠ sc := tp.ne2 hD
      have hDa : a ≠ D := ea.ne hD
      refine ⟨rfl, ?_⟩
      refine ⟨.ref t, rfl, .ref a, rfl, _, rfl, t, sc, a, ls, 1 + (i : Int), rfl, tp', ea.of (kp a · hat hDa), g, h1s, by omega, by omega, fun r row H2 hin hs hrt nr mv2 tp2 er => ?_⟩
      have eD2 := mv2 D _ hDt eD
      refine ⟨_, eD2, by rw [List.length_map, tu.length]; exact small1000 (by omega), ps ++ [r], rs ++ [row], by rw [upd_same, List.map_append]; rfl, ?_, by rw [List.length_append, el]; rfl, fun j x hx => ?_, fun b o n1 n2 e => ?_, tp2.but hDt hDs⟩
      · exact (((tu.keep fun b ys e => mv2 b _ (fun z => by
          obtain ⟨_, _, _, _, _, _, e2, _⟩ := tp'
          rw [z, e2] at e
          cases e) e)).snoc er).put eD2
      · rcases Nat.lt_or_ge j rs.length with hj | hj
        · rw [List.getElem?_append_left hj] at hx
          exact hrs j x hx
        · rw [List.getElem?_append_right hj] at hx
          have hj0 : j - rs.length = 0 := by
            have := (List.getElem?_eq_some_iff.mp hx).1
            simp at this
            omega
          rw [hj0] at hx
          simp at hx
          subst hx
          exact ⟨hin, by omega⟩
      · rw [upd_ne n2]
        exact mv2 b o n1 (kp b o n1 n2 e)
    · obtain ⟨ps, rs, eD, tu, el, hrs, kp, tp'⟩ := h
      have el' : (rs.length : Int) = bd := by omega
      refine ⟨D, _, rfl, .inl ⟨SqL.of eD, fun p np => ?_⟩⟩
      have hpt : p ≠ t := tp'.ne np
      have hpD : p ≠ D := fun e => by
        rw [e, eD] at np
        cases np
      have hHp : H p = none := by
        cases z : H p with
        | none => rfl
        | some o =>
          rw [kp p o hpt hpD z] at np
          cases np
      refine q p ps rs _ ⟨g, by omega, by omega, fun i r hr' => ?_⟩ el' hpt hHp (fun b o n1 e => ?_) (tp'.keep (same_upd np)) upd_same (tu.new np)
      · obtain ⟨x, y⟩ := hrs i r hr'
        have := Tb.rsum_len g x
        have := (List.getElem?_eq_some_iff.mp hr').1
        exact ⟨x, by omega, y⟩
      · rw [upd_ne (ne_of_none e hHp)]
        exact kp b o n1 (ne_of_none e hD) e
end

/-! ### drawn scenes: loops and rows that make a table -/
def In40 (ns : List Int) : Prop := ∀ n ∈ ns, 1 ≤ n ∧ n ≤ 40
theorem In40.snoc {ns : List Int} {x : Int} (h : In40 ns) (h1 : 1 ≤ x) (h2 : x ≤ 40) : In40 (ns ++ [x]) := fun n hn => by
  rcases List.mem_append.mp hn with hn | hn
  · exact h n hn
  · rw [List.mem_singleton.mp hn]
    exact ⟨h1, h2⟩
theorem perm_sum {l m : List Int} (p : l.Perm m) : l.sum = m.sum := by
  induction p with
  | nil => rfl
  | cons x _ ih => rw [List.sum_cons, List.sum_cons, ih]
  | swap x y l =>
    rw [List.sum_cons, List.sum_cons, List.sum_cons, List.sum_cons]
    omega
  | trans _ _ h1 h2 => exact h1.trans h2
theorem erase_map (l : List Int) (j : Nat) : (l.map V.int).eraseIdx j = (l.eraseIdx j).map V.int := by
  induction l generalizing j with
  | nil => rfl
  | cons x l ih =>
    cases j with
    | zero => rfl
    | succ j => exact congrArg (V.int x :: ·) (ih j)
theorem seqIx {n j : Nat} (h : j < n) : seqIndex? (j : Int) n = some j := by
  unfold seqIndex?
  simp
  omega
theorem pop_perm (l : List Int) : ∀ {j : Nat} (h : j < l.length), (l[j] :: l.eraseIdx j).Perm l := by
  induction l with
  | nil =>
    intro j h
    exact absurd h (Nat.not_lt_zero _)
  | cons x l ih =>
    intro j h
    cases j with
    | zero => exact .refl _
    | succ j =>
      have hj : j < l.length := by
        rw [List.length_cons] at h
        omega
      show (l[j] :: x :: l.eraseIdx j).Perm (x :: l)
      exact (List.Perm.swap x l[j] _).trans ((ih hj).cons x)
/-- rows that grow by at most the double -/
structure Dbl (row : List Int) (m : Int) : Prop where
  i4 : In40 row
  so : row.Pairwise (· ≤ ·)
  gr : Dy.Grd 0 row
  su : row.sum ≤ m
  mx : ∀ x ∈ row, 2 * x ≤ row.sum + 1
theorem Dbl.snoc {row : List Int} {m l : Int} (D : Dbl row m) (h1 : 1 ≤ l) (h2 : l ≤ 40) (hm : ∀ x ∈ row, x ≤ l) (hs : row.sum + l ≤ m) (hd : l ≤ row.sum + 1) : Dbl (row ++ [l]) m := by
  have es : (row ++ [l]).sum = row.sum + l := by
    rw [List.sum_append]
    simp
  refine ⟨D.i4.snoc h1 h2, ?_, Dy.grd_snoc row 0 l D.gr (by omega), by rw [es]; exact hs, fun x hx => ?_⟩
  · rw [List.pairwise_append]
    refine ⟨D.so, List.pairwise_singleton _ _, fun x hx y hy => ?_⟩
    rw [List.mem_singleton.mp hy]
    exact hm x hx
  · rw [es]
    rcases List.mem_append.mp hx with hx | hx
    · have := D.mx x hx
      omega
    · rw [List.mem_singleton.mp hx]
      omega
section
variable {P : Program} {w : World} {K : PySem.W.Frag} {mg : Str → Option Value} {base : Heap}
/-- doubling loops, in any order -/
def spDoubled2 (K : PySem.W.Frag) : Sp := fun vs H Q _ => ∃ (t s : Addr) (m : Int), vs = [.ref t, .int m] ∧ 1 ≤ m ∧ Tape H t s ∧ ∀ a ns H', Rch.Good ns → Dy.Grd 0 (Rch.isort ns) → ns.sum ≤ m → a ≠ t → H a = none → Moved t H H' → Tape H' t s → H' a = some (.tup (ns.map V.int)) → Q (.ref a) H'
theorem ok__law_doubled (T : Tx K mg) : FnOk P w K mg base CX0 2 T.a__law_doubled T.d__law_doubled ["tape", "most"] (spDoubled2 K) := by
  refine T.F__law_doubled.ok sc__law_doubled (fun vs H Q E h => ?_) (fun cdv A outer s H vs Q E hr h => ?_)
  · obtain ⟨t, sc, m, rfl, _⟩ := h
    rfl
  · obtain ⟨t, sc, m, rfl, hm1, tp, q⟩ := h
    refine ⟨_, ((pss_cons (ps_set (i := 2) sc__law_doubled.nd rfl (.inl rfl) (pe_lst (pa_cons pe_int pa_nil)))
  (pss_cons (ps_for PassesOwn.never rfl (pi_range1 (by rfl) T.m_range (pa_cons (pe_call (ok__law_pick T) (hr.mono (by decide)) (by rfl) T.g__law_pick T.F__law_pick.kp T.b__law_pick .nil pass0 (pa_cons (pv 0) (pa_cons pe_int pa_nil))) pa_nil)) (pg_name (i := 3) sc__law_doubled.nd rfl (.inl rfl))
   (pss_cons (ps_set (i := 4) sc__law_doubled.nd rfl (.inl rfl) (pe_op op_add pe_int (pe_call (ok__law_pick T) (hr.mono (by decide)) (by rfl) T.g__law_pick T.F__law_pick.kp T.b__law_pick .nil pass0 (pa_cons (pv 0) (pa_cons (pe_op op_mul pe_int (pe_callB (cr_max rfl) (by rfl) T.m_max (by decide +kernel) (pa_cons (pv 2) pa_nil))) pa_nil)))))
  (pss_one (ps_if (PW.pt (pw_and (pt_cmpR op_ge (pv 4) (pe_callB (cr_max rfl) (by rfl) T.m_max (by decide +kernel) (pa_cons (pv 2) pa_nil)) (nomark _)) (pw_and (pt_cmpR op_le (pe_op op_add (pe_callB (cr_sum rfl) (by rfl) T.m_sum (by decide +kernel) (pa_cons (pv 2) pa_nil)) (pv 4)) (pv 1) (nomark _)) (pw_and1 (pt_cmpR op_le (pv 4) pe_int (nomark _)))))) (pss_one (ps_expr (pe_bm PySem.F.plainAttrs_list PySem.F.slot_list_append PySem.F.type_list_append mt_append (pv 2) (pa_cons (pv 4) pa_nil)))) pss_nil))))
  (pss_cons (ps_set (i := 5) sc__law_doubled.nd rfl (.inl rfl) (pe_lst pa_nil))
  (pss_cons (ps_for PassesOwn.never rfl (pi_range1 (by rfl) T.m_range (pa_cons (pe_callB call_len_seq (by rfl) T.m_len PySem.boot_len (pa_cons (pv 2) pa_nil)) pa_nil)) (pg_name (i := 3) sc__law_doubled.nd rfl (.inl rfl))
   (pss_one (ps_expr (pe_bm PySem.F.plainAttrs_list PySem.F.slot_list_append PySem.F.type_list_append mt_append (pv 5) (pa_cons (pe_bm PySem.F.plainAttrs_list PySem.F.slot_list_pop PySem.F.type_list_pop mt_popAt (pv 2) (pa_cons (pe_call (ok__law_pick T) (hr.mono (by decide)) (by rfl) T.g__law_pick T.F__law_pick.kp T.b__law_pick .nil pass0 (pa_cons (pv 0) (pa_cons (pe_callB call_len_seq (by rfl) T.m_len PySem.boot_len (pa_cons (pv 2) pa_nil)) pa_nil))) pa_nil)) pa_nil)))))
  (pss_one (ps_ret (pe_callTy call_tuple_of (by rfl) T.m_tuple (by decide +kernel) (pa_cons (pv 5) pa_nil))))))))), ?_⟩
    refine ⟨by show 1 ≤ sizeLine; decide, fun r nr => ?_⟩
    have hrt : r ≠ t := tp.ne nr
    have hrs : r ≠ sc := tp.ne2 nr
    have tp0 : Tape (upd H r (.lst [.int 1])) t sc := tp.keep (same_upd nr)
    have mv0 : Moved t H (upd H r (.lst [.int 1])) := Moved.same (same_upd nr)
    refine ⟨.ref t, rfl, t, sc, 8, rfl, ⟨by decide, by decide⟩, tp0, fun k H1 hk0 hk8 mv1 tp1 => ?_⟩
    have e1 : H1 r = some (.lst ([1].map V.int)) := mv1 r _ hrt upd_same
    have D1 : Dbl [1] m := ⟨fun n hn => by rw [List.mem_singleton.mp hn]; decide, List.pairwise_singleton _ _, ⟨by decide, trivial⟩, by simpa using hm1, fun x hx => by rw [List.mem_singleton.mp hx]; decide⟩
    refine ⟨k, rfl, by omega, by omega, for_range (lo := 0) (n := k.toNat)
      (fun i σ H' => ∃ (y3 y4 y5 : Option V) (row : List Int), σ = [some (.ref t), some (.int m), some (.ref r), y3, y4, y5] ∧ H' r = some (.lst (row.map V.int)) ∧ Dbl row m ∧ 1 ≤ row.length ∧ row.length ≤ 1 + i ∧ (∀ b o, b ≠ t → b ≠ r → H b = some o → H' b = some o) ∧ Tape H' t sc)
      ⟨_, _, _, [1], rfl, e1, D1, Nat.le_refl _, Nat.le_refl _, fun b o n1 n2 e => mv1 b o n1 (mv0 b o n1 e), tp1⟩ (fun i σ H' hi h => ?_) (fun σ H' h => ?_)⟩
    · obtain ⟨y3, y4, y5, row, rfl, er, db, l1, l2, kp, tp'⟩ := h
      refine ⟨.ref t, rfl, .ref r, rfl, r, row, rfl, SqL.of er, by omega, fun mx hm _ => ?_⟩
      have bm := db.i4 mx hm
      have dm := db.mx mx hm
      refine ⟨2, mx, rfl, rfl, .inl ⟨by decide, by decide⟩, t, sc, 2 * mx, rfl, ⟨by omega, by omega⟩, tp', fun d H2 hd0 hd1 mv2 tp2 => ?_⟩
      have er2 : H2 r = some (.lst (row.map V.int)) := mv2 r _ hrt er
      have kp2 : ∀ b o, b ≠ t → b ≠ r → H b = some o → H2 b = some o := fun b o n1 n2 e => mv2 b o n1 (kp b o n1 n2 e)
      refine ⟨1, d, rfl, rfl, ?_⟩
      refine ⟨_, rfl, .ref r, rfl, r, row, rfl, SqL.of er2, by omega, fun m2 _ hm2 => ⟨_, _, rfl, rfl, _, rfl, ite2 (fun c1 => ?_) (fun c1 => ?_)⟩⟩
      · have c1' : 1 + d ≥ m2 := of_decide_eq_true c1
        refine ⟨.ref r, rfl, r, row, rfl, SqL.of er2, _, rfl, _, _, rfl, rfl, _, rfl, _, _, rfl, rfl, _, rfl, ite2 (fun c2 => ?_) (fun c2 => ?_)⟩
        · have c2' : row.sum + (1 + d) ≤ m := of_decide_eq_true c2
          refine ⟨_, rfl, _, _, rfl, rfl, _, rfl, ?_⟩
          by_cases c3 : 1 + d ≤ 40
          · rw [decide_eq_true c3]
            refine ⟨.ref r, rfl, .inl ⟨rfl, _, SqL.of er2⟩, _, rfl, r, _, _, rfl, rfl, er2, ?_, ?_⟩
            · rw [List.length_map]
              exact small1000 (by omega)
            · refine ⟨_, _, _, row ++ [1 + d], rfl, ?_, db.snoc (by omega) c3 (fun x hx => Int.le_trans (hm2 x hx) c1') c2' (by omega), ?_, ?_, fun b o n1 n2 e => ?_, tp2.but hrt hrs⟩
              · rw [upd_same, List.map_append]
                rfl
              · rw [List.length_append]
                omega
              · rw [List.length_append]
                show row.length + 1 ≤ _
                omega
              · rw [upd_ne n2]
                exact kp2 b o n1 n2 e
          · rw [decide_eq_false c3]
            exact ⟨_, _, _, row, rfl, er2, db, l1, by omega, kp2, tp2⟩
        · exact ⟨_, _, _, row, rfl, er2, db, l1, by omega, kp2, tp2⟩
      · exact ⟨_, _, _, row, rfl, er2, db, l1, by omega, kp2, tp2⟩
    · obtain ⟨y3, y4, y5, row, rfl, er, db, l1, l2, kp, tp'⟩ := h
      have l8 : row.length ≤ 8 := by omega
      refine ⟨Nat.zero_le _, fun f nf => ?_⟩
      have hfr : f ≠ r := fun e => by
        rw [e, er] at nf
        cases nf
      have hft : f ≠ t := tp'.ne nf
      have hfs : f ≠ sc := tp'.ne2 nf
      have er1 : (upd H' f (.lst [])) r = some (.lst (row.map V.int)) := by
        rw [upd_ne hfr.symm]
        exact er
      refine ⟨.ref r, rfl, r, _, rfl, .inl (SqL.of er1), _, rfl, by omega, by rw [List.length_map]; omega, for_range (lo := 0) (n := (((row.map V.int).length : Nat) : Int).toNat)
        (fun i σ H' => ∃ (y3 y4 : Option V) (row' fs : List Int), σ = [some (.ref t), some (.int m), some (.ref r), y3, y4, some (.ref f)] ∧ H' r = some (.lst (row'.map V.int)) ∧ H' f = some (.lst (fs.map V.int)) ∧ (fs ++ row').Perm row ∧ fs.length = i ∧ row'.length + i = row.length ∧ (∀ b o, b ≠ t → b ≠ r → b ≠ f → H b = some o → H' b = some o) ∧ Tape H' t sc)
        ⟨_, _, row, [], rfl, er1, upd_same, .refl _, rfl, rfl, fun b o n1 n2 n3 e => ?_, tp'.keep (same_upd nf)⟩ (fun i σ H2 hi h => ?_) (fun σ H2 h => ?_)⟩
      · rw [upd_ne n3]
        exact kp b o n1 n2 e
      · obtain ⟨y3, y4, row', fs, rfl, e1, e2, pm, z1, z2, kp2, tp2⟩ := h
        rw [Int.toNat_natCast, List.length_map] at hi
        have hpos : 0 < row'.length := by omega
        refine ⟨.ref f, rfl, .inl ⟨rfl, _, SqL.of e2⟩, .ref r, rfl, .inl ⟨rfl, _, SqL.of e1⟩, .ref t, rfl, .ref r, rfl, r, _, rfl, .inl (SqL.of e1), t, sc, _, rfl, ⟨?_, ?_⟩, tp2, fun k H3 hk0 hk1 mv3 tp3 => ?_⟩
        · rw [List.length_map]
          omega
        · rw [List.length_map]
          omega
        · rw [List.length_map] at hk1
          have e3 : H3 r = some (.lst (row'.map V.int)) := mv3 r _ hrt e1
          have e4 : H3 f = some (.lst (fs.map V.int)) := mv3 f _ hft e2
          obtain ⟨j, rfl⟩ : ∃ j : Nat, k = (j : Int) := ⟨k.toNat, by omega⟩
          have hj : j < row'.length := by omega
          have gj : (row'.map V.int)[j]? = some (.int row'[j]) := by
            rw [List.getElem?_map, List.getElem?_eq_getElem hj]
            rfl
          refine ⟨r, _, (j : Int), j, _, rfl, rfl, e3, by omega, by omega, ?_, gj, ?_⟩
          · rw [List.length_map]
            exact seqIx hj
          have e5 : (upd H3 r (.lst ((row'.map V.int).eraseIdx j))) f = some (.lst (fs.map V.int)) := by
            rw [upd_ne hfr]
            exact e4
          refine ⟨f, _, _, rfl, rfl, e5, ?_, ?_⟩
          · rw [List.length_map]
            exact small1000 (by omega)
          · refine ⟨_, _, row'.eraseIdx j, fs ++ [row'[j]], rfl, ?_, ?_, ?_, ?_, ?_, fun b o n1 n2 n3 e => ?_, ?_⟩
            · rw [upd_ne hfr.symm, upd_same, erase_map]
            · rw [upd_same, List.map_append]
              rfl
            · rw [List.append_assoc]
              exact ((pop_perm row' hj).append_left fs).trans pm
            · rw [List.length_append, z1]
              rfl
            · rw [List.length_eraseIdx_of_lt hj]
              omega
            · rw [upd_ne n3, upd_ne n2]
              exact mv3 b o n1 (kp2 b o n1 n2 n3 e)
            · exact (tp3.but hrt hrs).but hft hfs
      · obtain ⟨y3, y4, row', fs, rfl, e1, e2, pm, z1, z2, kp2, tp2⟩ := h
        rw [Int.toNat_natCast, List.length_map] at z1 z2
        have er' : row' = [] := List.length_eq_zero_iff.mp (by omega)
        rw [er', List.append_nil] at pm
        refine ⟨.ref f, rfl, f, _, rfl, .inl ⟨SqL.of e2, fun p np => ?_⟩⟩
        have hpt : p ≠ t := tp2.ne np
        have hpr : p ≠ r := fun e => by
          rw [e, e1] at np
          cases np
        have hpf : p ≠ f := fun e => by
          rw [e, e2] at np
          cases np
        have hHp : H p = none := by
          cases z : H p with
          | none => rfl
          | some o =>
            rw [kp2 p o hpt hpr hpf z] at np
            cases np
        have ei : Rch.isort fs = row := (Rch.isort_of pm.symm db.so).symm
        have esum : fs.sum = row.sum := perm_sum pm
        refine q p fs _ ⟨by omega, by omega, fun n hn => db.i4 n (pm.mem_iff.mp hn)⟩ (by rw [ei]; exact db.gr) (by rw [esum]; exact db.su) hpt hHp (fun b o n1 e => ?_) (tp2.keep (same_upd np)) upd_same
        have nb1 : b ≠ p := ne_of_none e hHp
        have nb2 : b ≠ r := ne_of_none e nr
        have nb3 : b ≠ f := fun z => by
          subst z
          rw [kp b o n1 nb2 e] at nf
          cases nf
        rw [upd_ne nb1]
        exact kp2 b o n1 nb2 nb3 e
def idx (ls : List Int) (n : Nat) : List (List Int) := (List.range n).map fun (k : Nat) => [Tb.len1 ls (k : Int), (k : Int)]
theorem idx_snoc (ls : List Int) (n : Nat) : idx ls (n + 1) = idx ls n ++ [[Tb.len1 ls (n : Int), (n : Int)]] := by
  unfold idx
  rw [List.range_succ, List.map_append]
  rfl
theorem idx_lens {ls : List Int} : ∀ n, n ≤ ls.length → (idx ls n).map (fun e => e.getD 0 0) = ls.take n
  | 0, _ => rfl
  | n + 1, h => by
    rw [idx_snoc, List.map_append, idx_lens n (by omega)]
    have e : ls[n]? = some (Tb.len1 ls (n : Int)) := by
      have := Tb.len_at (ls := ls) (k := (n : Int)) (by omega) (by omega)
      rwa [Int.toNat_natCast] at this
    rw [take_snoc e]
    rfl
theorem idx_mem {ls : List Int} {n : Nat} {e : List Int} (h : e ∈ idx ls n) : ∃ k : Nat, k < n ∧ e = [Tb.len1 ls (k : Int), (k : Int)] := by
  obtain ⟨k, hk, rfl⟩ := List.mem_map.mp h
  exact ⟨k, List.mem_range.mp hk, rfl⟩
theorem idx_bd {ls : List Int} (G : Rch.Good ls) : ∀ e ∈ idx ls ls.length, e.length = 2 ∧ TS.Bd 1000 e := by
  intro e he
  obtain ⟨k, hk, rfl⟩ := idx_mem he
  have b := Tb.len_pos G (k := (k : Int)) (by omega) (by omega)
  have := G.2.1
  refine ⟨rfl, fun m hm => ?_⟩
  simp only [List.mem_cons, List.not_mem_nil, or_false] at hm
  rcases hm with e | e <;> subst e <;> omega
theorem code_fst {a b c d : Int} (hb : 0 ≤ b ∧ b < 1000) (hd : 0 ≤ d ∧ d < 1000) (h : TS.code 1000 [a, b] ≤ TS.code 1000 [c, d]) : a ≤ c := by
  have h' : a * 1000 ^ 1 + (b * 1000 ^ 0 + 0) ≤ c * 1000 ^ 1 + (d * 1000 ^ 0 + 0) := h
  omega
def spOrder (K : PySem.W.Frag) : Sp := fun vs H Q _ => ∃ (a : Addr) (ls : List Int), vs = [.ref a] ∧ SqT K H a (ls.map V.int) ∧ Rch.Good ls ∧
  ∀ L (ks : List Int) H', Same H H' → H L = none → H' L = some (.lst (ks.map V.int)) → Tb.InR ls ks → ks.map (Tb.len1 ls) = Rch.isort ls → Q (.ref L) H'
theorem ok__law_order (T : Tx K mg) : FnOk P w K mg base CX0 1 T.a__law_order T.d__law_order ["loops"] (spOrder K) := by
  refine T.F__law_order.ok sc__law_order (fun vs H Q E h => ?_) (fun cdv A outer s H vs Q E hr h => ?_)
  · obtain ⟨a, ls, rfl, _⟩ := h
    rfl
  · obtain ⟨a, ls, rfl, hA, G, q⟩ := h
    have g2 := G.2.1
    refine ⟨_, ((pss_one (ps_ret (pe_lc (own := [("pair", 1)]) (g := (gName 1)) (tt := tYes) rfl sc__law_order.nd (pi_list (pe_callB (cr_sortC (B := 1000) (d := 2) (by decide)) (by rfl) T.m_sorted (by decide +kernel) (pa_cons (pe_lc (own := [("k", 2)]) (g := (gName 2)) (tt := tYes) rfl sc__law_order.nd (pi_range1 (by rfl) T.m_range (pa_cons (pe_callB call_len_seq (by rfl) T.m_len PySem.boot_len (pa_cons (pv 0) pa_nil)) pa_nil)) (blkOk_by (own := [("k", 2)]) (N := ["loops", "pair", "k"]) (sc := defScope s__law_order) (by decide +kernel)) (fun _ _ _ _ _ => pg_name (i := 2) sc__law_order.nd rfl (.inl rfl)) (fun _ _ _ _ _ => pts_nil) (fun _ _ _ _ _ => (pe_tup (pa_cons (pe_ix (ixTK (K := K) (by rfl)) (pv 0) (pv 2) (fun _ _ => rfl)) (pa_cons (pv 2) pa_nil))))) pa_nil))) (blkOk_by (own := [("pair", 1)]) (N := ["loops", "pair", "k"]) (sc := defScope s__law_order) (by decide +kernel)) (fun _ _ _ _ _ => pg_name (i := 1) sc__law_order.nd rfl (.inl rfl)) (fun _ _ _ _ _ => pts_nil) (fun _ _ _ _ _ => (pe_ix (ixTK (K := K) (by rfl)) (pv 1) pe_int (fun _ _ => rfl))))))), ?_⟩
    refine ⟨.ref a, rfl, a, _, rfl, .inr hA, _, rfl, by rw [List.length_map]; omega, by rw [List.length_map]; omega, fun D hD => lc_range (lo := 0) (n := ((((ls.map V.int).length : Nat) : Int)).toNat)
      (fun i H' => ∃ ds : List Addr, Same H H' ∧ H' D = some (.lst (ds.map V.ref)) ∧ Tups fI H' ds (idx ls i))
      ⟨[], same_upd hD, upd_same, .nil⟩ (fun i H' hi h => ?_) (fun H' h => ?_)⟩
    · obtain ⟨ds, sm, eD, td⟩ := h
      rw [List.length_map] at hi
      rw [Int.zero_add]
      refine ⟨rfl, ?_⟩
      refine ⟨.ref a, rfl, .int (i : Int), rfl, a, _, _, .int (Tb.len1 ls (i : Int)), rfl, rfl, sT sm hA, atI_of (by omega) (by rw [List.getElem?_map, Tb.len_at (by omega) (by omega)]; rfl), .int (i : Int), rfl, by show 2 ≤ sizeLine; decide, fun u nu => ?_⟩
      have s4 := same_upd (o := .tup (fI [Tb.len1 ls (i : Int), (i : Int)])) nu
      refine ⟨_, s4 _ _ eD, ?_, ds ++ [u], fun b o e => ?_, by rw [upd_same, List.map_append]; rfl, ?_⟩
      · rw [List.length_map, td.length]
        unfold idx
        rw [List.length_map, List.length_range]
        exact small1000 (by omega)
      · rw [upd_ne (ne_of_none e hD)]
        exact s4 _ _ (sm _ _ e)
      · rw [idx_snoc]
        exact ((td.new nu).snoc upd_same).put (s4 _ _ eD)
    · obtain ⟨ds, sm, eD, td⟩ := h
      rw [List.length_map, Int.toNat_natCast] at td
      have ib := idx_bd G
      refine ⟨D, ds, _, rfl, SqL.of eD, td, ib, fun ms gs M tM pm pw nM => ?_⟩
      have s2 := sm.trans (same_upd (o := .lst (ms.map V.ref)) nM)
      have hg : ∀ e ∈ gs, ∃ k : Nat, k < ls.length ∧ e = [Tb.len1 ls (k : Int), (k : Int)] := fun e he => idx_mem (pm.mem_iff.mp he)
      have zg : gs.length ≤ 8 := by
        rw [pm.length_eq]
        unfold idx
        rw [List.length_map, List.length_range]
        exact g2
      have tM2 := tM.new (o := .lst (ms.map V.ref)) nM
      refine ⟨M, rfl, ⟨_, SqL.of upd_same⟩, fun D2 hD2 => lc_list (K := K) (a := M) (xs := ms.map V.ref)
        (fun j H3 => Same (upd H' M (.lst (ms.map V.ref))) H3 ∧ H3 D2 = some (.lst (((gs.take j).map fun e => e.getD 1 0).map V.int)))
        ⟨same_upd hD2, upd_same⟩ (fun j H3 _ h => SqL.of (h.1 _ _ upd_same)) (fun j x H3 hx h => ?_) (fun H3 h => ?_)⟩
      · obtain ⟨s3, e2⟩ := h
        obtain ⟨p, e, rfl, he, ep⟩ := tM2.get hx
        obtain ⟨k, hk, rfl⟩ := hg e (List.mem_of_getElem? he)
        have hj : j < gs.length := (List.getElem?_eq_some_iff.mp he).1
        refine ⟨rfl, ?_⟩
        refine ⟨.ref p, rfl, p, _, 1, _, rfl, rfl, SqT.of (s3 _ _ ep), atI_nat (j := 1) rfl, _, e2, by rw [List.length_map, List.length_map, List.length_take]; exact small1000 (by omega), fun b o e => ?_, ?_⟩
        · rw [upd_ne (ne_of_none e hD2)]
          exact s3 _ _ e
        · rw [upd_same, take_snoc he, List.map_append, List.map_append]
          rfl
      · obtain ⟨s3, e2⟩ := h
        rw [List.length_map, tM2.length, List.take_of_length_le (Nat.le_refl _)] at e2
        have e1 : (gs.map fun e => e.getD 1 0).map (Tb.len1 ls) = gs.map fun e => e.getD 0 0 := by
          rw [List.map_map]
          refine List.map_congr_left fun e he => ?_
          obtain ⟨k, _, rfl⟩ := hg e he
          rfl
        have p1 : (gs.map fun e => e.getD 0 0).Perm ls := by
          have := pm.map fun e => e.getD 0 0
          rw [idx_lens _ (Nat.le_refl _), List.take_length] at this
          exact this
        have so : (gs.map fun e => e.getD 0 0).Pairwise (· ≤ ·) := by
          rw [List.pairwise_map]
          refine (List.Pairwise.and_mem.mp pw).imp fun {x y} h => ?_
          obtain ⟨hx, hy, hc⟩ := h
          obtain ⟨k, hk, rfl⟩ := hg x hx
          obtain ⟨l, hl, rfl⟩ := hg y hy
          exact code_fst ⟨by omega, by omega⟩ ⟨by omega, by omega⟩ hc
        refine q D2 _ H3 (s2.trans s3) (Same.free s2 hD2) e2 (fun k hk => ?_) ?_
        · obtain ⟨e, he, rfl⟩ := List.mem_map.mp hk
          obtain ⟨n, hn, rfl⟩ := hg e he
          exact ⟨by show (0 : Int) ≤ (n : Int); omega, by show (n : Int) < _; omega⟩
        · rw [e1]
          exact Rch.isort_of p1 so
def spDigits (K : PySem.W.Frag) : Sp := fun vs H Q _ => ∃ (a : Addr) (ls : List Int) (wt : Int), vs = [.ref a, .int wt] ∧ SqT K H a (ls.map V.int) ∧ Rch.Good ls ∧ Dy.Grd 0 (Rch.isort ls) ∧ 0 ≤ wt ∧ wt ≤ ls.sum ∧
  ∀ r (row : List Int) H', Same H H' → H' r = some (.tup (row.map V.int)) → Tb.InR ls row → Tb.rsum ls row = wt → Q (.ref r) H'
theorem ok__law_digits (T : Tx K mg) : FnOk P w K mg base CX0 2 T.a__law_digits T.d__law_digits ["loops", "wait"] (spDigits K) := by
  refine T.F__law_digits.ok sc__law_digits (fun vs H Q E h => ?_) (fun cdv A outer s H vs Q E hr h => ?_)
  · obtain ⟨a, ls, wt, rfl, _⟩ := h
    rfl
  · obtain ⟨a, ls, wt, rfl, hA, G, gr, hw0, hw1, q⟩ := h
    refine ⟨_, ((pss_cons (ps_set (i := 2) sc__law_digits.nd rfl (.inl rfl) (pe_tup pa_nil))
  (pss_cons (ps_set (i := 3) sc__law_digits.nd rfl (.inl rfl) (pv 1))
  (pss_cons (ps_for PassesOwn.never rfl (pi_list (pe_revL (pe_call (ok__law_order T) (hr.mono (by decide)) (by rfl) T.g__law_order T.F__law_order.kp T.b__law_order .nil pass0 (pa_cons (pv 0) pa_nil)))) (pg_name (i := 4) sc__law_digits.nd rfl (.inl rfl))
   (pss_one (ps_if (pt_cmpR op_le (pe_ix ix_tup (pv 0) (pv 4) (fun _ _ => rfl)) (pv 3) (nomark _)) (pss_cons (ps_set (i := 2) sc__law_digits.nd rfl (.inl rfl) (pe_op op_catP (pe_tup (pa_cons (pv 4) pa_nil)) (pv 2)))
  (pss_one (ps_set (i := 3) sc__law_digits.nd rfl (.inl rfl) (pe_op op_sub (pv 3) (pe_ix ix_tup (pv 0) (pv 4) (fun _ _ => rfl)))))) pss_nil)))
  (pss_one (ps_ret (pv 2))))))), ?_⟩
    refine ⟨Nat.zero_le _, fun r0 nr0 => ?_⟩
    have s0 := same_upd (o := .tup []) nr0
    refine ⟨.int wt, rfl, .ref a, rfl, a, ls, rfl, sT s0 hA, G, fun L ks H1 s1 nL eL hin hks => ?_⟩
    refine ⟨L, _, rfl, SqL.of eL, fun p np => ?_⟩
    have s2 := same_upd (o := .lst (ks.map V.int).reverse) np
    have s02 := (s0.trans s1).trans s2
    have hrev : (ks.map V.int).reverse = ks.reverse.map V.int := by rw [List.map_reverse]
    have hGR : Dy.GR (ks.reverse.map (Tb.len1 ls)) := by
      rw [List.map_reverse, hks]
      have := Dy.gr_of (Rch.isort ls) 0 [] gr rfl trivial
      rwa [List.append_nil] at this
    have hsum : (ks.reverse.map (Tb.len1 ls)).sum = ls.sum := by
      rw [List.map_reverse, List.sum_reverse, hks]
      exact perm_sum (Rch.isort_perm ls)
    have hinr : Tb.InR ls ks.reverse := fun k hk => hin k (List.mem_reverse.mp hk)
    obtain ⟨d1, d2, d3⟩ := Dy.dig_ok ks.reverse [] wt hGR hw0 (by rw [hsum]; exact hw1) hinr (fun _ h => by simp at h)
    have zks : ks.length ≤ 8 := by
      have := congrArg List.length hks
      rw [List.length_map, (Rch.isort_perm ls).length_eq] at this
      have := G.2.1
      omega
    rw [hrev]
    refine ⟨p, rfl, ⟨_, SqL.of upd_same⟩, for_list (K := K) (xs := ks.reverse.map V.int)
      (fun i σ H' => ∃ (y4 : Option V) (r : Addr) (row : List Int) (lf : Int), σ = [some (.ref a), some (.int wt), some (.ref r), some (.int lf), y4] ∧ Same (upd H1 p (.lst (ks.reverse.map V.int))) H' ∧ H' r = some (.tup (row.map V.int)) ∧ row.length ≤ i ∧ Dy.dig ls (ks.reverse.drop i) (row, lf) = Dy.dig ls ks.reverse ([], wt))
      ⟨_, r0, [], wt, rfl, fun _ _ h => h, (same_upd np) _ _ (s1 _ _ upd_same), Nat.le_refl _, rfl⟩ (fun i σ H' _ h => ?_) (fun i x σ H' hx h => ?_) (fun σ H' h => ?_)⟩
    · obtain ⟨_, _, _, _, _, s3, _⟩ := h
      exact SqL.of (s3 _ _ upd_same)
    · obtain ⟨y4, r, row, lf, rfl, s3, er, zr, ed⟩ := h
      rw [List.getElem?_map] at hx
      obtain ⟨k, hk, rfl⟩ := Option.map_eq_some_iff.mp hx
      obtain ⟨hi, ei⟩ := List.getElem?_eq_some_iff.mp hk
      have hi8 : i < ks.length := by
        rw [List.length_reverse] at hi
        exact hi
      have bk := hinr k (List.mem_of_getElem? hk)
      have gk : (ls.map V.int)[k.toNat]? = some (.int (Tb.len1 ls k)) := by
        rw [List.getElem?_map, Tb.len_at bk.1 bk.2]
        rfl
      rw [List.drop_eq_getElem_cons hi, ei] at ed
      have hA3 : SqT K H' a (ls.map V.int) := by
        have := sT (s0.trans s1) hA
        rw [hrev] at s2
        exact sT s3 (sT s2 this)
      rw [show Dy.dig ls (k :: ks.reverse.drop (i + 1)) (row, lf) = Dy.dig ls (ks.reverse.drop (i + 1)) (if Tb.len1 ls k ≤ lf then (k :: row, lf - Tb.len1 ls k) else (row, lf)) from rfl] at ed
      refine ⟨.ref a, rfl, .int k, rfl, a, _, _, _, rfl, rfl, hA3, atI_of bk.1 gk, .int lf, rfl, _, _, rfl, rfl, _, rfl, ite2 (fun c1 => ?_) (fun c1 => ?_)⟩
      · rw [if_pos (of_decide_eq_true c1)] at ed
        refine ⟨.int k, rfl, by show 1 ≤ sizeLine; decide, fun c nc => ?_⟩
        have s4 := same_upd (o := .tup [.int k]) nc
        refine ⟨.ref r, rfl, c, r, _, _, rfl, rfl, upd_same, s4 _ _ er, by simp, ?_, fun u H5 s5 eu => ?_⟩
        · rw [List.length_map]
          show 1 + row.length ≤ 2 ^ 24
          omega
        · have s45 := s4.trans s5
          refine ⟨.int lf, rfl, .ref a, rfl, .int k, rfl, a, _, _, _, rfl, rfl, sT s45 hA3, atI_of bk.1 gk, _, _, rfl, rfl, ?_⟩
          exact ⟨_, u, k :: row, _, rfl, s3.trans s45, eu, by rw [List.length_cons]; omega, ed⟩
      · rw [if_neg (fun z => c1 (decide_eq_true z))] at ed
        exact ⟨_, r, row, lf, rfl, s3, er, by omega, ed⟩
    · obtain ⟨y4, r, row, lf, rfl, s3, er, zr, ed⟩ := h
      rw [List.length_map, List.drop_length] at ed
      have ed' : (row, lf) = Dy.dig ls ks.reverse ([], wt) := ed
      rw [← ed'] at d2 d3
      refine ⟨.ref r, rfl, q r row H' ?_ er d3 ?_⟩
      · rw [hrev] at s02
        exact s02.trans s3
      · rw [d2]
        simp [Tb.rsum]
def spDRows (K : PySem.W.Frag) : Sp := fun vs H Q _ => ∃ (a : Addr) (ls : List Int), vs = [.ref a] ∧ SqT K H a (ls.map V.int) ∧ Rch.Good ls ∧ Dy.Grd 0 (Rch.isort ls) ∧ 1 ≤ ls.sum ∧ ls.sum ≤ 60 ∧
  ∀ r ps (rs : List (List Int)) H', Tb.Right ls rs → (rs.length : Int) = ls.sum → Same H H' → H' r = some (.tup (ps.map V.ref)) → Tups fI H' ps rs → Q (.ref r) H'
theorem ok__law_doubled_rows (T : Tx K mg) : FnOk P w K mg base CX0 3 T.a__law_doubled_rows T.d__law_doubled_rows ["loops"] (spDRows K) := by
  refine T.F__law_doubled_rows.ok sc__law_doubled_rows (fun vs H Q E h => ?_) (fun cdv A outer s H vs Q E hr h => ?_)
  · obtain ⟨a, ls, rfl, _⟩ := h
    rfl
  · obtain ⟨a, ls, rfl, hA, G, gr, hs1, hs60, q⟩ := h
    refine ⟨_, ((pss_one (ps_ret (pe_callTy call_tuple_of (by rfl) T.m_tuple (by decide +kernel) (pa_cons (pe_lc (own := [("wait", 1)]) (g := (gName 1)) (tt := tYes) rfl sc__law_doubled_rows.nd (pi_range2 (by rfl) T.m_range (pa_cons pe_int (pa_cons (pe_op op_add (pe_callB (cr_sumT rfl) (by rfl) T.m_sum (by decide +kernel) (pa_cons (pv 0) pa_nil)) pe_int) pa_nil))) (blkOk_by (own := [("wait", 1)]) (N := ["loops", "wait"]) (sc := defScope s__law_doubled_rows) (by decide +kernel)) (fun _ _ _ _ _ => pg_name (i := 1) sc__law_doubled_rows.nd rfl (.inl rfl)) (fun _ _ _ _ _ => pts_nil) (fun _ _ _ _ _ => (pe_call (ok__law_digits T) (hr.mono (by decide)) (by rfl) T.g__law_digits T.F__law_digits.kp T.b__law_digits .nil pass0 (pa_cons (pv 0) (pa_cons (pv 1) pa_nil))))) pa_nil))))), ?_⟩
    refine ⟨.ref a, rfl, a, ls, rfl, hA, _, _, rfl, rfl, 1, _, rfl, ⟨by omega, by omega, by omega, by omega⟩, fun D hD => lc_range (lo := 1) (n := (ls.sum + 1 - 1).toNat)
      (fun i H' => ∃ (ps : List Addr) (rs : List (List Int)), H' D = some (.lst (ps.map V.ref)) ∧ Tups fI H' ps rs ∧ rs.length = i ∧ (∀ (j : Nat) (r : List Int), rs[j]? = some r → Tb.InR ls r ∧ Tb.rsum ls r = (j : Int) + 1) ∧ Same H H')
      ⟨[], [], upd_same, .nil, rfl, fun j r h => by simp at h, same_upd hD⟩ (fun i H' hi h => ?_) (fun H' h => ?_)⟩
    · obtain ⟨ps, rs, eD, tu, el, hrs, sm⟩ := h
      refine ⟨rfl, ?_⟩
      refine ⟨.ref a, rfl, _, rfl, a, ls, 1 + (i : Int), rfl, sT sm hA, G, gr, by omega, by omega, fun r row H2 s2 er hin hs => ?_⟩
      have eD2 := s2 _ _ eD
      refine ⟨_, eD2, by rw [List.length_map, tu.length]; exact small1000 (by omega), ps ++ [r], rs ++ [row], by rw [upd_same, List.map_append]; rfl, ((tu.same s2).snoc er).put eD2, by rw [List.length_append, el]; rfl, fun j x hx => ?_, same_put (sm.trans s2) hD⟩
      rcases Nat.lt_or_ge j rs.length with hj | hj
      · rw [List.getElem?_append_left hj] at hx
        exact hrs j x hx
      · rw [List.getElem?_append_right hj] at hx
        have hj0 : j - rs.length = 0 := by
          have := (List.getElem?_eq_some_iff.mp hx).1
          simp at this
          omega
        rw [hj0] at hx
        simp at hx
        subst hx
        exact ⟨hin, by omega⟩
    · obtain ⟨ps, rs, eD, tu, el, hrs, sm⟩ := h
      have el' : (rs.length : Int) = ls.sum := by omega
      refine ⟨D, _, rfl, .inl ⟨SqL.of eD, fun p np => ?_⟩⟩
      refine q p ps rs _ ⟨G, by omega, by omega, fun i r hr' => ?_⟩ el' (sm.trans (same_upd np)) upd_same (tu.new np)
      obtain ⟨x, y⟩ := hrs i r hr'
      have := Tb.rsum_len G x
      have := (List.getElem?_eq_some_iff.mp hr').1
      exact ⟨x, by omega, y⟩
theorem right_take {ls : List Int} {rs : List (List Int)} (R : Tb.Right ls rs) {n : Nat} (h : 1 ≤ n) : Tb.Right ls (rs.take n) := by
  obtain ⟨a, b, c, d⟩ := R
  refine ⟨a, by rw [List.length_take]; omega, by rw [List.length_take]; omega, fun i r hr => ?_⟩
  rw [List.getElem?_take] at hr
  split at hr
  · exact d i r hr
  · cases hr
theorem Tups.take {α : Type} {f : α → List V} {H : Hp} {ps : List Addr} {xs : List α} (h : Tups f H ps xs) : ∀ n, Tups f H (ps.take n) (xs.take n) := by
  induction h with
  | nil => intro n; rw [List.take_nil, List.take_nil]; exact .nil
  | cons a _ ih =>
    intro n
    cases n with
    | zero => exact .nil
    | succ n => exact .cons a (ih n)
def spScene (K : PySem.W.Frag) : Sp := fun vs H Q _ => ∃ (t s : Addr) (m : Int), vs = [.ref t, .int m] ∧ 1 ≤ m ∧ m ≤ 60 ∧ Tape H t s ∧
  ∀ p la ra (ls : List Int) ps (rs : List (List Int)) H', Tb.Right ls rs → (rs.length : Int) ≤ m → SqT K H' la (ls.map V.int) → SqT K H' ra (ps.map V.ref) → Tups fI H' ps rs → Moved t H H' → Tape H' t s → H' p = some (.tup [.ref la, .ref ra]) → Q (.ref p) H'
theorem sum_pos {ns : List Int} (g : Rch.Good ns) : 1 ≤ ns.sum := by
  have key : ∀ l : List Int, (∀ n ∈ l, 1 ≤ n) → (l.length : Int) ≤ l.sum := by
    intro l
    induction l with
    | nil => intro _; simp
    | cons x l ih =>
      intro h
      have := ih fun n hn => h n (List.mem_cons_of_mem _ hn)
      have := h x List.mem_cons_self
      rw [List.sum_cons, List.length_cons]
      omega
  have := key ns fun n hn => (g.2.2 n hn).1
  have := g.1
  omega
theorem ok__law_scene (T : Tx K mg) : FnOk P w K mg base CX0 4 T.a__law_scene T.d__law_scene ["tape", "most"] (spScene K) := by
  refine T.F__law_scene.ok sc__law_scene (fun vs H Q E h => ?_) (fun cdv A outer s H vs Q E hr h => ?_)
  · obtain ⟨t, sc, m, rfl, _⟩ := h
    rfl
  · obtain ⟨t, sc, m, rfl, hm1, hm60, tp, q⟩ := h
    refine ⟨_, ((pss_cons (ps_if (pt_cmpR op_eq (pe_call (ok__law_pick T) (hr.mono (by decide)) (by rfl) T.g__law_pick T.F__law_pick.kp T.b__law_pick .nil pass0 (pa_cons (pv 0) (pa_cons pe_int pa_nil))) pe_int (nomark _)) (pss_cons (ps_set (i := 2) sc__law_scene.nd rfl (.inl rfl) (pe_call (ok__law_doubled T) (hr.mono (by decide)) (by rfl) T.g__law_doubled T.F__law_doubled.kp T.b__law_doubled .nil pass0 (pa_cons (pv 0) (pa_cons (pv 1) pa_nil))))
  (pss_cons (ps_set (i := 3) sc__law_scene.nd rfl (.inl rfl) (pe_call (ok__law_doubled_rows T) (hr.mono (by decide)) (by rfl) T.g__law_doubled_rows T.F__law_doubled_rows.kp T.b__law_doubled_rows .nil pass0 (pa_cons (pv 2) pa_nil)))
  (pss_one (ps_ret (pe_tup (pa_cons (pv 2) (pa_cons (pe_slice sl_tupA (pv 3) po_none (po_some (pe_op op_add pe_int (pe_call (ok__law_pick T) (hr.mono (by decide)) (by rfl) T.g__law_pick T.F__law_pick.kp T.b__law_pick .nil pass0 (pa_cons (pv 0) (pa_cons (pe_callB call_len_seq (by rfl) T.m_len PySem.boot_len (pa_cons (pv 3) pa_nil)) pa_nil)))))) pa_nil))))))) pss_nil)
  (pss_cons (ps_set (i := 2) sc__law_scene.nd rfl (.inl rfl) (pe_call (ok__law_loops T) (hr.mono (by decide)) (by rfl) T.g__law_loops T.F__law_loops.kp T.b__law_loops .nil pass0 (pa_cons (pv 0) (pa_cons pe_int (pa_cons pe_int pa_nil)))))
  (pss_one (ps_ret (pe_tup (pa_cons (pv 2) (pa_cons (pe_call (ok__law_rows T) (hr.mono (by decide)) (by rfl) T.g__law_rows T.F__law_rows.kp T.b__law_rows .nil pass0 (pa_cons (pv 0) (pa_cons (pv 2) (pa_cons (pe_op op_add pe_int (pe_call (ok__law_pick T) (hr.mono (by decide)) (by rfl) T.g__law_pick T.F__law_pick.kp T.b__law_pick .nil pass0 (pa_cons (pv 0) (pa_cons (pv 1) pa_nil)))) pa_nil)))) pa_nil)))))))), ?_⟩
    refine ⟨.ref t, rfl, t, sc, 2, rfl, ⟨by decide, by decide⟩, tp, fun x H1 hx0 hx1 mv1 tp1 => ?_⟩
    refine ⟨rfl, _, rfl, ite2 (fun c1 => ?_) (fun c1 => ?_)⟩
    · refine ⟨.ref t, rfl, .int m, rfl, t, sc, m, rfl, hm1, tp1, fun la ls H2 G gr hsum hlt nl mv2 tp2 el => ?_⟩
      have sp := sum_pos G
      refine ⟨.ref la, rfl, la, ls, rfl, SqT.of el, G, gr, sp, by omega, fun ra ps rs H3 R elen s3 er tu => ?_⟩
      have tp3 := tp2.keep s3
      have r1 := R.2.1
      have r60 := R.2.2.1
      refine ⟨.ref la, rfl, .ref ra, rfl, .ref t, rfl, .ref ra, rfl, ra, _, rfl, .inr (SqT.of er), t, sc, _, rfl, ⟨?_, ?_⟩, tp3, fun d H4 hd0 hd1 mv4 tp4 => ?_⟩
      · rw [List.length_map, tu.length]
        omega
      · rw [List.length_map, tu.length]
        omega
      · rw [List.length_map, tu.length] at hd1
        have hLa := mv4.sq (K := K) tp3 (SqT.of (s3 _ _ el))
        have hRa := mv4.sq (K := K) tp3 (SqT.of er)
        have tu4 := mv4.tups tp3 tu
        have mvA := ((mv1.trans mv2).trans (Moved.same s3)).trans mv4
        refine ⟨1, d, rfl, rfl, 1 + d, rfl, ra, _, rfl, hRa, fun hw => ?_, fun hw p np => ?_⟩
        · refine ⟨by show 2 ≤ sizeLine; decide, fun u nu => ?_⟩
          have s5 := same_upd (o := .tup [.ref la, .ref ra]) nu
          exact q u la ra ls ps rs _ R (by omega) (sT s5 hLa) (sT s5 hRa) (tu4.new nu) (mvA.trans (Moved.same s5)) (tp4.keep s5) upd_same
        · refine ⟨by show 2 ≤ sizeLine; decide, fun u nu => ?_⟩
          have sp5 := same_upd (o := .tup (cutV (ps.map V.ref) none (some (1 + d)))) np
          have s5 := sp5.trans (same_upd (o := .tup [.ref la, .ref p]) nu)
          have ecut : cutV (ps.map V.ref) none (some (1 + d)) = (ps.take (1 + d).toNat).map V.ref := by
            unfold cutV
            obtain ⟨n, hn⟩ : ∃ n : Nat, 1 + d = (n : Int) := ⟨(1 + d).toNat, by omega⟩
            rw [hn, HT.sIx_none, HT.sIx_nat, List.drop_zero, Nat.sub_zero, Int.toNat_natCast, ← List.map_take, List.length_map, tu.length, Nat.min_eq_left (by omega)]
          refine q u la p ls (ps.take (1 + d).toNat) (rs.take (1 + d).toNat) _ (right_take R (by omega)) (by rw [List.length_take]; omega) (sT s5 hLa) (SqT.of ?_) ((tu4.same s5).take _) (mvA.trans (Moved.same s5)) (tp4.keep s5) upd_same
          rw [← ecut]
          exact (same_upd nu) _ _ upd_same
    · refine ⟨.ref t, rfl, t, sc, 5, 6, rfl, ⟨by decide, by decide⟩, ⟨by decide, by decide⟩, tp1, fun la ls H2 g hl5 h1s hlt nl mv2 tp2 fz => ?_⟩
      refine ⟨.ref la, rfl, .ref t, rfl, .ref la, rfl, .ref t, rfl, .int m, rfl, t, sc, m, rfl, ⟨by omega, by omega⟩, tp2, fun d H3 hd0 hd1 mv3 tp3 => ?_⟩
      have fz3 := fz.moved hlt mv3
      refine ⟨1, d, rfl, rfl, t, sc, la, ls, 1 + d, rfl, tp3, fz3, g, h1s, by omega, by omega, fun ra ps rs H4 R elen hrt nr mv4 tp4 er tu => ?_⟩
      refine ⟨by show 2 ≤ sizeLine; decide, fun u nu => ?_⟩
      have s5 := same_upd (o := .tup [.ref la, .ref ra]) nu
      have fz4 := fz3.moved hlt mv4
      exact q u la ra ls ps rs _ R (by omega) (fz4.same s5).sq (SqT.of (s5 _ _ er)) (tu.new nu) ((((mv1.trans mv2).trans mv3).trans mv4).trans (Moved.same s5)) (tp4.keep s5) upd_same
end

/-! ### the law of the first meeting of a day -/
section
variable {P : Program} {w : World} {K : PySem.W.Frag} {mg : Str → Option Value} {base : Heap}
def spAsked (K : PySem.W.Frag) (C : Addr) : Sp := fun vs H Q _ => ∃ (p a : Addr) (k : Int) (ls : List Int) (rs : List (List Int)) (cs : List Int), vs = [.ref p, .int k, .ref a] ∧ TabAt K C H p ls rs ∧ Tb.Right ls rs ∧ SqT K H a (cs.map V.int) ∧ Rt k cs ∧ 2 ≤ k ∧ k ≤ 4 ∧
  (NoM ls rs cs → ∀ H', Same H H' → Q .non H') ∧
  (∀ t l u H', Mt.Least (Mt.prs (Dy.lays ls rs 0 (Ln.letts (rs.length : Int) cs))) [t, l] → Same H H' → H' u = some (.tup [.int t, .int l]) → Q (.ref u) H')
theorem ok__law_asked (T : Tx K mg) : FnOk P w K mg base CX0 8 T.a__law_asked T.d__law_asked ["table", "comers", "comings"] (spAsked K T.c_Table) := by
  refine T.F__law_asked.ok sc__law_asked (fun vs H Q E h => ?_) (fun cdv A outer s H vs Q E hr h => ?_)
  · obtain ⟨p, a, k, ls, rs, cs, rfl, _⟩ := h
    rfl
  · obtain ⟨p, a, k, ls, rs, cs, rfl, tab, R, hT, g, hk2, hk4, qn, qm⟩ := h
    refine ⟨_, ((pss_cons (ps_set (i := 3) sc__law_asked.nd rfl (.inl rfl) pe_non)
  (pss_cons (ps_try_as (i := 4) (Wout := fun _ _ _ _ => False) rfl rfl sc__law_asked.nd rfl rfl ⟨by rfl, by decide, .inl T.g_Meet⟩ takes0 (fun W pn xe tk _ => (pss_one (ps_expr (pe_callS (ok_day_x T) (hr.mono (by decide)) (by rfl) T.g_day T.F_day.kp T.b_day (fun σ => passAt tk σ) (pa_cons (pv 0) (pa_cons (pv 1) (pa_cons (pv 2) pa_nil))))))) (fun a oe cls d pn hz hf => (pss_one (ps_set (i := 3) sc__law_asked.nd rfl (.inl rfl) (pe_tup (pa_cons (pe_xf ⟨T.ec_Meet.hg, T.ec_Meet.hk, T.ec_Meet.hs, T.ec_Meet.hd⟩ T.n_Meet_tick hz hf (pv 4)) (pa_cons (pe_xf ⟨T.ec_Meet.hg, T.ec_Meet.hk, T.ec_Meet.hs, T.ec_Meet.hd⟩ T.n_Meet_loop hz hf (pv 4)) pa_nil)))))))
  (pss_one (ps_ret (pv 3)))))), ?_⟩
    refine ⟨.ref p, rfl, .int k, rfl, .ref a, rfl, p, a, k, ls, rs, cs, rfl, tab, R, hT, g, hk2, hk4, fun nm L ps es H1 s1 nL eL tu pm pw => ?_, fun t l d H1 le s1 nd ed => ?_⟩
    · exact ⟨.non, rfl, qn nm _ s1⟩
    · refine ⟨true, T.e_Meet, fun _ a0 ha0 => ?_, fun z => nomatch z⟩
      refine ⟨.ref a0, rfl, rfl, rfl, d, _, .int t, rfl, ed, rfl, .ref a0, rfl, rfl, rfl, d, _, .int l, rfl, ed, rfl, by show 2 ≤ sizeLine; decide, fun u nu => ?_⟩
      have su := same_upd (o := .tup [V.int t, .int l]) nu
      exact ⟨.ref u, rfl, qm t l u _ le (s1.trans su) upd_same⟩
end

/-! ### what stands after a turn -/
section
variable {P : Program} {w : World} {K : PySem.W.Frag} {mg : Str → Option Value} {base : Heap}
/-- what stands after a turn -/
structure Scn (K : PySem.W.Frag) (C : Addr) (H : Hp) (la ra ca x : Addr) (ls : List Int) (ps : List Addr) (rs : List (List Int)) (cs : List Int) : Prop where
  hL : SqT K H la (ls.map V.int)
  hR : SqT K H ra (ps.map V.ref)
  tu : Tups fI H ps rs
  hC : SqT K H ca (cs.map V.int)
  tab : TabAt K C H x ls rs
theorem Scn.same {K : PySem.W.Frag} {C : Addr} {H H' : Hp} {la ra ca x : Addr} {ls ps rs cs} (h : Scn K C H la ra ca x ls ps rs cs) (e : Same H H') : Scn K C H' la ra ca x ls ps rs cs :=
  ⟨sT e h.hL, sT e h.hR, h.tu.same e, sT e h.hC, h.tab.same e⟩
theorem Moved.tab {K : PySem.W.Frag} {C t s : Addr} {H H' : Hp} {x : Addr} {ls rs} (mv : Moved t H H') (tp : Tape H t s) (h : TabAt K C H x ls rs) : TabAt K C H' x ls rs := by
  obtain ⟨dx, a, b, ps, h1, h2, h3, h4⟩ := h.ob
  refine ⟨dx, a, b, ps, mv _ _ (fun z => ?_) h1, mv.sq tp h2, mv.sq tp h3, mv.tups tp h4⟩
  obtain ⟨_, _, _, _, _, _, e2, _⟩ := tp
  rw [z, e2] at h1
  cases h1
theorem Moved.scn {K : PySem.W.Frag} {C t s : Addr} {H H' : Hp} {la ra ca x : Addr} {ls ps rs cs} (mv : Moved t H H') (tp : Tape H t s) (h : Scn K C H la ra ca x ls ps rs cs) : Scn K C H' la ra ca x ls ps rs cs :=
  ⟨mv.sq tp h.hL, mv.sq tp h.hR, mv.tups tp h.tu, mv.sq tp h.hC, Moved.tab mv tp h.tab⟩
theorem sT_put {K : PySem.W.Frag} {H : Hp} {L : Addr} {ys : List V} {o : HO} {a : Addr} {xs : List V} (e : H L = some (.lst ys)) (h : SqT K H a xs) : SqT K (upd H L o) a xs := by
  rcases h with (h | ⟨z, h⟩) | h
  · exact .inl (.inl (by rw [upd_ne (fun q => by rw [q, e] at h; cases h)]; exact h))
  · exact .inl (.inr ⟨z, by rw [upd_ne (fun q => by rw [q, e] at h; cases h)]; exact h⟩)
  · exact .inr h
theorem TabAt.put {K : PySem.W.Frag} {C : Addr} {H : Hp} {x : Addr} {ls rs} {L : Addr} {ys : List V} {o : HO} (h : TabAt K C H x ls rs) (e : H L = some (.lst ys)) : TabAt K C (upd H L o) x ls rs := by
  obtain ⟨dx, a, b, ps, h1, h2, h3, h4⟩ := h.ob
  exact ⟨dx, a, b, ps, by rw [upd_ne (fun q => by rw [q, e] at h1; cases h1)]; exact h1, sT_put e h2, sT_put e h3, h4.put e⟩
theorem Scn.put {K : PySem.W.Frag} {C : Addr} {H : Hp} {la ra ca x : Addr} {ls ps rs cs} {L : Addr} {ys : List V} {o : HO} (h : Scn K C H la ra ca x ls ps rs cs) (e : H L = some (.lst ys)) : Scn K C (upd H L o) la ra ca x ls ps rs cs :=
  ⟨sT_put e h.hL, sT_put e h.hR, h.tu.put e, sT_put e h.hC, h.tab.put e⟩
theorem tape_put {H : Hp} {t s L : Addr} {ys : List V} {o : HO} (h : Tape H t s) (_ : H L = some (.lst ys)) (n1 : L ≠ t) (n2 : L ≠ s) : Tape (upd H L o) t s := h.but n1 n2
end

/-! ### the law of the first meeting of a day -/
section
variable {P : Program} {w : World} {K : PySem.W.Frag} {mg : Str → Option Value} {base : Heap}
def lawLevel : Nat := 9
def spLaw (K : PySem.W.Frag) : Sp := fun vs H Q _ => ∃ (a : Addr) (ns : List Int), vs = [.ref a] ∧ SqL K H a (ns.map V.int) ∧ ns.length ≤ 63 ∧ ∀ H', Q (.bl true) H'
theorem least_one {P : List (List Int)} (hb : ∀ r ∈ P, r.length = 2 ∧ TS.Bd 10000 r) {x y : List Int} (hx : Mt.Least P x) (hy : Mt.Least P y) : x = y := by
  have mx : x ∈ P := List.count_pos_iff.mp (by have := hx.1; omega)
  have my : y ∈ P := List.count_pos_iff.mp (by have := hy.1; omega)
  exact code_inj (hb x mx).1 (hb y my).1 (hb x mx).2 (hb y my).2 (Int.le_antisymm (hx.2 y hy.1) (hy.2 x hx.1))
theorem dp_pair {K : PySem.W.Frag} {H : Hp} {u : Addr} {a b : Int} (e : H u = some (.tup [.int a, .int b])) : Dp K H (.ref u) (.tuple [.int a, .int b]) := .tup (SqT.of e) (.cons (.int _) (.cons (.int _) .nil))
theorem ok_law (T : Tx K mg) : FnOk P w K mg base CX0 9 T.a_law T.d_law ["script"] (spLaw K) := by
  refine T.F_law.ok sc_law (fun vs H Q E h => ?_) (fun cdv A outer s H vs Q E hr h => ?_)
  · obtain ⟨a, ns, rfl, _⟩ := h
    rfl
  · obtain ⟨a, ns0, rfl, hS, hlen, q⟩ := h
    refine ⟨_, ((pss_cons (ps_set (i := 1) sc_law.nd rfl (.inl rfl) (pe_call (ok__law_tape T) (hr.mono (by decide)) (by rfl) T.g__law_tape T.F__law_tape.kp T.b__law_tape .nil pass0 (pa_cons (pv 0) pa_nil)))
  (pss_cons (ps_for PassesOwn.never rfl (pi_range1 (by rfl) T.m_range (pa_cons pe_int pa_nil)) (pg_name (i := 2) sc_law.nd rfl (.inl rfl))
   (pss_cons (ps_asg (pe_call (ok__law_scene T) (hr.mono (by decide)) (by rfl) T.g__law_scene T.F__law_scene.kp T.b__law_scene .nil pass0 (pa_cons (pv 1) (pa_cons pe_int pa_nil))) (pg_tup rfl (pgs_cons (pg_name (i := 3) sc_law.nd rfl (.inl rfl)) (pgs_cons (pg_name (i := 4) sc_law.nd rfl (.inl rfl)) pgs_nil))))
  (pss_cons (ps_set (i := 5) sc_law.nd rfl (.inl rfl) (pe_op op_add pe_int (pe_call (ok__law_pick T) (hr.mono (by decide)) (by rfl) T.g__law_pick T.F__law_pick.kp T.b__law_pick .nil pass0 (pa_cons (pv 1) (pa_cons pe_int pa_nil)))))
  (Evl.pss_cut (ps_set (i := 6) sc_law.nd rfl (.inl rfl) (pe_op op_catA (pe_call (ok__law_comings T) (hr.mono (by decide)) (by rfl) T.g__law_comings T.F__law_comings.kp T.b__law_comings .nil pass0 (pa_cons (pv 1) (pa_cons (pv 5) (pa_cons pe_int pa_nil)))) (pe_op RN6.op_repN (pe_tup (pa_cons (pv 5) pa_nil)) (pe_call (ok__law_pick T) (hr.mono (by decide)) (by rfl) T.g__law_pick T.F__law_pick.kp T.b__law_pick .nil pass0 (pa_cons (pv 1) (pa_cons pe_int pa_nil))))))
  (pss_cons (ps_set (i := 7) sc_law.nd rfl (.inl rfl) (pe_make T.mk_Table (ok_Table___init__ T) (hr.mono (by decide)) (by rfl) T.g_Table T.b_Table___init__ .nil pass0 (pa_cons (pv 3) (pa_cons (pv 4) pa_nil))))
  (pss_cons (ps_set (i := 8) sc_law.nd rfl (.inl rfl) (pe_call (ok__law_meet T) (hr.mono (by decide)) (by rfl) T.g__law_meet T.F__law_meet.kp T.b__law_meet .nil pass0 (pa_cons (pe_call (ok__law_layings T) (hr.mono (by decide)) (by rfl) T.g__law_layings T.F__law_layings.kp T.b__law_layings .nil pass0 (pa_cons (pv 3) (pa_cons (pv 4) (pa_cons (pv 6) pa_nil)))) pa_nil)))
  (pss_one (ps_for PassesOwn.never rfl (pi_range1 (by rfl) T.m_range (pa_cons pe_int pa_nil)) (pg_name (i := 9) sc_law.nd rfl (.inl rfl))
   (pss_cons (ps_set (i := 10) sc_law.nd rfl (.inl rfl) (pe_call (ok__law_asked T) (hr.mono (by decide)) (by rfl) T.g__law_asked T.F__law_asked.kp T.b__law_asked .nil pass0 (pa_cons (pv 7) (pa_cons (pv 5) (pa_cons (pv 6) pa_nil)))))
  (pss_one (ps_if (PW.pt (pw_or (pt_cmpR (op_neD hr.units) (pv 10) (pv 8) (nomark _)) (pw_or1 (PW.pt (pw_and (pt_cmpR op_notN (pv 10) pe_non (nomark _)) (pw_and1 (PW.pt (pw_or (pt_val (pe_callB call_isi (by rfl) T.m_isinstance (by decide +kernel) (pa_cons (pe_ix ix_tup (pv 10) pe_int (fun _ _ => rfl)) (pa_cons (pe_bltn (v := .ty "bool") (by rfl) T.m_bool (by decide +kernel) rfl) pa_nil)))) (pw_or1 (pt_val (pe_callB call_isi (by rfl) T.m_isinstance (by decide +kernel) (pa_cons (pe_ix ix_tup (pv 10) pe_int (fun _ _ => rfl)) (pa_cons (pe_bltn (v := .ty "bool") (by rfl) T.m_bool (by decide +kernel) rfl) pa_nil))))))))))))) (pss_one (ps_ret pe_bl)) pss_nil)))))))))))
  (pss_one (ps_ret (pe_callB (EX6.call_isX T.ec_Meet) (by rfl) T.m_isinstance (by decide +kernel) (pa_cons (EX6.pe_newE T.x_Meet T.i_Meet T.ti_Meet (ok_Meet___init__ T) (hr.mono (by decide)) T.b_Meet___init__ .nil pass0 (by rfl) T.g_Meet (pa_cons pe_int (pa_cons pe_int pa_nil))) (pa_cons (pe_glob (v := .ref T.c_LoopError) rfl T.g_LoopError rfl) pa_nil)))))))), ?_⟩
    refine ⟨.ref a, rfl, a, ns0, rfl, hS, fun t sc H1 nt ns' sm tp => ?_⟩
    refine ⟨3, rfl, by decide, by decide, for_range (lo := 0) (n := (3 : Int).toNat)
      (fun i σ H' => ∃ (y2 y3 y4 y5 y6 y7 y8 y9 y10 : Option V), σ = [some (.ref a), some (.ref t), y2, y3, y4, y5, y6, y7, y8, y9, y10] ∧ Tape H' t sc)
      ⟨_, _, _, _, _, _, _, _, _, rfl, tp⟩ (fun i σ H' hi h => ?_) (fun σ H' h => ?_)⟩
    · obtain ⟨y2, y3, y4, y5, y6, y7, y8, y9, y10, rfl, tp1⟩ := h
      refine ⟨.ref t, rfl, t, sc, 16, rfl, by decide, by decide, tp1, fun p la ra ls ps rs H2 R hrs hL hR tu mv2 tp2 ep => ?_⟩
      refine ⟨p, _, rfl, SqT.of ep, rfl, _, [_], rfl, _, [], rfl, rfl, ?_⟩
      have r1 := R.2.1
      have r60 := R.2.2.1
      refine ⟨.ref t, rfl, t, sc, 3, rfl, ⟨by decide, by decide⟩, tp2, fun d H6 hd0 hd1 mv6 tp6 => ?_⟩
      refine ⟨2, d, rfl, rfl, ?_⟩
      obtain ⟨k, hk⟩ : ∃ k : Int, k = 2 + d := ⟨_, rfl⟩
      refine ⟨fun σ' H' => ∃ (ca : Addr) (cs : List Int), σ' = [some (.ref a), some (.ref t), some (.int (0 + (i : Int))), some (.ref la), some (.ref ra), some (.int k), some (.ref ca), y7, y8, y9, y10] ∧ Moved t H2 H' ∧ Tape H' t sc ∧ SqT K H' ca (cs.map V.int) ∧ Rt k cs, ?_, fun σ' H7 hm => ?_⟩
      · refine ⟨.ref t, rfl, .int (2 + d), rfl, t, sc, 2 + d, 30, rfl, ⟨by omega, by omega⟩, ⟨by decide, by decide⟩, tp6, fun ca cs H7 hcl hcs hct nca mv7 tp7 eca => ?_⟩
        refine ⟨.int (2 + d), rfl, by show 1 ≤ sizeLine; decide, fun c8 nc8 => ?_⟩
        have s8 := same_upd (o := .tup [V.int (2 + d)]) nc8
        have tp8 := tp7.keep s8
        have hc8t : c8 ≠ t := tp7.ne nc8
        refine ⟨.ref t, rfl, t, sc, 30, rfl, ⟨by decide, by decide⟩, tp8, fun n H9 n0 n1 mv9 tp9 => ?_⟩
        have mvA := (mv6.trans mv7).trans ((Moved.same s8).trans mv9)
        refine ⟨c8, n, _, rfl, rfl, SqT.of (mv9 c8 _ hc8t upd_same), by omega, by omega, by show 1 ≤ 1000; decide, fun p9 H10 s9 t9 => ?_⟩
        rw [flat_one] at t9
        have t9' : SqT K H10 p9 ((List.replicate n.toNat k).map V.int) := by
          rw [List.map_replicate, hk]
          exact t9
        have eca10 : H10 ca = some (.tup (cs.map V.int)) := s9 _ _ (mv9 ca _ hct (s8 _ _ eca))
        have mvB := mvA.trans (Moved.same s9)
        have tpB := tp9.keep s9
        have rt : Rt k (cs ++ List.replicate n.toNat k) := by
          refine ⟨by rw [List.length_append, List.length_replicate]; omega, fun c hc => ?_⟩
          rcases List.mem_append.mp hc with hc | hc
          · have := hcs c hc
            omega
          · rw [(List.mem_replicate.mp hc).2]
            omega
        refine ⟨ca, p9, _, _, rfl, rfl, SqT.of eca10, t9, by rw [List.length_map, List.length_replicate]; show _ ≤ 2 ^ 24; omega, fun e0 => ?_, fun _ e0 => ?_, fun _ _ p10 np10 => ?_⟩
        · have ec : cs = [] := List.map_eq_nil_iff.mp e0
          subst ec
          exact ⟨p9, _, by rw [hk]; rfl, mvB, tpB, t9', rt⟩
        · have er : List.replicate n.toNat k = [] := by
            have := congrArg List.length e0
            rw [List.length_replicate] at this
            rw [show n.toNat = 0 from this]
            rfl
          rw [er, List.append_nil] at rt
          exact ⟨ca, cs, by rw [hk]; rfl, mvB, tpB, SqT.of eca10, rt⟩
        · have s11 := same_upd (o := .tup (cs.map V.int ++ List.replicate n.toNat (V.int (2 + d)))) np10
          refine ⟨p10, cs ++ List.replicate n.toNat k, by rw [hk]; rfl, mvB.trans (Moved.same s11), tpB.keep s11, SqT.of ?_, rt⟩
          rw [upd_same, List.map_append, List.map_replicate, hk]
      · obtain ⟨ca, cs, rfl, mv7, tp7, hC7, rt⟩ := hm
        have k2 : 2 ≤ k := by omega
        have k4 : k ≤ 4 := by omega
        clear hk
        have hL7 := mv7.sq (K := K) tp2 hL
        have hR7 := mv7.sq (K := K) tp2 hR
        have tu7 := mv7.tups tp2 tu
        refine ⟨.ref la, rfl, .ref ra, rfl, fun x dx nx ndx nex => ?_⟩
        have sx : Same H7 (upd (upd H7 dx (.own x)) x (.ins T.c_Table dx [])) := fun b o e => by
          rw [upd_ne (ne_of_none e nx), upd_ne (ne_of_none e ndx)]
          exact e
        refine ⟨x, dx, la, ra, ls, ps, rs, rfl, upd_same, sT sx hL7, sT sx hR7, tu7.same sx, R, fun H8 kp8 ep8 => ⟨rfl, ?_⟩⟩
        have s8 : Same H7 H8 := fun b o e => kp8 b o (ne_of_none e nx) (sx b o e)
        have tp8 := tp7.keep s8
        have hL8 := sT s8 hL7
        have hR8 := sT s8 hR7
        have tu8 := tu7.same s8
        have hC8 := sT s8 hC7
        have tab8 : TabAt K T.c_Table H8 x ls rs := ⟨dx, la, ra, ps, ep8, hL8, hR8, tu8⟩
        refine ⟨.ref la, rfl, .ref ra, rfl, .ref ca, rfl, la, ra, ca, ls, rs, ps, cs, k, rfl, hL8, hR8, tu8, R, hC8, rt, k4, fun D ds es Ha sa nD eD td pmd pwd => ?_⟩
        obtain ⟨hbe, zes, ppe⟩ := lays_ok R rt k4 pmd
        have hb2 := prs_bd hbe
        refine ⟨D, ds, es, rfl, eD, td, hbe, zes, fun v o Hc s_c best bv => ?_⟩
        have tabC := (tab8.same sa).same s_c
        have hCC := sT s_c (sT sa hC8)
        have tpC := (tp8.keep sa).keep s_c
        refine ⟨2, rfl, by decide, by decide, for_range (lo := 0) (n := (2 : Int).toNat)
          (fun j σ H' => ∃ (y9 y10 : Option V), σ = [some (.ref a), some (.ref t), some (.int (0 + (i : Int))), some (.ref la), some (.ref ra), some (.int k), some (.ref ca), some (.ref x), some v, y9, y10] ∧ Same Hc H')
          ⟨_, _, rfl, fun _ _ e => e⟩ (fun j σ H' hj h => ?_) (fun σ H' h => ?_)⟩
        · obtain ⟨y9, y10, rfl, sj⟩ := h
          refine ⟨.ref x, rfl, .int k, rfl, .ref ca, rfl, x, ca, k, ls, rs, cs, rfl, tabC.same sj, R, sT sj hCC, rt, k2, k4, fun nm H9 s9 => ?_, fun τ l u H9 le s9 eu => ?_⟩
          · have eo : o = none := by
              cases o with
              | none => rfl
              | some b =>
                have a := best.2.1
                rw [ppe.count_eq] at a
                have := nm b
                omega
            subst eo
            obtain rfl : v = .non := bv
            refine ⟨.non, rfl, .non, rfl, _, _, .non, .non, rfl, rfl, false, rfl, iteF ?_⟩
            exact ⟨.non, rfl, rfl, false, rfl, iteF (iteF ⟨_, _, rfl, sj.trans s9⟩)⟩
          · cases o with
            | none =>
              have := best [τ, l]
              rw [ppe.count_eq] at this
              have := le.1
              omega
            | some b =>
              obtain ⟨pb, t1, l1, rfl, rfl, eb⟩ := bv
              have le2 := best.2
              have e1 := least_one hb2 (le.perm ppe.symm) le2
              injection e1 with ea1 eb1
              injection eb1 with eb1 _
              subst ea1 eb1
              have eb9 := s9 _ _ (sj _ _ eb)
              refine ⟨.ref u, rfl, .ref pb, rfl, dI [τ, l], dI [τ, l], dp_dI (SqT.of eu), dp_dI (SqT.of eb9), (Shp.dI _).ok (by decide), (Shp.dI _).ok (by decide), false, ne_same (Shp.dI _), iteF ?_⟩
              refine ⟨.ref u, rfl, rfl, true, rfl, iteT ?_⟩
              refine ⟨.ref u, rfl, u, _, 0, .int τ, rfl, rfl, SqT.of eu, atI_nat (j := 0) rfl, .int τ, .ty "bool", _, _, false, rfl, .ty _, .base (.int τ), kit_ty (by decide +kernel), false, rfl, iteF ?_⟩
              refine ⟨.ref u, rfl, u, _, 1, .int l, rfl, rfl, SqT.of eu, atI_nat (j := 1) rfl, .int l, .ty "bool", _, _, false, rfl, .ty _, .base (.int l), kit_ty (by decide +kernel), false, rfl, iteF ?_⟩
              exact ⟨_, _, rfl, sj.trans s9⟩
        · obtain ⟨y9, y10, rfl, sj⟩ := h
          exact ⟨_, _, _, _, _, _, _, _, _, rfl, tpC.keep sj⟩
    · obtain ⟨y2, y3, y4, y5, y6, y7, y8, y9, y10, rfl, tp1⟩ := h
      refine ⟨by show 2 ≤ 1000; decide, fun e ne => ?_⟩
      refine ⟨e, .int 1, .int 2, rfl, upd_same, fun dx ndx hne => ⟨rfl, ?_⟩⟩
      refine ⟨e, dx, _, _, _, true, rfl, (upd_ne hne.symm).trans upd_same, upd_same, .own _, T.kt_Meet_LoopError, ?_⟩
      exact q _
end

/-! ### the end -/
theorem fin_mk {l : PySem.W.OpenLaw} {w : World} {K : PySem.W.Frag} {h : Heap} {mg : Str → Option Value} {fa f_law : Addr} (KX : K.In h) (G : h.Ns mainGlobals mg) (hmg : mg "law" = some (.ref fa)) {an : Option Addr} {kV dc pm cd ct : Value}
    (hT : ∃ T : Tx K mg, T.a_law = f_law ∧ T.d_law = PySem.W.fnOf "law" "law" (defArgs s_law) (defBody s_law) (defScope s_law) .none kV dc pm an cd ct) :
    ∃ fd : FuncData, (∀ (s : Shared) (v : Value), BindsTo s fd ⟨[v], []⟩ [("script", v)]) ∧ ∀ base : Heap, K.In base → base.Ns mainGlobals mg → FnOk l.prog w K mg base CX0 lawLevel fa fd ["script"] (spLaw K) := by
  obtain ⟨T, ea, ed⟩ := hT
  have e := hmg.symm.trans T.g_law
  cases e
  exact ⟨T.d_law, fun s v => by rw [ed]; exact .of_eq rfl, fun base _ _ => ok_law T⟩

theorem all_mk {w : World} {K : PySem.W.Frag} {h : Heap} {mg : Str → Option Value} (X : K.In h) (G : h.Ns mainGlobals mg)
    {f_is_integer : Addr} {od_is_integer an_is_integer : Option Addr} {sl_is_integer : Array (Option Value)} {oc_is_integer kV_is_integer dc_is_integer pm_is_integer cd_is_integer ct_is_integer : Value}
    {f_is_number : Addr} {od_is_number an_is_number : Option Addr} {sl_is_number : Array (Option Value)} {oc_is_number kV_is_number dc_is_number pm_is_number cd_is_number ct_is_number : Value}
    {f_are_numbers : Addr} {od_are_numbers an_are_numbers : Option Addr} {sl_are_numbers : Array (Option Value)} {oc_are_numbers kV_are_numbers dc_are_numbers pm_are_numbers cd_are_numbers ct_are_numbers : Value}
    {f_is_comings : Addr} {od_is_comings an_is_comings : Option Addr} {sl_is_comings : Array (Option Value)} {oc_is_comings kV_is_comings dc_is_comings pm_is_comings cd_is_comings ct_is_comings : Value}
    {f_is_loops : Addr} {od_is_loops an_is_loops : Option Addr} {sl_is_loops : Array (Option Value)} {oc_is_loops kV_is_loops dc_is_loops pm_is_loops cd_is_loops ct_is_loops : Value}
    {f_is_row : Addr} {od_is_row an_is_row : Option Addr} {sl_is_row : Array (Option Value)} {oc_is_row kV_is_row dc_is_row pm_is_row cd_is_row ct_is_row : Value}
    {f_check_comers : Addr} {od_check_comers an_check_comers : Option Addr} {sl_check_comers : Array (Option Value)} {oc_check_comers kV_check_comers dc_check_comers pm_check_comers cd_check_comers ct_check_comers : Value}
    {f_check_comings : Addr} {od_check_comings an_check_comings : Option Addr} {sl_check_comings : Array (Option Value)} {oc_check_comings kV_check_comings dc_check_comings pm_check_comings cd_check_comings ct_check_comings : Value}
    {f_follow_line : Addr} {od_follow_line an_follow_line : Option Addr} {sl_follow_line : Array (Option Value)} {oc_follow_line kV_follow_line dc_follow_line pm_follow_line cd_follow_line ct_follow_line : Value}
    {f_letters_of : Addr} {od_letters_of an_letters_of : Option Addr} {sl_letters_of : Array (Option Value)} {oc_letters_of kV_letters_of dc_letters_of pm_letters_of cd_letters_of ct_letters_of : Value}
    {f_row_sum : Addr} {od_row_sum an_row_sum : Option Addr} {sl_row_sum : Array (Option Value)} {oc_row_sum kV_row_sum dc_row_sum pm_row_sum cd_row_sum ct_row_sum : Value}
    {f_row_entries : Addr} {od_row_entries an_row_entries : Option Addr} {sl_row_entries : Array (Option Value)} {oc_row_entries kV_row_entries dc_row_entries pm_row_entries cd_row_entries ct_row_entries : Value}
    {f_wait_row : Addr} {od_wait_row an_wait_row : Option Addr} {sl_wait_row : Array (Option Value)} {oc_wait_row kV_wait_row dc_wait_row pm_wait_row cd_wait_row ct_wait_row : Value}
    {f_wait_entries : Addr} {od_wait_entries an_wait_entries : Option Addr} {sl_wait_entries : Array (Option Value)} {oc_wait_entries kV_wait_entries dc_wait_entries pm_wait_entries cd_wait_entries ct_wait_entries : Value}
    {f_layings_of : Addr} {od_layings_of an_layings_of : Option Addr} {sl_layings_of : Array (Option Value)} {oc_layings_of kV_layings_of dc_layings_of pm_layings_of cd_layings_of ct_layings_of : Value}
    {f_changed_layings : Addr} {od_changed_layings an_changed_layings : Option Addr} {sl_changed_layings : Array (Option Value)} {oc_changed_layings kV_changed_layings dc_changed_layings pm_changed_layings cd_changed_layings ct_changed_layings : Value}
    {f_table_layings : Addr} {od_table_layings an_table_layings : Option Addr} {sl_table_layings : Array (Option Value)} {oc_table_layings kV_table_layings dc_table_layings pm_table_layings cd_table_layings ct_table_layings : Value}
    {f_first_meet : Addr} {od_first_meet an_first_meet : Option Addr} {sl_first_meet : Array (Option Value)} {oc_first_meet kV_first_meet dc_first_meet pm_first_meet cd_first_meet ct_first_meet : Value}
    {f_check_meet : Addr} {od_check_meet an_check_meet : Option Addr} {sl_check_meet : Array (Option Value)} {oc_check_meet kV_check_meet dc_check_meet pm_check_meet cd_check_meet ct_check_meet : Value}
    {f_day : Addr} {od_day an_day : Option Addr} {sl_day : Array (Option Value)} {oc_day kV_day dc_day pm_day cd_day ct_day : Value}
    {f__law_tape : Addr} {od__law_tape an__law_tape : Option Addr} {sl__law_tape : Array (Option Value)} {oc__law_tape kV__law_tape dc__law_tape pm__law_tape cd__law_tape ct__law_tape : Value}
    {f__law_pick : Addr} {od__law_pick an__law_pick : Option Addr} {sl__law_pick : Array (Option Value)} {oc__law_pick kV__law_pick dc__law_pick pm__law_pick cd__law_pick ct__law_pick : Value}
    {f__law_loops : Addr} {od__law_loops an__law_loops : Option Addr} {sl__law_loops : Array (Option Value)} {oc__law_loops kV__law_loops dc__law_loops pm__law_loops cd__law_loops ct__law_loops : Value}
    {f__law_row : Addr} {od__law_row an__law_row : Option Addr} {sl__law_row : Array (Option Value)} {oc__law_row kV__law_row dc__law_row pm__law_row cd__law_row ct__law_row : Value}
    {f__law_rows : Addr} {od__law_rows an__law_rows : Option Addr} {sl__law_rows : Array (Option Value)} {oc__law_rows kV__law_rows dc__law_rows pm__law_rows cd__law_rows ct__law_rows : Value}
    {f__law_order : Addr} {od__law_order an__law_order : Option Addr} {sl__law_order : Array (Option Value)} {oc__law_order kV__law_order dc__law_order pm__law_order cd__law_order ct__law_order : Value}
    {f__law_digits : Addr} {od__law_digits an__law_digits : Option Addr} {sl__law_digits : Array (Option Value)} {oc__law_digits kV__law_digits dc__law_digits pm__law_digits cd__law_digits ct__law_digits : Value}
    {f__law_doubled : Addr} {od__law_doubled an__law_doubled : Option Addr} {sl__law_doubled : Array (Option Value)} {oc__law_doubled kV__law_doubled dc__law_doubled pm__law_doubled cd__law_doubled ct__law_doubled : Value}
    {f__law_doubled_rows : Addr} {od__law_doubled_rows an__law_doubled_rows : Option Addr} {sl__law_doubled_rows : Array (Option Value)} {oc__law_doubled_rows kV__law_doubled_rows dc__law_doubled_rows pm__law_doubled_rows cd__law_doubled_rows ct__law_doubled_rows : Value}
    {f__law_scene : Addr} {od__law_scene an__law_scene : Option Addr} {sl__law_scene : Array (Option Value)} {oc__law_scene kV__law_scene dc__law_scene pm__law_scene cd__law_scene ct__law_scene : Value}
    {f__law_comings : Addr} {od__law_comings an__law_comings : Option Addr} {sl__law_comings : Array (Option Value)} {oc__law_comings kV__law_comings dc__law_comings pm__law_comings cd__law_comings ct__law_comings : Value}
    {f__law_line : Addr} {od__law_line an__law_line : Option Addr} {sl__law_line : Array (Option Value)} {oc__law_line kV__law_line dc__law_line pm__law_line cd__law_line ct__law_line : Value}
    {f__law_entries : Addr} {od__law_entries an__law_entries : Option Addr} {sl__law_entries : Array (Option Value)} {oc__law_entries kV__law_entries dc__law_entries pm__law_entries cd__law_entries ct__law_entries : Value}
    {f__law_layings : Addr} {od__law_layings an__law_layings : Option Addr} {sl__law_layings : Array (Option Value)} {oc__law_layings kV__law_layings dc__law_layings pm__law_layings cd__law_layings ct__law_layings : Value}
    {f__law_meet : Addr} {od__law_meet an__law_meet : Option Addr} {sl__law_meet : Array (Option Value)} {oc__law_meet kV__law_meet dc__law_meet pm__law_meet cd__law_meet ct__law_meet : Value}
    {f__law_asked : Addr} {od__law_asked an__law_asked : Option Addr} {sl__law_asked : Array (Option Value)} {oc__law_asked kV__law_asked dc__law_asked pm__law_asked cd__law_asked ct__law_asked : Value}
    {f_law : Addr} {od_law an_law : Option Addr} {sl_law : Array (Option Value)} {oc_law kV_law dc_law pm_law cd_law ct_law : Value}
    {f_Meet___init__ : Addr} {od_Meet___init__ an_Meet___init__ : Option Addr} {sl_Meet___init__ : Array (Option Value)} {oc_Meet___init__ kV_Meet___init__ dc_Meet___init__ pm_Meet___init__ cd_Meet___init__ ct_Meet___init__ : Value}
    {f_Table___init__ : Addr} {od_Table___init__ an_Table___init__ : Option Addr} {sl_Table___init__ : Array (Option Value)} {oc_Table___init__ kV_Table___init__ dc_Table___init__ pm_Table___init__ cd_Table___init__ ct_Table___init__ : Value}
    {t_MOST_BOUND : Tok}
    {t_MOST_COMERS : Tok}
    {t_MOST_ITEMS : Tok}
    {t_MOST_LENGTH : Tok}
    {t_MOST_LOOPS : Tok}
    {t_MOST_TICKS : Tok}
    {c_LoopError : Addr}
    {c_Meet : Addr}
    {c_Table : Addr}
    (a_is_integer : PySem.W.nsIn K mainGlobals "is_integer" = some (some (.ref f_is_integer))) (l_is_integer : K.lookup f_is_integer = some ⟨oc_is_integer, od_is_integer, .func (PySem.W.fnOf "is_integer" "is_integer" (defArgs s_is_integer) (defBody s_is_integer) (defScope s_is_integer) .none kV_is_integer dc_is_integer pm_is_integer an_is_integer cd_is_integer ct_is_integer), sl_is_integer⟩) (c_is_integer : PySem.W.codeIn K cd_is_integer "is_integer" = true) (k_is_integer : PySem.W.keepIn K (.ref f_is_integer) = true)
    (a_is_number : PySem.W.nsIn K mainGlobals "is_number" = some (some (.ref f_is_number))) (l_is_number : K.lookup f_is_number = some ⟨oc_is_number, od_is_number, .func (PySem.W.fnOf "is_number" "is_number" (defArgs s_is_number) (defBody s_is_number) (defScope s_is_number) .none kV_is_number dc_is_number pm_is_number an_is_number cd_is_number ct_is_number), sl_is_number⟩) (c_is_number : PySem.W.codeIn K cd_is_number "is_number" = true) (k_is_number : PySem.W.keepIn K (.ref f_is_number) = true)
    (a_are_numbers : PySem.W.nsIn K mainGlobals "are_numbers" = some (some (.ref f_are_numbers))) (l_are_numbers : K.lookup f_are_numbers = some ⟨oc_are_numbers, od_are_numbers, .func (PySem.W.fnOf "are_numbers" "are_numbers" (defArgs s_are_numbers) (defBody s_are_numbers) (defScope s_are_numbers) .none kV_are_numbers dc_are_numbers pm_are_numbers an_are_numbers cd_are_numbers ct_are_numbers), sl_are_numbers⟩) (c_are_numbers : PySem.W.codeIn K cd_are_numbers "are_numbers" = true) (k_are_numbers : PySem.W.keepIn K (.ref f_are_numbers) = true)
    (a_is_comings : PySem.W.nsIn K mainGlobals "is_comings" = some (some (.ref f_is_comings))) (l_is_comings : K.lookup f_is_comings = some ⟨oc_is_comings, od_is_comings, .func (PySem.W.fnOf "is_comings" "is_comings" (defArgs s_is_comings) (defBody s_is_comings) (defScope s_is_comings) .none kV_is_comings dc_is_comings pm_is_comings an_is_comings cd_is_comings ct_is_comings), sl_is_comings⟩) (c_is_comings : PySem.W.codeIn K cd_is_comings "is_comings" = true) (k_is_comings : PySem.W.keepIn K (.ref f_is_comings) = true)
    (a_is_loops : PySem.W.nsIn K mainGlobals "is_loops" = some (some (.ref f_is_loops))) (l_is_loops : K.lookup f_is_loops = some ⟨oc_is_loops, od_is_loops, .func (PySem.W.fnOf "is_loops" "is_loops" (defArgs s_is_loops) (defBody s_is_loops) (defScope s_is_loops) .none kV_is_loops dc_is_loops pm_is_loops an_is_loops cd_is_loops ct_is_loops), sl_is_loops⟩) (c_is_loops : PySem.W.codeIn K cd_is_loops "is_loops" = true) (k_is_loops : PySem.W.keepIn K (.ref f_is_loops) = true)
    (a_is_row : PySem.W.nsIn K mainGlobals "is_row" = some (some (.ref f_is_row))) (l_is_row : K.lookup f_is_row = some ⟨oc_is_row, od_is_row, .func (PySem.W.fnOf "is_row" "is_row" (defArgs s_is_row) (defBody s_is_row) (defScope s_is_row) .none kV_is_row dc_is_row pm_is_row an_is_row cd_is_row ct_is_row), sl_is_row⟩) (c_is_row : PySem.W.codeIn K cd_is_row "is_row" = true) (k_is_row : PySem.W.keepIn K (.ref f_is_row) = true)
    (a_check_comers : PySem.W.nsIn K mainGlobals "check_comers" = some (some (.ref f_check_comers))) (l_check_comers : K.lookup f_check_comers = some ⟨oc_check_comers, od_check_comers, .func (PySem.W.fnOf "check_comers" "check_comers" (defArgs s_check_comers) (defBody s_check_comers) (defScope s_check_comers) .none kV_check_comers dc_check_comers pm_check_comers an_check_comers cd_check_comers ct_check_comers), sl_check_comers⟩) (c_check_comers : PySem.W.codeIn K cd_check_comers "check_comers" = true) (k_check_comers : PySem.W.keepIn K (.ref f_check_comers) = true)
    (a_check_comings : PySem.W.nsIn K mainGlobals "check_comings" = some (some (.ref f_check_comings))) (l_check_comings : K.lookup f_check_comings = some ⟨oc_check_comings, od_check_comings, .func (PySem.W.fnOf "check_comings" "check_comings" (defArgs s_check_comings) (defBody s_check_comings) (defScope s_check_comings) .none kV_check_comings dc_check_comings pm_check_comings an_check_comings cd_check_comings ct_check_comings), sl_check_comings⟩) (c_check_comings : PySem.W.codeIn K cd_check_comings "check_comings" = true) (k_check_comings : PySem.W.keepIn K (.ref f_check_comings) = true)
    (a_follow_line : PySem.W.nsIn K mainGlobals "follow_line" = some (some (.ref f_follow_line))) (l_follow_line : K.lookup f_follow_line = some ⟨oc_follow_line, od_follow_line, .func (PySem.W.fnOf "follow_line" "follow_line" (defArgs s_follow_line) (defBody s_follow_line) (defScope s_follow_line) .none kV_follow_line dc_follow_line pm_follow_line an_follow_line cd_follow_line ct_follow_line), sl_follow_line⟩) (c_follow_line : PySem.W.codeIn K cd_follow_line "follow_line" = true) (k_follow_line : PySem.W.keepIn K (.ref f_follow_line) = true)
    (a_letters_of : PySem.W.nsIn K mainGlobals "letters_of" = some (some (.ref f_letters_of))) (l_letters_of : K.lookup f_letters_of = some ⟨oc_letters_of, od_letters_of, .func (PySem.W.fnOf "letters_of" "letters_of" (defArgs s_letters_of) (defBody s_letters_of) (defScope s_letters_of) .none kV_letters_of dc_letters_of pm_letters_of an_letters_of cd_letters_of ct_letters_of), sl_letters_of⟩) (c_letters_of : PySem.W.codeIn K cd_letters_of "letters_of" = true) (k_letters_of : PySem.W.keepIn K (.ref f_letters_of) = true)
    (a_row_sum : PySem.W.nsIn K mainGlobals "row_sum" = some (some (.ref f_row_sum))) (l_row_sum : K.lookup f_row_sum = some ⟨oc_row_sum, od_row_sum, .func (PySem.W.fnOf "row_sum" "row_sum" (defArgs s_row_sum) (defBody s_row_sum) (defScope s_row_sum) .none kV_row_sum dc_row_sum pm_row_sum an_row_sum cd_row_sum ct_row_sum), sl_row_sum⟩) (c_row_sum : PySem.W.codeIn K cd_row_sum "row_sum" = true) (k_row_sum : PySem.W.keepIn K (.ref f_row_sum) = true)
    (a_row_entries : PySem.W.nsIn K mainGlobals "row_entries" = some (some (.ref f_row_entries))) (l_row_entries : K.lookup f_row_entries = some ⟨oc_row_entries, od_row_entries, .func (PySem.W.fnOf "row_entries" "row_entries" (defArgs s_row_entries) (defBody s_row_entries) (defScope s_row_entries) .none kV_row_entries dc_row_entries pm_row_entries an_row_entries cd_row_entries ct_row_entries), sl_row_entries⟩) (c_row_entries : PySem.W.codeIn K cd_row_entries "row_entries" = true) (k_row_entries : PySem.W.keepIn K (.ref f_row_entries) = true)
    (a_wait_row : PySem.W.nsIn K mainGlobals "wait_row" = some (some (.ref f_wait_row))) (l_wait_row : K.lookup f_wait_row = some ⟨oc_wait_row, od_wait_row, .func (PySem.W.fnOf "wait_row" "wait_row" (defArgs s_wait_row) (defBody s_wait_row) (defScope s_wait_row) .none kV_wait_row dc_wait_row pm_wait_row an_wait_row cd_wait_row ct_wait_row), sl_wait_row⟩) (c_wait_row : PySem.W.codeIn K cd_wait_row "wait_row" = true) (k_wait_row : PySem.W.keepIn K (.ref f_wait_row) = true)
    (a_wait_entries : PySem.W.nsIn K mainGlobals "wait_entries" = some (some (.ref f_wait_entries))) (l_wait_entries : K.lookup f_wait_entries = some ⟨oc_wait_entries, od_wait_entries, .func (PySem.W.fnOf "wait_entries" "wait_entries" (defArgs s_wait_entries) (defBody s_wait_entries) (defScope s_wait_entries) .none kV_wait_entries dc_wait_entries pm_wait_entries an_wait_entries cd_wait_entries ct_wait_entries), sl_wait_entries⟩) (c_wait_entries : PySem.W.codeIn K cd_wait_entries "wait_entries" = true) (k_wait_entries : PySem.W.keepIn K (.ref f_wait_entries) = true)
    (a_layings_of : PySem.W.nsIn K mainGlobals "layings_of" = some (some (.ref f_layings_of))) (l_layings_of : K.lookup f_layings_of = some ⟨oc_layings_of, od_layings_of, .func (PySem.W.fnOf "layings_of" "layings_of" (defArgs s_layings_of) (defBody s_layings_of) (defScope s_layings_of) .none kV_layings_of dc_layings_of pm_layings_of an_layings_of cd_layings_of ct_layings_of), sl_layings_of⟩) (c_layings_of : PySem.W.codeIn K cd_layings_of "layings_of" = true) (k_layings_of : PySem.W.keepIn K (.ref f_layings_of) = true)
    (a_changed_layings : PySem.W.nsIn K mainGlobals "changed_layings" = some (some (.ref f_changed_layings))) (l_changed_layings : K.lookup f_changed_layings = some ⟨oc_changed_layings, od_changed_layings, .func (PySem.W.fnOf "changed_layings" "changed_layings" (defArgs s_changed_layings) (defBody s_changed_layings) (defScope s_changed_layings) .none kV_changed_layings dc_changed_layings pm_changed_layings an_changed_layings cd_changed_layings ct_changed_layings), sl_changed_layings⟩) (c_changed_layings : PySem.W.codeIn K cd_changed_layings "changed_layings" = true) (k_changed_layings : PySem.W.keepIn K (.ref f_changed_layings) = true)
    (a_table_layings : PySem.W.nsIn K mainGlobals "table_layings" = some (some (.ref f_table_layings))) (l_table_layings : K.lookup f_table_layings = some ⟨oc_table_layings, od_table_layings, .func (PySem.W.fnOf "table_layings" "table_layings" (defArgs s_table_layings) (defBody s_table_layings) (defScope s_table_layings) .none kV_table_layings dc_table_layings pm_table_layings an_table_layings cd_table_layings ct_table_layings), sl_table_layings⟩) (c_table_layings : PySem.W.codeIn K cd_table_layings "table_layings" = true) (k_table_layings : PySem.W.keepIn K (.ref f_table_layings) = true)
    (a_first_meet : PySem.W.nsIn K mainGlobals "first_meet" = some (some (.ref f_first_meet))) (l_first_meet : K.lookup f_first_meet = some ⟨oc_first_meet, od_first_meet, .func (PySem.W.fnOf "first_meet" "first_meet" (defArgs s_first_meet) (defBody s_first_meet) (defScope s_first_meet) .none kV_first_meet dc_first_meet pm_first_meet an_first_meet cd_first_meet ct_first_meet), sl_first_meet⟩) (c_first_meet : PySem.W.codeIn K cd_first_meet "first_meet" = true) (k_first_meet : PySem.W.keepIn K (.ref f_first_meet) = true)
    (a_check_meet : PySem.W.nsIn K mainGlobals "check_meet" = some (some (.ref f_check_meet))) (l_check_meet : K.lookup f_check_meet = some ⟨oc_check_meet, od_check_meet, .func (PySem.W.fnOf "check_meet" "check_meet" (defArgs s_check_meet) (defBody s_check_meet) (defScope s_check_meet) .none kV_check_meet dc_check_meet pm_check_meet an_check_meet cd_check_meet ct_check_meet), sl_check_meet⟩) (c_check_meet : PySem.W.codeIn K cd_check_meet "check_meet" = true) (k_check_meet : PySem.W.keepIn K (.ref f_check_meet) = true)
    (a_day : PySem.W.nsIn K mainGlobals "day" = some (some (.ref f_day))) (l_day : K.lookup f_day = some ⟨oc_day, od_day, .func (PySem.W.fnOf "day" "day" (defArgs s_day) (defBody s_day) (defScope s_day) .none kV_day dc_day pm_day an_day cd_day ct_day), sl_day⟩) (c_day : PySem.W.codeIn K cd_day "day" = true) (k_day : PySem.W.keepIn K (.ref f_day) = true)
    (a__law_tape : PySem.W.nsIn K mainGlobals "_law_tape" = some (some (.ref f__law_tape))) (l__law_tape : K.lookup f__law_tape = some ⟨oc__law_tape, od__law_tape, .func (PySem.W.fnOf "_law_tape" "_law_tape" (defArgs s__law_tape) (defBody s__law_tape) (defScope s__law_tape) .none kV__law_tape dc__law_tape pm__law_tape an__law_tape cd__law_tape ct__law_tape), sl__law_tape⟩) (c__law_tape : PySem.W.codeIn K cd__law_tape "_law_tape" = true) (k__law_tape : PySem.W.keepIn K (.ref f__law_tape) = true)
    (a__law_pick : PySem.W.nsIn K mainGlobals "_law_pick" = some (some (.ref f__law_pick))) (l__law_pick : K.lookup f__law_pick = some ⟨oc__law_pick, od__law_pick, .func (PySem.W.fnOf "_law_pick" "_law_pick" (defArgs s__law_pick) (defBody s__law_pick) (defScope s__law_pick) .none kV__law_pick dc__law_pick pm__law_pick an__law_pick cd__law_pick ct__law_pick), sl__law_pick⟩) (c__law_pick : PySem.W.codeIn K cd__law_pick "_law_pick" = true) (k__law_pick : PySem.W.keepIn K (.ref f__law_pick) = true)
    (a__law_loops : PySem.W.nsIn K mainGlobals "_law_loops" = some (some (.ref f__law_loops))) (l__law_loops : K.lookup f__law_loops = some ⟨oc__law_loops, od__law_loops, .func (PySem.W.fnOf "_law_loops" "_law_loops" (defArgs s__law_loops) (defBody s__law_loops) (defScope s__law_loops) .none kV__law_loops dc__law_loops pm__law_loops an__law_loops cd__law_loops ct__law_loops), sl__law_loops⟩) (c__law_loops : PySem.W.codeIn K cd__law_loops "_law_loops" = true) (k__law_loops : PySem.W.keepIn K (.ref f__law_loops) = true)
    (a__law_row : PySem.W.nsIn K mainGlobals "_law_row" = some (some (.ref f__law_row))) (l__law_row : K.lookup f__law_row = some ⟨oc__law_row, od__law_row, .func (PySem.W.fnOf "_law_row" "_law_row" (defArgs s__law_row) (defBody s__law_row) (defScope s__law_row) .none kV__law_row dc__law_row pm__law_row an__law_row cd__law_row ct__law_row), sl__law_row⟩) (c__law_row : PySem.W.codeIn K cd__law_row "_law_row" = true) (k__law_row : PySem.W.keepIn K (.ref f__law_row) = true)
    (a__law_rows : PySem.W.nsIn K mainGlobals "_law_rows" = some (some (.ref f__law_rows))) (l__law_rows : K.lookup f__law_rows = some ⟨oc__law_rows, od__law_rows, .func (PySem.W.fnOf "_law_rows" "_law_rows" (defArgs s__law_rows) (defBody s__law_rows) (defScope s__law_rows) .none kV__law_rows dc__law_rows pm__law_rows an__law_rows cd__law_rows ct__law_rows), sl__law_rows⟩) (c__law_rows : PySem.W.codeIn K cd__law_rows "_law_rows" = true) (k__law_rows : PySem.W.keepIn K (.ref f__law_rows) = true)
    (a__law_order : PySem.W.nsIn K mainGlobals "_law_order" = some (some (.ref f__law_order))) (l__law_order : K.lookup f__law_order = some ⟨oc__law_order, od__law_order, .func (PySem.W.fnOf "_law_order" "_law_order" (defArgs s__law_order) (defBody s__law_order) (defScope s__law_order) .none kV__law_order dc__law_order pm__law_order an__law_order cd__law_order ct__law_order), sl__law_order⟩) (c__law_order : PySem.W.codeIn K cd__law_order "_law_order" = true) (k__law_order : PySem.W.keepIn K (.ref f__law_order) = true)
    (a__law_digits : PySem.W.nsIn K mainGlobals "_law_digits" = some (some (.ref f__law_digits))) (l__law_digits : K.lookup f__law_digits = some ⟨oc__law_digits, od__law_digits, .func (PySem.W.fnOf "_law_digits" "_law_digits" (defArgs s__law_digits) (defBody s__law_digits) (defScope s__law_digits) .none kV__law_digits dc__law_digits pm__law_digits an__law_digits cd__law_digits ct__law_digits), sl__law_digits⟩) (c__law_digits : PySem.W.codeIn K cd__law_digits "_law_digits" = true) (k__law_digits : PySem.W.keepIn K (.ref f__law_digits) = true)
    (a__law_doubled : PySem.W.nsIn K mainGlobals "_law_doubled" = some (some (.ref f__law_doubled))) (l__law_doubled : K.lookup f__law_doubled = some ⟨oc__law_doubled, od__law_doubled, .func (PySem.W.fnOf "_law_doubled" "_law_doubled" (defArgs s__law_doubled) (defBody s__law_doubled) (defScope s__law_doubled) .none kV__law_doubled dc__law_doubled pm__law_doubled an__law_doubled cd__law_doubled ct__law_doubled), sl__law_doubled⟩) (c__law_doubled : PySem.W.codeIn K cd__law_doubled "_law_doubled" = true) (k__law_doubled : PySem.W.keepIn K (.ref f__law_doubled) = true)
    (a__law_doubled_rows : PySem.W.nsIn K mainGlobals "_law_doubled_rows" = some (some (.ref f__law_doubled_rows))) (l__law_doubled_rows : K.lookup f__law_doubled_rows = some ⟨oc__law_doubled_rows, od__law_doubled_rows, .func (PySem.W.fnOf "_law_doubled_rows" "_law_doubled_rows" (defArgs s__law_doubled_rows) (defBody s__law_doubled_rows) (defScope s__law_doubled_rows) .none kV__law_doubled_rows dc__law_doubled_rows pm__law_doubled_rows an__law_doubled_rows cd__law_doubled_rows ct__law_doubled_rows), sl__law_doubled_rows⟩) (c__law_doubled_rows : PySem.W.codeIn K cd__law_doubled_rows "_law_doubled_rows" = true) (k__law_doubled_rows : PySem.W.keepIn K (.ref f__law_doubled_rows) = true)
    (a__law_scene : PySem.W.nsIn K mainGlobals "_law_scene" = some (some (.ref f__law_scene))) (l__law_scene : K.lookup f__law_scene = some ⟨oc__law_scene, od__law_scene, .func (PySem.W.fnOf "_law_scene" "_law_scene" (defArgs s__law_scene) (defBody s__law_scene) (defScope s__law_scene) .none kV__law_scene dc__law_scene pm__law_scene an__law_scene cd__law_scene ct__law_scene), sl__law_scene⟩) (c__law_scene : PySem.W.codeIn K cd__law_scene "_law_scene" = true) (k__law_scene : PySem.W.keepIn K (.ref f__law_scene) = true)
    (a__law_comings : PySem.W.nsIn K mainGlobals "_law_comings" = some (some (.ref f__law_comings))) (l__law_comings : K.lookup f__law_comings = some ⟨oc__law_comings, od__law_comings, .func (PySem.W.fnOf "_law_comings" "_law_comings" (defArgs s__law_comings) (defBody s__law_comings) (defScope s__law_comings) .none kV__law_comings dc__law_comings pm__law_comings an__law_comings cd__law_comings ct__law_comings), sl__law_comings⟩) (c__law_comings : PySem.W.codeIn K cd__law_comings "_law_comings" = true) (k__law_comings : PySem.W.keepIn K (.ref f__law_comings) = true)
    (a__law_line : PySem.W.nsIn K mainGlobals "_law_line" = some (some (.ref f__law_line))) (l__law_line : K.lookup f__law_line = some ⟨oc__law_line, od__law_line, .func (PySem.W.fnOf "_law_line" "_law_line" (defArgs s__law_line) (defBody s__law_line) (defScope s__law_line) .none kV__law_line dc__law_line pm__law_line an__law_line cd__law_line ct__law_line), sl__law_line⟩) (c__law_line : PySem.W.codeIn K cd__law_line "_law_line" = true) (k__law_line : PySem.W.keepIn K (.ref f__law_line) = true)
    (a__law_entries : PySem.W.nsIn K mainGlobals "_law_entries" = some (some (.ref f__law_entries))) (l__law_entries : K.lookup f__law_entries = some ⟨oc__law_entries, od__law_entries, .func (PySem.W.fnOf "_law_entries" "_law_entries" (defArgs s__law_entries) (defBody s__law_entries) (defScope s__law_entries) .none kV__law_entries dc__law_entries pm__law_entries an__law_entries cd__law_entries ct__law_entries), sl__law_entries⟩) (c__law_entries : PySem.W.codeIn K cd__law_entries "_law_entries" = true) (k__law_entries : PySem.W.keepIn K (.ref f__law_entries) = true)
    (a__law_layings : PySem.W.nsIn K mainGlobals "_law_layings" = some (some (.ref f__law_layings))) (l__law_layings : K.lookup f__law_layings = some ⟨oc__law_layings, od__law_layings, .func (PySem.W.fnOf "_law_layings" "_law_layings" (defArgs s__law_layings) (defBody s__law_layings) (defScope s__law_layings) .none kV__law_layings dc__law_layings pm__law_layings an__law_layings cd__law_layings ct__law_layings), sl__law_layings⟩) (c__law_layings : PySem.W.codeIn K cd__law_layings "_law_layings" = true) (k__law_layings : PySem.W.keepIn K (.ref f__law_layings) = true)
    (a__law_meet : PySem.W.nsIn K mainGlobals "_law_meet" = some (some (.ref f__law_meet))) (l__law_meet : K.lookup f__law_meet = some ⟨oc__law_meet, od__law_meet, .func (PySem.W.fnOf "_law_meet" "_law_meet" (defArgs s__law_meet) (defBody s__law_meet) (defScope s__law_meet) .none kV__law_meet dc__law_meet pm__law_meet an__law_meet cd__law_meet ct__law_meet), sl__law_meet⟩) (c__law_meet : PySem.W.codeIn K cd__law_meet "_law_meet" = true) (k__law_meet : PySem.W.keepIn K (.ref f__law_meet) = true)
    (a__law_asked : PySem.W.nsIn K mainGlobals "_law_asked" = some (some (.ref f__law_asked))) (l__law_asked : K.lookup f__law_asked = some ⟨oc__law_asked, od__law_asked, .func (PySem.W.fnOf "_law_asked" "_law_asked" (defArgs s__law_asked) (defBody s__law_asked) (defScope s__law_asked) .none kV__law_asked dc__law_asked pm__law_asked an__law_asked cd__law_asked ct__law_asked), sl__law_asked⟩) (c__law_asked : PySem.W.codeIn K cd__law_asked "_law_asked" = true) (k__law_asked : PySem.W.keepIn K (.ref f__law_asked) = true)
    (a_law : PySem.W.nsIn K mainGlobals "law" = some (some (.ref f_law))) (l_law : K.lookup f_law = some ⟨oc_law, od_law, .func (PySem.W.fnOf "law" "law" (defArgs s_law) (defBody s_law) (defScope s_law) .none kV_law dc_law pm_law an_law cd_law ct_law), sl_law⟩) (c_law : PySem.W.codeIn K cd_law "law" = true) (k_law : PySem.W.keepIn K (.ref f_law) = true)
    (a_Meet___init__ : PySem.W.findIn K (.ref c_Meet) "__init__" = some (some (.ref f_Meet___init__))) (i_Meet___init__ : PySem.W.isFn K (.ref f_Meet___init__) = true) (l_Meet___init__ : K.lookup f_Meet___init__ = some ⟨oc_Meet___init__, od_Meet___init__, .func (PySem.W.fnOf "__init__" "Meet.__init__" (defArgs s_Meet___init__) (defBody s_Meet___init__) (defScope s_Meet___init__) .none kV_Meet___init__ dc_Meet___init__ pm_Meet___init__ an_Meet___init__ cd_Meet___init__ ct_Meet___init__), sl_Meet___init__⟩) (c_Meet___init__ : PySem.W.codeIn K cd_Meet___init__ "Meet.__init__" = true) (k_Meet___init__ : PySem.W.keepIn K (.ref f_Meet___init__) = true)
    (a_Table___init__ : PySem.W.findIn K (.ref c_Table) "__init__" = some (some (.ref f_Table___init__))) (i_Table___init__ : PySem.W.isFn K (.ref f_Table___init__) = true) (l_Table___init__ : K.lookup f_Table___init__ = some ⟨oc_Table___init__, od_Table___init__, .func (PySem.W.fnOf "__init__" "Table.__init__" (defArgs s_Table___init__) (defBody s_Table___init__) (defScope s_Table___init__) .none kV_Table___init__ dc_Table___init__ pm_Table___init__ an_Table___init__ cd_Table___init__ ct_Table___init__), sl_Table___init__⟩) (c_Table___init__ : PySem.W.codeIn K cd_Table___init__ "Table.__init__" = true) (k_Table___init__ : PySem.W.keepIn K (.ref f_Table___init__) = true)
    (z_all : PySem.W.nsIn K mainGlobals "all" = some none)
    (z_bool : PySem.W.nsIn K mainGlobals "bool" = some none)
    (z_enumerate : PySem.W.nsIn K mainGlobals "enumerate" = some none)
    (z_int : PySem.W.nsIn K mainGlobals "int" = some none)
    (z_isinstance : PySem.W.nsIn K mainGlobals "isinstance" = some none)
    (z_len : PySem.W.nsIn K mainGlobals "len" = some none)
    (z_list : PySem.W.nsIn K mainGlobals "list" = some none)
    (z_max : PySem.W.nsIn K mainGlobals "max" = some none)
    (z_range : PySem.W.nsIn K mainGlobals "range" = some none)
    (z_sorted : PySem.W.nsIn K mainGlobals "sorted" = some none)
    (z_sum : PySem.W.nsIn K mainGlobals "sum" = some none)
    (z_tuple : PySem.W.nsIn K mainGlobals "tuple" = some none)
    (z_zip : PySem.W.nsIn K mainGlobals "zip" = some none)
    (y_MOST_BOUND : PySem.W.nsIn K mainGlobals "MOST_BOUND" = some (some (.int 60 t_MOST_BOUND)))
    (y_MOST_COMERS : PySem.W.nsIn K mainGlobals "MOST_COMERS" = some (some (.int 4 t_MOST_COMERS)))
    (y_MOST_ITEMS : PySem.W.nsIn K mainGlobals "MOST_ITEMS" = some (some (.int 60 t_MOST_ITEMS)))
    (y_MOST_LENGTH : PySem.W.nsIn K mainGlobals "MOST_LENGTH" = some (some (.int 40 t_MOST_LENGTH)))
    (y_MOST_LOOPS : PySem.W.nsIn K mainGlobals "MOST_LOOPS" = some (some (.int 8 t_MOST_LOOPS)))
    (y_MOST_TICKS : PySem.W.nsIn K mainGlobals "MOST_TICKS" = some (some (.int 400 t_MOST_TICKS)))
    (y_LoopError : PySem.W.nsIn K mainGlobals "LoopError" = some (some (.ref c_LoopError)))
    (y_Meet : PySem.W.nsIn K mainGlobals "Meet" = some (some (.ref c_Meet)))
    (y_Table : PySem.W.nsIn K mainGlobals "Table" = some (some (.ref c_Table)))
    {nm_Meet q_Meet : Str} {N_Meet : Addr} {bs_Meet : List Value} {sn_Meet : List Str} {sub_Meet : List Value} {ab_Meet : Bool} {col_Meet : Option Bool} {dd_Meet : Option Addr} {m0_Meet m1_Meet m2_Meet m3_Meet m5_Meet : Option Value} {le_Meet : Addr}
    (xL_Meet : K.lookup c_Meet = some (excClassObj nm_Meet q_Meet c_Meet N_Meet bs_Meet [.ref le_Meet, .type "ValueError", .type "Exception", .type "BaseException", .type "object"] true sn_Meet sub_Meet ab_Meet col_Meet dd_Meet m0_Meet m1_Meet m2_Meet m3_Meet m5_Meet "ValueError.__new__"))
    (sa_Meet : PySem.W.findIn K (.ref c_Meet) "__setattr__" = some (some (.builtin "object.__setattr__"))) (tf_Meet : PySem.W.typeIn K (.ref f_Meet___init__) = some (.type "function")) (kC_Meet : PySem.W.keepIn K (.ref c_Meet) = true) (eC_Meet : PySem.W.subIn K (.ref c_Meet) (.type "BaseException") = some true) (tC_Meet : PySem.W.typeIn K (.ref c_Meet) = some (.type "type")) (iC_Meet : PySem.W.isClsIn K c_Meet = true) (sC_Meet : PySem.W.subIn K (.ref c_Meet) (.ref c_Meet) = some true)
    (n_Meet_tick : PySem.W.findIn K (.ref c_Meet) "tick" = some none)
    (n_Meet_loop : PySem.W.findIn K (.ref c_Meet) "loop" = some none)
    (pg_Table : PySem.W.plainGet K c_Table Str.empty = true) (hd_Table : PySem.W.hasDictIn K c_Table = true) (po_Table : PySem.W.plainOver K c_Table = true) (sa_Table : PySem.W.findIn K (.ref c_Table) "__setattr__" = some (some (.builtin "object.__setattr__"))) (mk_Table : PySem.W.makesIn K c_Table = true) (kc_Table : PySem.W.keepIn K (.ref c_Table) = true)
    (n_Table_loops : PySem.W.findIn K (.ref c_Table) "loops" = some none)
    (n_Table_rows : PySem.W.findIn K (.ref c_Table) "rows" = some none)
    (n_Table_bound : PySem.W.findIn K (.ref c_Table) "bound" = some none)
    (xg_Meet : PySem.W.findIn K (.ref c_Meet) "__getattribute__" = some (some (.builtin "BaseException.__getattribute__"))) (xk_Meet : PySem.W.findIn K (.ref c_Meet) "__getattr__" = some none) (xd_Meet : PySem.W.hasDictIn K c_Meet = true) (xa_Meet : PySem.W.findIn K (.ref c_Meet) "__class__" = some (some (.builtin "object.__class__"))) (xn_Meet : PySem.W.specialIn K (.builtin "object.__class__") "__get__" = some (some (.builtin "getset_descriptor.__get__"))) (xt_Meet : PySem.W.takesIn K (.builtin "object.__class__") = some true) (xm_Meet : PySem.W.mroIn K c_Meet (.type "object") = some true) (xs_Meet : PySem.W.subIn K (.ref c_Meet) (.type "BaseException") = some true)
    (ks_Meet_LoopError : PySem.W.subIn K (.ref c_Meet) (.ref c_LoopError) = some true) (kc_Meet_LoopError : PySem.W.isClsIn K c_LoopError = true) (ky_Meet_LoopError : PySem.W.typeIn K (.ref c_LoopError) = some (.type "type"))
    : ∃ T : Tx K mg, T.a_law = f_law ∧ T.d_law = PySem.W.fnOf "law" "law" (defArgs s_law) (defBody s_law) (defScope s_law) .none kV_law dc_law pm_law an_law cd_law ct_law :=
  ⟨{ a_is_integer := f_is_integer, d_is_integer := _, F_is_integer := fun_mk (st := s_is_integer) l_is_integer c_is_integer k_is_integer, b_is_integer := (fun_mk (st := s_is_integer) l_is_integer c_is_integer k_is_integer).binds (ps := ["thing"]) (fun _ _ _ _ _ _ us hl => match us, hl with | [_], _ => rfl), g_is_integer := PySem.W.mg_of X G a_is_integer,
     a_is_number := f_is_number, d_is_number := _, F_is_number := fun_mk (st := s_is_number) l_is_number c_is_number k_is_number, b_is_number := (fun_mk (st := s_is_number) l_is_number c_is_number k_is_number).binds (ps := ["thing", "least", "most"]) (fun _ _ _ _ _ _ us hl => match us, hl with | [_, _, _], _ => rfl), g_is_number := PySem.W.mg_of X G a_is_number,
     a_are_numbers := f_are_numbers, d_are_numbers := _, F_are_numbers := fun_mk (st := s_are_numbers) l_are_numbers c_are_numbers k_are_numbers, b_are_numbers := (fun_mk (st := s_are_numbers) l_are_numbers c_are_numbers k_are_numbers).binds (ps := ["things", "least", "most"]) (fun _ _ _ _ _ _ us hl => match us, hl with | [_, _, _], _ => rfl), g_are_numbers := PySem.W.mg_of X G a_are_numbers,
     a_is_comings := f_is_comings, d_is_comings := _, F_is_comings := fun_mk (st := s_is_comings) l_is_comings c_is_comings k_is_comings, b_is_comings := (fun_mk (st := s_is_comings) l_is_comings c_is_comings k_is_comings).binds (ps := ["comers", "thing"]) (fun _ _ _ _ _ _ us hl => match us, hl with | [_, _], _ => rfl), g_is_comings := PySem.W.mg_of X G a_is_comings,
     a_is_loops := f_is_loops, d_is_loops := _, F_is_loops := fun_mk (st := s_is_loops) l_is_loops c_is_loops k_is_loops, b_is_loops := (fun_mk (st := s_is_loops) l_is_loops c_is_loops k_is_loops).binds (ps := ["thing"]) (fun _ _ _ _ _ _ us hl => match us, hl with | [_], _ => rfl), g_is_loops := PySem.W.mg_of X G a_is_loops,
     a_is_row := f_is_row, d_is_row := _, F_is_row := fun_mk (st := s_is_row) l_is_row c_is_row k_is_row, b_is_row := (fun_mk (st := s_is_row) l_is_row c_is_row k_is_row).binds (ps := ["loops", "thing"]) (fun _ _ _ _ _ _ us hl => match us, hl with | [_, _], _ => rfl), g_is_row := PySem.W.mg_of X G a_is_row,
     a_check_comers := f_check_comers, d_check_comers := _, F_check_comers := fun_mk (st := s_check_comers) l_check_comers c_check_comers k_check_comers, b_check_comers := (fun_mk (st := s_check_comers) l_check_comers c_check_comers k_check_comers).binds (ps := ["thing"]) (fun _ _ _ _ _ _ us hl => match us, hl with | [_], _ => rfl), g_check_comers := PySem.W.mg_of X G a_check_comers,
     a_check_comings := f_check_comings, d_check_comings := _, F_check_comings := fun_mk (st := s_check_comings) l_check_comings c_check_comings k_check_comings, b_check_comings := (fun_mk (st := s_check_comings) l_check_comings c_check_comings k_check_comings).binds (ps := ["comers", "thing"]) (fun _ _ _ _ _ _ us hl => match us, hl with | [_, _], _ => rfl), g_check_comings := PySem.W.mg_of X G a_check_comings,
     a_follow_line := f_follow_line, d_follow_line := _, F_follow_line := fun_mk (st := s_follow_line) l_follow_line c_follow_line k_follow_line, b_follow_line := (fun_mk (st := s_follow_line) l_follow_line c_follow_line k_follow_line).binds (ps := ["bound", "line", "comings"]) (fun _ _ _ _ _ _ us hl => match us, hl with | [_, _, _], _ => rfl), g_follow_line := PySem.W.mg_of X G a_follow_line,
     a_letters_of := f_letters_of, d_letters_of := _, F_letters_of := fun_mk (st := s_letters_of) l_letters_of c_letters_of k_letters_of, b_letters_of := (fun_mk (st := s_letters_of) l_letters_of c_letters_of k_letters_of).binds (ps := ["bound", "comings"]) (fun _ _ _ _ _ _ us hl => match us, hl with | [_, _], _ => rfl), g_letters_of := PySem.W.mg_of X G a_letters_of,
     a_row_sum := f_row_sum, d_row_sum := _, F_row_sum := fun_mk (st := s_row_sum) l_row_sum c_row_sum k_row_sum, b_row_sum := (fun_mk (st := s_row_sum) l_row_sum c_row_sum k_row_sum).binds (ps := ["loops", "row"]) (fun _ _ _ _ _ _ us hl => match us, hl with | [_, _], _ => rfl), g_row_sum := PySem.W.mg_of X G a_row_sum,
     a_row_entries := f_row_entries, d_row_entries := _, F_row_entries := fun_mk (st := s_row_entries) l_row_entries c_row_entries k_row_entries, b_row_entries := (fun_mk (st := s_row_entries) l_row_entries c_row_entries k_row_entries).binds (ps := ["loops", "row"]) (fun _ _ _ _ _ _ us hl => match us, hl with | [_, _], _ => rfl), g_row_entries := PySem.W.mg_of X G a_row_entries,
     a_wait_row := f_wait_row, d_wait_row := _, F_wait_row := fun_mk (st := s_wait_row) l_wait_row c_wait_row k_wait_row, b_wait_row := (fun_mk (st := s_wait_row) l_wait_row c_wait_row k_wait_row).binds (ps := ["table", "wait"]) (fun _ _ _ _ _ _ us hl => match us, hl with | [_, _], _ => rfl), g_wait_row := PySem.W.mg_of X G a_wait_row,
     a_wait_entries := f_wait_entries, d_wait_entries := _, F_wait_entries := fun_mk (st := s_wait_entries) l_wait_entries c_wait_entries k_wait_entries, b_wait_entries := (fun_mk (st := s_wait_entries) l_wait_entries c_wait_entries k_wait_entries).binds (ps := ["table", "wait"]) (fun _ _ _ _ _ _ us hl => match us, hl with | [_, _], _ => rfl), g_wait_entries := PySem.W.mg_of X G a_wait_entries,
     a_layings_of := f_layings_of, d_layings_of := _, F_layings_of := fun_mk (st := s_layings_of) l_layings_of c_layings_of k_layings_of, b_layings_of := (fun_mk (st := s_layings_of) l_layings_of c_layings_of k_layings_of).binds (ps := ["table", "tick", "letter", "wait"]) (fun _ _ _ _ _ _ us hl => match us, hl with | [_, _, _, _], _ => rfl), g_layings_of := PySem.W.mg_of X G a_layings_of,
     a_changed_layings := f_changed_layings, d_changed_layings := _, F_changed_layings := fun_mk (st := s_changed_layings) l_changed_layings c_changed_layings k_changed_layings, b_changed_layings := (fun_mk (st := s_changed_layings) l_changed_layings c_changed_layings k_changed_layings).binds (ps := ["one", "other", "comings", "change"]) (fun _ _ _ _ _ _ us hl => match us, hl with | [_, _, _, _], _ => rfl), g_changed_layings := PySem.W.mg_of X G a_changed_layings,
     a_table_layings := f_table_layings, d_table_layings := _, F_table_layings := fun_mk (st := s_table_layings) l_table_layings c_table_layings k_table_layings, b_table_layings := (fun_mk (st := s_table_layings) l_table_layings c_table_layings k_table_layings).binds (ps := ["table", "comings"]) (fun _ _ _ _ _ _ us hl => match us, hl with | [_, _], _ => rfl), g_table_layings := PySem.W.mg_of X G a_table_layings,
     a_first_meet := f_first_meet, d_first_meet := _, F_first_meet := fun_mk (st := s_first_meet) l_first_meet c_first_meet k_first_meet, b_first_meet := (fun_mk (st := s_first_meet) l_first_meet c_first_meet k_first_meet).binds (ps := ["layings"]) (fun _ _ _ _ _ _ us hl => match us, hl with | [_], _ => rfl), g_first_meet := PySem.W.mg_of X G a_first_meet,
     a_check_meet := f_check_meet, d_check_meet := _, F_check_meet := fun_mk (st := s_check_meet) l_check_meet c_check_meet k_check_meet, b_check_meet := (fun_mk (st := s_check_meet) l_check_meet c_check_meet k_check_meet).binds (ps := ["layings"]) (fun _ _ _ _ _ _ us hl => match us, hl with | [_], _ => rfl), g_check_meet := PySem.W.mg_of X G a_check_meet,
     a_day := f_day, d_day := _, F_day := fun_mk (st := s_day) l_day c_day k_day, b_day := (fun_mk (st := s_day) l_day c_day k_day).binds (ps := ["table", "comers", "comings"]) (fun _ _ _ _ _ _ us hl => match us, hl with | [_, _, _], _ => rfl), g_day := PySem.W.mg_of X G a_day,
     a__law_tape := f__law_tape, d__law_tape := _, F__law_tape := fun_mk (st := s__law_tape) l__law_tape c__law_tape k__law_tape, b__law_tape := (fun_mk (st := s__law_tape) l__law_tape c__law_tape k__law_tape).binds (ps := ["script"]) (fun _ _ _ _ _ _ us hl => match us, hl with | [_], _ => rfl), g__law_tape := PySem.W.mg_of X G a__law_tape,
     a__law_pick := f__law_pick, d__law_pick := _, F__law_pick := fun_mk (st := s__law_pick) l__law_pick c__law_pick k__law_pick, b__law_pick := (fun_mk (st := s__law_pick) l__law_pick c__law_pick k__law_pick).binds (ps := ["tape", "size"]) (fun _ _ _ _ _ _ us hl => match us, hl with | [_, _], _ => rfl), g__law_pick := PySem.W.mg_of X G a__law_pick,
     a__law_loops := f__law_loops, d__law_loops := _, F__law_loops := fun_mk (st := s__law_loops) l__law_loops c__law_loops k__law_loops, b__law_loops := (fun_mk (st := s__law_loops) l__law_loops c__law_loops k__law_loops).binds (ps := ["tape", "most", "longest"]) (fun _ _ _ _ _ _ us hl => match us, hl with | [_, _, _], _ => rfl), g__law_loops := PySem.W.mg_of X G a__law_loops,
     a__law_row := f__law_row, d__law_row := _, F__law_row := fun_mk (st := s__law_row) l__law_row c__law_row k__law_row, b__law_row := (fun_mk (st := s__law_row) l__law_row c__law_row k__law_row).binds (ps := ["tape", "loops", "wait"]) (fun _ _ _ _ _ _ us hl => match us, hl with | [_, _, _], _ => rfl), g__law_row := PySem.W.mg_of X G a__law_row,
     a__law_rows := f__law_rows, d__law_rows := _, F__law_rows := fun_mk (st := s__law_rows) l__law_rows c__law_rows k__law_rows, b__law_rows := (fun_mk (st := s__law_rows) l__law_rows c__law_rows k__law_rows).binds (ps := ["tape", "loops", "bound"]) (fun _ _ _ _ _ _ us hl => match us, hl with | [_, _, _], _ => rfl), g__law_rows := PySem.W.mg_of X G a__law_rows,
     a__law_order := f__law_order, d__law_order := _, F__law_order := fun_mk (st := s__law_order) l__law_order c__law_order k__law_order, b__law_order := (fun_mk (st := s__law_order) l__law_order c__law_order k__law_order).binds (ps := ["loops"]) (fun _ _ _ _ _ _ us hl => match us, hl with | [_], _ => rfl), g__law_order := PySem.W.mg_of X G a__law_order,
     a__law_digits := f__law_digits, d__law_digits := _, F__law_digits := fun_mk (st := s__law_digits) l__law_digits c__law_digits k__law_digits, b__law_digits := (fun_mk (st := s__law_digits) l__law_digits c__law_digits k__law_digits).binds (ps := ["loops", "wait"]) (fun _ _ _ _ _ _ us hl => match us, hl with | [_, _], _ => rfl), g__law_digits := PySem.W.mg_of X G a__law_digits,
     a__law_doubled := f__law_doubled, d__law_doubled := _, F__law_doubled := fun_mk (st := s__law_doubled) l__law_doubled c__law_doubled k__law_doubled, b__law_doubled := (fun_mk (st := s__law_doubled) l__law_doubled c__law_doubled k__law_doubled).binds (ps := ["tape", "most"]) (fun _ _ _ _ _ _ us hl => match us, hl with | [_, _], _ => rfl), g__law_doubled := PySem.W.mg_of X G a__law_doubled,
     a__law_doubled_rows := f__law_doubled_rows, d__law_doubled_rows := _, F__law_doubled_rows := fun_mk (st := s__law_doubled_rows) l__law_doubled_rows c__law_doubled_rows k__law_doubled_rows, b__law_doubled_rows := (fun_mk (st := s__law_doubled_rows) l__law_doubled_rows c__law_doubled_rows k__law_doubled_rows).binds (ps := ["loops"]) (fun _ _ _ _ _ _ us hl => match us, hl with | [_], _ => rfl), g__law_doubled_rows := PySem.W.mg_of X G a__law_doubled_rows,
     a__law_scene := f__law_scene, d__law_scene := _, F__law_scene := fun_mk (st := s__law_scene) l__law_scene c__law_scene k__law_scene, b__law_scene := (fun_mk (st := s__law_scene) l__law_scene c__law_scene k__law_scene).binds (ps := ["tape", "most"]) (fun _ _ _ _ _ _ us hl => match us, hl with | [_, _], _ => rfl), g__law_scene := PySem.W.mg_of X G a__law_scene,
     a__law_comings := f__law_comings, d__law_comings := _, F__law_comings := fun_mk (st := s__law_comings) l__law_comings c__law_comings k__law_comings, b__law_comings := (fun_mk (st := s__law_comings) l__law_comings c__law_comings k__law_comings).binds (ps := ["tape", "comers", "most"]) (fun _ _ _ _ _ _ us hl => match us, hl with | [_, _, _], _ => rfl), g__law_comings := PySem.W.mg_of X G a__law_comings,
     a__law_line := f__law_line, d__law_line := _, F__law_line := fun_mk (st := s__law_line) l__law_line c__law_line k__law_line, b__law_line := (fun_mk (st := s__law_line) l__law_line c__law_line k__law_line).binds (ps := ["bound", "comings"]) (fun _ _ _ _ _ _ us hl => match us, hl with | [_, _], _ => rfl), g__law_line := PySem.W.mg_of X G a__law_line,
     a__law_entries := f__law_entries, d__law_entries := _, F__law_entries := fun_mk (st := s__law_entries) l__law_entries c__law_entries k__law_entries, b__law_entries := (fun_mk (st := s__law_entries) l__law_entries c__law_entries k__law_entries).binds (ps := ["loops", "row"]) (fun _ _ _ _ _ _ us hl => match us, hl with | [_, _], _ => rfl), g__law_entries := PySem.W.mg_of X G a__law_entries,
     a__law_layings := f__law_layings, d__law_layings := _, F__law_layings := fun_mk (st := s__law_layings) l__law_layings c__law_layings k__law_layings, b__law_layings := (fun_mk (st := s__law_layings) l__law_layings c__law_layings k__law_layings).binds (ps := ["loops", "rows", "comings"]) (fun _ _ _ _ _ _ us hl => match us, hl with | [_, _, _], _ => rfl), g__law_layings := PySem.W.mg_of X G a__law_layings,
     a__law_meet := f__law_meet, d__law_meet := _, F__law_meet := fun_mk (st := s__law_meet) l__law_meet c__law_meet k__law_meet, b__law_meet := (fun_mk (st := s__law_meet) l__law_meet c__law_meet k__law_meet).binds (ps := ["layings"]) (fun _ _ _ _ _ _ us hl => match us, hl with | [_], _ => rfl), g__law_meet := PySem.W.mg_of X G a__law_meet,
     a__law_asked := f__law_asked, d__law_asked := _, F__law_asked := fun_mk (st := s__law_asked) l__law_asked c__law_asked k__law_asked, b__law_asked := (fun_mk (st := s__law_asked) l__law_asked c__law_asked k__law_asked).binds (ps := ["table", "comers", "comings"]) (fun _ _ _ _ _ _ us hl => match us, hl with | [_, _, _], _ => rfl), g__law_asked := PySem.W.mg_of X G a__law_asked,
     a_law := f_law, d_law := _, F_law := fun_mk (st := s_law) l_law c_law k_law, b_law := (fun_mk (st := s_law) l_law c_law k_law).binds (ps := ["script"]) (fun _ _ _ _ _ _ us hl => match us, hl with | [_], _ => rfl), g_law := PySem.W.mg_of X G a_law,
     m_all := PySem.W.mg_none_of X G z_all,
     m_bool := PySem.W.mg_none_of X G z_bool,
     m_enumerate := PySem.W.mg_none_of X G z_enumerate,
     m_int := PySem.W.mg_none_of X G z_int,
     m_isinstance := PySem.W.mg_none_of X G z_isinstance,
     m_len := PySem.W.mg_none_of X G z_len,
     m_list := PySem.W.mg_none_of X G z_list,
     m_max := PySem.W.mg_none_of X G z_max,
     m_range := PySem.W.mg_none_of X G z_range,
     m_sorted := PySem.W.mg_none_of X G z_sorted,
     m_sum := PySem.W.mg_none_of X G z_sum,
     m_tuple := PySem.W.mg_none_of X G z_tuple,
     m_zip := PySem.W.mg_none_of X G z_zip,
     t_MOST_BOUND := t_MOST_BOUND, g_MOST_BOUND := PySem.W.mg_of X G y_MOST_BOUND,
     t_MOST_COMERS := t_MOST_COMERS, g_MOST_COMERS := PySem.W.mg_of X G y_MOST_COMERS,
     t_MOST_ITEMS := t_MOST_ITEMS, g_MOST_ITEMS := PySem.W.mg_of X G y_MOST_ITEMS,
     t_MOST_LENGTH := t_MOST_LENGTH, g_MOST_LENGTH := PySem.W.mg_of X G y_MOST_LENGTH,
     t_MOST_LOOPS := t_MOST_LOOPS, g_MOST_LOOPS := PySem.W.mg_of X G y_MOST_LOOPS,
     t_MOST_TICKS := t_MOST_TICKS, g_MOST_TICKS := PySem.W.mg_of X G y_MOST_TICKS,
     c_LoopError := c_LoopError, g_LoopError := PySem.W.mg_of X G y_LoopError,
     c_Meet := c_Meet, g_Meet := PySem.W.mg_of X G y_Meet,
     c_Table := c_Table, g_Table := PySem.W.mg_of X G y_Table,
     a_Meet___init__ := f_Meet___init__, d_Meet___init__ := _, F_Meet___init__ := fun_mk (st := s_Meet___init__) l_Meet___init__ c_Meet___init__ k_Meet___init__, b_Meet___init__ := (fun_mk (st := s_Meet___init__) l_Meet___init__ c_Meet___init__ k_Meet___init__).binds (ps := ["self", "tick", "loop"]) (fun _ _ _ _ _ _ us hl => match us, hl with | [_, _, _], _ => rfl),
     x_Meet := ⟨⟨nm_Meet, q_Meet, N_Meet, bs_Meet, _, sn_Meet, sub_Meet, ab_Meet, col_Meet, dd_Meet, m0_Meet, m1_Meet, m2_Meet, m3_Meet, m5_Meet, xL_Meet, rfl⟩, sa_Meet, eC_Meet, tC_Meet, kC_Meet⟩, i_Meet := a_Meet___init__, ti_Meet := tf_Meet, e_Meet := exm_self eC_Meet iC_Meet tC_Meet sC_Meet,
     n_Meet_tick := n_Meet_tick,
     n_Meet_loop := n_Meet_loop,
     a_Table___init__ := f_Table___init__, d_Table___init__ := _, F_Table___init__ := fun_mk (st := s_Table___init__) l_Table___init__ c_Table___init__ k_Table___init__, b_Table___init__ := (fun_mk (st := s_Table___init__) l_Table___init__ c_Table___init__ k_Table___init__).binds (ps := ["self", "loops", "rows"]) (fun _ _ _ _ _ _ us hl => match us, hl with | [_, _, _], _ => rfl),
     mk_Table := ⟨mk_Table, a_Table___init__, i_Table___init__, kc_Table⟩,
     cl_Table := ⟨pg_Table, hd_Table, po_Table, sa_Table⟩,
     n_Table_loops := n_Table_loops,
     n_Table_rows := n_Table_rows,
     n_Table_bound := n_Table_bound,
     ec_Meet := ⟨xg_Meet, xk_Meet, xs_Meet, xd_Meet, xa_Meet, xn_Meet, xt_Meet, xm_Meet⟩,
     kt_Meet_LoopError := EX6.kit_own ks_Meet_LoopError kc_Meet_LoopError ky_Meet_LoopError }, rfl, rfl⟩
end My
open PySem PySem.W PyProof.Rows
set_option maxHeartbeats 0 in
theorem PySem.Challenge.cw_loopstore_k19_whole_the_first_meeting_of_holds : PySem.Challenge.rw_loopstore_k19_whole_the_first_meeting_of.Holds := by
  w_on; o_law; k_head; (case hw => w_witness2)
  k_fill
  refine L2.walk_of (l := PySem.Challenge.rw_loopstore_k19_whole_the_first_meeting_of) (n := 63) (k := My.lawLevel) (x := "script") (CX := fun _ => L2.CX0) (sp := fun w => My.spLaw _) rfl (by decide) rfl ⟨rfl, by decide, by decide⟩ (fun w h Y => PySem.W.kIn_of Y) ?F (fun _ _ a ns hl _ hS => ⟨a, ns, rfl, hS, hl, fun _ => rfl⟩) (fun _ _ _ _ _ h => h)
  case F =>
    intro w mg fa h KX G hmg
    refine' My.fin_mk KX G hmg (My.all_mk (w := w) KX G ?a_is_integer ?l_is_integer ?c_is_integer ?k_is_integer ?a_is_number ?l_is_number ?c_is_number ?k_is_number ?a_are_numbers ?l_are_numbers ?c_are_numbers ?k_are_numbers ?a_is_comings ?l_is_comings ?c_is_comings ?k_is_comings ?a_is_loops ?l_is_loops ?c_is_loops ?k_is_loops ?a_is_row ?l_is_row ?c_is_row ?k_is_row ?a_check_comers ?l_check_comers ?c_check_comers ?k_check_comers ?a_check_comings ?l_check_comings ?c_check_comings ?k_check_comings ?a_follow_line ?l_follow_line ?c_follow_line ?k_follow_line ?a_letters_of ?l_letters_of ?c_letters_of ?k_letters_of ?a_row_sum ?l_row_sum ?c_row_sum ?k_row_sum ?a_row_entries ?l_row_entries ?c_row_entries ?k_row_entries ?a_wait_row ?l_wait_row ?c_wait_row ?k_wait_row ?a_wait_entries ?l_wait_entries ?c_wait_entries ?k_wait_entries ?a_layings_of ?l_layings_of ?c_layings_of ?k_layings_of ?a_changed_layings ?l_changed_layings ?c_changed_layings ?k_changed_layings ?a_table_layings ?l_table_layings ?c_table_layings ?k_table_layings ?a_first_meet ?l_first_meet ?c_first_meet ?k_first_meet ?a_check_meet ?l_check_meet ?c_check_meet ?k_check_meet ?a_day ?l_day ?c_day ?k_day ?a__law_tape ?l__law_tape ?c__law_tape ?k__law_tape ?a__law_pick ?l__law_pick ?c__law_pick ?k__law_pick ?a__law_loops ?l__law_loops ?c__law_loops ?k__law_loops ?a__law_row ?l__law_row ?c__law_row ?k__law_row ?a__law_rows ?l__law_rows ?c__law_rows ?k__law_rows ?a__law_order ?l__law_order ?c__law_order ?k__law_order ?a__law_digits ?l__law_digits ?c__law_digits ?k__law_digits ?a__law_doubled ?l__law_doubled ?c__law_doubled ?k__law_doubled ?a__law_doubled_rows ?l__law_doubled_rows ?c__law_doubled_rows ?k__law_doubled_rows ?a__law_scene ?l__law_scene ?c__law_scene ?k__law_scene ?a__law_comings ?l__law_comings ?c__law_comings ?k__law_comings ?a__law_line ?l__law_line ?c__law_line ?k__law_line ?a__law_entries ?l__law_entries ?c__law_entries ?k__law_entries ?a__law_layings ?l__law_layings ?c__law_layings ?k__law_layings ?a__law_meet ?l__law_meet ?c__law_meet ?k__law_meet ?a__law_asked ?l__law_asked ?c__law_asked ?k__law_asked ?a_law ?l_law ?c_law ?k_law ?a_Meet___init__ ?i_Meet___init__ ?l_Meet___init__ ?c_Meet___init__ ?k_Meet___init__ ?a_Table___init__ ?i_Table___init__ ?l_Table___init__ ?c_Table___init__ ?k_Table___init__ ?z_all ?z_bool ?z_enumerate ?z_int ?z_isinstance ?z_len ?z_list ?z_max ?z_range ?z_sorted ?z_sum ?z_tuple ?z_zip ?y_MOST_BOUND ?y_MOST_COMERS ?y_MOST_ITEMS ?y_MOST_LENGTH ?y_MOST_LOOPS ?y_MOST_TICKS ?y_LoopError ?y_Meet ?y_Table ?xL_Meet ?sa_Meet ?tf_Meet ?kC_Meet ?eC_Meet ?tC_Meet ?iC_Meet ?sC_Meet ?n_Meet_tick ?n_Meet_loop ?pg_Table ?hd_Table ?po_Table ?sa_Table ?mk_Table ?kc_Table ?n_Table_loops ?n_Table_rows ?n_Table_bound ?xg_Meet ?xk_Meet ?xd_Meet ?xa_Meet ?xn_Meet ?xt_Meet ?xm_Meet ?xs_Meet ?ks_Meet_LoopError ?kc_Meet_LoopError ?ky_Meet_LoopError)
    (case y_LoopError => k_is); (case y_Meet => k_is); (case y_Table => k_is); (case a_is_integer => k_is); (case l_is_integer => k_is); (case c_is_integer => k_is); (case k_is_integer => k_is); (case a_is_number => k_is); (case l_is_number => k_is); (case c_is_number => k_is); (case k_is_number => k_is); (case a_are_numbers => k_is); (case l_are_numbers => k_is); (case c_are_numbers => k_is); (case k_are_numbers => k_is); (case a_is_comings => k_is); (case l_is_comings => k_is); (case c_is_comings => k_is); (case k_is_comings => k_is); (case a_is_loops => k_is); (case l_is_loops => k_is); (case c_is_loops => k_is); (case k_is_loops => k_is); (case a_is_row => k_is); (case l_is_row => k_is); (case c_is_row => k_is); (case k_is_row => k_is); (case a_check_comers => k_is); (case l_check_comers => k_is); (case c_check_comers => k_is); (case k_check_comers => k_is); (case a_check_comings => k_is); (case l_check_comings => k_is); (case c_check_comings => k_is); (case k_check_comings => k_is); (case a_follow_line => k_is); (case l_follow_line => k_is); (case c_follow_line => k_is); (case k_follow_line => k_is); (case a_letters_of => k_is); (case l_letters_of => k_is); (case c_letters_of => k_is); (case k_letters_of => k_is); (case a_row_sum => k_is); (case l_row_sum => k_is); (case c_row_sum => k_is); (case k_row_sum => k_is); (case a_row_entries => k_is); (case l_row_entries => k_is); (case c_row_entries => k_is); (case k_row_entries => k_is); (case a_wait_row => k_is); (case l_wait_row => k_is); (case c_wait_row => k_is); (case k_wait_row => k_is); (case a_wait_entries => k_is); (case l_wait_entries => k_is); (case c_wait_entries => k_is); (case k_wait_entries => k_is); (case a_layings_of => k_is); (case l_layings_of => k_is); (case c_layings_of => k_is); (case k_layings_of => k_is); (case a_changed_layings => k_is); (case l_changed_layings => k_is); (case c_changed_layings => k_is); (case k_changed_layings => k_is); (case a_table_layings => k_is); (case l_table_layings => k_is); (case c_table_layings => k_is); (case k_table_layings => k_is); (case a_first_meet => k_is); (case l_first_meet => k_is); (case c_first_meet => k_is); (case k_first_meet => k_is); (case a_check_meet => k_is); (case l_check_meet => k_is); (case c_check_meet => k_is); (case k_check_meet => k_is); (case a_day => k_is); (case l_day => k_is); (case c_day => k_is); (case k_day => k_is); (case a__law_tape => k_is); (case l__law_tape => k_is); (case c__law_tape => k_is); (case k__law_tape => k_is); (case a__law_pick => k_is); (case l__law_pick => k_is); (case c__law_pick => k_is); (case k__law_pick => k_is); (case a__law_loops => k_is); (case l__law_loops => k_is); (case c__law_loops => k_is); (case k__law_loops => k_is); (case a__law_row => k_is); (case l__law_row => k_is); (case c__law_row => k_is); (case k__law_row => k_is); (case a__law_rows => k_is); (case l__law_rows => k_is); (case c__law_rows => k_is); (case k__law_rows => k_is); (case a__law_order => k_is); (case l__law_order => k_is); (case c__law_order => k_is); (case k__law_order => k_is); (case a__law_digits => k_is); (case l__law_digits => k_is); (case c__law_digits => k_is); (case k__law_digits => k_is); (case a__law_doubled => k_is); (case l__law_doubled => k_is); (case c__law_doubled => k_is); (case k__law_doubled => k_is); (case a__law_doubled_rows => k_is); (case l__law_doubled_rows => k_is); (case c__law_doubled_rows => k_is); (case k__law_doubled_rows => k_is); (case a__law_scene => k_is); (case l__law_scene => k_is); (case c__law_scene => k_is); (case k__law_scene => k_is); (case a__law_comings => k_is); (case l__law_comings => k_is); (case c__law_comings => k_is); (case k__law_comings => k_is); (case a__law_line => k_is); (case l__law_line => k_is); (case c__law_line => k_is); (case k__law_line => k_is); (case a__law_entries => k_is); (case l__law_entries => k_is); (case c__law_entries => k_is); (case k__law_entries => k_is); (case a__law_layings => k_is); (case l__law_layings => k_is); (case c__law_layings => k_is); (case k__law_layings => k_is); (case a__law_meet => k_is); (case l__law_meet => k_is); (case c__law_meet => k_is); (case k__law_meet => k_is); (case a__law_asked => k_is); (case l__law_asked => k_is); (case c__law_asked => k_is); (case k__law_asked => k_is); (case a_law => k_is); (case l_law => k_is); (case c_law => k_is); (case k_law => k_is); (case a_Meet___init__ => k_is); (case i_Meet___init__ => k_is); (case l_Meet___init__ => k_is); (case c_Meet___init__ => k_is); (case k_Meet___init__ => k_is); (case a_Table___init__ => k_is); (case i_Table___init__ => k_is); (case l_Table___init__ => k_is); (case c_Table___init__ => k_is); (case k_Table___init__ => k_is); (case z_all => k_is); (case z_bool => k_is); (case z_enumerate => k_is); (case z_int => k_is); (case z_isinstance => k_is); (case z_len => k_is); (case z_list => k_is); (case z_max => k_is); (case z_range => k_is); (case z_sorted => k_is); (case z_sum => k_is); (case z_tuple => k_is); (case z_zip => k_is); (case y_MOST_BOUND => k_is); (case y_MOST_COMERS => k_is); (case y_MOST_ITEMS => k_is); (case y_MOST_LENGTH => k_is); (case y_MOST_LOOPS => k_is); (case y_MOST_TICKS => k_is); (case xL_Meet => k_is); (case sa_Meet => k_is); (case tf_Meet => k_is); (case kC_Meet => k_is); (case eC_Meet => k_is); (case tC_Meet => k_is); (case iC_Meet => k_is); (case sC_Meet => k_is); (case n_Meet_tick => k_is); (case n_Meet_loop => k_is); (case pg_Table => k_is); (case hd_Table => k_is); (case po_Table => k_is); (case sa_Table => k_is); (case mk_Table => k_is); (case kc_Table => k_is); (case n_Table_loops => k_is); (case n_Table_rows => k_is); (case n_Table_bound => k_is); (case xg_Meet => k_is); (case xk_Meet => k_is); (case xd_Meet => k_is); (case xa_Meet => k_is); (case xn_Meet => k_is); (case xt_Meet => k_is); (case xm_Meet => k_is); (case xs_Meet => k_is); (case ks_Meet_LoopError => k_is); (case kc_Meet_LoopError => k_is); (case ky_Meet_LoopError => k_is)

