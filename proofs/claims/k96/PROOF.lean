import PyProof.Rows.All
import Wide.All
import OpenK.AllK
import Wide.FinOn
import HandS.ForMost
import HandS.Wide
import HandS.IsInst
import HandS.TupMul
import HandS.TupAny
import HandS.SortInts
import HandS.SortRule
import HandS.Strs
import HandS.Iter
import HandS.Deep
import HandS.Style
import HandS.Exc
import HandS.ExcOwn
import HandS.ExcInit
import HandS.TryOnly
import HandS.WordsExc
import HandS.ExcField
import HandS.ExcIs
import KE.KExcIs
import PyProof.ReprReads
import KE.DatumIndex
import PyProof.ReprBulk
import PyProof.FitsInt
import PyProof.ReprRoads
import HandS.Evl
import PySem.Challenge.RW_loopstore_k96_whole_long_comings
set_option Elab.async false
set_option linter.all false
set_option maxRecDepth 100000
set_option maxHeartbeats 4000000
/-! ## rules that the layer lacks -/
namespace RR
open PySem PySem.Spec PyProof.Rows L2 HT
section
variable {prog : Program} {w : World} {A : Around} {E : Value → Shared → Prop} {s : Shared}
/-- a tuple's items gathered -/
theorem collect_tuple {l : Addr} {vs : List Value} {Q : List Value → Shared → Prop} (hl : IsTup s.heap l vs.toArray)
    (h : Q vs { s with heap := (s.heap.push (seqObj "list" #[] 0)).update s.heap.objs.size (Obj.mapSeq (· ++ vs.toArray)) }) (hsz : vs.length ≤ sizeLine) :
    wpAny (model prog w) A (collect (.ref l)) Q E s := by
  obtain ⟨o, ho, hc, n, hd⟩ := id hl
  unfold collect
  refine wpAny_bind (wpAny_runValue (codeAny_builtin entry_proto_collect' ?_))
  show wpAny _ _ (do again (.builtin "list.__iadd__" ⟨[← newList [], .ref l], []⟩)) _ _ s
  refine wpAny_bind (wpAny_newList (wpAny_pure ⟨Code.quiet_builtin _ (by decide +kernel), codeAny_builtin entry_list_iadd' ?_⟩))
  show wpAny _ _ (Builtin.List.listExtendWith (.ref s.heap.objs.size) (.ref l) (.ref s.heap.objs.size)) _ _ { s with heap := s.heap.push (seqObj "list" #[] 0) }
  unfold Builtin.List.listExtendWith
  have ho' : (s.heap.push (seqObj "list" #[] 0)).get? l = some o := Heap.get?_push_of_some _ ho
  refine wpAny_bind (wpAny_typeOf (T := "tuple") ⟨o, ho', hc⟩ ?_)
  have ht : (Value.type "tuple" == Value.type "tuple") = true := by rfl
  rw [if_pos (by rw [ht]; simp)]
  refine wpAny_bind (listItems_at ho' hd ?_)
  refine wpAny_bind (listItems_at (xs := #[]) (n := 0) (Heap.get?_push_size _ rfl) rfl ?_)
  rw [if_neg (by simp)]
  refine wpAny_bind (listUpdate_at (xs := #[]) (n := 0) (Heap.get?_push_size _ rfl) rfl ?_ (Nat.zero_le _) (by show (#[] ++ vs.toArray).size ≤ sizeLine + 1; simp only [Array.size_append, List.size_toArray, List.length_nil]; omega))
  refine wpAny_pure ?_
  show wpAny (model prog w) A (do
      let o ← load s.heap.objs.size
      match o.data with
      | .seq xs _ => pure xs.toList
      | _ => unsupported "internal:collect") Q E { s with heap := (s.heap.push (seqObj "list" #[] 0)).update s.heap.objs.size (Obj.mapSeq (· ++ vs.toArray)) }
  refine wpAny_bind (wpAny_load (get?_update_seq (Heap.get?_push_size _ rfl) _) ?_)
  show wpAny _ _ (pure ((#[] : Array Value) ++ vs.toArray).toList) Q E _
  rw [show ((#[] : Array Value) ++ vs.toArray).toList = vs by simp]
  exact wpAny_pure h
theorem sorted_ordT {l : Addr} {vs : List Value} {ltv : Value → Value → Bool} {Q : Value → Shared → Prop} (O : SrtO.Swo ltv) (hl : IsTup s.heap l vs.toArray) (hz : vs.length ≤ sizeLine)
    (hS : 2 ≤ vs.length → ∀ (h₁ : Heap) (a : Addr), h₁.get? a = some (seqObj "list" vs.toArray 0) → (∀ b o, s.heap.get? b = some o → b ≠ a ∧ h₁.get? b = some o) → SrtO.SortableO prog w A.in1.in1 { s with heap := h₁ } a vs ltv)
    (h : ∀ out : List Value, SrtO.Srtd ltv out → SrtO.Stb ltv out vs → Q (.ref (s.heap.objs.size + 1)) { s with heap := sortedAll s.heap vs out.toArray }) :
    wpAny (model prog w) A (call (.builtin "sorted") [.ref l]) Q E s := by
  refine Calls.call_function_entry kind_sorted plain_sorted entry_sorted (args_sorted1 _) ?_
  unfold Builtin.«sorted»
  refine wpAny_bind (m := checkCount "sorted" 1 1 _) (wpAny_pure ?_)
  refine wpAny_bind (collect_tuple hl ?_ hz)
  refine wpAny_bind (wpAny_newList ?_ hz)
  have hsz : ((s.heap.push (seqObj "list" #[] 0)).update s.heap.objs.size (Obj.mapSeq (· ++ vs.toArray))).objs.size = s.heap.objs.size + 1 := by
    rw [Heap.size_update, size_push']
  have hoL : (((s.heap.push (seqObj "list" #[] 0)).update s.heap.objs.size (Obj.mapSeq (· ++ vs.toArray))).push (seqObj "list" vs.toArray 0)).get? (s.heap.objs.size + 1) = some (seqObj "list" vs.toArray 0) := by
    rw [← hsz]; exact Heap.get?_push_size _ rfl
  have keep : ∀ b o, s.heap.get? b = some o → b ≠ s.heap.objs.size + 1 ∧ (((s.heap.push (seqObj "list" #[] 0)).update s.heap.objs.size (Obj.mapSeq (· ++ vs.toArray))).push (seqObj "list" vs.toArray 0)).get? b = some o := fun b o q => by
    have hlt : b < s.heap.objs.size := Heap.lt_size q
    refine ⟨Nat.ne_of_lt (Nat.lt_succ_of_lt hlt), Heap.get?_push_of_some _ ?_⟩
    rw [Heap.get?_update_ne _ _ _ _ (Nat.ne_of_lt hlt)]
    exact Heap.get?_push_of_some _ q
  show wpAny _ _ _ _ _ { s with heap := ((s.heap.push (seqObj "list" #[] 0)).update s.heap.objs.size (Obj.mapSeq (· ++ vs.toArray))).push (seqObj "list" vs.toArray 0) }
  rw [hsz]
  refine wpAny_bind (wpAny_holding (wpAny_call_entry slot_list_sort ⟨_, hoL, rfl⟩ entry_list_sort (SrtO.list_sort_ord O hoL hz (fun h2 => hS h2 _ _ hoL keep) fun out hs hb => ⟨_, rfl, ?_⟩) (args_list_sort _)))
  exact wpAny_pure ⟨_, rfl, h out hs hb⟩
end
def rSortedU (K : PySem.W.Frag) : List V → Hp → VK → Prop := fun vs H Q => ∃ (a : Addr) (ns : List Int), vs = [V.ref a] ∧ SqT K H a (ns.map V.int) ∧
  ∀ (ns' : List Int) (p : Addr), ns'.Perm ns → ns'.Pairwise (· ≤ ·) → H p = none → Q (.ref p) (upd H p (.lst (ns'.map V.int)))
section
variable {X : Cx}
/-- sorted(t), t a tuple of ints -/
theorem cr_sortedU : CallR X (.builtin "sorted") (rSortedU X.K) := by
  intro pins s σ H vs us Q I r h
  obtain ⟨a, ns, rfl, hs, q⟩ := h
  obtain ⟨its, rv, hl, hz⟩ := I.tuple hs
  rw [Vals.ref1 r]
  have hi := rv.ints
  refine sorted_ordT SrtO.swo_int hl (by rw [← rv.length]; exact hz) (fun h2 h₁ a' _ _ => SrtO.ints_sortable hi h2) fun out h1 h2 => ?_
  obtain ⟨k1, k2, k3⟩ := SrtO.ints_out hi h1 h2
  obtain ⟨ep, he'⟩ := PyProof.Rows.sortedAll_at s.heap its out.toArray
  have hlen : ((out.map SrtO.iv).map V.int).length ≤ sizeLine := by
    rw [List.length_map, k2.length_eq]
    rw [List.length_map] at hz
    exact hz
  exact ⟨.ref _, upd H (s.heap.objs.size + 1) (.lst ((out.map SrtO.iv).map V.int)), I.laid (t' := s.toks) (fun _ _ => PyProof.Rows.sortedAll_old) (Nat.le_succ _) ⟨hlen, out, ep, vals_of_ints k1, he'⟩, rfl, q _ _ k2 k3 (I.hok.fresh (Nat.le_succ _))⟩
end
/-! ### t[::-1] -/
theorem adj_rev (n : Nat) : Builtin.Slice.sliceAdjust none none (-1) (n : Int) = ((n : Int) - 1, -1) := rfl
theorem pl_rev (n : Nat) : Builtin.Slice.slicePlaces ((n : Int) - 1) (-1) (-1) = n := by
  unfold Builtin.Slice.slicePlaces
  have h1 : ¬ ((-1 : Int) > 0) := by omega
  simp only [h1, if_false]
  split <;> simp <;> omega
theorem pick_rev (xs : List Value) : ((List.range xs.length).filterMap fun (m : Nat) => xs.toArray[(((xs.length : Int) - 1) + (m : Int) * (-1)).toNat]?) = xs.reverse := by
  have key : ∀ m, m ≤ xs.length → ((List.range m).filterMap fun (k : Nat) => xs.toArray[(((xs.length : Int) - 1) + (k : Int) * (-1)).toNat]?) = xs.reverse.take m := by
    intro m
    induction m with
    | zero => intro _; rfl
    | succ m ih =>
      intro hm
      rw [List.range_succ, List.filterMap_append, ih (by omega), List.take_add_one]
      have e : (((xs.length : Int) - 1) + (m : Int) * (-1)).toNat = xs.length - 1 - m := by omega
      have hl : m < xs.reverse.length := by rw [List.length_reverse]; omega
      have e2 : xs.toArray[xs.length - 1 - m]? = some (xs.reverse[m]) := by
        rw [List.getElem?_toArray, List.getElem_reverse, List.getElem?_eq_getElem]
      rw [List.getElem?_eq_getElem hl]
      simp only [List.filterMap_cons, List.filterMap_nil, e, e2, Option.toList_some]
  have := key xs.length (Nat.le_refl _)
  rw [this, List.take_of_length_le (by rw [List.length_reverse]; exact Nat.le_refl _)]
section
variable {prog : Program} {w : World} {A : Around} {E : Value → Shared → Prop} {s : Shared}
theorem sliceApplied_rev {sl : Addr} {vl vu vs : Value} {n : Nat} {Q : Int × Int × Nat → Shared → Prop} (hs : s.heap.IsSliceOf sl vl vu vs) (pl : IsPart vl none) (pu : IsPart vu none) (ps : IsPart vs (some (-1)))
    (h : Q ((n : Int) - 1, -1, n) s) : wpAny (model prog w) A (Builtin.Slice.sliceApplied (.ref sl) (pure (n : Int))) Q E s := by
  obtain ⟨os, hos, hcs, hds⟩ := id hs
  unfold Builtin.Slice.sliceApplied Builtin.Slice.sliceFields
  refine wpAny_bind (wpAny_bind (wpAny_field hos hds (x := vl) rfl (wpAny_bind (wpAny_field hos hds (x := vu) rfl (wpAny_bind (wpAny_field hos hds (x := vs) rfl (wpAny_pure ?_)))))))
  refine wpAny_bind (slicePart_ ps ?_)
  show wpAny _ _ (if ((-1 : Int) == 0) = true then _ else _) _ _ s
  rw [if_neg (by decide)]
  refine wpAny_bind (slicePart_ pl (wpAny_bind (slicePart_ pu (wpAny_bind (wpAny_pure ?_)))))
  show wpAny _ _ (match Builtin.Slice.sliceAdjust none none (-1) (n : Int) with | (lo, hi) => pure (lo, (-1 : Int), Builtin.Slice.slicePlaces lo hi (-1))) _ _ s
  rw [adj_rev n]
  show wpAny _ _ (pure ((n : Int) - 1, (-1 : Int), Builtin.Slice.slicePlaces ((n : Int) - 1) (-1) (-1))) _ _ s
  rw [pl_rev]
  exact wpAny_pure h
theorem getItem_tuple_rev {t sl : Addr} {items : List Value} {vl vu vs : Value} {Q : Value → Shared → Prop} (ht : IsTup s.heap t items.toArray) (hs : s.heap.IsSliceOf sl vl vu vs) (pl : IsPart vl none) (pu : IsPart vu none) (ps : IsPart vs (some (-1)))
    (h : Q (.ref s.heap.objs.size) { s with heap := s.heap.push { cls := .type "tuple", data := .seq items.reverse.toArray } })
    (hsz : items.length ≤ sizeLine) : wpAny (model prog w) A (getItem (.ref t) (.ref sl)) Q E s := by
  have htake : sizeOk (.seq items.reverse.toArray) := by
    show items.reverse.toArray.size ≤ sizeLine
    rw [List.size_toArray, List.length_reverse]
    omega
  obtain ⟨os, hos, hcs, hds⟩ := id hs
  have hTs : s.TypeIs (.ref sl) "slice" := ⟨os, hos, hcs⟩
  unfold getItem
  try with_reducible refine wpAny_holding ?_
  first | refine wpAny_bind (wpAny_pure ?_) | skip
  refine wpAny_bind (wpAny_sequenceKey ht.typeIs (by decide) ?_)
  refine wpAny_bind (wpAny_callSpecial?_slot (name := Str.ofString "__getitem__") ht.typeIs PyProof.Rows.slot_tuple_getitem
    (wpAny_call_entry PyProof.Rows.slot_tuple_getitem ht.typeIs entry_tuple_getitem ?_ (args_tuple_getitem _ _)))
  show wpAny _ _ (Builtin.Tuple.tupleItemsOf (.ref t) >>= _) _ _ s
  refine wpAny_bind (tupleItemsOf_ ht ?_)
  refine wpAny_bind (wpAny_typeOf hTs ?_)
  rw [if_pos (by decide)]
  rw [List.size_toArray]
  refine wpAny_bind (sliceApplied_rev hs pl pu ps ?_)
  have hno : ¬ ((((items.length : Int) - 1) == 0 && (-1 : Int) == 1 && items.length == items.length) = true) := by
    rw [show ((-1 : Int) == 1) = false from rfl, Bool.and_false, Bool.false_and]
    exact Bool.false_ne_true
  show wpAny _ _ (if (((items.length : Int) - 1) == 0 && (-1 : Int) == 1 && items.length == items.length) = true then _ else _) _ _ s
  rw [if_neg hno, pick_rev]
  first
    | exact wpAny_bind (m := Builtin.Tuple.tupleExact _) (wpAny_newObj_type (wpAny_pure ⟨_, rfl, wpAny_pure h⟩) htake)
    | exact wpAny_bind (m := Builtin.Tuple.tupleExact _) (wpAny_newObj_type (wpAny_bind (wpAny_pure (wpAny_pure ⟨_, rfl, wpAny_pure h⟩))) htake)
    | exact wpAny_bind (wpAny_bind (m := Builtin.Tuple.tupleExact _) (wpAny_newObj_type (wpAny_pure (wpAny_pure ⟨_, rfl, wpAny_pure h⟩)) htake))
    | exact wpAny_bind (wpAny_bind (m := Builtin.Tuple.tupleExact _) (wpAny_newObj_type (wpAny_pure ⟨_, rfl, wpAny_pure h⟩) htake))
end
def tRevT (K : PySem.W.Frag) (te : TE) : TE := fun σ H Q => te σ H fun x H1 => ∃ a xs, x = .ref a ∧ SqT K H1 a xs ∧ ∀ p, H1 p = none → Q (.ref p) (upd H1 p (.tup xs.reverse))
section
variable {X : Cx}
theorem pe_revT {e : Expr} {te : TE} {k : Nat} {p1 p2 p3 pos : Pos} (he : PE X e te) : PE X (.Subscript e (.Slice none none (some (.UnaryOp .USub (.Constant (.int 1) k p1) p2)) p3) pos) (tRevT X.K te) := by
  refine ⟨fun pins s σ H Q I h => ?_⟩
  refine Subscript_ (thn (he.run pins s σ H _ I h) fun v s1 ⟨x, H1, I1, r1, q1⟩ => ?_)
  obtain ⟨a, xs, ex, hx, q⟩ := q1
  subst ex
  cases r1
  have hst : PO X (some (.UnaryOp .USub (.Constant (.int 1) k p1) p2)) (tPart (tUn (rU fun i => .int (-i)) (tC (.int 1)))) := po_some (pe_un un_neg pe_int)
  refine wpAny_Slice (thn (po_none.run pins s1 σ H1 (fun o H2 => o = none ∧ H2 = H1) I1 ⟨rfl, rfl⟩) fun vl s2 ⟨l, H2, I2, pl, el, e2⟩ => ?_)
  subst el e2
  refine thn (po_none.run pins s2 σ H2 (fun o H3 => o = none ∧ H3 = H2) I2 ⟨rfl, rfl⟩) fun vu s3 ⟨u, H3, I3, pu, eu, e3⟩ => ?_
  subst eu e3
  refine thn (hst.run pins s3 σ H3 (fun o H4 => o = some (-1) ∧ H4 = H3) I3 ⟨1, rfl, -1, rfl, rfl, rfl⟩) fun vs s4 ⟨o, H4, I4, ps, eo, e4⟩ => ?_
  subst eo e4
  have I5 : Inv X pins σ H4 { s4 with heap := s4.heap.push { cls := .type "slice", data := .fields #[vl, vu, vs] } } := I4.kept (t' := s4.toks) fun b ob q => Heap.get?_push_of_some _ q
  obtain ⟨its, r, ht, hz⟩ := I5.tuple hx
  have hlen := r.length
  show wpAny (model X.prog X.w) X.A (subscriptTail e (.Slice none none (some (.UnaryOp .USub (.Constant (.int 1) k p1) p2)) p3) (.ref a) (.ref s4.heap.objs.size)) (EP X pins σ Q) X.xe { s4 with heap := s4.heap.push { cls := .type "slice", data := .fields #[vl, vu, vs] } }
  refine tail_any (ops := [.ref a, .ref s4.heap.objs.size]) ht.typeIs (PyProof.Rows.slot_tuple_getitem.lookup) ?_ (by with_unfolding_all rfl)
  refine getItem_tuple_rev ht (Heap.IsSliceOf.new _ vl vu vs) pl pu ps ?_ (by rw [← hlen]; exact hz)
  refine ⟨.ref _, _, I5.laid (t' := s4.toks) (o := .tup xs.reverse) (fun b ob q => Heap.get?_push_of_some _ q) (Nat.le_refl _) ?_, rfl, q _ (I5.hok.fresh (Nat.le_refl _))⟩
  exact ⟨by rw [List.length_reverse]; exact hz, _, r.reverse, IsTup.new _ _⟩
end
/-! ### t * k, k from 1 on -/
theorem tuple_mulW1 (l : Addr) (items : Array Value) (n : Nat) (dd : Option Addr) (sl : Array (Option Value)) (u : Tok) :
    Meets (Builtin.«tuple.__mul__» ⟨[.ref l, .int 1 u], []⟩) (fun _ R s => s.heap.get? l = some { cls := .type "tuple", dict := dd, data := .seq items n, slots := sl } ∧ R (.ok (.ret (Value.ref l))) s) :=
  .of_wp fun prog w A R s h => by
    obtain ⟨hp, g, d, tk, os⟩ := s
    obtain ⟨hl, h⟩ := h
    have f1 := AutoSeq1.idx_int
    have c0 : (decide ((1 : Int) < -(2 ^ 63)) || decide ((1 : Int) ≥ 2 ^ 63)) = false := by decide
    have c1 : (items.isEmpty || (1 : Int) == 1) = true := by rw [show ((1 : Int) == 1) = true from rfl, Bool.or_true]
    wp_walk using wpAny_loadPart' hl
    repeat (first
      | (refine wpAny_ite_false (decide_eq_false (by rw [c0]; exact Bool.false_ne_true)) ?_; wp_walk using wpAny_loadPart' hl)
      | (refine wpAny_ite_true (decide_eq_true c1) ?_; wp_walk using wpAny_loadPart' hl))
    exact ⟨_, rfl, h⟩
def rRepA (K : PySem.W.Frag) : R2 := fun x y H Q => ∃ l k xs, x = .ref l ∧ y = .int k ∧ SqT K H l xs ∧ xs ≠ [] ∧ 1 ≤ k ∧ k ≤ 1000 ∧ xs.length ≤ 1000 ∧ (k = 1 → Q (.ref l) H) ∧ (k ≠ 1 → ∀ p, H p = none → Q (.ref p) (upd H p (.tup (List.replicate k.toNat xs).flatten)))
section
variable {X : Cx}
theorem op_repA : OpR X (binaryOp .Mult) (rRepA X.K) := by
  intro pins s σ H x y v u Q I rx ry h
  obtain ⟨l, k, xs, rfl, rfl, hT, hne, h1, h2, hz, q1, q2⟩ := h
  by_cases hk : k = 1
  · subst hk
    cases rx
    obtain ⟨t, rfl⟩ := ry
    obtain ⟨its, r, ⟨⟨cls, dd, data, sl⟩, ho, hc, n, hd⟩, hs⟩ := I.tuple hT
    simp only at hc hd
    subst hc hd
    refine wpAny_binaryOp_repeat_ref (T := "tuple") (U := "int") (by decide) ⟨_, ho, rfl⟩ (fun s' => typeIs_int s' 1 t) noFill_tuple_mul F.fills_int_mul F.slot_int_rmul repeat_tuple F.slot_int_index.lookup
      (call_meets F.slot_int_rmul (typeIs_int s 1 t) F.entry_int_rmul (F.args_int_rmul_2 _ _) (int_rmul_tuple 1 t l its.toArray n dd sl)
        ⟨ho, rfl, ⟨_, ho, rfl⟩, call_meets F.slot_tuple_mul ⟨_, ho, rfl⟩ F.entry_tuple_mul (F.args_tuple_mul_2 _ _) (tuple_mulW1 l its.toArray n dd sl t) ⟨ho, ?_⟩⟩)
    exact ⟨.ref l, H, I, rfl, q1 rfl⟩
  · exact op_repT pins s σ H _ _ v u Q I rx ry ⟨l, k, xs, rfl, rfl, hT, hne, by omega, h2, hz, q2 hk⟩
end
end RR

/-! ## enumerate over a tuple; an empty tuple times k -/
namespace RR
open PySem PySem.Spec PyProof.Rows L2 HT
open Sem (wp)
open AutoSeq1 (wpAny_loadPart')
section
variable {prog : Program} {w : World} {A : Around} {E : Value → Shared → Prop} {s : Shared}
theorem next_tuple_item {it t : Addr} {i : Nat} {items} {x : Value} {Q : Value → Shared → Prop} (hit : s.heap.IsTupleIter it t i)
    (ht : s.heap.IsTuple t items) (hx : items[i]? = some x)
    (hQ : ∀ h', h'.IsTupleIter it t (i + 1) → Heap.SameBut it s.heap h' → Q x { s with heap := h' }) :
    wpAny (model prog w) A (Builtin.SmallTypes.nextOf (.ref it)) Q E s := by
  obtain ⟨o, ho, hc, hd⟩ := id hit
  obtain ⟨ol, hol, _, nl, hdl⟩ := ht
  unfold Builtin.SmallTypes.nextOf
  refine wpAny_bind (wpAny_callSpecial?_slot (name := Str.ofString "__next__") hit.typeIs F.slot_tuple_iterator_next
    (wpAny_call_entry F.slot_tuple_iterator_next hit.typeIs F.entry_tuple_iterator_next ?_ (F.args_tuple_iterator_next_1 _)))
  show wpAny _ _ (field (.ref it) 0 >>= _) _ _ s
  refine wpAny_bind (wpAny_field ho hd (x := .ref t) rfl ?_)
  show wpAny _ _ (if (Value.ref t == Value.none) = true then _ else _) _ _ s
  rw [if_neg (show ¬ ((Value.ref t == Value.none) = true) from Bool.false_ne_true)]
  show wpAny _ _ (field (.ref it) 1 >>= _) _ _ s
  refine wpAny_bind (wpAny_field ho hd (x := .int i 0) rfl ?_)
  show wpAny _ _ (seqItems? (.ref t) >>= _) _ _ s
  refine wpAny_bind (wpAny_seqItems hol hdl ?_)
  simp only [Int.toNat_natCast, hx]
  refine wpAny_bind (wpAny_setField ho hd (by simp) (wpAny_pure ⟨x, rfl, wpAny_pure (hQ _ ?_ (Heap.SameBut.update ..))⟩))
  exact ⟨_, Heap.get?_update_self _ ho (Obj.isFreed_of_fields (Obj.data_mapFields hd _)), (Obj.cls_mapFields ..).trans hc, by
    rw [Obj.data_mapFields hd]; simp [rawInt]⟩
theorem next_tuple_end {it t : Addr} {i : Nat} {items} {Q : Value → Shared → Prop} (hh : A.handled = none)
    (hit : s.heap.IsTupleIter it t i) (ht : s.heap.IsTuple t items) (hx : items[i]? = none)
    (hE : ∀ h' e, Heap.ExtBut it s.heap h' → (∃ o, h'.get? e = some o ∧ o.cls = .type "StopIteration") → E (.ref e) { s with heap := h' }) :
    wpAny (model prog w) A (Builtin.SmallTypes.nextOf (.ref it)) Q E s := by
  obtain ⟨o, ho, hc, hd⟩ := id hit
  obtain ⟨ol, hol, _, nl, hdl⟩ := ht
  unfold Builtin.SmallTypes.nextOf
  refine wpAny_bind (wpAny_callSpecial?_slot (name := Str.ofString "__next__") hit.typeIs F.slot_tuple_iterator_next
    (wpAny_call_entry F.slot_tuple_iterator_next hit.typeIs F.entry_tuple_iterator_next ?_ (F.args_tuple_iterator_next_1 _)))
  show wpAny _ _ (field (.ref it) 0 >>= _) _ _ s
  refine wpAny_bind (wpAny_field ho hd (x := .ref t) rfl ?_)
  show wpAny _ _ (if (Value.ref t == Value.none) = true then _ else _) _ _ s
  rw [if_neg (show ¬ ((Value.ref t == Value.none) = true) from Bool.false_ne_true)]
  show wpAny _ _ (field (.ref it) 1 >>= _) _ _ s
  refine wpAny_bind (wpAny_field ho hd (x := .int i 0) rfl ?_)
  show wpAny _ _ (seqItems? (.ref t) >>= _) _ _ s
  refine wpAny_bind (wpAny_seqItems hol hdl ?_)
  simp only [Int.toNat_natCast, hx]
  refine wpAny_bind (wpAny_rule (wpAny_bind (wpAny_setField ho hd (by simp) ?_)))
  show wpAny _ _ (newExc (.type "StopIteration") [] >>= _) _ _ _
  refine wpAny_bind ?_
  simp only [newExc, newTuple]
  refine wpAny_bind (wpAny_newObj_type ?_ (by size_fits))
  refine wpAny_bind (m := firstArgMember _ _) (wpAny_of_eq (a := Value.none) (by first | rfl | (simp only [firstArgMember]; rfl)) ?_)
  refine wpAny_newObj_type ?_ (by size_fits)
  simp only [raiseNew]
  refine wpAny_bind (wpAny_handled ?_)
  first | rw [show A.in1.handled = none from hh] | rw [hh]
  refine wpAny_bind (wpAny_pure (wpAny_throw ?_))
  exact hE _ _ (((Heap.SameBut.update ..).extBut.push _).push _) ⟨_, Heap.get?_push_size _ rfl, rfl⟩
end
theorem tup_at {h h' : Heap} {a : Addr} {items} (x : h.IsTuple a items) (e : ∀ o, h.get? a = some o → h'.get? a = some o) : h'.IsTuple a items := let ⟨o, ho, r⟩ := x; ⟨o, e _ ho, r⟩
theorem draws_tuple {prog : Program} {w : World} {A : Around} (hh : A.handled = none) (it l : Addr) (hne : l ≠ it) (items : Array Value) :
    Draws prog w A it [it, l] items.size (fun i v => items[i]? = some v) (fun i h => h.IsTupleIter it l i ∧ h.IsTuple l items) where
  live := fun _ _ st => let ⟨o, ho, _⟩ := st.1; ⟨o, ho⟩
  frame := fun _ _ _ st hk => ⟨st.1.at fun o e => hk it (by simp) o e, tup_at st.2 fun o e => hk l (by simp) o e⟩
  item := fun i s Q E hi st hQ => by
    refine next_tuple_item st.1 st.2 (x := items[i]) (by simp [hi]) fun h' hit' hs' => ?_
    exact hQ _ h' s.toks (by simp [hi]) ⟨hit', st.2.extBut hs'.extBut hne⟩ hs'
  done := fun s Q E st hE => next_tuple_end hh st.1 st.2 (by simp) hE
theorem enumerate_newT (l : Addr) (items : Array Value) (n : Nat) (dct : Option Addr) (sl : Array (Option Value)) :
    Meets (Builtin.«enumerate.__new__» ⟨[.type "enumerate", .ref l], []⟩) (fun _ R s => s.heap.get? l = some { cls := .type "tuple", dict := dct, data := .seq items n, slots := sl } ∧
      R (.ok (.ret (.ref (s.heap.push { cls := .type "tuple_iterator", data := .fields #[.ref l, .int 0 0] }).objs.size)))
        { s with heap := (s.heap.push { cls := .type "tuple_iterator", data := .fields #[.ref l, .int 0 0] }).push { cls := .type "enumerate", data := .fields #[.none, .bool false, .ref s.heap.objs.size, rawInt 0, .none, .none] } }) :=
  .of_wp fun prog w A R s h => by
    obtain ⟨hp, g, d, tk, os⟩ := s; obtain ⟨hl, h⟩ := h
    have hsub := sub_enumerate
    have hL : Heap.IsTuple (Shared.heap ⟨hp, g, d, tk, os⟩) l items := ⟨_, hl, rfl, n, rfl⟩
    wp_walk using wpAny_loadPart' hl
    refine wpAny_stack_any fun st => wpAny_pure ?_
    split
    · rename_i c _ _ _ _ _
      cases (c == Value.type "enumerate")
      · wp_walk using wpAny_loadPart' hl, wpAny_pyIter_tuple hL
        exact ⟨_, rfl, h⟩
      · wp_walk using wpAny_loadPart' hl, wpAny_pyIter_tuple hL
        exact ⟨_, rfl, h⟩
    · wp_walk using wpAny_loadPart' hl, wpAny_pyIter_tuple hL
      exact ⟨_, rfl, h⟩
section
variable {prog : Program} {w : World} {A : Around} {E : Value → Shared → Prop} {s : Shared}
theorem call_enumerate_tuple {l : Addr} {items : Array Value} {Q : Value → Shared → Prop} (hL : s.heap.IsTuple l items)
    (h : ∀ h', IsEnum h' (s.heap.objs.size + 1) s.heap.objs.size 0 .none → h'.IsTupleIter s.heap.objs.size l 0 → h'.objs.size = s.heap.objs.size + 2 →
      (∀ b o, s.heap.get? b = some o → h'.get? b = some o) → Q (.ref (s.heap.objs.size + 1)) { s with heap := h' }) :
    wpAny (model prog w) A (call (.type "enumerate") [.ref l]) Q E s := by
  obtain ⟨⟨c, dct, dt, sl⟩, hl, hc, n, hd⟩ := hL
  replace hc : c = .type "tuple" := hc
  replace hd : dt = .seq items n := hd
  subst hc hd
  refine callType_new F.called_enumerate (by decide) (F.typeCall_enumerate_1 _) (F.newCall_enumerate_1 _) (fun obj => F.args_object_init_2 obj _) F.entry_enumerate_new
    (enumerate_newT l items n dct sl) ⟨hl, ?_⟩
  have hz : (s.heap.push { cls := .type "tuple_iterator", data := .fields #[.ref l, .int 0 0] }).objs.size = s.heap.objs.size + 1 := Heap.size_push ..
  show _ ∧ _
  rw [hz]
  have he : IsEnum ((s.heap.push { cls := .type "tuple_iterator", data := .fields #[.ref l, .int 0 0] }).push
      { cls := .type "enumerate", data := .fields #[.none, .bool false, .ref s.heap.objs.size, rawInt 0, .none, .none] }) (s.heap.objs.size + 1) s.heap.objs.size 0 .none := by
    have := Heap.get?_push_size (s.heap.push { cls := .type "tuple_iterator", data := .fields #[.ref l, .int 0 0] })
      (o := { cls := .type "enumerate", data := .fields #[.none, .bool false, .ref s.heap.objs.size, rawInt 0, .none, .none] }) rfl
    rw [hz] at this; exact this
  refine ⟨⟨_, he, rfl⟩, h _ he ⟨_, Heap.get?_push_of_some _ (Heap.get?_push_size _ rfl), rfl, rfl⟩ (by rw [Heap.size_push, hz]) fun b o x => Heap.get?_push_of_some _ (Heap.get?_push_of_some _ x)⟩
end
/-- the tuple at a, each item in a new pair -/
def IteT (K : PySem.W.Frag) (a : Addr) : It :=
  ⟨fun i H => ∃ (xs : List V) (x : V), SqT K H a xs ∧ xs[i]? = some x, fun i H v H' => ∃ T x, v = .ref T ∧ H T = none ∧ H' = upd H T (.tup [.int (i : Nat), x]) ∧ ∀ xs, SqT K H a xs → xs[i]? = some x, fun i H => ∃ xs : List V, SqT K H a xs ∧ xs.length ≤ i⟩
theorem turn_enumT {P : Program} {w : World} {K : PySem.W.Frag} {elts : List Expr} {kk : Nat} {tpos : Pos} (a e it : Addr) :
    Turn P w K (.Tuple elts kk tpos) (IteT K a) [e, it] e (fun i h => (∃ old, IsEnum h e it ((i : Nat) : Int) old) ∧ h.IsTupleIter it a i ∧ e ≠ it ∧ a ≠ it ∧ a ≠ e) where
  mem := by simp
  obj := fun i h st b hb => by
    obtain ⟨⟨old, he⟩, ⟨o, ho, hc, hd⟩, _⟩ := st
    have e' : b = e ∨ b = it := by simpa using hb
    rcases e' with z | z
    · rw [z]; exact ⟨_, he, fun v q => nomatch q⟩
    · rw [z]; exact ⟨o, ho, fun v q => by rw [hd] at q; cases q⟩
  keep := fun i h h' st k => let ⟨⟨old, he⟩, hi, hne⟩ := st; ⟨⟨old, k e (by simp) _ he⟩, hi.at fun o q => k it (by simp) o q, hne⟩
  item := by
    intro X hP hw hK hc i pins s σ H E I hf st hg
    subst hP hw hK
    obtain ⟨⟨old, he⟩, hit, hne, hai, hae⟩ := st
    obtain ⟨xs, x, hq, hx⟩ := hg
    obtain ⟨its, rv, p, hz⟩ := I.tuple hq
    obtain ⟨u, hu, ru⟩ := rv.get hx
    have hel : e < s.heap.objs.size := Heap.lt_size he
    have hil : it < s.heap.objs.size := by obtain ⟨_, q, _⟩ := hit; exact Heap.lt_size q
    have hlt : i < its.toArray.size := by
      have := (List.getElem?_eq_some_iff.mp hu).1
      simpa using this
    refine wpAny_pyNext_enum_itemD (draws_tuple (prog := X.prog) (w := X.w) (A := X.A.in1) (show X.A.in1.handled = none from I.ok.hd hc) it a hai its.toArray) he ⟨hit, (show s.heap.IsTuple a its.toArray from p)⟩ hlt hne (by simp [hne, Ne.symm hae]) fun y h' tk hy ho hst' hT hsz hk => ?_
    have hyu : y = u := by
      have h2 : its.toArray[i]? = some u := by simpa using hu
      exact Option.some.inj (hy.symm.trans h2)
    subst hyu
    refine ⟨_, rfl, wpAny_letOwnedTupleGo_enum (s := { s with heap := h', toks := tk + 1 }) ho fun h'' he' sb => ?_⟩
    have hT2 : h''.get? s.heap.objs.size = some { cls := .type "tuple", data := .seq #[.int i tk, y] } := (sb.2 _ (Nat.ne_of_gt hel)).trans hT
    have new : ObjOk X.prog X.w (upd H s.heap.objs.size (.tup [.int (i : Nat), x])) h'' s.heap.objs.size (.tup [.int (i : Nat), x]) :=
      ⟨by show 2 ≤ sizeLine; decide, [.int i tk, y], .cons ⟨_, rfl⟩ (.cons ru .nil), ⟨_, hT2, rfl, _, rfl⟩⟩
    have I1 : Inv X pins σ (upd H s.heap.objs.size (.tup [.int (i : Nat), x])) { s with heap := h'', toks := tk + 1 } :=
      I.turnedNew (ch := [e, it]) (fun b ob hb q => (sb.2 b (fun z => hb (by simp [z]))).trans (hk b ob (fun z => hb (by simp [z])) (fun z => hb (by simp [z])) q)) hf (Nat.le_refl _) new
    refine ⟨.ref s.heap.objs.size, _, I1, rfl, ⟨_, x, rfl, I.hok.fresh (Nat.le_refl _), rfl, fun ys hy => by rw [I.tuple_inj hy hq]; exact hx⟩, ⟨⟨y, ?_⟩, hst'.1.at fun o q => (sb.2 it (Ne.symm hne)).trans q, hne, hai, hae⟩, fun b hb => ?_⟩
    · have e1 : ((i + 1 : Nat) : Int) = (i : Int) + 1 := by omega
      rw [e1]; exact he'
    · have hb' : b < s.heap.objs.size := by
        have e' : b = e ∨ b = it := by simpa using hb
        rcases e' with z | z
        · rw [z]; exact hel
        · rw [z]; exact hil
      rw [upd_ne (Nat.ne_of_lt hb')]
      exact (hf b hb).1
  done := by
    intro X hP hw hK hc i pins s σ H E I hf st hg
    subst hP hw hK
    obtain ⟨⟨old, he⟩, hit, hne, hai, hae⟩ := st
    obtain ⟨xs, hq, hx⟩ := hg
    obtain ⟨its, rv, p, hz⟩ := I.tuple hq
    obtain ⟨f0, f1, f2, f3, f4, f5⟩ := hf it (by simp)
    have hl := rv.length
    have hT : s.TypeIs (.ref e) "enumerate" := ⟨_, he, rfl⟩
    unfold pyNext
    refine wpAny_bind (wpAny_attempt (wpAny_callSpecial?_slot (name := Str.ofString "__next__") hT F.slot_enumerate_next
      (wpAny_call_entry F.slot_enumerate_next hT F.entry_enumerate_next ?_ (F.args_enumerate_next_1 _))))
    show wpAny _ _ (field (.ref e) 2 >>= _) _ _ _
    refine wpAny_bind (wpAny_field he rfl (x := .ref it) rfl ?_)
    refine wpAny_bind (next_tuple_end (I.ok.hd hc) hit (show s.heap.IsTuple a its.toArray from p) (by simp; omega) fun h' x eb hx' => ?_)
    obtain ⟨o, ho, hc'⟩ := hx'
    refine wpAny_bind (wpAny_isInstance (T := "StopIteration") (b := true) ⟨o, ho, hc'⟩ isSubtype_stop ?_)
    exact wpAny_pure ⟨rfl, I.turned (t' := s.toks) (fun b o hb q => eb b o hb q) f0 f1 f3 f4 f5⟩
  self := fun A i s Q E st h => let ⟨⟨_, he⟩, _⟩ := st; wpAny_pyIter_enum he h
def iEnumT (K : PySem.W.Frag) (ta : TA) : TI := fun σ H R => ta σ H fun vs H1 => ∃ a xs, vs = [.ref a] ∧ SqT K H1 a xs ∧ R (IteT K a) H1
theorem pi_enumT {X : Cx} {e : Expr} {ta : TA} {p pos tpos : Pos} {elts : List Expr} {kk : Nat} (hg : Gl X "enumerate") (hm : X.mg "enumerate" = none) (ha : PA X [e] ta) (hs : starEach [e] X.env = [(false, eval e X.env)] := by rfl) :
    PI X (.Tuple elts kk tpos) (.Call (.Name "enumerate" p) [e] [] pos) (iEnumT X.K ta) := by
  refine ⟨fun pins s σ H R I h => ?_⟩
  refine Call_ (ld_blt I hg hm boot_enumerate (PyProof.Rows.callWith_type1 (thn (ha.run pos pins s σ H _ I h) fun us s1 ⟨vs, H1, I1, r1, q1⟩ => ?_) hs rfl))
  obtain ⟨a, xs, ex, hq, q⟩ := q1
  subst ex
  cases r1 with
  | cons r rr =>
    cases rr
    cases r
    obtain ⟨its, rv, p', hz⟩ := I1.tuple hq
    have hp : s1.heap.IsTuple a its.toArray := p'
    have hal : a < s1.heap.objs.size := by obtain ⟨_, q, _⟩ := hp; exact Heap.lt_size q
    refine call_enumerate_tuple hp fun h' he hit hsz hk => wpAny_pyIter_enum he ?_
    have I2 : Inv X pins σ H1 { s1 with heap := h' } := I1.kept (t' := s1.toks) hk
    refine ⟨s1.heap.objs.size + 1, [s1.heap.objs.size + 1, s1.heap.objs.size], _, _, H1, rfl, I2, turn_enumT a (s1.heap.objs.size + 1) s1.heap.objs.size, ⟨⟨.none, he⟩, hit, Nat.succ_ne_self _, Nat.ne_of_lt hal, Nat.ne_of_lt (Nat.lt_succ_of_lt hal)⟩, fun b hb => ?_, q⟩
    have e' : b = s1.heap.objs.size + 1 ∨ b = s1.heap.objs.size := by simpa using hb
    have hle : s1.heap.objs.size ≤ b := by
      rcases e' with z | z
      · rw [z]; exact Nat.le_add_right _ _
      · rw [z]; exact Nat.le_refl _
    exact I1.fpOk hle (I1.hok.fresh hle)
theorem for_enumT {K : PySem.W.Frag} {a : Addr} {xs : List V} {g : TG} {tb : TS} {D : Ends} {σ : L2.St} {H : Hp} (Pv : Nat → L2.St → Hp → Prop) (h0 : Pv 0 σ H) (hl : ∀ i σ H, i ≤ xs.length → Pv i σ H → SqT K H a xs)
    (hs : ∀ i x T σ H, xs[i]? = some x → Pv i σ H → H T = none → g (.ref T) σ (upd H T (.tup [.int (i : Nat), x])) fun σ2 H2 => tb { D with nx := Pv (i + 1), ct := Pv (i + 1), bk := D.nx } σ2 H2) (hd : ∀ σ H, Pv xs.length σ H → D.nx σ H) :
    ∃ W : Nat → Nat → L2.St → Hp → Prop, (∃ m, W 0 m σ H) ∧ ∀ i m σ H, W i m σ H →
      ((IteT K a).stop i H ∧ D.nx σ H) ∨ ((IteT K a).go i H ∧ ∃ N : L2.St → Hp → Prop, (∀ σ' H', N σ' H' → ∃ m', m' < m ∧ W (i + 1) m' σ' H') ∧ ∀ x H', (IteT K a).yld i H x H' → g x σ H' fun σ2 H2 => tb { D with nx := N, ct := N, bk := D.nx } σ2 H2) := by
  refine ⟨fun i m σ H => m = xs.length - i ∧ i ≤ xs.length ∧ Pv i σ H, ⟨xs.length, by simp, Nat.zero_le _, h0⟩, ?_⟩
  rintro i m σ H ⟨rfl, hi, p⟩
  have hL := hl i σ H hi p
  by_cases h : i < xs.length
  · refine .inr ⟨⟨xs, xs[i], hL, List.getElem?_eq_getElem h⟩, Pv (i + 1), fun σ' H' n => ⟨xs.length - (i + 1), by omega, rfl, by omega, n⟩, ?_⟩
    rintro v H' ⟨T, x, rfl, nT, rfl, hx⟩
    exact hs i x T σ H (hx xs hL) p nT
  · have e : i = xs.length := by omega
    subst e
    exact .inl ⟨⟨xs, hL, Nat.le_refl _⟩, hd σ H p⟩
theorem for_enumL {K : PySem.W.Frag} {a : Addr} {xs : List V} {g : TG} {tb : TS} {D : Ends} {σ : L2.St} {H : Hp} (Pv : Nat → L2.St → Hp → Prop) (h0 : Pv 0 σ H) (hl : ∀ i σ H, i ≤ xs.length → Pv i σ H → SqL K H a xs)
    (hs : ∀ i x T σ H, xs[i]? = some x → Pv i σ H → H T = none → g (.ref T) σ (upd H T (.tup [.int (i : Nat), x])) fun σ2 H2 => tb { D with nx := Pv (i + 1), ct := Pv (i + 1), bk := D.nx } σ2 H2) (hd : ∀ σ H, Pv xs.length σ H → D.nx σ H) :
    ∃ W : Nat → Nat → L2.St → Hp → Prop, (∃ m, W 0 m σ H) ∧ ∀ i m σ H, W i m σ H →
      ((Ite K a).stop i H ∧ D.nx σ H) ∨ ((Ite K a).go i H ∧ ∃ N : L2.St → Hp → Prop, (∀ σ' H', N σ' H' → ∃ m', m' < m ∧ W (i + 1) m' σ' H') ∧ ∀ x H', (Ite K a).yld i H x H' → g x σ H' fun σ2 H2 => tb { D with nx := N, ct := N, bk := D.nx } σ2 H2) := by
  refine ⟨fun i m σ H => m = xs.length - i ∧ i ≤ xs.length ∧ Pv i σ H, ⟨xs.length, by simp, Nat.zero_le _, h0⟩, ?_⟩
  rintro i m σ H ⟨rfl, hi, p⟩
  have hL := hl i σ H hi p
  by_cases h : i < xs.length
  · refine .inr ⟨⟨xs, xs[i], hL, List.getElem?_eq_getElem h⟩, Pv (i + 1), fun σ' H' n => ⟨xs.length - (i + 1), by omega, rfl, by omega, n⟩, ?_⟩
    rintro v H' ⟨T, x, rfl, nT, rfl, hx⟩
    exact hs i x T σ H (hx xs hL) p nT
  · have e : i = xs.length := by omega
    subst e
    exact .inl ⟨⟨xs, hL, Nat.le_refl _⟩, hd σ H p⟩
/-! ### () * k -/
theorem tuple_mul0 (l : Addr) (n : Nat) (dd : Option Addr) (sl : Array (Option Value)) (x : Int) (u : Tok) (c0 : (decide (x < -(2 ^ 63)) || decide (x ≥ 2 ^ 63)) = false) :
    Meets (Builtin.«tuple.__mul__» ⟨[.ref l, .int x u], []⟩) (fun _ R s => s.heap.get? l = some { cls := .type "tuple", dict := dd, data := .seq #[] n, slots := sl } ∧ R (.ok (.ret (Value.ref l))) s) :=
  .of_wp fun prog w A R s h => by
    obtain ⟨hp, g, d, tk, os⟩ := s
    obtain ⟨hl, h⟩ := h
    have f1 := AutoSeq1.idx_int
    have c1 : ((#[] : Array Value).isEmpty || x == 1) = true := rfl
    wp_walk using wpAny_loadPart' hl
    repeat (first
      | (refine wpAny_ite_false (decide_eq_false (by rw [c0]; exact Bool.false_ne_true)) ?_; wp_walk using wpAny_loadPart' hl)
      | (refine wpAny_ite_true (decide_eq_true c1) ?_; wp_walk using wpAny_loadPart' hl))
    exact ⟨_, rfl, h⟩
def rRepZ (K : PySem.W.Frag) : R2 := fun x y H Q => ∃ l k xs, x = .ref l ∧ y = .int k ∧ SqT K H l xs ∧ 1 ≤ k ∧ k ≤ 1000 ∧ xs.length ≤ 1000 ∧ ∀ p H', (∀ b o, H b = some o → H' b = some o) → SqT K H' p (List.replicate k.toNat xs).flatten → Q (.ref p) H'
theorem flat_nil {α : Type} (k : Nat) : (List.replicate k ([] : List α)).flatten = [] := by
  induction k with
  | zero => rfl
  | succ k ih => rw [List.replicate_succ, List.flatten_cons, ih]; rfl
theorem op_repZ {X : Cx} : OpR X (binaryOp .Mult) (rRepZ X.K) := by
  intro pins s σ H x y v u Q I rx ry h
  obtain ⟨l, k, xs, rfl, rfl, hT, h1, h2, hz, q⟩ := h
  by_cases hne : xs = []
  · subst hne
    cases rx
    obtain ⟨t, rfl⟩ := ry
    obtain ⟨its, r, ⟨⟨cls, dd, data, sl⟩, ho, hc, n, hd⟩, hs⟩ := I.tuple hT
    simp only at hc hd
    subst hc hd
    cases r
    have c0 : (decide (k < -(2 ^ 63)) || decide (k ≥ 2 ^ 63)) = false := by
      rw [decide_eq_false (by omega), decide_eq_false (by omega)]
      rfl
    refine wpAny_binaryOp_repeat_ref (T := "tuple") (U := "int") (by decide) ⟨_, ho, rfl⟩ (fun s' => typeIs_int s' k t) noFill_tuple_mul F.fills_int_mul F.slot_int_rmul repeat_tuple F.slot_int_index.lookup
      (call_meets F.slot_int_rmul (typeIs_int s k t) F.entry_int_rmul (F.args_int_rmul_2 _ _) (int_rmul_tuple k t l #[] n dd sl)
        ⟨ho, rfl, ⟨_, ho, rfl⟩, call_meets F.slot_tuple_mul ⟨_, ho, rfl⟩ F.entry_tuple_mul (F.args_tuple_mul_2 _ _) (tuple_mul0 l n dd sl k t c0) ⟨ho, ?_⟩⟩)
    exact ⟨.ref l, H, I, rfl, q l H (fun _ _ h => h) (by rw [flat_nil]; exact hT)⟩
  · refine op_repA pins s σ H _ _ v u Q I rx ry ⟨l, k, xs, rfl, rfl, hT, hne, h1, h2, hz, fun e => ?_, fun e p np => ?_⟩
    · refine q l H (fun _ _ h => h) ?_
      subst e
      show SqT X.K H l ([xs]).flatten
      simpa using hT
    · refine q p _ (fun b o e => by rw [upd_ne (ne_of_none e np)]; exact e) (SqT.of upd_same)
end RR

/-! ### exceptions of own classes as values: made, asked for their class -/
namespace EX6
open PySem PySem.Spec PyProof.Rows L2
/-- C(e, ..) as a value, C an exception class with its own __init__ -/
def tNewE (C : Addr) (sp : Sp) (dvs : List V) (ta : TA) : TE := fun σ H Q => ta σ H fun vs H1 => vs.length ≤ 1000 ∧ ∀ a, H1 a = none → sp (.ref a :: (vs ++ dvs)) (upd H1 a (exo a C none)) (fun v H2 => v = .non ∧ Q (.ref a) H2) (fun _ _ _ => False)
theorem pe_newE {X : Cx} {CX : CXT} {x : Str} {C fI : Addr} {k : Nat} {fd : FuncData} {ps : List Str} {sp : Sp} {ds : List Value} {dvs : List V} {e : Expr} {es : List Expr} {ta : TA} {p pos : Pos} (T : OexC X.K C) (iC : PySem.W.findIn X.K (.ref C) "__init__" = some (some (.ref fI))) (tI : PySem.W.typeIn X.K (.ref fI) = some (.type "function"))
    (F1 : FnOk X.prog X.w X.K X.mg X.base CX k fI fd ps sp) (hr : Room (k + 1) X.A) (hb : Binds X.K fd ps ds) (hd : Vals dvs ds) (hx : Passes CX X (fun _ _ _ => False)) (hg : Gl X x) (hm : X.mg x = some (.ref C)) (ha : PA X (e :: es) ta)
    (hdb : (x == ("__debug__" : Str)) = false := by decide) (he : starEach (e :: es) X.env = (false, eval e X.env) :: starEach es X.env := by rfl) (hpl : (backTo pos (starEach es X.env)).any (·.1) = false := by rfl) :
    PE X (.Call (.Name x p) (e :: es) [] pos) (tNewE C sp dvs ta) := by
  refine ⟨fun pins s σ H Q I h => ?_⟩
  obtain ⟨nm, q, N, bs, bm, sn, sub, ab, col, dd, k0, k1, k2, k3, k5, hC, hbm⟩ := T.cls
  refine wpAny_Call_Name_kw (ld_glob I hg hm ?_ hdb)
  refine PySem.W.callWith_K (h₀ := X.base) I.ok.mod.kin T.kC (thn (ha.run pos pins s σ H _ I h) fun us s1 ⟨vs, H1, I1, r1, hz, q1⟩ => ⟨I1.kIn, ?_⟩) he hpl
  show wpAny _ _ (call (.ref C) us) _ _ _
  obtain ⟨hp, g, dr, tk, os⟩ := s1
  have hsz : hp.objs.size ≤ hp.objs.size + 1 := Nat.le_succ _
  have hn : H1 (hp.objs.size + 1) = none := I1.hok.fresh hsz
  have hq := q1 (hp.objs.size + 1) hn
  have kk : ∀ b o, hp.get? b = some o → ((hp.push (PySem.W.kdv_tup us)).push (PySem.HandSPX.excO C hp.objs.size)).get? b = some o := fun b o e => Heap.get?_push_of_some _ (Heap.get?_push_of_some _ e)
  have hget : ((hp.push (PySem.W.kdv_tup us)).push (PySem.HandSPX.excO C hp.objs.size)).get? (hp.objs.size + 1) = some (PySem.HandSPX.excO C hp.objs.size) := by heap_get
  have I2 : Inv X pins σ (upd H1 (hp.objs.size + 1) (exo (hp.objs.size + 1) C none)) ⟨(hp.push (PySem.W.kdv_tup us)).push (PySem.HandSPX.excO C hp.objs.size), g, dr, tk, os⟩ :=
    I1.laid (t' := tk) (a := hp.objs.size + 1) (o := exo (hp.objs.size + 1) C none) (h' := (hp.push (PySem.W.kdv_tup us)).push (PySem.HandSPX.excO C hp.objs.size)) kk hsz (exo_ok hget)
  have r2 : Vals (V.ref (hp.objs.size + 1) :: (vs ++ dvs)) (Value.ref (hp.objs.size + 1) :: (us ++ ds)) := .cons rfl (r1.append hd)
  have hl : (Value.ref (hp.objs.size + 1) :: us ++ ds).length = ps.length := by
    have e := r2.length
    rw [F1.len _ _ _ _ hq] at e
    exact e.symm
  have hus : us.length ≤ sizeLine := by
    rw [← Paired.length r1, sizeLine_eq]
    omega
  refine wpAny_call (PySem.HandSPX.call_own F.excBase_ValueError (fun Y => PySem.HandSPX.refsVE_contains Y bm hbm) (I1.kIn _ _ hC) (PySem.W.looks_findIn I1.kIn iC) (fun self => PySem.W.bind_fn I1.kIn self tI) hus
    (codeAny_mono (F1.run _ X.stack _ _ ⟨Value.ref (hp.objs.size + 1) :: us, []⟩ (Value.ref (hp.objs.size + 1) :: (us ++ ds)) _ _ (fun _ _ _ => False) (hr.make C us []) (I2.env0.make C us []) (hb _ (Value.ref (hp.objs.size + 1) :: us) I2.kIn hl) r2 hq) fun r s' hq' => ?_))
  cases r with
  | error er => exact hx pins σ _ _ er s' I2 hq'
  | ok fl =>
    cases fl with
    | ret u =>
      obtain ⟨v, H', I3, rv, ev, q3⟩ := I2.after hq'
      subst ev
      exact ⟨rv, ⟨V.ref (hp.objs.size + 1), H', I3, rfl, q3⟩⟩
    | next => exact False.elim hq'
    | brk => exact False.elim hq'
    | cont => exact False.elim hq'
/-- isinstance(e, c), e an exception of the own class at C that stands in the heap with its dict -/
def rIsX (K : PySem.W.Frag) (C : Addr) : List V → Hp → VK → Prop := fun xs H Q => ∃ (a d : Addr) (fs : List (Str × V)) (c : V) (cv : Value) (b : Bool), xs = [.ref a, c] ∧ H a = some (exo a C (some d)) ∧ H d = some (exd d fs) ∧ ClsV c cv ∧ PySem.W.kitOne K (.ref C) cv = some b ∧ Q (.bl b) H
theorem call_isX {X : Cx} {C : Addr} (E : ExcC X.K C) : CallR X (.builtin "isinstance") (rIsX X.K C) := by
  intro pins s σ H xs us Q I r h
  obtain ⟨a, d, fs, c, cv, b, rfl, ea, ed, k, e, q⟩ := h
  obtain ⟨u1, u2, rfl, r1, r2⟩ := vals2 r
  have e2 := k.eq r2
  subst e2
  cases (show u1 = Value.ref a from r1)
  obtain ⟨⟨t1, hget⟩, _⟩ := I.hok a _ ea
  obtain ⟨⟨mA, hns, _⟩, _⟩ := I.hok d _ ed
  obtain ⟨od, ho, _⟩ := lookIn_ns hns
  obtain ⟨cd, hcD, _⟩ := PySem.W.any_some E.hd
  have J : PySem.W.InstAt s.heap a ({ cls := .ref C, dict := some d, data := .fields #[.ref t1, .none, .none, .none, .bool false, .none] } : Obj) C (some od) := ⟨hget, rfl, rfl, ho⟩
  exact PySem.W.kia_one (PySem.W.kitx_exc (by rw [hcD]; rfl) E.hg E.hk E.hs E.ha E.hn E.ht E.hm) I.kIn J e (fun z => nomatch z) fun tk => ⟨.bl b, H, I.tok tk, rfl, q⟩
theorem kit_own {K : PySem.W.Frag} {a b : Addr} (h1 : PySem.W.subIn K (.ref a) (.ref b) = some true) (h2 : PySem.W.isClsIn K b = true) (h3 : PySem.W.typeIn K (.ref b) = some (.type "type")) : PySem.W.kitOne K (.ref a) (.ref b) = some true := by
  unfold PySem.W.kitOne
  split
  · rfl
  · have h2' : (PySem.W.clsIn K b).isSome = true := h2
    show (if ((PySem.W.clsIn K b).isSome && PySem.W.typeIn K (.ref b) == some (.type "type")) = true then PySem.W.subIn K (.ref a) (.ref b) else none) = some true
    rw [h2', h3, if_pos (by rfl)]
    exact h1
theorem kit_ownN {K : PySem.W.Frag} {a b : Addr} (h1 : PySem.W.subIn K (.ref a) (.ref b) = some false) (h2 : PySem.W.isClsIn K b = true) (h3 : PySem.W.typeIn K (.ref b) = some (.type "type")) (h4 : (Value.ref a == Value.ref b) = false) : PySem.W.kitOne K (.ref a) (.ref b) = some false := by
  unfold PySem.W.kitOne
  rw [h4, if_neg Bool.false_ne_true]
  have h2' : (PySem.W.clsIn K b).isSome = true := h2
  show (if ((PySem.W.clsIn K b).isSome && PySem.W.typeIn K (.ref b) == some (.type "type")) = true then PySem.W.subIn K (.ref a) (.ref b) else none) = some false
  rw [h2', h3, if_pos (by rfl)]
  exact h1
end EX6
/-! ### a tuple times an int of any sign -/
namespace RN6
open PySem PySem.Spec PyProof.Rows L2
theorem tuple_mulN (l : Addr) (items : Array Value) (n : Nat) (dd : Option Addr) (sl : Array (Option Value)) (x : Int) (u : Tok) (c0 : (decide (x < -(2 ^ 63)) || decide (x ≥ 2 ^ 63)) = false) (c1 : (items.isEmpty || x == 1) = false) (c2 : (decide (x ≤ 0) || items.isEmpty) = true) :
    Meets (Builtin.«tuple.__mul__» ⟨[.ref l, .int x u], []⟩) (fun _ R s => s.heap.get? l = some { cls := .type "tuple", dict := dd, data := .seq items n, slots := sl } ∧
      R (.ok (.ret (Value.ref s.heap.objs.size))) { s with heap := s.heap.push { cls := Value.type "tuple", data := Data.seq #[] }, toks := s.toks }) :=
  .of_wp fun prog w A R s h => by
    obtain ⟨hp, g, d, tk, os⟩ := s
    obtain ⟨hl, h⟩ := h
    have f1 := AutoSeq1.idx_int
    wp_walk using wpAny_loadPart' hl
    repeat (first
      | (refine wpAny_ite_false (decide_eq_false (by rw [c0]; exact Bool.false_ne_true)) ?_; wp_walk using wpAny_loadPart' hl)
      | (refine wpAny_ite_false (decide_eq_false (by rw [c1]; exact Bool.false_ne_true)) ?_; wp_walk using wpAny_loadPart' hl)
      | (refine wpAny_ite_true (decide_eq_true c2) ?_; wp_walk using wpAny_loadPart' hl))
    exact ⟨_, rfl, h⟩
def rRepN (K : PySem.W.Frag) : R2 := fun x y H Q => ∃ l k xs, x = .ref l ∧ y = .int k ∧ SqT K H l xs ∧ -1000 ≤ k ∧ k ≤ 1000 ∧ xs.length ≤ 1000 ∧ ∀ p H', (∀ b o, H b = some o → H' b = some o) → SqT K H' p (List.replicate k.toNat xs).flatten → Q (.ref p) H'
theorem op_repN {X : Cx} : OpR X (binaryOp .Mult) (rRepN X.K) := by
  intro pins s σ H x y v u Q I rx ry h
  obtain ⟨l, k, xs, rfl, rfl, hT, h1, h2, hz, q⟩ := h
  by_cases hk : 1 ≤ k
  · exact RR.op_repZ pins s σ H _ _ v u Q I rx ry ⟨l, k, xs, rfl, rfl, hT, hk, h2, hz, q⟩
  · have c0 : (decide (k < -(2 ^ 63)) || decide (k ≥ 2 ^ 63)) = false := by
      rw [decide_eq_false (by omega), decide_eq_false (by omega)]
      rfl
    have e0 : k.toNat = 0 := by omega
    cases rx
    obtain ⟨t, rfl⟩ := ry
    obtain ⟨its, r, ⟨⟨cls, dd, data, sl⟩, ho, hc, n, hd⟩, hs⟩ := I.tuple hT
    simp only at hc hd
    subst hc hd
    by_cases hne : xs = []
    · subst hne
      cases r
      refine wpAny_binaryOp_repeat_ref (T := "tuple") (U := "int") (by decide) ⟨_, ho, rfl⟩ (fun s' => typeIs_int s' k t) noFill_tuple_mul F.fills_int_mul F.slot_int_rmul repeat_tuple F.slot_int_index.lookup
        (call_meets F.slot_int_rmul (typeIs_int s k t) F.entry_int_rmul (F.args_int_rmul_2 _ _) (int_rmul_tuple k t l #[] n dd sl)
          ⟨ho, rfl, ⟨_, ho, rfl⟩, call_meets F.slot_tuple_mul ⟨_, ho, rfl⟩ F.entry_tuple_mul (F.args_tuple_mul_2 _ _) (RR.tuple_mul0 l n dd sl k t c0) ⟨ho, ?_⟩⟩)
      exact ⟨.ref l, H, I, rfl, q l H (fun _ _ h => h) (by rw [RR.flat_nil]; exact hT)⟩
    · have hle : its.length = xs.length := r.length.symm
      have hn : its ≠ [] := fun e => hne (by
        rw [e] at hle
        exact List.eq_nil_of_length_eq_zero hle.symm)
      have hi : its.toArray.isEmpty = false := by
        cases its with
        | nil => exact absurd rfl hn
        | cons a b => rfl
      have c1 : (its.toArray.isEmpty || k == 1) = false := by
        rw [hi, Bool.false_or]
        exact beq_eq_false_iff_ne.mpr (by omega)
      have c2 : (decide (k ≤ 0) || its.toArray.isEmpty) = true := by
        rw [decide_eq_true (by omega)]
        rfl
      refine wpAny_binaryOp_repeat_ref (T := "tuple") (U := "int") (by decide) ⟨_, ho, rfl⟩ (fun s' => typeIs_int s' k t) noFill_tuple_mul F.fills_int_mul F.slot_int_rmul repeat_tuple F.slot_int_index.lookup
        (call_meets F.slot_int_rmul (typeIs_int s k t) F.entry_int_rmul (F.args_int_rmul_2 _ _) (int_rmul_tuple k t l its.toArray n dd sl)
          ⟨ho, rfl, ⟨_, ho, rfl⟩, call_meets F.slot_tuple_mul ⟨_, ho, rfl⟩ F.entry_tuple_mul (F.args_tuple_mul_2 _ _) (tuple_mulN l its.toArray n dd sl k t c0 c1 c2) ⟨ho, ?_⟩⟩)
      have hf : H s.heap.objs.size = none := I.hok.fresh (Nat.le_refl _)
      refine ⟨.ref s.heap.objs.size, _, I.laid (t' := s.toks) (o := .tup []) (fun b ob q => Heap.get?_push_of_some _ q) (Nat.le_refl _) ?_, rfl, q _ _ (fun b o e => by rw [upd_ne (ne_of_none e hf)]; exact e) (SqT.of ?_)⟩
      · exact ⟨Nat.zero_le _, [], .nil, IsTup.new _ _⟩
      · rw [upd_same, e0]
        rfl
end RN6
/-! ### list.count of a flat thing -/
namespace CF6
open PySem PySem.Spec PyProof.Rows L2
theorem cnt_eqU {x : V} : ∀ {xs : List V} {us : List Value}, Vals xs us → xs.all flatV = true → us.countP (eqU x) = xs.countP fun y => eqV y x
  | _, _, .nil, _ => rfl
  | y :: xs, u :: us, .cons r t, f => by
    rw [List.all_cons, Bool.and_eq_true] at f
    rw [List.countP_cons, List.countP_cons, eqU_of r f.1, cnt_eqU t f.2]
def rCntF (K : PySem.W.Frag) : V → List V → Hp → VK → Prop := fun x xs H Q => ∃ (p : Addr) (ys : List V) (z : V), x = .ref p ∧ xs = [z] ∧ SqL K H p ys ∧ flatV z = true ∧ ys.all flatV = true ∧ Q (.int (ys.countP fun y => eqV y z : Nat)) H
theorem mt_countF {X : Cx} : MtR X "list.count" (rCntF X.K) := by
  intro pins s σ H x xs v us Q I rx rxs h
  obtain ⟨p, ys, z, rfl, rfl, hs, fz, fy, q⟩ := h
  cases rx
  obtain ⟨u, rfl, ru⟩ := rxs.one
  obtain ⟨its, rv, ⟨⟨cls, dd, data, sl⟩, n, ho, hc, hdn, hd⟩, hlen⟩ := I.list hs
  simp only at hc hd
  subst hc hd
  refine call_meets PySem.F.slot_list_count ⟨_, ho, rfl⟩ PySem.F.entry_list_count (PySem.F.args_list_count_2 _ _)
    (SeqAt.list_countAt p its.toArray n dd sl u (eqU z)) ⟨ho, fun y hy => mem_eqAt ru fz rv fy y (by simpa using hy), .int (ys.countP fun y => eqV y z : Nat), H, I.tok _, ⟨s.toks, ?_⟩, q⟩
  rw [← cnt_eqU rv fy, List.toList_toArray]
end CF6

/-! ### repr of data: a def that is called where no repr is under way -/
namespace RG7
open PySem PySem.Spec PyProof.Rows L2
/-- a def's promise where no repr is under way -/
structure FnG (P : Program) (w : World) (K : PySem.W.Frag) (mg : Str → Option Value) (base : Heap) (k : Nat) (f : Addr) (fd : FuncData) (ps : List Str) (sp : Sp) : Prop where
  many : ∀ vs H Q E, sp vs H Q E → vs.length = ps.length
  goes : ∀ {A : Around} {outer : List Env} {s : Shared} {H : Hp} {args : Args} {us : List Value} {vs : List V} {Q : VK} {E : XK}, A.guards = some [] → Room k A → Env0 P w K mg base A outer s H → BindsTo s fd args (ps.zip us) → Vals vs us → sp vs H Q E →
    codeAny (model P w) A (.call (.ref f) args) (CR CX0 outer P w H s Q E) s
theorem FnG.of {P : Program} {w : World} {K : PySem.W.Frag} {mg : Str → Option Value} {base : Heap} {k : Nat} {f : Addr} {fd : FuncData} {ps : List Str} {sp : Sp} (F : FnOk P w K mg base CX0 k f fd ps sp) : FnG P w K mg base k f fd ps sp :=
  ⟨F.len, fun _ r e b v h => F.run _ _ _ _ _ _ _ _ _ r e b v h⟩
section
variable {P : Program} {w : World} {K : PySem.W.Frag} {mg : Str → Option Value} {base : Heap}
theorem fnG {x qual : Str} {st : Stmt} {f : Addr} {fd : FuncData} {N ps : List Str} {k : Nat} {sp : Sp} (F : Fun K x qual st f fd) (S : FnScope N ps (defScope st)) (many : ∀ vs H Q E, sp vs H Q E → vs.length = ps.length)
    (body : ∀ (cdv : Value) (A : Around) (outer : List Env) (s : Shared) (H : Hp) (vs : List V) (Q : VK) (E : XK), A.guards = some [] → Room k (A.deeper (envOfC qual (defScope st) s.heap.objs.size f cdv)) → sp vs H Q E →
      ∃ t, PSs (cxOf CX0 P w K mg base N qual (defScope st) f cdv A outer s H E).nox (defBody st) t ∧ t { nx := fun _ H' => Q .non H', rt := Q } (L2.start N vs) H) : FnG P w K mg base (k + 1) f fd ps sp := by
  obtain ⟨oc, od, kV, doc, pm, an, cdv, ct, osl, rfl, look, code⟩ := F.ex
  constructor
  · exact many
  · intro A outer s H args us vs Q E noG room e0 bd rv want
    have inK : K.In s.heap := e0.mod.kin.keeps fun b o e => (e0.bs b o e).1
    have kinds : ∀ y ∈ ps.zip us, (defScope st).names.lookup y.1 = some .local ∨ ((defScope st).names.lookup y.1 = some .cell ∧ ((cellsFrom (s.heap.objs.size + 1) (defScope st).names []).lookup y.1).isSome = true) := by
      rintro ⟨n, v⟩ hy
      cases S.par n (List.of_mem_zip hy).1 with
      | inl l => exact .inl l
      | inr l => exact .inr ⟨l, PySem.W.cellsFrom_some _ _ _ (.inl l)⟩
    apply codeAny_call_function room.depth (inK _ _ look) rfl S.co S.gen rfl (PySem.W.codeRec_of inK code)
    apply bd
    apply wpAny_newFunctionEnv_cells S.kind kinds
    rintro env rfl s1 inside
    refine ⟨(e0.mod.nolimit.keeps fun b o e => (e0.bs b o e).1).keeps inside.toInCall.keep, codeAny_func ?_⟩
    obtain ⟨t, ht, q⟩ := body cdv A outer s H vs Q E noG (room.deeper _) want
    have I := inv_start (CX := CX0) (mg := mg) (base := base) (qual := qual) (f := f) (cd := cdv) (E := E) S room.hd e0 (many _ _ _ _ want) rv inside
    refine wpAny_mono (ht.nox.run [] s1 _ H _ I q) (fun fl s' got => ?_) fun e s' got => got
    cases fl with
    | brk => exact got.elim fun _ z => z.elim fun _ z => z.2.elim
    | cont => exact got.elim fun _ z => z.elim fun _ z => z.2.elim
    | next =>
      obtain ⟨σ', H', J, q'⟩ := got
      exact ⟨V.non, H', J.os, J.bare, J.base, J.hok, rfl, q'⟩
    | ret u =>
      obtain ⟨v, σ', H', J, rel, q'⟩ := got
      exact ⟨v, H', J.os, J.bare, J.base, J.hok, rel, q'⟩
end
/-- the script's heap: only the script is told of, and only if the module has no such object -/
def only1 (a : Addr) (u : HO) : Hp := fun b => if b = a then some u else none
theorem only1_at {a : Addr} {u : HO} : only1 a u a = some u := if_pos rfl
theorem only1_no {a b : Addr} {u : HO} (h : b ≠ a) : only1 a u b = none := if_neg h
theorem only1_of {a b : Addr} {u v : HO} (h : only1 a u b = some v) : b = a ∧ v = u := by
  by_cases e : b = a
  · rw [e, only1_at] at h
    exact ⟨e, (Option.some.inj h).symm⟩
  · rw [only1_no e] at h
    cases h
/-- what a call from the claim's caller must end in -/
abbrev EndT (s₁ : Shared) : Result → Shared → Prop := fun r s' => r = .ok (.ret (.bool true)) ∧ OldK s₁.heap s'.heap ∧ s'.os = s₁.os ∧ AllBare s'.gens
/-- from a heap in which at most the script is told of -/
theorem enter {P : Program} {w : World} {K : PySem.W.Frag} {mg mb : Str → Option Value} {k : Nat} {fa a : Addr} {fd : FuncData} {x : Str} {sp : Sp} {s₁ : Shared} {vs : List Value} {H : Hp}
    (inK : K.In s₁.heap) (gl : s₁.heap.Ns mainGlobals mg) (bt : s₁.heap.Ns builtinsNs mb) (boot : ∀ y : Str, y ≠ "__name__" → mb y = bootBuiltins y) (lim : s₁.heap.NoLimit) (ng : s₁.gens = #[])
    (at_ : s₁.heap.get? a = some { cls := .type "list", data := .seq vs.toArray }) (room : Room k callerA)
    (F : ∀ base : Heap, K.In base → base.Ns mainGlobals mg → FnG P w K mg base k fa fd [x] sp) (bd : ∀ (s : Shared) (u : Value), BindsTo s fd ⟨[u], []⟩ [(x, u)])
    (frz : ∀ b u, H b = some u → b = a ∧ ∃ o xs, u = .frz o (.lst xs)) (ok : HOk P w H s₁.heap) (own : H a ≠ none → K.lookup a = none)
    (want : sp [.ref a] H (fun v _ => v = .bl true) fun _ _ _ => False) : codeAny (model P w) callerA (.call (.ref fa) ⟨[.ref a], []⟩) (EndT s₁) s₁ := by
  have told : ∀ {b o}, s₁.heap.get? b = some o → (∀ xs n, o.data = .seq xs n → False) ∨ H b = none → (hidT s₁.heap H).get? b = some o := fun {b o} e h => hidT_get e (by
    rcases h with h | h
    · cases q : H b with
      | none => rfl
      | some u =>
        have ea := (frz b u q).1
        subst ea
        rw [at_] at e
        cases e
        exact (h _ _ rfl).elim
    · exact h)
  have isNs : ∀ {b : Addr} {m : Str → Option Value}, s₁.heap.Ns b m → (hidT s₁.heap H).Ns b m := by
    rintro b m ⟨o, es, ep, e, d, r⟩
    exact ⟨o, es, ep, told e (.inl fun xs n z => by rw [d] at z; cases z), d, r⟩
  have kept : K.In (hidT s₁.heap H) := fun b o e => told (inK b o e) (.inr (by
    cases q : H b with
    | none => rfl
    | some u =>
      have ea := (frz b u q).1
      subst ea
      rw [own (by rw [q]; exact fun z => by cases z)] at e
      cases e))
  obtain ⟨mc, lim1, lim2⟩ := lim
  have start : Env0 P w K mg (hidT s₁.heap H) callerA [] s₁ H :=
    { frames := rfl, mod := ⟨kept, isNs gl, ⟨mb, isNs bt, boot⟩, ⟨mc, isNs lim1, lim2⟩⟩, bs := fun b o e => of_hidT e, bsz := Nat.le_of_eq (hidT_size _ _), funs := trivial, frf := fun b hb => (List.not_mem_nil hb).elim, hok := ok, bare := .of_eq ng }
  refine codeAny_mono ((F _ kept (isNs gl)).goes (us := [.ref a]) (vs := [.ref a]) (E := fun _ _ _ => False) (Q := fun v _ => v = .bl true) rfl room start (bd s₁ (.ref a)) (.cons rfl .nil) want) fun r s' got => ?_
  match r, got with
  | .error e, got => exact got.elim
  | .ok (.ret u), ⟨v, H', os, bare, un, ok', rel, ev⟩ =>
    have ev' : v = .bl true := ev
    subst ev'
    obtain rfl : u = Value.bool true := rel
    refine ⟨rfl, OldK.of_keep fun b o e => ?_, os, bare⟩
    cases q : H b with
    | none => exact un.keep b o e q (by exact fun z => (List.not_mem_nil z).elim) (by exact fun z => (List.not_mem_nil z).elim)
    | some u =>
      obtain ⟨_, ob, xs, eu⟩ := frz b u q
      subst eu
      obtain ⟨y1, _⟩ := ok b _ q
      obtain ⟨y2, _⟩ := ok' b _ (un.frzs b ob _ q)
      rw [e] at y1
      cases y1
      exact y2
theorem callG {P : Program} {w : World} {K : PySem.W.Frag} {mg mb : Str → Option Value} {k : Nat} {fa a : Addr} {fd : FuncData} {x : Str} {sp : Sp} {s₁ : Shared} {vs : List Value} {ns : List Int}
    (inK : K.In s₁.heap) (gl : s₁.heap.Ns mainGlobals mg) (bt : s₁.heap.Ns builtinsNs mb) (boot : ∀ y : Str, y ≠ "__name__" → mb y = bootBuiltins y) (lim : s₁.heap.NoLimit) (ng : s₁.gens = #[])
    (at_ : s₁.heap.get? a = some { cls := .type "list", data := .seq vs.toArray }) (whole : IntsAre vs ns) (few : ns.length ≤ sizeLine) (room : Room k callerA)
    (F : ∀ base : Heap, K.In base → base.Ns mainGlobals mg → FnG P w K mg base k fa fd [x] sp) (bd : ∀ (s : Shared) (u : Value), BindsTo s fd ⟨[u], []⟩ [(x, u)])
    (want : ∀ H : Hp, Only H → SqL K H a (ns.map V.int) → sp [.ref a] H (fun v _ => v = .bl true) fun _ _ _ => False) : codeAny (model P w) callerA (.call (.ref fa) ⟨[.ref a], []⟩) (EndT s₁) s₁ := by
  have rv := vals_ints whole
  have many := whole.length
  cases hk : K.lookup a with
  | some o =>
    have e := inK a o hk
    rw [at_] at e
    cases e
    refine enter (H := fun _ => none) inK gl bt boot lim ng at_ room F bd (fun b u z => by cases z) (fun b u z => by cases z) (fun z => (z rfl).elim) (want _ (fun _ => .inl rfl) (.inr ⟨_, vs.toArray, _, hk, rfl, rfl, rfl, ?_, ?_⟩))
    · rw [List.size_toArray, many]
      exact few
    · rw [List.toList_toArray]
      exact rv
  | none =>
    refine enter (H := only1 a (.frz { cls := .type "list", data := .seq vs.toArray } (.lst (ns.map V.int)))) inK gl bt boot lim ng at_ room F bd (fun b u z => ⟨(only1_of z).1, _, _, (only1_of z).2⟩) (fun b u z => ?_) (fun _ => hk) (want _ (fun b => ?_) (.inl (.inr ⟨_, only1_at⟩)))
    · obtain ⟨rfl, rfl⟩ := only1_of z
      exact ⟨at_, by rw [List.length_map]; exact few, vs, _, rv, at_⟩
    · by_cases e : b = a
      · rw [e]
        exact .inr ⟨_, _, only1_at⟩
      · exact .inl (only1_no e)
theorem walk_ofG {l : PySem.W.OpenLaw} {n k : Nat} {q : Program} {loose : List Str} {XP : (Str → Option Value) → Heap → Prop} {YP : World → Heap → Prop} {d : DefRec} {K : Params → PySem.W.Frag} {sp : World → Sp} {x : Str}
    (hn : l.most = some n) (hn2 : n ≤ sizeLine) (hdf : d.params.defaults = []) (hr : Room k callerA)
    (hY : ∀ (w : World) (h : Heap), YP w h → (K w.params).In h)
    (F : ∀ (w : World) (mg : Str → Option Value) (fa : Addr) (h : Heap), (K w.params).In h → h.Ns mainGlobals mg → mg d.name = some (.ref fa) →
      ∃ fd : FuncData, (∀ (s : Shared) (u : Value), BindsTo s fd ⟨[u], []⟩ [(x, u)]) ∧ ∀ base : Heap, (K w.params).In base → base.Ns mainGlobals mg → FnG l.prog w (K w.params) mg base k fa fd [x] (sp w))
    (hsp : ∀ (w : World) (H : Hp) (a : Addr) (ns : List Int), ns.length ≤ n → Only H → SqL (K w.params) H a (ns.map V.int) → sp w [.ref a] H (fun v _ => v = .bl true) fun _ _ _ => False) :
    PySem.W.WalkO q loose XP YP l.row.toRowW d [] (fun f vs => PySem.call f vs) :=
  Att.attach_call hn hdf fun w s₀ s₁ mg mb fa o pm cd doc a vs ns G Y ho hd hcd hmg hobj hints hlen hg => by
    have KX := hY w _ Y
    obtain ⟨fd, bd, FF⟩ := F w mg fa _ KX G.T.g hmg
    exact callG KX G.T.g G.T.b G.T.builtins G.T.nolimit hg hobj hints (Nat.le_trans hlen hn2) hr FF bd fun H hO hS => hsp w H a ns hlen hO hS
/-- data whose repr is told: k deep, n things in it -/
structure Rp (k n : Nat) (d : PyData) : Prop where
  sh : d.showable = true
  nd : d.hasDict = false
  dp : d.depth ≤ k
  lf : d.leavesShort 64 = true
  bk : d.bulk ≤ n
theorem Rp.up {k k' n n' : Nat} {d : PyData} (h : Rp k n d) (hk : k ≤ k') (hn : n ≤ n') : Rp k' n' d := ⟨h.sh, h.nd, Nat.le_trans h.dp hk, h.lf, Nat.le_trans h.bk hn⟩
theorem Rp.non : Rp 0 0 .none := ⟨rfl, rfl, Nat.le_refl _, rfl, Nat.le_refl _⟩
theorem Rp.bl (b : Bool) : Rp 0 0 (.bool b) := ⟨rfl, rfl, Nat.le_refl _, rfl, Nat.le_refl _⟩
theorem Rp.int {i : Int} (h : i.natAbs < 10 ^ 60) : Rp 0 0 (.int i) := by
  refine ⟨?_, rfl, Nat.le_refl _, ?_, Nat.le_refl _⟩
  · simp only [PyData.showable]
    refine decide_eq_true ?_
    by_cases z : i.natAbs = 0
    · rw [z]
      decide
    · exact (Nat.log2_lt z).mpr (Nat.lt_of_lt_of_le h (Nat.le_trans (by decide : 10 ^ 60 ≤ 2 ^ 200) (Nat.pow_le_pow_right (by decide) (by decide))))
  · simp only [PyData.leavesShort]
    refine decide_eq_true ?_
    have e := int_text_length_le10 (a := i) (k := 60) (by decide) h
    have e2 : (PyData.shown (.int i)).length = (toString i).length := by
      show (Str.ofString (toString i)).length = _
      exact PySem.ofString_length _
    omega
theorem Rp.all {k n : Nat} : ∀ {ds : List PyData}, (∀ d ∈ ds, Rp k n d) → PyData.showableAll ds = true ∧ PyData.hasDictAll ds = false ∧ PyData.depthAll ds ≤ k ∧ PyData.leavesShortAll 64 ds = true ∧ PyData.bulkAll ds ≤ ds.length * (n + 1)
  | [], _ => ⟨by simp [PyData.showableAll], by simp [PyData.hasDictAll], by simp [PyData.depthAll], by simp [PyData.leavesShortAll], by simp [PyData.bulkAll]⟩
  | d :: ds, h => by
    obtain ⟨a1, a2, a3, a4, a5⟩ := Rp.all (ds := ds) fun x hx => h x (List.mem_cons_of_mem _ hx)
    have b := h d List.mem_cons_self
    refine ⟨?_, ?_, ?_, ?_, ?_⟩
    · simp only [PyData.showableAll, b.sh, a1, Bool.and_true]
    · simp only [PyData.hasDictAll, b.nd, a2, Bool.or_false]
    · simp only [PyData.depthAll]
      exact Nat.max_le.mpr ⟨b.dp, a3⟩
    · simp only [PyData.leavesShortAll, b.lf, a4, Bool.and_true]
    · simp only [PyData.bulkAll, List.length_cons]
      have := b.bk
      rw [Nat.add_mul]
      omega
theorem Rp.tup {k n m : Nat} {ds : List PyData} (h : ∀ d ∈ ds, Rp k n d) (hm : ds.length * (n + 1) ≤ m) : Rp (k + 1) m (.tuple ds) := by
  obtain ⟨a1, a2, a3, a4, a5⟩ := Rp.all h
  refine ⟨?_, ?_, ?_, ?_, ?_⟩
  · simpa only [PyData.showable] using a1
  · simpa only [PyData.hasDict] using a2
  · simp only [PyData.depth]
    omega
  · simpa only [PyData.leavesShort] using a4
  · simp only [PyData.bulk]
    omega
theorem Rp.lst {k n m : Nat} {ds : List PyData} (h : ∀ d ∈ ds, Rp k n d) (hm : ds.length * (n + 1) ≤ m) : Rp (k + 1) m (.list ds) := by
  obtain ⟨a1, a2, a3, a4, a5⟩ := Rp.all h
  refine ⟨?_, ?_, ?_, ?_, ?_⟩
  · simpa only [PyData.showable] using a1
  · simpa only [PyData.hasDict] using a2
  · simp only [PyData.depth]
    omega
  · simpa only [PyData.leavesShort] using a4
  · simp only [PyData.bulk]
    omega
theorem Rp.size {k n : Nat} {d : PyData} (h : Rp k n d) (hn : n ≤ 200000) : d.shown.length ≤ sizeLine := by
  have e := PyData.shown_le_bulk 64 (by decide) d h.lf
  have := h.bk
  rw [sizeLine_eq]
  omega
/-- repr(x), x data that the heap holds, a list or a tuple -/
def rReprD (K : PySem.W.Frag) : List V → Hp → VK → Prop := fun xs H Q => ∃ (a : Addr) (d : PyData) (k n : Nat), xs = [.ref a] ∧ Dp K H (.ref a) d ∧ Rp k n d ∧ k ≤ 40 ∧ n ≤ 200000 ∧ Q (.str d.shown) H
theorem call_reprD {X : Cx} (noG : X.A.guards = some []) (hu : X.A.units + 65 < cLine) : CallR X (.builtin "repr") (rReprD X.K) := by
  intro pins s σ H xs us Q I r h
  obtain ⟨a, d, k, n, rfl, hd, rp, hk, hn, q⟩ := h
  cases r with
  | cons r1 rr =>
    cases rr
    obtain ⟨as, rd⟩ := Dp.reads I d _ _ hd r1
    cases (show _ = Value.ref a from r1)
    have dp := rp.dp
    exact repr_of_reads' rd rp.sh (fun z => by rw [rp.nd] at z; cases z) noG (by omega) (fun _ _ e => e) (fun h' u tk keep => ⟨.str d.shown, H, I.kept keep, ⟨u, rfl⟩, q⟩) (rp.size hn)
end RG7

/-! ### the mathematics of the line -/
namespace Ln
/-- tick, turn, wait -/
abbrev Let := Int × Int × Option Int
def step (b τ u : Int) (s : List Let × Int) : List Let × Int := if s.2 > b then (s.1 ++ [(τ, u, none)], s.2) else (s.1 ++ [(τ, u, some s.2)], s.2 + 1)
def turns (b τ : Int) : Nat → List Let × Int → List Let × Int
  | 0, s => s
  | k + 1, s => step b τ (1 + (k : Int)) (turns b τ k s)
def close (c : Int) : Int := if c > 0 then c - 1 else c
def pre (b : Int) (cs : List Int) : Nat → List Let × Int
  | 0 => ([], 0)
  | i + 1 => ((turns b (i : Int) (cs.getD i 0).toNat (pre b cs i)).1, close (turns b (i : Int) (cs.getD i 0).toNat (pre b cs i)).2)
def letts (b : Int) (cs : List Int) : List Let := (pre b cs cs.length).1
def behind (b : Int) (cs : List Int) : Nat → List Int
  | 0 => []
  | i + 1 => behind b cs i ++ [(pre b cs (i + 1)).2]
theorem step_len (b τ u : Int) (s : List Let × Int) : (step b τ u s).1.length = s.1.length + 1 := by
  unfold step
  split <;> simp
theorem turns_len (b τ : Int) : ∀ (k : Nat) (s : List Let × Int), (turns b τ k s).1.length = s.1.length + k
  | 0, _ => rfl
  | k + 1, s => by
    unfold turns
    rw [step_len, turns_len b τ k s, Nat.add_assoc]
theorem turns_rng {b τ : Int} : ∀ (k : Nat) (s : List Let × Int), 0 ≤ s.2 → s.2 ≤ b + 1 → 0 ≤ (turns b τ k s).2 ∧ (turns b τ k s).2 ≤ b + 1
  | 0, s, h0, h1 => ⟨h0, h1⟩
  | k + 1, s, h0, h1 => by
    have ih := turns_rng (τ := τ) k s h0 h1
    unfold turns step
    split
    · exact ih
    · show 0 ≤ (turns b τ k s).2 + 1 ∧ (turns b τ k s).2 + 1 ≤ b + 1
      omega
theorem close_rng {b c : Int} (hb : 0 ≤ b) (h0 : 0 ≤ c) (h1 : c ≤ b + 1) : 0 ≤ close c ∧ close c ≤ b := by
  unfold close
  split <;> omega
theorem pre_rng {b : Int} (hb : 0 ≤ b) (cs : List Int) : ∀ i, 0 ≤ (pre b cs i).2 ∧ (pre b cs i).2 ≤ b
  | 0 => ⟨Int.le_refl _, hb⟩
  | i + 1 => by
    have ih := pre_rng hb cs i
    have t := turns_rng (b := b) (τ := (i : Int)) (cs.getD i 0).toNat (pre b cs i) ih.1 (by omega)
    unfold pre
    exact close_rng hb t.1 t.2
theorem pre_len {b : Int} {cs : List Int} (hc : ∀ c ∈ cs, c ≤ 4) : ∀ i, (pre b cs i).1.length ≤ 4 * i
  | 0 => Nat.le_refl _
  | i + 1 => by
    have ih := pre_len (b := b) hc i
    unfold pre
    rw [turns_len]
    have : cs.getD i 0 ≤ 4 := by
      rw [List.getD_eq_getElem?_getD]
      cases h : cs[i]? with
      | none => decide
      | some c => exact hc c (List.mem_of_getElem? h)
    omega
theorem behind_len (b : Int) (cs : List Int) : ∀ i, (behind b cs i).length = i
  | 0 => rfl
  | i + 1 => by
    unfold behind
    rw [List.length_append, behind_len b cs i]
    rfl
theorem getD_of {cs : List Int} {i : Nat} {c : Int} (h : cs[i]? = some c) : cs.getD i 0 = c := by
  rw [List.getD_eq_getElem?_getD, h]
  rfl
/-! pairs of who goes out when -/
def one (l : Let) (n : Int) : List (Int × Int) := match l.2.2 with
  | none => []
  | some w => [(l.1 + w, n)]
def outsFrom : Int → List Let → List (Int × Int)
  | _, [] => []
  | n, l :: r => one l n ++ outsFrom (n + 1) r
theorem outs_snoc : ∀ (L : List Let) (n : Int) (l : Let), outsFrom n (L ++ [l]) = outsFrom n L ++ one l (n + (L.length : Int))
  | [], n, l => by
    show one l n ++ [] = [] ++ one l (n + ((0 : Nat) : Int))
    rw [List.append_nil, List.nil_append]
    congr 1
    omega
  | x :: L, n, l => by
    show one x n ++ outsFrom (n + 1) (L ++ [l]) = (one x n ++ outsFrom (n + 1) L) ++ one l _
    rw [outs_snoc L (n + 1) l, List.append_assoc]
    congr 3
    rw [List.length_cons]
    omega
theorem one_len (l : Let) (n : Int) : (one l n).length ≤ 1 := by
  unfold one
  split <;> simp
theorem outs_len : ∀ (L : List Let) (n : Int), (outsFrom n L).length ≤ L.length
  | [], _ => Nat.le_refl _
  | l :: r, n => by
    show (one l n ++ outsFrom (n + 1) r).length ≤ r.length + 1
    have := outs_len r (n + 1)
    have := one_len l n
    rw [List.length_append]
    omega
def qp : Int → List Int → List (Int × Int)
  | _, [] => []
  | τ, n :: r => (τ, n) :: qp (τ + 1) r
theorem qp_snoc : ∀ (q : List Int) (τ n : Int), qp τ (q ++ [n]) = qp τ q ++ [(τ + (q.length : Int), n)]
  | [], τ, n => by
    show [(τ, n)] = [(τ + ((0 : Nat) : Int), n)]
    rw [show τ + ((0 : Nat) : Int) = τ by omega]
  | x :: q, τ, n => by
    show (τ, x) :: qp (τ + 1) (q ++ [n]) = (τ, x) :: (qp (τ + 1) q ++ [_])
    rw [qp_snoc q (τ + 1) n, List.length_cons]
    congr 4
    omega
/-- a queue of the law's own line, by the letters that came -/
def Led (τ : Int) (s : List Let × Int) (q : List Int) (prs : List (Int × Int)) : Prop := (q.length : Int) = s.2 ∧ prs ++ qp τ q = outsFrom 0 s.1
theorem Led.no {b τ u : Int} {s : List Let × Int} {q : List Int} {prs} (h : Led τ s q prs) (hb : s.2 > b) : Led τ (step b τ u s) q prs ∧ step b τ u s = (s.1 ++ [(τ, u, none)], s.2) := by
  have e : step b τ u s = (s.1 ++ [(τ, u, none)], s.2) := by
    unfold step
    rw [if_pos hb]
  refine ⟨?_, e⟩
  rw [e]
  refine ⟨h.1, ?_⟩
  rw [outs_snoc, ← h.2]
  show _ = _ ++ []
  rw [List.append_nil]
theorem Led.yes {b τ u : Int} {s : List Let × Int} {q : List Int} {prs} (h : Led τ s q prs) (hb : ¬ s.2 > b) : Led τ (step b τ u s) (q ++ [(s.1.length : Int)]) prs ∧ step b τ u s = (s.1 ++ [(τ, u, some s.2)], s.2 + 1) := by
  have e : step b τ u s = (s.1 ++ [(τ, u, some s.2)], s.2 + 1) := by
    unfold step
    rw [if_neg hb]
  refine ⟨?_, e⟩
  rw [e]
  refine ⟨?_, ?_⟩
  · rw [List.length_append]
    show ((q.length + 1 : Nat) : Int) = s.2 + 1
    have := h.1
    omega
  · show _ = outsFrom 0 (s.1 ++ [(τ, u, some s.2)])
    rw [outs_snoc, ← h.2, qp_snoc, ← List.append_assoc, h.1]
    show _ = _ ++ [(τ + s.2, (0 : Int) + (s.1.length : Int))]
    rw [Int.zero_add]
/-- each one goes out in its time -/
def Due (τ : Int) (L : List Let) (q : List Int) (prs : List (Int × Int)) : Prop := prs ++ qp τ q = outsFrom 0 L
theorem Due.pop {τ : Int} {L : List Let} {x : Int} {q : List Int} {prs} (h : Due τ L (x :: q) prs) : Due (τ + 1) L q (prs ++ [(τ, x)]) := by
  unfold Due at *
  rw [← h, List.append_assoc]
  rfl
theorem Due.nil {τ τ' : Int} {L : List Let} {prs} (h : Due τ L [] prs) : Due τ' L [] prs := h
theorem ticks_turns (b τ : Int) : ∀ (k : Nat) (s : List Let × Int), (turns b τ k s).1.map (·.1) = s.1.map (·.1) ++ List.replicate k τ
  | 0, s => by simp [turns]
  | k + 1, s => by
    have ih := ticks_turns b τ k s
    have e : (step b τ (1 + (k : Int)) (turns b τ k s)).1.map (·.1) = (turns b τ k s).1.map (·.1) ++ [τ] := by
      unfold step
      split <;> simp
    unfold turns
    rw [e, ih, List.append_assoc, List.replicate_succ']
def ticksOf (cs : List Int) : Nat → List Int
  | 0 => []
  | i + 1 => ticksOf cs i ++ List.replicate (cs.getD i 0).toNat (i : Int)
theorem ticks_are (b : Int) (cs : List Int) : ∀ i, (pre b cs i).1.map (·.1) = ticksOf cs i
  | 0 => rfl
  | i + 1 => by
    show (turns b (i : Int) (cs.getD i 0).toNat (pre b cs i)).1.map (·.1) = ticksOf cs i ++ _
    rw [ticks_turns, ticks_are b cs i]
theorem ticks_len {cs : List Int} (hc : ∀ c ∈ cs, c ≤ 4) (i : Nat) : (ticksOf cs i).length ≤ 4 * i := by
  rw [← ticks_are 0 cs i, List.length_map]
  exact pre_len hc i
theorem getD_past {cs : List Int} {i : Nat} (h : cs.length ≤ i) : cs.getD i 0 = 0 := by
  rw [List.getD_eq_getElem?_getD, List.getElem?_eq_none h]
  rfl
theorem pre_past {b : Int} (hb : 0 ≤ b) (cs : List Int) : ∀ d : Nat, (pre b cs (cs.length + d)).1 = letts b cs ∧ ((pre b cs (cs.length + d)).2 ≤ b - d ∨ (pre b cs (cs.length + d)).2 ≤ 0)
  | 0 => ⟨rfl, .inl (by
    have := (pre_rng hb cs cs.length).2
    show (pre b cs cs.length).2 ≤ b - ((0 : Nat) : Int)
    omega)⟩
  | d + 1 => by
    have ih := pre_past hb cs d
    have e : turns b ((cs.length + d : Nat) : Int) (cs.getD (cs.length + d) 0).toNat (pre b cs (cs.length + d)) = pre b cs (cs.length + d) := by
      rw [getD_past (by omega)]
      rfl
    have e1 : (pre b cs (cs.length + (d + 1))).1 = (turns b ((cs.length + d : Nat) : Int) (cs.getD (cs.length + d) 0).toNat (pre b cs (cs.length + d))).1 := rfl
    have e2 : (pre b cs (cs.length + (d + 1))).2 = close (turns b ((cs.length + d : Nat) : Int) (cs.getD (cs.length + d) 0).toNat (pre b cs (cs.length + d))).2 := rfl
    rw [e] at e1 e2
    refine ⟨e1.trans ih.1, ?_⟩
    rw [e2]
    unfold close
    have := ih.2
    split <;> omega
end Ln

/-! ## heaps, tuples, data, sorts -/
namespace My
open PySem PySem.Spec PyProof.Rows L2
--ANN _law_pick | cut if tape[1] < len(tape[0]): | cut
/-! ### heaps -/
theorem same_upd {H : Hp} {p : Addr} {o : HO} (h : H p = none) : Same H (upd H p o) := fun b x e => by
  rw [upd_ne (ne_of_none e h)]
  exact e
/-- all but t stays -/
def Moved (t : Addr) (H H' : Hp) : Prop := ∀ b o, b ≠ t → H b = some o → H' b = some o
theorem Moved.refl {t : Addr} {H : Hp} : Moved t H H := fun _ _ _ h => h
theorem Moved.trans {t : Addr} {H H1 H2 : Hp} (a : Moved t H H1) (b : Moved t H1 H2) : Moved t H H2 := fun c o n h => b c o n (a c o n h)
theorem Moved.upd {t : Addr} {H : Hp} {o : HO} : Moved t H (upd H t o) := fun b x n e => by
  rw [upd_ne n]
  exact e
theorem Moved.same {t : Addr} {H H' : Hp} (h : Same H H') : Moved t H H' := fun b o _ e => h b o e
theorem Moved.free {t : Addr} {H H' : Hp} (h : Moved t H H') {p : Addr} (n : p ≠ t) (e : H' p = none) : H p = none := by
  cases q : H p with
  | none => rfl
  | some o =>
    rw [h p o n q] at e
    cases e
/-! ### the tape: where the draws stand -/
def Tape (H : Hp) (t s : Addr) : Prop := ∃ (ns : List Int) (pos rest mx ct : Int), s ≠ t ∧ H t = some (.lst [.ref s, .int pos, .int rest, .int mx, .int ct]) ∧ H s = some (.lst (ns.map V.int)) ∧ 0 ≤ pos
theorem Tape.keep {t s : Addr} {H H' : Hp} (h : Tape H t s) (e : Same H H') : Tape H' t s := by
  obtain ⟨ns, a, b, c, d, h1, h2, h3, h4⟩ := h
  exact ⟨ns, a, b, c, d, h1, e _ _ h2, e _ _ h3, h4⟩
theorem Tape.ne {t s p : Addr} {H : Hp} (h : Tape H t s) (np : H p = none) : p ≠ t := fun e => by
  obtain ⟨ns, a, b, c, d, h1, h2, h3, h4⟩ := h
  rw [e, h2] at np
  cases np
theorem Tape.ne2 {t s p : Addr} {H : Hp} (h : Tape H t s) (np : H p = none) : p ≠ s := fun e => by
  obtain ⟨ns, a, b, c, d, h1, h2, h3, h4⟩ := h
  rw [e, h3] at np
  cases np
theorem Tape.but {t s r : Addr} {H : Hp} {o : HO} (h : Tape H t s) (n : r ≠ t) (n2 : r ≠ s) : Tape (upd H r o) t s := by
  obtain ⟨ns, a, b, c, d, h1, h2, h3, h4⟩ := h
  refine ⟨ns, a, b, c, d, h1, ?_, ?_, h4⟩
  · rw [upd_ne n.symm]
    exact h2
  · rw [upd_ne n2.symm]
    exact h3
section
variable {K : PySem.W.Frag} {H : Hp}
theorem tyTup {a : Addr} {xs : List V} (h : SqT K H a xs) : TyX K H (.ref a) (.type "tuple") := by
  rcases h with (h | ⟨o, h⟩) | h
  · exact .base (.tup h)
  · exact .fTuple h
  · obtain ⟨o, n, vs, e, c, _⟩ := h
    exact .kTuple e c
theorem sT {H' : Hp} {a : Addr} {xs : List V} (e : Same H H') (h : SqT K H a xs) : SqT K H' a xs := by
  rcases h with (h | ⟨o, h⟩) | h
  · exact .inl (.inl (e _ _ h))
  · exact .inl (.inr ⟨o, e _ _ h⟩)
  · exact .inr h
end
/-! ### new tuples, one for each -/
theorem small2000 {n : Nat} (h : n ≤ 2000) : n < sizeLine := by
  show n < 2 ^ 24
  omega
inductive Tups {α : Type} (f : α → List V) (H : Hp) : List Addr → List α → Prop
  | nil : Tups f H [] []
  | cons {p : Addr} {x : α} {ps : List Addr} {xs : List α} : H p = some (.tup (f x)) → Tups f H ps xs → Tups f H (p :: ps) (x :: xs)
section
variable {α : Type} {f : α → List V} {H H' : Hp}
theorem Tups.keep {ps : List Addr} {xs : List α} (h : Tups f H ps xs) (e : ∀ b ys, H b = some (.tup ys) → H' b = some (.tup ys)) : Tups f H' ps xs := by
  induction h with
  | nil => exact .nil
  | cons a _ ih => exact .cons (e _ _ a) ih
theorem Tups.same {ps : List Addr} {xs : List α} (h : Tups f H ps xs) (e : Same H H') : Tups f H' ps xs := h.keep fun b ys z => e _ _ z
theorem Tups.put {ps : List Addr} {xs : List α} (h : Tups f H ps xs) {L : Addr} {ys : List V} {o : HO} (e : H L = some (.lst ys)) : Tups f (upd H L o) ps xs := h.keep fun b zs z => by
  rw [upd_ne (fun q => by rw [q, e] at z; cases z)]
  exact z
theorem Tups.new {ps : List Addr} {xs : List α} (h : Tups f H ps xs) {p : Addr} {o : HO} (e : H p = none) : Tups f (upd H p o) ps xs := h.same (same_upd e)
theorem Tups.snoc {ps : List Addr} {xs : List α} {p : Addr} {x : α} (h : Tups f H ps xs) (e : H p = some (.tup (f x))) : Tups f H (ps ++ [p]) (xs ++ [x]) := by
  induction h with
  | nil => exact .cons e .nil
  | cons a _ ih => exact .cons a ih
theorem Tups.append {ps qs : List Addr} {xs ys : List α} (h : Tups f H ps xs) (k : Tups f H qs ys) : Tups f H (ps ++ qs) (xs ++ ys) := by
  induction h with
  | nil => exact k
  | cons a _ ih => exact .cons a ih
theorem Tups.length {ps : List Addr} {xs : List α} (h : Tups f H ps xs) : ps.length = xs.length := by
  induction h with
  | nil => rfl
  | cons a _ ih => rw [List.length_cons, List.length_cons, ih]
theorem Tups.get {ps : List Addr} {xs : List α} (h : Tups f H ps xs) : ∀ {i : Nat} {v : V}, (ps.map V.ref)[i]? = some v → ∃ p x, v = .ref p ∧ xs[i]? = some x ∧ H p = some (.tup (f x)) := by
  induction h with
  | nil =>
    intro i v h
    simp at h
  | cons a _ ih =>
    intro i v h
    cases i with
    | zero =>
      simp at h
      exact ⟨_, _, h.symm, rfl, a⟩
    | succ i =>
      simp only [List.map_cons, List.getElem?_cons_succ] at h ⊢
      exact ih h
end
def wv : Option Int → V
  | none => .non
  | some w => .int w
def pv2 (p : Int × Int) : List V := [.int p.1, .int p.2]
/-! ### data that is compared -/
def wd : Option Int → PyData
  | none => .none
  | some w => .int w
def pd2 (p : Int × Int) : PyData := .tuple [.int p.1, .int p.2]
def dInts (ns : List Int) : PyData := .list (ns.map PyData.int)
def dWs (ws : List (Option Int)) : PyData := .list (ws.map wd)
def dPrs (ps : List (Int × Int)) : PyData := .list (ps.map pd2)
section
variable {K : PySem.W.Frag} {H : Hp}
theorem dpa_ints : ∀ ns : List Int, DpAll K H (ns.map V.int) (ns.map PyData.int)
  | [] => .nil
  | n :: ns => .cons (.int n) (dpa_ints ns)
theorem dp_wd : ∀ w : Option Int, Dp K H (wv w) (wd w)
  | none => .non
  | some w => .int w
theorem dpa_ws : ∀ ws : List (Option Int), DpAll K H (ws.map wv) (ws.map wd)
  | [] => .nil
  | w :: ws => .cons (dp_wd w) (dpa_ws ws)
theorem dpa_prs {ps : List Addr} {xs : List (Int × Int)} (h : Tups pv2 H ps xs) : DpAll K H (ps.map V.ref) (xs.map pd2) := by
  induction h with
  | nil => exact .nil
  | cons a _ ih => exact .cons (.tup (SqT.of a) (.cons (.int _) (.cons (.int _) .nil))) ih
end
theorem lay_all {α : Type} {f : α → PyData} (h : ∀ x, (f x).canLay0 = true) : ∀ xs : List α, PyData.canLayAll0 (xs.map f) = true
  | [] => by simp [PyData.canLayAll0]
  | x :: xs => by
    rw [List.map_cons, PyData.canLayAll0, h x, lay_all h xs]
    rfl
theorem dep_all {α : Type} {f : α → PyData} {d : Nat} (h : ∀ x, (f x).depth ≤ d) : ∀ xs : List α, PyData.depthAll (xs.map f) ≤ d
  | [] => by simp [PyData.depthAll]
  | x :: xs => by
    have h1 := h x
    have h2 := dep_all h xs
    rw [List.map_cons, PyData.depthAll]
    omega
/-- can be laid, and is at most d deep -/
def Shp (d : Nat) (x : PyData) : Prop := x.canLay0 = true ∧ x.depth ≤ d
theorem Shp.ok {d : Nat} {x : PyData} (h : Shp d x) (hd : d ≤ 64) : SeqAt.shaped x = true := by
  show (x.canLay0 && decide (x.depth ≤ 64)) = true
  rw [Bool.and_eq_true]
  exact ⟨h.1, decide_eq_true (Nat.le_trans h.2 hd)⟩
theorem Shp.int (i : Int) : Shp 1 (.int i) := ⟨by simp [PyData.canLay0], by simp [PyData.depth]⟩
theorem Shp.wd (w : Option Int) : Shp 1 (wd w) := by
  cases w <;> exact ⟨by simp [My.wd, PyData.canLay0], by simp [My.wd, PyData.depth]⟩
theorem Shp.list {α : Type} {f : α → PyData} {d : Nat} (h : ∀ x, Shp d (f x)) (xs : List α) : Shp (d + 1) (.list (xs.map f)) := by
  have h1 := lay_all (fun x => (h x).1) xs
  have h2 := dep_all (fun x => (h x).2) xs
  exact ⟨by simp only [PyData.canLay0]; exact h1, by simp only [PyData.depth]; omega⟩
theorem Shp.tup0 : Shp 1 (.tuple []) := ⟨by simp [PyData.canLay0, PyData.canLayAll0], by simp [PyData.depth, PyData.depthAll]⟩
theorem Shp.tupC {d : Nat} {x : PyData} {xs : List PyData} (h : Shp d x) (t : Shp (d + 1) (.tuple xs)) : Shp (d + 1) (.tuple (x :: xs)) := by
  obtain ⟨a, b⟩ := h
  obtain ⟨c, e⟩ := t
  simp only [PyData.canLay0] at c
  simp only [PyData.depth] at e
  refine ⟨?_, ?_⟩
  · simp only [PyData.canLay0, PyData.canLayAll0, a, c, Bool.and_self]
  · simp only [PyData.depth, PyData.depthAll]
    omega
theorem Shp.up {d e : Nat} {x : PyData} (h : Shp d x) (le : d ≤ e) : Shp e x := ⟨h.1, Nat.le_trans h.2 le⟩
theorem Shp.pd2 (p : Int × Int) : Shp 2 (pd2 p) := .tupC (.int _) (.tupC (.int _) (Shp.tup0.up (by decide)))
theorem Shp.ints (ns : List Int) : Shp 2 (dInts ns) := .list Shp.int ns
theorem Shp.ws (ws : List (Option Int)) : Shp 2 (dWs ws) := .list Shp.wd ws
theorem Shp.prs (ps : List (Int × Int)) : Shp 3 (dPrs ps) := .list Shp.pd2 ps
theorem eqv_same {d : Nat} {x : PyData} (h : Shp d x) : PyData.eqv x x = true := SeqAt.eqv_refl x h.1
theorem iteNE {b : Bool} {A B : Prop} (hb : b = true) (h : B) : if (!b) = true then A else B := by
  subst hb
  exact iteF h
theorem ne_same {d : Nat} {x : PyData} (h : Shp d x) : V.bl (!PyData.eqv x x) = V.bl false := by
  rw [eqv_same h]
  rfl
theorem eq_same {d : Nat} {x : PyData} (h : Shp d x) : V.bl (PyData.eqv x x) = V.bl true := by
  rw [eqv_same h]

theorem flat_one {α : Type} (n : Nat) (x : α) : (List.replicate n [x]).flatten = List.replicate n x := by
  induction n with
  | zero => rfl
  | succ n ih => rw [List.replicate_succ, List.flatten_cons, ih]; rfl
theorem take_snoc {α : Type} {l : List α} {i : Nat} {x : α} (h : l[i]? = some x) : l.take (i + 1) = l.take i ++ [x] := by
  rw [List.take_add_one, h]
  rfl
theorem same_put {H H' : Hp} {p : Addr} {o : HO} (sm : Same H H') (n : H p = none) : Same H (upd H' p o) := fun b x e => (upd_ne (ne_of_none e n)).trans (sm b x e)
theorem ne_no {a b : Int} (h : a = b) : V.bl (!decide (V.int a = V.int b)) = V.bl false := by
  subst h
  rw [decide_eq_true rfl]
  rfl
theorem ixN_nat {n : Nat} {p : Int} (h0 : 0 ≤ p) (h1 : p < (n : Int)) : ixN n p = some p.toNat := by
  unfold ixN
  rw [if_pos h0, if_pos h1]
theorem atI_of {xs : List V} {p : Int} {v : V} (h0 : 0 ≤ p) (h : xs[p.toNat]? = some v) : atI xs p = some v := by
  have e := atI_nat h
  rw [show ((p.toNat : Nat) : Int) = p by omega] at e
  exact e
theorem ixTK {X : Cx} {K : PySem.W.Frag} (h : X.K = K) : IxR X (rIxT K) := h ▸ ix_tup
theorem ixLK {X : Cx} {K : PySem.W.Frag} (h : X.K = K) : IxR X (rIxL K) := h ▸ ix_list
def rLenS (K : PySem.W.Frag) : List V → Hp → VK → Prop := fun xs H Q => ∃ p ys, xs = [.ref p] ∧ (SqL K H p ys ∨ SqT K H p ys) ∧ Q (.int ys.length) H
theorem lenK {X : Cx} {K : PySem.W.Frag} (h : X.K = K) : CallR X (.builtin "len") (rLenS K) := h ▸ call_len_seq
theorem isiK {X : Cx} {K : PySem.W.Frag} (h : X.K = K) : CallR X (.builtin "isinstance") (rIsi K) := h ▸ call_isi
theorem notInK {X : Cx} {K : PySem.W.Frag} (h : X.K = K) : OpR X (compareOp .NotIn) (rIn K true) := h ▸ op_notIn_seq
theorem inK {X : Cx} {K : PySem.W.Frag} (h : X.K = K) : OpR X (compareOp .In) (rIn K false) := h ▸ op_in_seq
/-! ### tuples of ints as data -/
def fI (r : List Int) : List V := r.map V.int
def dI (r : List Int) : PyData := .tuple (r.map PyData.int)
def dT (rs : List (List Int)) : PyData := .list (rs.map dI)
theorem units65 {k : Nat} {A : Around} (r : Room k A) : A.units + 65 < cLine := by
  have := r.un
  omega
theorem Shp.tuple {α : Type} {f : α → PyData} {d : Nat} (h : ∀ x, Shp d (f x)) (xs : List α) : Shp (d + 1) (.tuple (xs.map f)) := by
  have h1 := lay_all (fun x => (h x).1) xs
  have h2 := dep_all (fun x => (h x).2) xs
  exact ⟨by simp only [PyData.canLay0]; exact h1, by simp only [PyData.depth]; omega⟩
theorem Shp.dI (r : List Int) : Shp 2 (dI r) := .tuple Shp.int r
theorem Shp.dT (rs : List (List Int)) : Shp 3 (dT rs) := .list Shp.dI rs
theorem dp_dI {K : PySem.W.Frag} {H : Hp} {p : Addr} {r : List Int} (h : SqT K H p (r.map V.int)) : Dp K H (.ref p) (My.dI r) := .tup h (dpa_ints r)
theorem dpa_dT {K : PySem.W.Frag} {H : Hp} {ps : List Addr} {rs : List (List Int)} (h : Tups fI H ps rs) : DpAll K H (ps.map V.ref) (rs.map My.dI) := by
  induction h with
  | nil => exact .nil
  | cons a _ ih => exact .cons (dp_dI (SqT.of a)) ih
theorem dp_dT {K : PySem.W.Frag} {H : Hp} {L : Addr} {ps : List Addr} {rs : List (List Int)} (e : H L = some (.lst (ps.map V.ref))) (h : Tups fI H ps rs) : Dp K H (.ref L) (My.dT rs) := .lst (SqL.of e) (dpa_dT h)
theorem eqvA : ∀ a b : List Int, PyData.eqvAll (a.map PyData.int) (b.map PyData.int) = decide (a = b)
  | [], [] => by simp [PyData.eqvAll]
  | [], _ :: _ => by simp [PyData.eqvAll]
  | _ :: _, [] => by simp [PyData.eqvAll]
  | x :: a, y :: b => by
    rw [List.map_cons, List.map_cons, PyData.eqvAll, eqvA a b]
    simp only [PyData.eqv]
    by_cases h : x = y
    · subst h
      simp
    · simp [h]
theorem eqvI (a b : List Int) : PyData.eqv (My.dI a) (My.dI b) = decide (a = b) := by
  unfold My.dI
  rw [PyData.eqv]
  exact eqvA a b
theorem not_any {rs : List (List Int)} {r : List Int} (h : r ∉ rs) : ((rs.map My.dI).any fun z => PyData.eqv z (My.dI r)) = false := by
  rw [List.any_map, List.any_eq_false]
  intro x hx
  show ¬ PyData.eqv (My.dI x) (My.dI r) = true
  rw [eqvI]
  intro z
  exact h (of_decide_eq_true z ▸ hx)
/-! ### a tuple whose object is known: its methods -/
def Frz (H : Hp) (p : Addr) (xs : List V) : Prop := ∃ o : Obj, H p = some (.frz o (.tup xs)) ∧ o.dict = none
theorem Frz.sq {K : PySem.W.Frag} {H : Hp} {p : Addr} {xs : List V} (h : Frz H p xs) : SqT K H p xs := let ⟨o, e, _⟩ := h; .inl (.inr ⟨o, e⟩)
theorem Frz.same {H H' : Hp} {p : Addr} {xs : List V} (h : Frz H p xs) (e : Same H H') : Frz H' p xs := let ⟨o, a, b⟩ := h; ⟨o, e _ _ a, b⟩
theorem Frz.moved {t : Addr} {H H' : Hp} {p : Addr} {xs : List V} (h : Frz H p xs) (n : p ≠ t) (e : Moved t H H') : Frz H' p xs := let ⟨o, a, b⟩ := h; ⟨o, e _ _ n a, b⟩
theorem Frz.of {H H' : Hp} {p : Addr} {xs : List V} (h : Frz H p xs) (e : ∀ o, H p = some o → H' p = some o) : Frz H' p xs := let ⟨o, a, b⟩ := h; ⟨o, e _ a, b⟩
theorem Frz.ne {H : Hp} {p q : Addr} {xs : List V} (h : Frz H p xs) (n : H q = none) : p ≠ q := let ⟨_, a, _⟩ := h; ne_of_none a n
theorem Frz.tape {H : Hp} {p t s : Addr} {xs : List V} (h : Frz H p xs) (tp : Tape H t s) : p ≠ t := fun e => by
  obtain ⟨o, a, _⟩ := h
  obtain ⟨_, _, _, _, _, _, e2, _⟩ := tp
  rw [e, e2] at a
  cases a
theorem call_tupleF {X : Cx} : CallR X (.type "tuple") (fun xs H Q => ∃ p ys, xs = [.ref p] ∧ SqL X.K H p ys ∧ ∀ l H', H l = none → Same H H' → Frz H' l ys → (∀ b, b ≠ l → H' b = H b) → Q (.ref l) H') := by
  intro pins s σ H xs us Q I r h
  obtain ⟨p, ys, rfl, hq, q⟩ := h
  obtain ⟨u, rfl, rx⟩ := vals1 r
  cases rx
  obtain ⟨its, r', pl, hz⟩ := I.list hq
  have hlen := r'.length
  refine call_tuple_list pl.isList (fun h' kp => ?_) (by simp only [List.size_toArray] <;> omega)
  have I1 : Inv X pins σ H { s with heap := h' } := I.kept (t' := s.toks) kp
  have I2 : Inv X pins σ (upd H h'.objs.size (.frz { cls := .type "tuple", data := .seq its.toArray } (.tup ys))) { s with heap := h'.push { cls := .type "tuple", data := .seq its.toArray } } :=
    I1.laid (t' := s.toks) (fun b o e => Heap.get?_push_of_some _ e) (Nat.le_refl _) (show ObjOk X.prog X.w _ _ _ (.frz _ (.tup ys)) from ⟨Heap.get?_push_size _ rfl, hz, its, r', IsTup.new _ _⟩)
  have nl := I1.hok.fresh (Nat.le_refl _)
  exact ⟨.ref h'.objs.size, _, I2, rfl, q _ _ nl (same_upd nl) ⟨_, upd_same, rfl⟩ fun b n => upd_ne n⟩
def tTM (r : V → List V → Hp → VK → Prop) (to : TE) (t : TA) : TE := fun σ H Q => to σ H fun x H1 => (∃ p xs, x = .ref p ∧ Frz H1 p xs) ∧ t σ H1 fun xs H2 => r x xs H2 Q
theorem pe_tm {X : Cx} {o e : Expr} {es : List Expr} {to : TE} {t : TA} {name : Str} {apos cpos : Pos} {id : String} {r : V → List V → Hp → VK → Prop} (pa : PlainAttrs "tuple") (slot : Slot "tuple" name id) (hty : typeOf (.builtin id) = pure (.type "method_descriptor")) (hm : MtR X id r) (ho : PE X o to) (ha : PA X (e :: es) t)
    (hbase : attributeBase o name X.env (eval o X.env) = eval o X.env := by rfl)
    (hfew : ((backTo cpos (starEach (e :: es) X.env)).all (fun x => !x.1) && (backToKw cpos (keywordEach [] X.env)).all (fun x => x.1.isSome)
      && decide ((e :: es).length + ([] : List Keyword).length + (if ([] : List Keyword).isEmpty then 0 else 1) < 30)) = true := by rfl)
    (hline : (apos.endLine == cpos.line) = true := by rfl) (hs : starEach (e :: es) X.env = (false, eval e X.env) :: starEach es X.env := by rfl) (hplain : (backTo cpos (starEach es X.env)).any (·.1) = false := by rfl) :
    PE X (.Call (.Attribute o name apos) (e :: es) [] cpos) (tTM r to t) := by
  refine ⟨fun pins s σ H Q I h => ?_⟩
  refine wpAny_Call_method_late hbase hfew hline rfl (thn (ho.run pins s σ H _ I h) fun v s1 ⟨x, H1, I1, r1, ty, q1⟩ => ?_)
  obtain ⟨p, xs, rfl, ob, hp, hd⟩ := ty
  cases r1
  obtain ⟨hob, _, its, _, ⟨o2, ho2, hc2, _⟩⟩ := I1.hok _ _ hp
  have eo : o2 = ob := Option.some.inj (ho2.symm.trans hob)
  subst eo
  refine ⟨"tuple", id, pa, slot, hty, ⟨_, hob, hc2⟩, fun a ea => ?_, ?_⟩
  · cases ea
    exact ⟨_, hob, hd⟩
  have hA := ha.run cpos pins s1 σ H1 _ I1 q1
  rw [hs] at hA ⊢
  refine Calls.callWith_builtin (by show (false || (backTo cpos (starEach es X.env)).any (·.1)) = false; rw [hplain] <;> rfl) (Calls.evalArgs_plain ?_)
  exact thn hA fun us s2 ⟨vs, H2, I2, r2, q2⟩ => hm pins s2 σ H2 (.ref p) vs _ us Q I2 rfl r2 q2
/-! ### t.index(k), t a tuple of ints -/
theorem flat_ints (ys : List Int) : (ys.map V.int).all flatV = true := by
  rw [List.all_map]
  exact List.all_eq_true.mpr fun _ _ => rfl
def rTIndex (K : PySem.W.Frag) : V → List V → Hp → VK → Prop := fun x xs H Q => ∃ p, ∃ ys : List Int, ∃ z j, x = .ref p ∧ xs = [.int z] ∧ SqT K H p (ys.map V.int) ∧ ys[j]? = some z ∧ (∀ m, m < j → ys[m]? ≠ some z) ∧ Q (.int (j : Nat)) H
theorem mt_tindex {X : Cx} : MtR X "tuple.index" (rTIndex X.K) := by
  intro pins s σ H x xs v us Q I rx rs h
  obtain ⟨p, ys, z, j, rfl, rfl, hq, hy, hno, q⟩ := h
  cases rx
  obtain ⟨u, rfl, t, rfl⟩ := vals1 rs
  obtain ⟨its, r, pl, hz⟩ := I.tuple hq
  obtain ⟨⟨cls, dd, dt, sl⟩, ho, hc, n, hd⟩ := pl
  simp only at hc hd
  subst hc
  subst hd
  have hl : its.toArray.size = ys.length := by rw [List.size_toArray, ← r.length, List.length_map]
  have hj : j < its.toArray.size := by rw [hl]; exact (List.getElem?_eq_some_iff.mp hy).1
  have at' : ∀ (m : Nat) (hm : m < its.toArray.size), ∃ y t', ys[m]? = some y ∧ its.toArray[m] = Value.int y t' := fun m hm => by
    have hm' : m < ys.length := by rw [← hl]; exact hm
    obtain ⟨w, hw, t', hw'⟩ := r.get (i := m) (x := .int ys[m]) (by simp [hm'])
    refine ⟨ys[m], t', List.getElem?_eq_getElem hm', ?_⟩
    have e := (List.getElem?_eq_some_iff.mp hw).2
    rw [← hw', ← e]
    simp
  refine call_meets PySem.F.slot_tuple_index ⟨_, ho, rfl⟩ PySem.F.entry_tuple_index (PySem.F.args_tuple_index_2 _ _) (TI.tuple_indexAt p its.toArray n dd sl (.int z t) (eqU (.int z)) j hj ?_ ?_)
    ⟨ho, fun w hw => mem_eqAt (x := .int z) ⟨t, rfl⟩ rfl r (flat_ints ys) w (by simpa using hw), ⟨.int (j : Nat), H, I.tok _, ⟨_, rfl⟩, q⟩⟩
  · obtain ⟨y, t', h1, h2⟩ := at' j hj
    rw [hy] at h1
    cases h1
    rw [h2]
    show (z == z) = true
    exact beq_self_eq_true z
  · intro m hm hmj
    obtain ⟨y, t', h1, h2⟩ := at' m hm
    rw [h2]
    show (y == z) = false
    exact beq_eq_false_iff_ne.mpr fun e => hno m hmj (e ▸ h1)
/-! ### sorted(xs), xs a list of tuples of d ints from 0 to B, of any length -/
/-- the ints of a tuple that H tracks -/
def intsV (H : Hp) : V → List Int
  | .ref a => match H a with
    | some (.tup xs) => xs.filterMap fun v => match v with
      | .int i => some i
      | _ => none
    | _ => []
  | _ => []
theorem ints_fI (r : List Int) : ((fI r).filterMap fun v => match v with
      | V.int i => some i
      | _ => none) = r := by
  unfold fI
  induction r with
  | nil => rfl
  | cons x r ih => simp [ih]
theorem intsV_of {H : Hp} {a : Addr} {r : List Int} (h : H a = some (.tup (fI r))) : intsV H (.ref a) = r := by
  show (match H a with
    | some (.tup xs) => xs.filterMap fun v => match v with
      | V.int i => some i
      | _ => none
    | _ => []) = r
  rw [h]
  exact ints_fI r
abbrev ltC (B : Int) (k : V → List Int) (x y : V) : Bool := decide (TS.code B (k x) < TS.code B (k y))
theorem swoC {α : Type} (f : α → Int) : SrtO.Swo fun x y => decide (f x < f y) := by
  refine ⟨fun x y h => ?_, fun x y z h1 h2 => ?_⟩
  · have a := of_decide_eq_true h
    exact decide_eq_false (by omega)
  · have a := of_decide_eq_false h1
    have b := of_decide_eq_false h2
    exact decide_eq_false (by omega)
def rSortC (K : PySem.W.Frag) (B : Int) (d : Nat) : List V → Hp → VK → Prop := fun vs H Q => ∃ (a : Addr) (ps : List Addr) (rs : List (List Int)), vs = [V.ref a] ∧ SqL K H a (ps.map V.ref) ∧ Tups fI H ps rs ∧ (∀ r ∈ rs, r.length = d ∧ TS.Bd B r) ∧
  ∀ ps' rs' p, Tups fI H ps' rs' → rs'.Perm rs → rs'.Pairwise (fun x y => TS.code B x ≤ TS.code B y) → H p = none → Q (.ref p) (upd H p (.lst (ps'.map V.ref)))
theorem tups_of {H : Hp} : ∀ {ps : List Addr}, (∀ p ∈ ps, ∃ r, H p = some (.tup (fI r))) → Tups fI H ps (ps.map fun p => intsV H (.ref p))
  | [], _ => .nil
  | p :: ps, h => by
    obtain ⟨r, hr⟩ := h p List.mem_cons_self
    refine .cons ?_ (tups_of fun q hq => h q (List.mem_cons_of_mem _ hq))
    show H p = some (.tup (fI (intsV H (.ref p))))
    rw [intsV_of hr]
    exact hr
theorem Tups.ints {H : Hp} {ps : List Addr} {rs : List (List Int)} (h : Tups fI H ps rs) : rs = ps.map fun p => intsV H (.ref p) := by
  induction h with
  | nil => rfl
  | cons a _ ih => rw [List.map_cons, intsV_of a, ← ih]
theorem Tups.mem {α : Type} {f : α → List V} {H : Hp} {ps : List Addr} {rs : List α} (h : Tups f H ps rs) : ∀ p ∈ ps, ∃ r ∈ rs, H p = some (.tup (f r)) := by
  induction h with
  | nil => exact fun _ h => absurd h (by simp)
  | cons a _ ih =>
    intro p hp
    rcases List.mem_cons.mp hp with rfl | hp
    · exact ⟨_, List.mem_cons_self, a⟩
    · obtain ⟨r, hr, e⟩ := ih p hp
      exact ⟨r, List.mem_cons_of_mem _ hr, e⟩
theorem cr_sortC {X : Cx} {B : Int} {d : Nat} (hd : 1 ≤ d) : CallR X (.builtin "sorted") (rSortC X.K B d) := by
  intro pins s σ H vs us Q I r h
  obtain ⟨a, ps, rs, rfl, hs, tu, hb, q⟩ := h
  obtain ⟨its, rv, hl, hz⟩ := I.list hs
  obtain ⟨u, rfl, ru⟩ := vals1 r
  obtain rfl : u = Value.ref a := ru
  obtain ⟨e1, e2⟩ := refs_back rv fun x m => by
    obtain ⟨t, _, e⟩ := List.mem_map.mp m
    exact ⟨t, e.symm⟩
  have key : ∀ v ∈ its, ∃ p, v = Value.ref p ∧ p ∈ ps := fun v hv => by
    obtain ⟨t, rfl⟩ := e2 v hv
    have hm : V.ref t ∈ ps.map V.ref := by rw [e1]; exact List.mem_map.mpr ⟨_, hv, rfl⟩
    obtain ⟨p, hp, e⟩ := List.mem_map.mp hm
    cases e
    exact ⟨t, rfl, hp⟩
  have tin : ∀ v ∈ its, TS.TupInts s.heap v (intsV H (backV v)) ∧ (intsV H (backV v)).length = d ∧ TS.Bd B (intsV H (backV v)) := fun v hv => by
    obtain ⟨p, rfl, hp⟩ := key v hv
    obtain ⟨r, hr, ep⟩ := tu.mem p hp
    have ei : intsV H (backV (Value.ref p)) = r := intsV_of ep
    rw [ei]
    obtain ⟨its2, r2, pt, _⟩ := I.tuple (SqT.of ep)
    have hb' := hb r hr
    exact ⟨⟨p, its2.toArray, rfl, pt, intsAre_of r2⟩, hb'.1, hb'.2⟩
  refine SrtO.sorted_ord (ltv := fun v u => decide (TS.code B (intsV H (backV v)) < TS.code B (intsV H (backV u)))) (swoC fun v => TS.code B (intsV H (backV v))) hl.isList (by rw [← rv.length]; exact hz) (fun h2 h₁ a' ha' kk => ?_) fun out h1 h2 => ?_
  · intro h' keep
    have keep2 : ∀ b o, s.heap.get? b = some o → o.cls = .type "tuple" → h'.get? b = some o := fun b o e c => keep b o (kk b o e).1 (kk b o e).2
    have tin' : ∀ v ∈ its, TS.TupInts h' v (intsV H (backV v)) ∧ (intsV H (backV v)).length = d ∧ TS.Bd B (intsV H (backV v)) := fun v hv => let ⟨x, y, z⟩ := tin v hv; ⟨x.keeps keep2, y, z⟩
    obtain ⟨fs, k1, k2, k3⟩ := TS.firsts_of (h := h') (d := d) (B := B) hd its fun v hv => ⟨_, tin' v hv⟩
    refine ⟨tuples' true, fun Q E hq => ?_, ?_⟩
    · refine PySem.W.kat_kind (T := .type "int") k1 (by omega) (fun f hm => ?_) (by rfl) ?_
      · obtain ⟨x, t, rfl⟩ := k3 f hm
        exact PySem.W.Looks.now
      · have e : (Value.type "int" != Value.type "tuple") = true := by first | decide +kernel | rfl | decide
        rw [e]
        exact hq
    · intro p q hm hm'
      obtain ⟨⟨a1, xs, x1, ⟨o1, ho1, hc1, n1, hd1⟩, i1⟩, l1, b1⟩ := tin' _ hm
      obtain ⟨⟨a2, ys, x2, ⟨o2, ho2, hc2, n2, hd2⟩, i2⟩, l2, b2⟩ := tin' _ hm'
      show wpAny _ _ (keyLt' _ p.1 q.1) (fun r s' => s' = _ ∧ r = decide (TS.code B (intsV H (backV p.1)) < TS.code B (intsV H (backV q.1)))) (fun _ _ => False) _
      generalize intsV H (backV p.1) = ns at *
      generalize intsV H (backV q.1) = ms at *
      rw [x1, x2]
      refine PySem.W.kat_lt ho1 hd1 ho2 hd2 ?_
      have el : xs.size = ys.size := by
        have z1 := i1.length
        have z2 := i2.length
        simp at z1 z2
        omega
      rw [el, decide_eq_false (Nat.lt_irrefl _)]
      exact TS.lex_ints 0 i1 i2 (by omega) b1 b2 ⟨rfl, rfl⟩
  · obtain ⟨ep, he'⟩ := PyProof.Rows.sortedAll_at s.heap its out.toArray
    have h3 : ∀ u ∈ out, ∃ p, u = Value.ref p ∧ p ∈ ps := fun u hu => key u (h2.perm.mem_iff.mp hu)
    have eo : out.map backV = (out.map fun u => match u with
      | Value.ref a => a
      | _ => 0).map V.ref := by
      rw [List.map_map]
      refine List.map_congr_left fun u hu => ?_
      obtain ⟨p, rfl, _⟩ := h3 u hu
      rfl
    have hp : (out.map backV).Perm (ps.map V.ref) := by
      rw [e1]
      exact h2.perm.map backV
    have hlen : (out.map backV).length ≤ sizeLine := by
      rw [hp.length_eq]
      exact hz
    generalize eps : (out.map fun u => match u with
      | Value.ref a => a
      | _ => 0) = ps' at eo
    have pp : ps'.Perm ps := by
      rw [eo] at hp
      have z := hp.map fun v => match v with
        | V.ref a => a
        | _ => 0
      rw [List.map_map, List.map_map] at z
      have id1 : ∀ l : List Addr, l.map ((fun v => match v with
        | V.ref a => a
        | _ => 0) ∘ V.ref) = l := fun l => by
        induction l with
        | nil => rfl
        | cons x l ih => rw [List.map_cons, ih]; rfl
      rw [id1, id1] at z
      exact z
    have tu' : Tups fI H ps' (ps'.map fun p => intsV H (.ref p)) := tups_of fun p hp => by
      obtain ⟨r, _, e⟩ := tu.mem p (pp.mem_iff.mp hp)
      exact ⟨r, e⟩
    have pw : (ps'.map fun p => intsV H (.ref p)).Pairwise (fun x y => TS.code B x ≤ TS.code B y) := by
      have z : (out.map backV).Pairwise (fun x y => TS.code B (intsV H x) ≤ TS.code B (intsV H y)) := List.pairwise_map.mpr (h1.imp fun {x y} h => Int.not_lt.mp (of_decide_eq_false h))
      rw [eo] at z
      rw [List.pairwise_map] at z ⊢
      exact z
    rw [eo] at hlen
    refine ⟨.ref _, upd H (s.heap.objs.size + 1) (.lst (ps'.map V.ref)), I.laid (t' := s.toks) (fun _ _ => PyProof.Rows.sortedAll_old) (Nat.le_succ _) ⟨hlen, out, ep, ?_, he'⟩, rfl, q ps' _ _ tu' ?_ pw (I.hok.fresh (Nat.le_succ _))⟩
    · rw [← eo]
      exact vals_back fun u hu => by
        obtain ⟨p, e, _⟩ := h3 u hu
        exact ⟨p, e⟩
    · rw [tu.ints]
      exact pp.map _
/-- there is just one such list -/
theorem code_inj {B : Int} : ∀ {d : Nat} {x y : List Int}, x.length = d → y.length = d → TS.Bd B x → TS.Bd B y → TS.code B x = TS.code B y → x = y
  | _, [], [], _, _, _, _, _ => rfl
  | _, [], _ :: _, h1, h2, _, _, _ => by
    subst h1
    cases h2
  | _, _ :: _, [], h1, h2, _, _, _ => by
    subst h2
    cases h1
  | _, a :: x, b :: y, h1, h2, b1, b2, e => by
    have hl : x.length = y.length := by
      rw [List.length_cons] at h1 h2
      omega
    rcases Int.lt_trichotomy a b with z | z | z
    · have := TS.code_lt hl b1.tail b2.tail z
      omega
    · subst z
      have e' : TS.code B x = TS.code B y := by
        have n1 := (TS.code_same (B := B) (d := a) hl).symm
        have n2 := (TS.code_same (B := B) (d := a) hl.symm).symm
        have k1 : ¬ TS.code B x < TS.code B y := fun z => by
          have := n1.mp z
          omega
        have k2 : ¬ TS.code B y < TS.code B x := fun z => by
          have := n2.mp z
          omega
        omega
      rw [code_inj (d := x.length) rfl hl.symm b1.tail b2.tail e']
    · have := TS.code_lt hl.symm b2.tail b1.tail z
      omega
theorem sorted_uniq {B : Int} {d : Nat} : ∀ {l m : List (List Int)}, l.Perm m → (∀ r ∈ m, r.length = d ∧ TS.Bd B r) → l.Pairwise (fun x y => TS.code B x ≤ TS.code B y) → m.Pairwise (fun x y => TS.code B x ≤ TS.code B y) → l = m
  | [], m, p, _, _, _ => (List.nil_perm.mp p).symm
  | x :: l, [], p, _, _, _ => absurd p.length_eq (by simp)
  | x :: l, y :: m, p, hb, a, b => by
    have a' := List.pairwise_cons.mp a
    have b' := List.pairwise_cons.mp b
    have hx : x ∈ y :: m := p.mem_iff.mp List.mem_cons_self
    have hy : y ∈ x :: l := p.mem_iff.mpr List.mem_cons_self
    have e1 : TS.code B x ≤ TS.code B y := by
      rcases List.mem_cons.mp hy with e | h
      · rw [e]
        exact Int.le_refl _
      · exact a'.1 y h
    have e2 : TS.code B y ≤ TS.code B x := by
      rcases List.mem_cons.mp hx with e | h
      · rw [e]
        exact Int.le_refl _
      · exact b'.1 x h
    have e : x = y := code_inj (hb x hx).1 (hb y List.mem_cons_self).1 (hb x hx).2 (hb y List.mem_cons_self).2 (Int.le_antisymm e1 e2)
    subst e
    rw [sorted_uniq (List.Perm.cons_inv p) (fun r hr => hb r (List.mem_cons_of_mem _ hr)) a'.2 b'.2]
end My

/-! ### the mathematics of reach -/
namespace Rch
def ins (x : Int) : List Int → List Int
  | [] => [x]
  | y :: r => if x ≤ y then x :: y :: r else y :: ins x r
def isort : List Int → List Int
  | [] => []
  | x :: r => ins x (isort r)
theorem ins_perm (x : Int) : ∀ l : List Int, (ins x l).Perm (x :: l)
  | [] => .refl _
  | y :: r => by
    unfold ins
    split
    · exact .refl _
    · exact ((ins_perm x r).cons y).trans (.swap x y r)
theorem isort_perm : ∀ l : List Int, (isort l).Perm l
  | [] => .refl _
  | x :: r => (ins_perm x (isort r)).trans ((isort_perm r).cons x)
theorem ins_sorted (x : Int) : ∀ l : List Int, l.Pairwise (· ≤ ·) → (ins x l).Pairwise (· ≤ ·)
  | [], _ => List.pairwise_singleton _ _
  | y :: r, h => by
    unfold ins
    have h' := List.pairwise_cons.mp h
    split
    · next hx =>
      refine List.pairwise_cons.mpr ⟨fun z hz => ?_, h⟩
      rcases List.mem_cons.mp hz with e | hz
      · subst e
        exact hx
      · exact Int.le_trans hx (h'.1 z hz)
    · next hx =>
      refine List.pairwise_cons.mpr ⟨fun z hz => ?_, ins_sorted x r h'.2⟩
      rcases List.mem_cons.mp ((ins_perm x r).mem_iff.mp hz) with e | hz
      · subst e
        omega
      · exact h'.1 z hz
theorem isort_sorted : ∀ l : List Int, (isort l).Pairwise (· ≤ ·)
  | [] => .nil
  | x :: r => ins_sorted x _ (isort_sorted r)
theorem uniq : ∀ {l m : List Int}, l.Perm m → l.Pairwise (· ≤ ·) → m.Pairwise (· ≤ ·) → l = m
  | [], m, p, _, _ => (List.nil_perm.mp p).symm
  | x :: l, [], p, _, _ => absurd p.length_eq (by simp)
  | x :: l, y :: m, p, a, b => by
    have a' := List.pairwise_cons.mp a
    have b' := List.pairwise_cons.mp b
    have e : x = y := by
      have h1 : x ∈ y :: m := p.mem_iff.mp List.mem_cons_self
      have h2 : y ∈ x :: l := p.mem_iff.mpr List.mem_cons_self
      rcases List.mem_cons.mp h1 with e | h1
      · exact e
      · rcases List.mem_cons.mp h2 with e | h2
        · exact e.symm
        · exact Int.le_antisymm (a'.1 y h2) (b'.1 x h1)
    subst e
    rw [uniq (List.Perm.cons_inv p) a'.2 b'.2]
theorem isort_of {l m : List Int} (p : m.Perm l) (h : m.Pairwise (· ≤ ·)) : m = isort l := uniq (p.trans (isort_perm l).symm) h (isort_sorted l)
def greedy : Int → List Int → Int
  | T, [] => T
  | T, l :: r => if l > T + 1 then T else greedy (T + l) r
def reachOf (ns : List Int) : Int := greedy 0 (isort ns)
theorem greedy_ge : ∀ (ls : List Int) (T : Int), (∀ x ∈ ls, 0 ≤ x) → T ≤ greedy T ls
  | [], T, _ => Int.le_refl _
  | l :: r, T, h => by
    unfold greedy
    have h0 := h l List.mem_cons_self
    split
    · exact Int.le_refl _
    · have := greedy_ge r (T + l) fun x hx => h x (List.mem_cons_of_mem _ hx)
      omega
theorem greedy_le : ∀ (ls : List Int) (T : Int), (∀ x ∈ ls, 0 ≤ x ∧ x ≤ 40) → greedy T ls ≤ T + 40 * (ls.length : Int)
  | [], T, _ => by
    show T ≤ T + 40 * ((0 : Nat) : Int)
    omega
  | l :: r, T, h => by
    unfold greedy
    have h0 := h l List.mem_cons_self
    rw [List.length_cons]
    split
    · omega
    · have := greedy_le r (T + l) fun x hx => h x (List.mem_cons_of_mem _ hx)
      omega
def Good (ns : List Int) : Prop := 1 ≤ ns.length ∧ ns.length ≤ 8 ∧ ∀ n ∈ ns, 1 ≤ n ∧ n ≤ 40
theorem Good.perm {l m : List Int} (g : Good l) (p : m.Perm l) : Good m := ⟨by rw [p.length_eq]; exact g.1, by rw [p.length_eq]; exact g.2.1, fun n h => g.2.2 n (p.mem_iff.mp h)⟩
theorem isort_congr {l m : List Int} (p : m.Perm l) : isort m = isort l := uniq (((isort_perm m).trans p).trans (isort_perm l).symm) (isort_sorted m) (isort_sorted l)
theorem reach_perm {l m : List Int} (p : m.Perm l) : reachOf m = reachOf l := by
  unfold reachOf
  rw [isort_congr p]
theorem reach_bd {ns : List Int} (g : Good ns) : 0 ≤ reachOf ns ∧ reachOf ns ≤ 320 := by
  have g' := g.perm (isort_perm ns)
  have h1 := greedy_ge (isort ns) 0 fun x hx => by have := g'.2.2 x hx; omega
  have h2 := greedy_le (isort ns) 0 fun x hx => by have := g'.2.2 x hx; omega
  have h3 := g'.2.1
  refine ⟨h1, ?_⟩
  show greedy 0 (isort ns) ≤ 320
  omega
/-- n is a sum of some of ls, and of a number from 0 to T -/
def reps (T : Int) : List Int → Int → Prop
  | [], n => 0 ≤ n ∧ n ≤ T
  | l :: r, n => reps T r n ∨ reps T r (n - l)
theorem reps_perm {T : Int} {l m : List Int} (p : l.Perm m) : ∀ n, reps T l n ↔ reps T m n := by
  induction p with
  | nil => exact fun _ => Iff.rfl
  | cons x _ ih =>
    intro n
    show (reps T _ n ∨ reps T _ (n - x)) ↔ (reps T _ n ∨ reps T _ (n - x))
    rw [ih n, ih (n - x)]
  | swap x y r =>
    intro n
    show ((reps T r n ∨ reps T r (n - x)) ∨ (reps T r (n - y) ∨ reps T r (n - y - x))) ↔ ((reps T r n ∨ reps T r (n - y)) ∨ (reps T r (n - x) ∨ reps T r (n - x - y)))
    rw [show n - y - x = n - x - y by omega]
    constructor
    · rintro ((a | a) | (a | a))
      · exact .inl (.inl a)
      · exact .inr (.inl a)
      · exact .inl (.inr a)
      · exact .inr (.inr a)
    · rintro ((a | a) | (a | a))
      · exact .inl (.inl a)
      · exact .inr (.inl a)
      · exact .inl (.inr a)
      · exact .inr (.inr a)
  | trans _ _ h1 h2 => exact fun n => (h1 n).trans (h2 n)
theorem reps_up {T l : Int} (h0 : 0 ≤ T) (h1 : 1 ≤ l) (h2 : l ≤ T + 1) : ∀ (r : List Int) (n : Int), reps (T + l) r n ↔ reps T (l :: r) n
  | [], n => by
    show (0 ≤ n ∧ n ≤ T + l) ↔ ((0 ≤ n ∧ n ≤ T) ∨ (0 ≤ n - l ∧ n - l ≤ T))
    omega
  | x :: r, n => by
    show (reps (T + l) r n ∨ reps (T + l) r (n - x)) ↔ _
    rw [reps_up h0 h1 h2 r n, reps_up h0 h1 h2 r (n - x)]
    exact (reps_perm (.swap l x r) n)
theorem reps_low {T : Int} : ∀ (ls : List Int) (n : Int), 0 ≤ n → n ≤ T → reps T ls n
  | [], n, a, b => ⟨a, b⟩
  | _ :: r, n, a, b => .inl (reps_low r n a b)
theorem reps_nonneg {T : Int} : ∀ (ls : List Int) (n : Int), (∀ x ∈ ls, 0 ≤ x) → reps T ls n → 0 ≤ n
  | [], n, _, h => h.1
  | l :: r, n, hp, h => by
    have h0 := hp l List.mem_cons_self
    have hr : ∀ x ∈ r, 0 ≤ x := fun x hx => hp x (List.mem_cons_of_mem _ hx)
    rcases h with h | h
    · exact reps_nonneg r n hr h
    · have := reps_nonneg r _ hr h
      omega
theorem reps_not {T : Int} (h0 : 0 ≤ T) : ∀ (ls : List Int) (n : Int), (∀ x ∈ ls, T + 1 < x) → n ≤ T + 1 → reps T ls n → n ≤ T
  | [], n, _, _, h => h.2
  | l :: r, n, hp, hn, h => by
    have hl := hp l List.mem_cons_self
    have hr : ∀ x ∈ r, T + 1 < x := fun x hx => hp x (List.mem_cons_of_mem _ hx)
    rcases h with h | h
    · exact reps_not h0 r n hr hn h
    · have := reps_nonneg r _ (fun x hx => by have := hr x hx; omega) h
      omega
theorem greedy_is : ∀ (ls : List Int) (T : Int), 0 ≤ T → (∀ x ∈ ls, 1 ≤ x) → ls.Pairwise (· ≤ ·) → (∀ n, 0 ≤ n → n ≤ greedy T ls → reps T ls n) ∧ ¬ reps T ls (greedy T ls + 1)
  | [], T, h0, _, _ => ⟨fun n a b => ⟨a, b⟩, fun h => by
    have := h.2
    unfold greedy at this
    omega⟩
  | l :: r, T, h0, hp, hs => by
    have hl := hp l List.mem_cons_self
    have hr : ∀ x ∈ r, 1 ≤ x := fun x hx => hp x (List.mem_cons_of_mem _ hx)
    have hs' := List.pairwise_cons.mp hs
    unfold greedy
    by_cases hc : l > T + 1
    · rw [if_pos hc]
      refine ⟨fun n a b => reps_low _ n a b, fun h => ?_⟩
      have := reps_not h0 (l :: r) (T + 1) (fun x hx => by
        rcases List.mem_cons.mp hx with e | hx
        · omega
        · have := hs'.1 x hx
          omega) (Int.le_refl _) h
      omega
    · rw [if_neg hc]
      have ih := greedy_is r (T + l) (by omega) hr hs'.2
      have up := reps_up h0 hl (by omega : l ≤ T + 1) r
      exact ⟨fun n a b => (up n).mp (ih.1 n a b), fun h => ih.2 ((up _).mpr h)⟩
theorem reach_is {ns : List Int} (g : Good ns) : (∀ n, 0 ≤ n → n ≤ reachOf ns → reps 0 ns n) ∧ ¬ reps 0 ns (reachOf ns + 1) := by
  have g' := g.perm (isort_perm ns)
  have k := greedy_is (isort ns) 0 (Int.le_refl _) (fun x hx => (g'.2.2 x hx).1) (isort_sorted ns)
  exact ⟨fun n a b => (reps_perm (isort_perm ns) n).mp (k.1 n a b), fun h => k.2 ((reps_perm (isort_perm ns) _).mpr h)⟩
/-! ### sums as bits -/
def sumsF (S : Nat) : List Int → Nat
  | [] => S
  | l :: r => sumsF (S ||| S * 2 ^ l.toNat) r
theorem bits_step {S : Nat} {ls : List Int} {l : Int} (hl : 0 ≤ l) (hp : ∀ x ∈ ls, 0 ≤ x) (h : ∀ n : Nat, S.testBit n = true ↔ reps 0 ls (n : Int)) (n : Nat) : (S ||| S * 2 ^ l.toNat).testBit n = true ↔ reps 0 (l :: ls) (n : Int) := by
  rw [← Nat.shiftLeft_eq, Nat.testBit_or, Nat.testBit_shiftLeft, Bool.or_eq_true, Bool.and_eq_true, decide_eq_true_eq, h n, h (n - l.toNat)]
  show _ ↔ (reps 0 ls (n : Int) ∨ reps 0 ls ((n : Int) - l))
  constructor
  · rintro (a | ⟨a, b⟩)
    · exact .inl a
    · refine .inr ?_
      rw [show (n : Int) - l = ((n - l.toNat : Nat) : Int) by omega]
      exact b
  · rintro (a | a)
    · exact .inl a
    · have := reps_nonneg ls _ hp a
      refine .inr ⟨by omega, ?_⟩
      rw [show ((n - l.toNat : Nat) : Int) = (n : Int) - l by omega]
      exact a
theorem bits_all : ∀ (ls acc : List Int) (S : Nat), (∀ x ∈ ls, 0 ≤ x) → (∀ x ∈ acc, 0 ≤ x) → (∀ n : Nat, S.testBit n = true ↔ reps 0 acc (n : Int)) → ∀ n : Nat, (sumsF S ls).testBit n = true ↔ reps 0 (ls.reverse ++ acc) (n : Int)
  | [], acc, S, _, _, h => h
  | l :: r, acc, S, hl, ha, h => by
    intro n
    rw [List.reverse_cons, List.append_assoc]
    exact bits_all r (l :: acc) _ (fun x hx => hl x (List.mem_cons_of_mem _ hx)) (fun x hx => by
      rcases List.mem_cons.mp hx with e | hx
      · subst e
        exact hl x List.mem_cons_self
      · exact ha x hx) (bits_step (hl l List.mem_cons_self) ha h) n
theorem bit_one (n : Nat) : (1 : Nat).testBit n = true ↔ reps 0 [] (n : Int) := by
  show _ ↔ (0 ≤ (n : Int) ∧ (n : Int) ≤ 0)
  cases n with
  | zero => exact ⟨fun _ => ⟨by decide, by decide⟩, fun _ => by decide⟩
  | succ n =>
    rw [Nat.testBit_succ, show 1 / 2 = 0 from rfl, Nat.zero_testBit]
    exact ⟨fun h => absurd h Bool.false_ne_true, fun h => by omega⟩
theorem sums_is {ns : List Int} (g : Good ns) (n : Nat) : (sumsF 1 ns).testBit n = true ↔ reps 0 ns (n : Int) := by
  rw [bits_all ns [] 1 (fun x hx => by have := g.2.2 x hx; omega) (fun _ h => by simp at h) bit_one n, List.append_nil]
  exact reps_perm (List.reverse_perm ns) n
/-- sums // (1 << n) % 2 -/
theorem bit_of (S n : Nat) : (((S : Nat) : Int) / (1 * 2 ^ ((n : Int).toNat))).fmod 2 = if S.testBit n then 1 else 0 := by
  rw [Int.toNat_natCast, Int.one_mul, Int.fmod_eq_emod_of_nonneg _ (by decide), show ((2 : Int) ^ n) = ((2 ^ n : Nat) : Int) by simp, ← Int.natCast_ediv, show ((2 : Int)) = ((2 : Nat) : Int) from rfl, ← Int.natCast_emod, Nat.testBit_eq_decide_div_mod_eq]
  rcases Nat.mod_two_eq_zero_or_one (S / 2 ^ n) with e | e
  · rw [e]; rfl
  · rw [e]; rfl
end Rch

/-! ### the mathematics of tables -/
namespace Tb
def len1 (ls : List Int) (k : Int) : Int := ls.getD k.toNat 0
def rsum (ls : List Int) (r : List Int) : Int := (r.map (len1 ls)).sum
def InR (ls r : List Int) : Prop := ∀ k ∈ r, 0 ≤ k ∧ k < (ls.length : Int)
def Right (ls : List Int) (rs : List (List Int)) : Prop := Rch.Good ls ∧ 1 ≤ rs.length ∧ rs.length ≤ 60 ∧ ∀ (i : Nat) (r : List Int), rs[i]? = some r → InR ls r ∧ r.length ≤ 60 ∧ rsum ls r = (i : Int) + 1
theorem len_at {ls : List Int} {k : Int} (h0 : 0 ≤ k) (h1 : k < (ls.length : Int)) : ls[k.toNat]? = some (len1 ls k) := by
  have h : k.toNat < ls.length := by omega
  unfold len1
  rw [List.getD_eq_getElem?_getD, List.getElem?_eq_getElem h]
  rfl
theorem len_pos {ls : List Int} (g : Rch.Good ls) {k : Int} (h0 : 0 ≤ k) (h1 : k < (ls.length : Int)) : 1 ≤ len1 ls k ∧ len1 ls k ≤ 40 := g.2.2 _ (List.mem_of_getElem? (len_at h0 h1))
theorem rsum_cons (ls : List Int) (k : Int) (r : List Int) : rsum ls (k :: r) = len1 ls k + rsum ls r := by
  unfold rsum
  rw [List.map_cons, List.sum_cons]
theorem rsum_snoc (ls : List Int) (r : List Int) (k : Int) : rsum ls (r ++ [k]) = rsum ls r + len1 ls k := by
  unfold rsum
  rw [List.map_append, List.sum_append]
  simp
theorem rsum_len {ls : List Int} (g : Rch.Good ls) : ∀ {r : List Int}, InR ls r → (r.length : Int) ≤ rsum ls r
  | [], _ => by simp [rsum]
  | k :: r, h => by
    have h1 := h k List.mem_cons_self
    have := (len_pos g h1.1 h1.2).1
    have ih := rsum_len g (r := r) fun x hx => h x (List.mem_cons_of_mem _ hx)
    rw [rsum_cons, List.length_cons]
    omega
/-- when gone, into which loop -/
def go (ls : List Int) : Int → List Int → List (Int × Int)
  | _, [] => []
  | g, k :: r => (g, k) :: go ls (g + len1 ls k) r
theorem go_len (ls : List Int) : ∀ (r : List Int) (g : Int), (go ls g r).length = r.length
  | [], _ => rfl
  | k :: r, g => by
    show (go ls (g + len1 ls k) r).length + 1 = r.length + 1
    rw [go_len ls r]
theorem go_take (ls : List Int) : ∀ (r : List Int) (g : Int) (j : Nat), (go ls g r)[j]? = (r[j]?).map fun k => (g + rsum ls (r.take j), k)
  | [], g, j => by simp [go]
  | k :: r, g, 0 => by
    show some (g, k) = some (g + rsum ls [], k)
    simp [rsum]
  | k :: r, g, j + 1 => by
    show (go ls (g + len1 ls k) r)[j]? = (r[j]?).map fun x => (g + rsum ls (k :: r.take j), x)
    rw [go_take ls r, rsum_cons]
    congr 1
    funext x
    rw [Int.add_assoc]
theorem go_snd (ls : List Int) : ∀ (r : List Int) (g : Int), (go ls g r).map (·.2) = r
  | [], _ => rfl
  | k :: r, g => by
    show k :: (go ls (g + len1 ls k) r).map (·.2) = k :: r
    rw [go_snd ls r]
theorem go_rng {ls : List Int} (G : Rch.Good ls) : ∀ (r : List Int) (g : Int), InR ls r → ∀ p ∈ go ls g r, g ≤ p.1 ∧ p.1 < g + rsum ls r ∧ 0 ≤ p.2 ∧ p.2 < (ls.length : Int)
  | [], _, _, p, hp => absurd hp (by simp [go])
  | k :: r, g, h, p, hp => by
    have hk := h k List.mem_cons_self
    have l1 := (len_pos G hk.1 hk.2).1
    have hr : InR ls r := fun x hx => h x (List.mem_cons_of_mem _ hx)
    have n0 := rsum_len G hr
    rw [rsum_cons]
    rcases List.mem_cons.mp hp with e | hp
    · rw [e]
      show g ≤ g ∧ g < _ ∧ 0 ≤ k ∧ k < _
      omega
    · have := go_rng G r _ hr p hp
      omega
theorem go_up {ls : List Int} (G : Rch.Good ls) : ∀ (r : List Int) (g : Int), InR ls r → (go ls g r).Pairwise fun p q => p.1 < q.1
  | [], _, _ => .nil
  | k :: r, g, h => by
    have hk := h k List.mem_cons_self
    have l1 := (len_pos G hk.1 hk.2).1
    have hr : InR ls r := fun x hx => h x (List.mem_cons_of_mem _ hx)
    refine List.pairwise_cons.mpr ⟨fun q hq => ?_, go_up G r _ hr⟩
    have := go_rng G r _ hr q hq
    show g < q.1
    omega
/-- loop, gone, left -/
def ent (w : Int) (p : Int × Int) : List Int := [p.2, p.1, w - p.1]
def ents (ls : List Int) (w : Int) (r : List Int) : List (List Int) := (go ls 0 r).map (ent w)
def all (ls : List Int) (rs : List (List Int)) : Nat → List (List Int)
  | 0 => []
  | i + 1 => all ls rs i ++ ents ls ((i : Int) + 1) (rs.getD i [])
theorem ents_len (ls : List Int) (w : Int) (r : List Int) : (ents ls w r).length = r.length := by
  unfold ents
  rw [List.length_map, go_len]
theorem getD_row {rs : List (List Int)} {i : Nat} {r : List Int} (h : rs[i]? = some r) : rs.getD i [] = r := by
  rw [List.getD_eq_getElem?_getD, h]
  rfl
theorem all_wait {ls : List Int} {rs : List (List Int)} : ∀ (i : Nat) (e : List Int), e ∈ all ls rs i → ∃ k g w : Int, e = [k, g, w - g] ∧ 1 ≤ w ∧ w ≤ i
  | 0, e, h => absurd h (by simp [all])
  | i + 1, e, h => by
    rcases List.mem_append.mp h with h | h
    · obtain ⟨k, g, w, e1, h1, h2⟩ := all_wait i e h
      exact ⟨k, g, w, e1, h1, by omega⟩
    · obtain ⟨p, _, rfl⟩ := List.mem_map.mp h
      exact ⟨p.2, p.1, (i : Int) + 1, rfl, by omega, by omega⟩
/-- each new one is new -/
theorem new_one {ls : List Int} {rs : List (List Int)} {r : List Int} (G : Rch.Good ls) (hr : InR ls r) {i j : Nat} {p : Int × Int} (hj : (go ls 0 r)[j]? = some p) : ent ((i : Int) + 1) p ∉ all ls rs i ++ ((go ls 0 r).take j).map (ent ((i : Int) + 1)) := by
  intro h
  rcases List.mem_append.mp h with h | h
  · obtain ⟨k, g, w, e, h1, h2⟩ := all_wait i _ h
    unfold ent at e
    have e1 : p.1 = g := by
      have := congrArg (fun z : List Int => z.getD 1 0) e
      exact this
    have e2 : (i : Int) + 1 - p.1 = w - g := by
      have := congrArg (fun z : List Int => z.getD 2 0) e
      exact this
    omega
  · obtain ⟨q, hq, e⟩ := List.mem_map.mp h
    have e1 : q.1 = p.1 := by
      have := congrArg (fun z : List Int => z.getD 1 0) e
      exact this
    obtain ⟨m, hm⟩ := List.mem_iff_getElem?.mp hq
    rw [List.getElem?_take] at hm
    split at hm
    · next hlt =>
      have pw := List.pairwise_iff_getElem.mp (go_up G r 0 hr)
      obtain ⟨hm', em⟩ := List.getElem?_eq_some_iff.mp hm
      obtain ⟨hj', ej⟩ := List.getElem?_eq_some_iff.mp hj
      have := pw m j hm' hj' hlt
      rw [em, ej] at this
      omega
    · cases hm
theorem ents_bd {ls : List Int} {r : List Int} {w : Int} (G : Rch.Good ls) (hr : InR ls r) (hw : rsum ls r = w) (h60 : w ≤ 60) : ∀ e ∈ ents ls w r, e.length = 3 ∧ TS.Bd 1000 e := by
  intro e he
  obtain ⟨p, hp, rfl⟩ := List.mem_map.mp he
  have h := go_rng G r 0 hr p hp
  have g1 := G.2.1
  refine ⟨rfl, fun m hm => ?_⟩
  unfold ent at hm
  simp only [List.mem_cons, List.not_mem_nil, or_false] at hm
  rcases hm with e | e | e <;> subst e <;> omega
theorem all_bd {ls : List Int} {rs : List (List Int)} (R : Right ls rs) : ∀ i, i ≤ rs.length → ∀ e ∈ all ls rs i, e.length = 3 ∧ TS.Bd 1000 e
  | 0, _, e, he => absurd he (by simp [all])
  | i + 1, hi, e, he => by
    rcases List.mem_append.mp he with he | he
    · exact all_bd R i (by omega) e he
    · have hr : rs[i]? = some rs[i] := List.getElem?_eq_getElem (by omega)
      rw [getD_row hr] at he
      obtain ⟨a, b, c⟩ := R.2.2.2 i _ hr
      have := R.2.2.1
      exact ents_bd R.1 a c (by omega) e he
theorem all_len {ls : List Int} {rs : List (List Int)} (R : Right ls rs) : ∀ i, i ≤ rs.length → (all ls rs i).length ≤ 60 * i
  | 0, _ => Nat.le_refl _
  | i + 1, hi => by
    have ih := all_len R i (by omega)
    have hr : rs[i]? = some rs[i] := List.getElem?_eq_getElem (by omega)
    obtain ⟨a, b, c⟩ := R.2.2.2 i _ hr
    show (all ls rs i ++ ents ls ((i : Int) + 1) (rs.getD i [])).length ≤ _
    rw [List.length_append, ents_len, getD_row hr]
    omega
/-- the entries of one wait, when gone ahead -/
def ofWait (w : Int) (e : List Int) : Bool := (e.getD 1 0 + e.getD 2 0) == w
def swap (e : List Int) : List Int := [e.getD 1 0, e.getD 0 0]
def sel (w : Int) (es : List (List Int)) : List (List Int) := (es.filter (ofWait w)).map swap
theorem sel_append (w : Int) (a b : List (List Int)) : sel w (a ++ b) = sel w a ++ sel w b := by
  unfold sel
  rw [List.filter_append, List.map_append]
def gl (ls r : List Int) : List (List Int) := (go ls 0 r).map fun p => [p.1, p.2]
theorem sel_yes (ls : List Int) (w : Int) (r : List Int) : sel w (ents ls w r) = gl ls r := by
  unfold sel ents gl
  rw [List.filter_eq_self.mpr, List.map_map]
  · rfl
  · intro e he
    obtain ⟨p, _, rfl⟩ := List.mem_map.mp he
    show ((p.1 + (w - p.1)) == w) = true
    rw [beq_iff_eq]
    omega
theorem sel_no {ls : List Int} {w v : Int} (r : List Int) (h : v ≠ w) : sel w (ents ls v r) = [] := by
  unfold sel ents
  rw [List.filter_eq_nil_iff.mpr, List.map_nil]
  intro e he
  obtain ⟨p, _, rfl⟩ := List.mem_map.mp he
  show ¬ ((p.1 + (v - p.1)) == w) = true
  rw [beq_iff_eq]
  omega
theorem sel_all {ls : List Int} {rs : List (List Int)} (m : Nat) : ∀ i, sel ((m : Int) + 1) (all ls rs i) = if m < i then gl ls (rs.getD m []) else []
  | 0 => by
    rw [if_neg (by omega)]
    rfl
  | i + 1 => by
    show sel _ (all ls rs i ++ ents ls ((i : Int) + 1) (rs.getD i [])) = _
    rw [sel_append, sel_all m i]
    by_cases h : m < i
    · rw [if_pos h, if_pos (by omega), sel_no _ (by omega), List.append_nil]
    · rw [if_neg h, List.nil_append]
      by_cases h2 : m = i
      · subst h2
        rw [if_pos (by omega), sel_yes]
      · rw [if_neg (by omega), sel_no _ (by omega)]
theorem gl_bd {ls : List Int} {r : List Int} (G : Rch.Good ls) (hr : InR ls r) (h60 : rsum ls r ≤ 60) : ∀ e ∈ gl ls r, e.length = 2 ∧ TS.Bd 1000 e := by
  intro e he
  obtain ⟨p, hp, rfl⟩ := List.mem_map.mp he
  have h := go_rng G r 0 hr p hp
  have g1 := G.2.1
  refine ⟨rfl, fun m hm => ?_⟩
  simp only [List.mem_cons, List.not_mem_nil, or_false] at hm
  rcases hm with e | e <;> subst e <;> omega
theorem gl_sorted {ls : List Int} {r : List Int} (G : Rch.Good ls) (hr : InR ls r) (h60 : rsum ls r ≤ 60) : (gl ls r).Pairwise fun x y => TS.code 1000 x ≤ TS.code 1000 y := by
  unfold gl
  rw [List.pairwise_map]
  refine (List.pairwise_iff_getElem.mpr fun i j hi hj hij => ?_)
  have pw := List.pairwise_iff_getElem.mp (go_up G r 0 hr) i j hi hj hij
  have b1 := go_rng G r 0 hr _ (List.getElem_mem hi)
  have b2 := go_rng G r 0 hr _ (List.getElem_mem hj)
  have g1 := G.2.1
  show (go ls 0 r)[i].1 * 1000 ^ 1 + ((go ls 0 r)[i].2 * 1000 ^ 0 + 0) ≤ (go ls 0 r)[j].1 * 1000 ^ 1 + ((go ls 0 r)[j].2 * 1000 ^ 0 + 0)
  omega
theorem sel_perm {w : Int} {a b : List (List Int)} (p : a.Perm b) : (sel w a).Perm (sel w b) := (p.filter _).map _
theorem gl_snd (ls r : List Int) : (gl ls r).map (fun e => e.getD 1 0) = r := by
  unfold gl
  rw [List.map_map]
  exact go_snd ls r 0
end Tb

/-! ## sum(t), t a tuple of ints -/
namespace My
open PySem PySem.Spec PyProof.Rows L2
section
variable {prog : Program} {w : World} {A : Around} {E : Value → Shared → Prop} {s : Shared} {l : Addr} {xs : Array (Int × Tok)}
theorem sum_tupG {Q : Value → Shared → Prop} (hh : A.handled = none) (hl : s.heap.IsTuple l (intItems xs))
    (h : ∀ h' tk t', (∀ b o, s.heap.get? b = some o → h'.get? b = some o) → Q (.int (preSum (numAt xs) xs.size) t') { s with heap := h', toks := tk }) :
    wpAny (model prog w) A (call (.builtin "sum") [.ref l]) Q E s := by
  have hll : l < s.heap.objs.size := by obtain ⟨_, q, _⟩ := hl; exact Heap.lt_size q
  refine call_sum_walkG (wpAny_pyIter_tuple hl ?_)
  refine ⟨_, _, _, _, _, _, numAt xs, rfl, Walks.tuple (A := A.in1) hh s.heap.objs.size l (Nat.ne_of_lt hll) (intItems xs), ⟨⟨_, Heap.get?_push_size _ rfl, rfl, rfl⟩, hl.push _⟩, fun b hb => ?_, (fun _ _ => intItems_at), fun h' tk t' hk => ?_⟩
  · show b < (s.heap.push _).objs.size
    rw [Heap.size_push]
    rcases List.mem_cons.mp hb with rfl | hb
    · exact Nat.lt_succ_self _
    · rw [List.mem_singleton.mp hb]
      exact Nat.lt_succ_of_lt hll
  · have := h h' tk t' fun b o e => hk b o (fun hm => by
      rw [List.mem_singleton.mp hm] at e
      exact absurd (Heap.lt_size e) (Nat.lt_irrefl _)) (Heap.get?_push_of_some _ e)
    simpa [intItems] using this
end
def rSumT (K : PySem.W.Frag) : List V → Hp → VK → Prop := fun vs H Q => ∃ (a : Addr) (ns : List Int), vs = [V.ref a] ∧ SqT K H a (ns.map V.int) ∧ Q (.int ns.sum) H
theorem cr_sumT {X : Cx} (hc : X.calm = true) : CallR X (.builtin "sum") (rSumT X.K) := by
  intro pins s σ H vs us Q I r h
  obtain ⟨a, ns, rfl, hs, q⟩ := h
  obtain ⟨its, rv, hl, _⟩ := I.tuple hs
  rw [Vals.ref1 r]
  have hi := rv.ints
  obtain ⟨xs, e⟩ := hi.allInts.items
  have hn : numsOf (intItems xs).toList = ns := by rw [← e]; exact hi.numsOf
  rw [nums_intItems] at hn
  have hl' : s.heap.IsTuple a (intItems xs) := by
    rw [← e]
    exact hl
  refine sum_tupG (I.ok.hd hc) hl' fun h' tk t' hk => ?_
  rw [preSum_eq, List.take_of_length_le (by simp), hn]
  exact ⟨.int _, H, I.kept hk, ⟨_, rfl⟩, q⟩
/-! ### t + u, both tracked, t not empty -/
def rCatP : R2 := fun x y H Q => ∃ a b xs ys, x = .ref a ∧ y = .ref b ∧ H a = some (.tup xs) ∧ H b = some (.tup ys) ∧ xs ≠ [] ∧ xs.length + ys.length ≤ sizeLine ∧ ∀ p H', Same H H' → H' p = some (.tup (xs ++ ys)) → Q (.ref p) H'
theorem op_catP {X : Cx} : OpR X (binaryOp .Add) rCatP := by
  intro pins s σ H x y v u Q I rx ry h
  obtain ⟨a, b, xs, ys, rfl, rfl, ha, hb, hne, hz, q⟩ := h
  refine op_catA pins s σ H _ _ v u Q I rx ry ⟨a, b, xs, ys, rfl, rfl, SqT.of ha, SqT.of hb, hz, fun e => absurd e hne, fun _ e => ?_, fun _ _ p np => ?_⟩
  · subst e
    refine q a H (fun _ _ h => h) ?_
    rw [List.append_nil]
    exact ha
  · exact q p _ (same_upd np) upd_same
/-! ### xs[i] read where it is changed -/
theorem pgetL {X : Cx} : PGet X (rIxL X.K) := by
  intro pins s σ H o i ov iv Q I r1 r2 h
  obtain ⟨p, xs, k, z, rfl, rfl, hq, he, q⟩ := h
  cases r1
  obtain ⟨t, rfl⟩ := r2
  obtain ⟨its, r, pl, hz⟩ := I.list hq
  obtain ⟨j, h1, h2, h3, h4, h5⟩ := atI_get he
  obtain ⟨w, ew, rw'⟩ := r.get h2
  have hl := r.length
  have hn := line63
  have fin : EP X pins σ Q w s := ⟨z, H, I, rw', q⟩
  by_cases h0 : 0 ≤ k
  · have hj : k.toNat = j := by
      rw [PySem.seqIndex_of h0 h5] at h1
      exact Option.some.inj h1
    exact wpAny_getItem_list pl.isList h0 (by omega) (by rw [hj]; simpa using ew) fin
  · have hj : (k + (its.toArray.size : Int)).toNat = j := by
      rw [PySem.seqIndex_neg (by omega) h4] at h1
      rw [List.size_toArray, ← hl]
      exact Option.some.inj h1
    exact wpAny_mono (wpAny_getItem_list_neg (Q := fun r s' => r = w ∧ EP X pins σ Q r s') pl.isList (by omega) (by rw [List.size_toArray] <;> omega) (by omega) (by rw [hj]; simpa using ew) ⟨rfl, fin⟩) (fun _ _ h => h.2) fun _ _ h => h
/-! ### zip of two lists, the second one not longer -/
theorem for_zipS {K : PySem.W.Frag} {a b : Addr} {xs ys : List V} {g : TG} {tb : TS} {D : Ends} {σ : L2.St} {H : Hp} (hl : ys.length ≤ xs.length) (Pv : Nat → L2.St → Hp → Prop) (h0 : Pv 0 σ H) (hq : ∀ i σ H, Pv i σ H → SqL K H a xs ∧ SqL K H b ys)
    (hs : ∀ (i : Nat) (x y : V) (T : Addr) (σ : L2.St) (H : Hp), xs[i]? = some x → ys[i]? = some y → Pv i σ H → H T = none → g (.ref T) σ (upd H T (.tup [x, y])) fun σ2 H2 => tb { D with nx := Pv (i + 1), ct := Pv (i + 1), bk := D.nx } σ2 H2) (hd : ∀ σ H, Pv ys.length σ H → D.nx σ H) :
    ∃ W : Nat → Nat → L2.St → Hp → Prop, (∃ m, W 0 m σ H) ∧ ∀ i m σ H, W i m σ H →
      ((Itz K a b).stop i H ∧ D.nx σ H) ∨ ((Itz K a b).go i H ∧ ∃ N : L2.St → Hp → Prop, (∀ σ' H', N σ' H' → ∃ m', m' < m ∧ W (i + 1) m' σ' H') ∧ ∀ v H', (Itz K a b).yld i H v H' → g v σ H' fun σ2 H2 => tb { D with nx := N, ct := N, bk := D.nx } σ2 H2) := by
  refine ⟨fun i m σ H => m = ys.length - i ∧ i ≤ ys.length ∧ Pv i σ H, ⟨ys.length, rfl, Nat.zero_le _, h0⟩, ?_⟩
  rintro i m σ H ⟨rfl, hi, p⟩
  obtain ⟨qx, qy⟩ := hq i σ H p
  by_cases h : i < ys.length
  · have hx : xs[i]? = some xs[i] := List.getElem?_eq_getElem (by omega)
    have hy : ys[i]? = some ys[i] := List.getElem?_eq_getElem h
    refine .inr ⟨⟨xs, ys, _, _, qx, qy, hx, hy⟩, Pv (i + 1), fun σ' H' n => ⟨ys.length - (i + 1), by omega, rfl, by omega, n⟩, ?_⟩
    rintro v H' ⟨T, x, y, rfl, nT, rfl, ex, ey⟩
    exact hs i x y T σ H (ex xs qx) (ey ys qy) p nT
  · have e : i = ys.length := by omega
    subst e
    exact .inl ⟨⟨xs, ys, qx, qy, .inr (Nat.le_refl _)⟩, hd σ H p⟩
/-! ### what stays while the tape moves -/
theorem Moved.sq {K : PySem.W.Frag} {t s : Addr} {H H' : Hp} {a : Addr} {xs : List V} (mv : Moved t H H') (tp : Tape H t s) (h : SqT K H a xs) : SqT K H' a xs := by
  obtain ⟨_, _, _, _, _, _, e2, _⟩ := tp
  rcases h with (h | ⟨o, h⟩) | h
  · exact .inl (.inl (mv _ _ (fun z => by rw [z, e2] at h; cases h) h))
  · exact .inl (.inr ⟨o, mv _ _ (fun z => by rw [z, e2] at h; cases h) h⟩)
  · exact .inr h
theorem Moved.tups {α : Type} {f : α → List V} {t s : Addr} {H H' : Hp} {ps : List Addr} {xs : List α} (mv : Moved t H H') (tp : Tape H t s) (h : Tups f H ps xs) : Tups f H' ps xs := h.keep fun b ys e => by
  obtain ⟨_, _, _, _, _, _, e2, _⟩ := tp
  exact mv _ _ (fun z => by rw [z, e2] at e; cases e) e
end My

/-! ### long comings: the line round by round -/
namespace Lg
open Ln
/-- so many letters come: the line, and how many are turned away -/
def add (b : Int) : Nat → Int × Int → Int × Int
  | 0, s => s
  | k + 1, s => if (add b k s).1 > b then ((add b k s).1, (add b k s).2 + 1) else ((add b k s).1 + 1, (add b k s).2)
/-- a tick: line, gone out, turned away -/
abbrev Tri := Int × Int × Int
def tk (b : Int) (c : Int) (s : Tri) : Tri := if (add b c.toNat (s.1, s.2.2)).1 > 0 then ((add b c.toNat (s.1, s.2.2)).1 - 1, s.2.1 + 1, (add b c.toNat (s.1, s.2.2)).2) else ((add b c.toNat (s.1, s.2.2)).1, s.2.1, (add b c.toNat (s.1, s.2.2)).2)
def rdN (b : Int) (cs : List Int) (s : Tri) : Nat → Tri
  | 0 => s
  | i + 1 => tk b (cs.getD i 0) (rdN b cs s i)
/-- a round from a line -/
def rd (b : Int) (cs : List Int) (l : Int) : Tri := rdN b cs (l, 0, 0) cs.length
/-! the program's own line from any line on -/
def preL (b l : Int) (cs : List Int) : Nat → List Let × Int
  | 0 => ([], l)
  | i + 1 => ((turns b (i : Int) (cs.getD i 0).toNat (preL b l cs i)).1, close (turns b (i : Int) (cs.getD i 0).toNat (preL b l cs i)).2)
def behindL (b l : Int) (cs : List Int) : Nat → List Int
  | 0 => []
  | i + 1 => behindL b l cs i ++ [(preL b l cs (i + 1)).2]
theorem preL_0 (b : Int) (cs : List Int) : ∀ i, preL b 0 cs i = pre b cs i
  | 0 => rfl
  | i + 1 => by
    unfold preL pre
    rw [preL_0 b cs i]
theorem behindL_0 (b : Int) (cs : List Int) : ∀ i, behindL b 0 cs i = behind b cs i
  | 0 => rfl
  | i + 1 => by
    unfold behindL behind
    rw [behindL_0 b cs i, preL_0]
theorem behindL_len (b l : Int) (cs : List Int) : ∀ i, (behindL b l cs i).length = i
  | 0 => rfl
  | i + 1 => by
    unfold behindL
    rw [List.length_append, behindL_len b l cs i]
    rfl
def away (L : List Let) : Int := ((L.countP fun x => x.2.2.isNone : Nat) : Int)
theorem away_snoc (L : List Let) (x : Let) : away (L ++ [x]) = away L + if x.2.2.isNone then 1 else 0 := by
  unfold away
  rw [List.countP_append, List.countP_cons, List.countP_nil]
  cases x.2.2.isNone
  · rw [if_neg Bool.false_ne_true, if_neg Bool.false_ne_true]
    omega
  · rw [if_pos rfl, if_pos rfl]
    omega
theorem turns_add (b τ : Int) (L : List Let) (l : Int) : ∀ k : Nat, add b k (l, away L) = ((turns b τ k (L, l)).2, away (turns b τ k (L, l)).1)
  | 0 => rfl
  | k + 1 => by
    have ih := turns_add b τ L l k
    unfold add turns step
    rw [ih]
    show (if (turns b τ k (L, l)).2 > b then _ else _) = _
    split
    · rw [away_snoc]
      rfl
    · rw [away_snoc]
      show _ = (_, away _ + 0)
      rw [Int.add_zero]
theorem rd_pre (b l : Int) (cs : List Int) : ∀ i : Nat, (rdN b cs (l, 0, 0) i).1 = (preL b l cs i).2 ∧ (rdN b cs (l, 0, 0) i).2.2 = away (preL b l cs i).1
  | 0 => ⟨rfl, rfl⟩
  | i + 1 => by
    obtain ⟨e1, e2⟩ := rd_pre b l cs i
    have t := turns_add b (i : Int) (preL b l cs i).1 (preL b l cs i).2 (cs.getD i 0).toNat
    unfold rdN tk preL close
    rw [e1, e2, t]
    show (if (turns b (i : Int) (cs.getD i 0).toNat (preL b l cs i)).2 > 0 then _ else _ : Tri).1 = _ ∧ (if (turns b (i : Int) (cs.getD i 0).toNat (preL b l cs i)).2 > 0 then _ else _ : Tri).2.2 = _
    split
    · exact ⟨rfl, rfl⟩
    · exact ⟨rfl, rfl⟩
/-! the line stays within the bound; nobody is lost on the way -/
theorem add_rng {b : Int} : ∀ (k : Nat) (s : Int × Int), 0 ≤ s.1 → s.1 ≤ b + 1 → 0 ≤ s.2 → 0 ≤ (add b k s).1 ∧ (add b k s).1 ≤ b + 1 ∧ 0 ≤ (add b k s).2 ∧ (add b k s).1 + (add b k s).2 = s.1 + s.2 + (k : Int)
  | 0, s, h0, h1, h2 => ⟨h0, h1, h2, by show s.1 + s.2 = s.1 + s.2 + ((0 : Nat) : Int); omega⟩
  | k + 1, s, h0, h1, h2 => by
    obtain ⟨a, b', c, d⟩ := add_rng (b := b) k s h0 h1 h2
    unfold add
    split
    · refine ⟨a, b', by show 0 ≤ _ + 1; omega, ?_⟩
      show (add b k s).1 + ((add b k s).2 + 1) = _
      omega
    · refine ⟨by show 0 ≤ _ + 1; omega, by show _ + 1 ≤ _; omega, c, ?_⟩
      show (add b k s).1 + 1 + (add b k s).2 = _
      omega
structure Ok (b came : Int) (s : Tri) : Prop where
  l0 : 0 ≤ s.1
  l1 : s.1 ≤ b
  o0 : 0 ≤ s.2.1
  a0 : 0 ≤ s.2.2
  sum : s.1 + s.2.1 + s.2.2 = came
theorem Ok.tk {b came c : Int} {s : Tri} (h : Ok b came s) (hc : 0 ≤ c) : Ok b (came + c) (tk b c s) := by
  obtain ⟨h1, h2, h3, h4, h5⟩ := h
  obtain ⟨a1, a2, a3, a4⟩ := add_rng (b := b) c.toNat (s.1, s.2.2) h1 (by show s.1 ≤ _; omega) h4
  unfold Lg.tk
  generalize add b c.toNat (s.1, s.2.2) = m at *
  have a4' : m.1 + m.2 = s.1 + s.2.2 + (c.toNat : Int) := a4
  split
  · exact ⟨by show 0 ≤ m.1 - 1; omega, by show m.1 - 1 ≤ b; omega, by show 0 ≤ s.2.1 + 1; omega, a3, by show (m.1 - 1) + (s.2.1 + 1) + m.2 = came + c; omega⟩
  · exact ⟨a1, by show m.1 ≤ b; omega, h3, a3, by show m.1 + s.2.1 + m.2 = came + c; omega⟩
def sumN (cs : List Int) (i : Nat) : Int := (cs.take i).sum
theorem sumN_succ {cs : List Int} {i : Nat} (h : i < cs.length) : sumN cs (i + 1) = sumN cs i + cs.getD i 0 := by
  unfold sumN
  rw [List.take_add_one, List.getElem?_eq_getElem h, List.sum_append, List.getD_eq_getElem?_getD, List.getElem?_eq_getElem h]
  simp
theorem Ok.rdN {b came : Int} {s : Tri} {cs : List Int} (h : Ok b came s) (hc : ∀ c ∈ cs, 0 ≤ c) : ∀ i, i ≤ cs.length → Ok b (came + sumN cs i) (rdN b cs s i)
  | 0, _ => by
    show Ok b (came + 0) s
    rw [Int.add_zero]
    exact h
  | i + 1, hi => by
    rw [sumN_succ (by omega), ← Int.add_assoc]
    refine (Ok.rdN h hc i (by omega)).tk ?_
    rw [List.getD_eq_getElem?_getD, List.getElem?_eq_getElem (by omega)]
    exact hc _ (List.getElem_mem _)
theorem rd_ok {b l : Int} {cs : List Int} (h0 : 0 ≤ l) (h1 : l ≤ b) (hc : ∀ c ∈ cs, 0 ≤ c) : Ok b (l + cs.sum) (rd b cs l) := by
  have o : Ok b l (l, 0, 0) := ⟨h0, h1, Int.le_refl _, Int.le_refl _, by show l + 0 + 0 = l; omega⟩
  have := o.rdN hc cs.length (Nat.le_refl _)
  unfold sumN at this
  rw [List.take_length] at this
  exact this
/-! many rounds -/
def it (b : Int) (cs : List Int) : Nat → Int → Tri
  | 0, l => (l, 0, 0)
  | n + 1, l => ((rd b cs (it b cs n l).1).1, (it b cs n l).2.1 + (rd b cs (it b cs n l).1).2.1, (it b cs n l).2.2 + (rd b cs (it b cs n l).1).2.2)
theorem it_ok {b l : Int} {cs : List Int} (h0 : 0 ≤ l) (h1 : l ≤ b) (hc : ∀ c ∈ cs, 0 ≤ c) : ∀ n : Nat, Ok b (l + (n : Int) * cs.sum) (it b cs n l)
  | 0 => ⟨h0, h1, Int.le_refl _, Int.le_refl _, by show l + 0 + 0 = _; simp⟩
  | n + 1 => by
    have i := it_ok h0 h1 hc n
    have r := rd_ok i.l0 i.l1 hc
    refine ⟨r.l0, r.l1, ?_, ?_, ?_⟩
    · have := i.o0
      have := r.o0
      show 0 ≤ _ + _
      omega
    · have := i.a0
      have := r.a0
      show 0 ≤ _ + _
      omega
    · have a := i.sum
      have c := r.sum
      have e : ((n + 1 : Nat) : Int) * cs.sum = (n : Int) * cs.sum + cs.sum := by
        rw [Int.natCast_add, Int.add_mul]
        simp
      rw [e]
      show (rd b cs (it b cs n l).1).1 + ((it b cs n l).2.1 + (rd b cs (it b cs n l).1).2.1) + ((it b cs n l).2.2 + (rd b cs (it b cs n l).1).2.2) = _
      generalize (n : Int) * cs.sum = m at *
      omega
theorem it_add (b : Int) (cs : List Int) (m : Nat) (l : Int) : ∀ n : Nat, it b cs (m + n) l = ((it b cs n (it b cs m l).1).1, (it b cs m l).2.1 + (it b cs n (it b cs m l).1).2.1, (it b cs m l).2.2 + (it b cs n (it b cs m l).1).2.2)
  | 0 => by
    show it b cs m l = ((it b cs m l).1, (it b cs m l).2.1 + 0, (it b cs m l).2.2 + 0)
    rw [Int.add_zero, Int.add_zero]
  | n + 1 => by
    have e := it_add b cs m l n
    show ((rd b cs (it b cs (m + n) l).1).1, (it b cs (m + n) l).2.1 + (rd b cs (it b cs (m + n) l).1).2.1, (it b cs (m + n) l).2.2 + (rd b cs (it b cs (m + n) l).1).2.2) = _
    rw [e]
    show (_, _, _) = ((rd b cs (it b cs n (it b cs m l).1).1).1, (it b cs m l).2.1 + ((it b cs n (it b cs m l).1).2.1 + (rd b cs (it b cs n (it b cs m l).1).1).2.1), (it b cs m l).2.2 + ((it b cs n (it b cs m l).1).2.2 + (rd b cs (it b cs n (it b cs m l).1).1).2.2))
    rw [← Int.add_assoc, ← Int.add_assoc]
/-- a round that leaves the line as it was is like all behind it -/
theorem it_fix {b : Int} {cs : List Int} {l : Int} (h : (rd b cs l).1 = l) : ∀ n : Nat, it b cs n l = (l, (n : Int) * (rd b cs l).2.1, (n : Int) * (rd b cs l).2.2)
  | 0 => by
    show (l, 0, 0) = _
    simp
  | n + 1 => by
    unfold it
    rw [it_fix h n]
    show ((rd b cs l).1, _ + (rd b cs l).2.1, _ + (rd b cs l).2.2) = _
    rw [h]
    have e : ∀ x : Int, (n : Int) * x + x = ((n + 1 : Nat) : Int) * x := fun x => by
      rw [Int.natCast_add, Int.add_mul]
      simp
    rw [e, e]
/-! long comings: line, came, gone out, turned away -/
abbrev Quad := Int × Int × Int × Int
def go1 (b : Int) (s : Quad) (x : List Int × Int) : Quad := ((it b x.1 x.2.toNat s.1).1, s.2.1 + x.2 * x.1.sum, s.2.2.1 + (it b x.1 x.2.toNat s.1).2.1, s.2.2.2 + (it b x.1 x.2.toNat s.1).2.2)
def tot (b : Int) (xs : List (List Int × Int)) : Quad := xs.foldl (go1 b) (0, 0, 0, 0)
def Right (k : Int) (xs : List (List Int × Int)) : Prop := xs.length ≤ 20 ∧ ∀ x ∈ xs, x.1.length ≤ 60 ∧ (∀ c ∈ x.1, 0 ≤ c ∧ c ≤ k) ∧ 0 ≤ x.2 ∧ x.2 ≤ 10 ^ 30
structure Qk (b : Int) (s : Quad) : Prop where
  l0 : 0 ≤ s.1
  l1 : s.1 ≤ b
  sum : s.2.1 = s.2.2.1 + s.2.2.2 + s.1
theorem Qk.go {b : Int} {s : Quad} {x : List Int × Int} (h : Qk b s) (hc : ∀ c ∈ x.1, 0 ≤ c) (hx : 0 ≤ x.2) : Qk b (go1 b s x) := by
  have i := it_ok h.l0 h.l1 hc x.2.toNat
  have a := i.sum
  rw [Int.toNat_of_nonneg hx] at a
  have c := h.sum
  refine ⟨i.l0, i.l1, ?_⟩
  show s.2.1 + x.2 * x.1.sum = s.2.2.1 + (it b x.1 x.2.toNat s.1).2.1 + (s.2.2.2 + (it b x.1 x.2.toNat s.1).2.2) + (it b x.1 x.2.toNat s.1).1
  generalize x.2 * x.1.sum = m at *
  omega
theorem fold_ok {b : Int} : ∀ (xs : List (List Int × Int)) (s : Quad), Qk b s → (∀ x ∈ xs, (∀ c ∈ x.1, 0 ≤ c) ∧ 0 ≤ x.2) → Qk b (xs.foldl (go1 b) s)
  | [], s, h, _ => h
  | x :: xs, s, h, hx => fold_ok xs _ (h.go (hx x (by simp)).1 (hx x (by simp)).2) fun y hy => hx y (by simp [hy])
theorem tot_ok {b k : Int} (hb : 0 ≤ b) {xs : List (List Int × Int)} (h : Right k xs) : Qk b (tot b xs) := fold_ok xs _ ⟨Int.le_refl _, hb, rfl⟩ fun x hx => ⟨fun c hc => ((h.2 x hx).2.1 c hc).1, (h.2 x hx).2.2.1⟩
/-- so many times and so many times more -/
theorem tot_part (b : Int) (cs : List Int) (m n : Int) (hm : 0 ≤ m) (hn : 0 ≤ n) (xs : List (List Int × Int)) : tot b ((cs, m) :: (cs, n) :: xs) = tot b ((cs, m + n) :: xs) := by
  have e : go1 b (go1 b (0, 0, 0, 0) (cs, m)) (cs, n) = go1 b (0, 0, 0, 0) (cs, m + n) := by
    unfold go1
    show ((it b cs n.toNat (it b cs m.toNat 0).1).1, 0 + m * cs.sum + n * cs.sum, 0 + (it b cs m.toNat 0).2.1 + (it b cs n.toNat (it b cs m.toNat 0).1).2.1, 0 + (it b cs m.toNat 0).2.2 + (it b cs n.toNat (it b cs m.toNat 0).1).2.2) =
      ((it b cs (m + n).toNat 0).1, 0 + (m + n) * cs.sum, 0 + (it b cs (m + n).toNat 0).2.1, 0 + (it b cs (m + n).toNat 0).2.2)
    rw [show (m + n).toNat = m.toNat + n.toNat by omega, it_add, Int.add_mul]
    show (_, _, _, _) = (_, _, _, _)
    rw [Int.add_assoc, Int.add_assoc, Int.add_assoc]
  show xs.foldl (go1 b) (go1 b (go1 b (0, 0, 0, 0) (cs, m)) (cs, n)) = xs.foldl (go1 b) (go1 b (0, 0, 0, 0) (cs, m + n))
  rw [e]
end Lg
namespace Lg
open Ln
theorem preL_len {b l : Int} {cs : List Int} (hc : ∀ c ∈ cs, c ≤ 4) : ∀ i, (preL b l cs i).1.length ≤ 4 * i
  | 0 => Nat.le_refl _
  | i + 1 => by
    have ih := preL_len (b := b) (l := l) hc i
    unfold preL
    rw [turns_len]
    have : cs.getD i 0 ≤ 4 := by
      rw [List.getD_eq_getElem?_getD]
      cases h : cs[i]? with
      | none => decide
      | some c => exact hc c (List.mem_of_getElem? h)
    omega
theorem preL_sum {b l : Int} {cs : List Int} (hc : ∀ c ∈ cs, 0 ≤ c) : ∀ i, i ≤ cs.length → (((preL b l cs i).1.length : Nat) : Int) = sumN cs i
  | 0, _ => rfl
  | i + 1, hi => by
    have ih := preL_sum (b := b) (l := l) hc i (by omega)
    have h0 : 0 ≤ cs.getD i 0 := by
      rw [List.getD_eq_getElem?_getD, List.getElem?_eq_getElem (by omega)]
      exact hc _ (List.getElem_mem _)
    rw [sumN_succ (by omega), ← ih]
    show (((turns b (i : Int) (cs.getD i 0).toNat (preL b l cs i)).1.length : Nat) : Int) = _
    rw [turns_len]
    omega
end Lg
namespace Lg
theorem sum_le : ∀ {cs : List Int}, (∀ c ∈ cs, 0 ≤ c ∧ c ≤ 4) → 0 ≤ cs.sum ∧ cs.sum ≤ 4 * (cs.length : Int)
  | [], _ => ⟨Int.le_refl _, Int.le_refl _⟩
  | c :: cs, h => by
    have ih := sum_le (cs := cs) fun x hx => h x (by simp [hx])
    have := h c (by simp)
    rw [List.sum_cons, List.length_cons]
    omega
end Lg

set_option Elab.async false
set_option linter.all false
set_option maxRecDepth 100000
set_option maxHeartbeats 4000000
namespace My
open PySem PySem.Spec PyProof.Rows L2
def topS (i : Nat) : Stmt := PySem.Challenge.pw_loopstore_k96_whole_long_comings.main.body.getD i (.Pass ⟨0, 0, 0, 0⟩)
abbrev s_is_integer : Stmt := topS 10
theorem sc_is_integer : FnScope ["thing"] ["thing"] (defScope s_is_integer) := ⟨rfl, rfl, rfl, by decide +kernel, rfl, by decide +kernel, by decide +kernel⟩
abbrev s_is_number : Stmt := topS 11
theorem sc_is_number : FnScope ["thing", "least", "most"] ["thing", "least", "most"] (defScope s_is_number) := ⟨rfl, rfl, rfl, by decide +kernel, rfl, by decide +kernel, by decide +kernel⟩
abbrev s_are_numbers : Stmt := topS 12
theorem sc_are_numbers : FnScope ["things", "least", "most", "thing"] ["things", "least", "most"] (defScope s_are_numbers) := ⟨rfl, rfl, rfl, by decide +kernel, rfl, by decide +kernel, by decide +kernel⟩
abbrev s_is_comings : Stmt := topS 13
theorem sc_is_comings : FnScope ["comers", "thing"] ["comers", "thing"] (defScope s_is_comings) := ⟨rfl, rfl, rfl, by decide +kernel, rfl, by decide +kernel, by decide +kernel⟩
abbrev s_check_comers : Stmt := topS 14
theorem sc_check_comers : FnScope ["thing"] ["thing"] (defScope s_check_comers) := ⟨rfl, rfl, rfl, by decide +kernel, rfl, by decide +kernel, by decide +kernel⟩
abbrev s_check_bound : Stmt := topS 15
theorem sc_check_bound : FnScope ["thing"] ["thing"] (defScope s_check_bound) := ⟨rfl, rfl, rfl, by decide +kernel, rfl, by decide +kernel, by decide +kernel⟩
abbrev s_check_comings : Stmt := topS 16
theorem sc_check_comings : FnScope ["comers", "thing"] ["comers", "thing"] (defScope s_check_comings) := ⟨rfl, rfl, rfl, by decide +kernel, rfl, by decide +kernel, by decide +kernel⟩
abbrev s_follow_line : Stmt := topS 18
theorem sc_follow_line : FnScope ["bound", "line", "comings", "letters", "behind", "tick", "number", "turn"] ["bound", "line", "comings"] (defScope s_follow_line) := ⟨rfl, rfl, rfl, by decide +kernel, rfl, by decide +kernel, by decide +kernel⟩
abbrev s_letters_of : Stmt := topS 19
theorem sc_letters_of : FnScope ["bound", "comings", "letters", "_"] ["bound", "comings"] (defScope s_letters_of) := ⟨rfl, rfl, rfl, by decide +kernel, rfl, by decide +kernel, by decide +kernel⟩
abbrev s_waits : Stmt := topS 20
theorem sc_waits : FnScope ["comers", "bound", "comings", "tick", "turn", "wait"] ["comers", "bound", "comings"] (defScope s_waits) := ⟨rfl, rfl, rfl, by decide +kernel, rfl, by decide +kernel, by decide +kernel⟩
abbrev s_lines : Stmt := topS 21
theorem sc_lines : FnScope ["comers", "bound", "comings", "_", "behind"] ["comers", "bound", "comings"] (defScope s_lines) := ⟨rfl, rfl, rfl, by decide +kernel, rfl, by decide +kernel, by decide +kernel⟩
abbrev s_is_round : Stmt := topS 25
theorem sc_is_round : FnScope ["comers", "thing"] ["comers", "thing"] (defScope s_is_round) := ⟨rfl, rfl, rfl, by decide +kernel, rfl, by decide +kernel, by decide +kernel⟩
abbrev s_is_long_pair : Stmt := topS 26
theorem sc_is_long_pair : FnScope ["comers", "thing"] ["comers", "thing"] (defScope s_is_long_pair) := ⟨rfl, rfl, rfl, by decide +kernel, rfl, by decide +kernel, by decide +kernel⟩
abbrev s_check_long : Stmt := topS 27
theorem sc_check_long : FnScope ["comers", "bound", "long", "pair"] ["comers", "bound", "long"] (defScope s_check_long) := ⟨rfl, rfl, rfl, by decide +kernel, rfl, by decide +kernel, by decide +kernel⟩
abbrev s_follow_round : Stmt := topS 28
theorem sc_follow_round : FnScope ["bound", "line", "comings", "letters", "behind", "away", "tick", "_", "wait"] ["bound", "line", "comings"] (defScope s_follow_round) := ⟨rfl, rfl, rfl, by decide +kernel, rfl, by decide +kernel, by decide +kernel⟩
abbrev s_follow_long : Stmt := topS 29
theorem sc_follow_long : FnScope ["bound", "long", "line", "came", "away", "comings", "times", "left", "behind", "more", "lost", "alike"] ["bound", "long"] (defScope s_follow_long) := ⟨rfl, rfl, rfl, by decide +kernel, rfl, by decide +kernel, by decide +kernel⟩
abbrev s_long_line : Stmt := topS 30
theorem sc_long_line : FnScope ["comers", "bound", "long", "line", "_"] ["comers", "bound", "long"] (defScope s_long_line) := ⟨rfl, rfl, rfl, by decide +kernel, rfl, by decide +kernel, by decide +kernel⟩
abbrev s_long_counts : Stmt := topS 31
theorem sc_long_counts : FnScope ["comers", "bound", "long", "line", "came", "away"] ["comers", "bound", "long"] (defScope s_long_counts) := ⟨rfl, rfl, rfl, by decide +kernel, rfl, by decide +kernel, by decide +kernel⟩
abbrev s__law_tape : Stmt := topS 33
theorem sc__law_tape : FnScope ["script"] ["script"] (defScope s__law_tape) := ⟨rfl, rfl, rfl, by decide +kernel, rfl, by decide +kernel, by decide +kernel⟩
abbrev s__law_pick : Stmt := topS 34
theorem sc__law_pick : FnScope ["tape", "size", "digit", "cell", "mixed"] ["tape", "size"] (defScope s__law_pick) := ⟨rfl, rfl, rfl, by decide +kernel, rfl, by decide +kernel, by decide +kernel⟩
abbrev s__law_round : Stmt := topS 35
theorem sc__law_round : FnScope ["bound", "line", "comings", "out", "away", "number", "k"] ["bound", "line", "comings"] (defScope s__law_round) := ⟨rfl, rfl, rfl, by decide +kernel, rfl, by decide +kernel, by decide +kernel⟩
abbrev s__law_short : Stmt := topS 36
theorem sc__law_short : FnScope ["tape", "comers", "most", "thick", "found", "k", "number"] ["tape", "comers", "most"] (defScope s__law_short) := ⟨rfl, rfl, rfl, by decide +kernel, rfl, by decide +kernel, by decide +kernel⟩
abbrev s__law_joined : Stmt := topS 37
theorem sc__law_joined : FnScope ["one", "other", "found", "line", "out", "away", "more"] ["one", "other"] (defScope s__law_joined) := ⟨rfl, rfl, rfl, by decide +kernel, rfl, by decide +kernel, by decide +kernel⟩
abbrev s__law_power : Stmt := topS 38
theorem sc__law_power : FnScope ["bound", "comings", "times", "found", "base", "turn", "line"] ["bound", "comings", "times"] (defScope s__law_power) := ⟨rfl, rfl, rfl, by decide +kernel, rfl, by decide +kernel, by decide +kernel⟩
abbrev s__law_due : Stmt := topS 39
theorem sc__law_due : FnScope ["bound", "long", "line", "counts", "comings", "times", "after", "out", "away"] ["bound", "long"] (defScope s__law_due) := ⟨rfl, rfl, rfl, by decide +kernel, rfl, by decide +kernel, by decide +kernel⟩
abbrev s__law_long : Stmt := topS 40
theorem sc__law_long : FnScope ["tape", "comers", "great", "rows", "many", "k", "times"] ["tape", "comers", "great"] (defScope s__law_long) := ⟨rfl, rfl, rfl, by decide +kernel, rfl, by decide +kernel, by decide +kernel⟩
abbrev s_law : Stmt := topS 41
theorem sc_law : FnScope ["script", "tape", "comers", "bound", "long", "written", "comings", "times", "line", "out", "away", "row", "rows", "due", "kept", "told", "cut", "parted"] ["script"] (defScope s_law) := ⟨rfl, rfl, rfl, by decide +kernel, rfl, by decide +kernel, by decide +kernel⟩
structure Tx (K : PySem.W.Frag) (mg : Str → Option Value) where
  a_is_integer : Addr
  d_is_integer : FuncData
  F_is_integer : Fun K "is_integer" "is_integer" s_is_integer a_is_integer d_is_integer
  b_is_integer : Binds K d_is_integer ["thing"] []
  g_is_integer : mg "is_integer" = some (.ref a_is_integer)
  a_is_number : Addr
  d_is_number : FuncData
  F_is_number : Fun K "is_number" "is_number" s_is_number a_is_number d_is_number
  b_is_number : Binds K d_is_number ["thing", "least", "most"] []
  g_is_number : mg "is_number" = some (.ref a_is_number)
  a_are_numbers : Addr
  d_are_numbers : FuncData
  F_are_numbers : Fun K "are_numbers" "are_numbers" s_are_numbers a_are_numbers d_are_numbers
  b_are_numbers : Binds K d_are_numbers ["things", "least", "most"] []
  g_are_numbers : mg "are_numbers" = some (.ref a_are_numbers)
  a_is_comings : Addr
  d_is_comings : FuncData
  F_is_comings : Fun K "is_comings" "is_comings" s_is_comings a_is_comings d_is_comings
  b_is_comings : Binds K d_is_comings ["comers", "thing"] []
  g_is_comings : mg "is_comings" = some (.ref a_is_comings)
  a_check_comers : Addr
  d_check_comers : FuncData
  F_check_comers : Fun K "check_comers" "check_comers" s_check_comers a_check_comers d_check_comers
  b_check_comers : Binds K d_check_comers ["thing"] []
  g_check_comers : mg "check_comers" = some (.ref a_check_comers)
  a_check_bound : Addr
  d_check_bound : FuncData
  F_check_bound : Fun K "check_bound" "check_bound" s_check_bound a_check_bound d_check_bound
  b_check_bound : Binds K d_check_bound ["thing"] []
  g_check_bound : mg "check_bound" = some (.ref a_check_bound)
  a_check_comings : Addr
  d_check_comings : FuncData
  F_check_comings : Fun K "check_comings" "check_comings" s_check_comings a_check_comings d_check_comings
  b_check_comings : Binds K d_check_comings ["comers", "thing"] []
  g_check_comings : mg "check_comings" = some (.ref a_check_comings)
  a_follow_line : Addr
  d_follow_line : FuncData
  F_follow_line : Fun K "follow_line" "follow_line" s_follow_line a_follow_line d_follow_line
  b_follow_line : Binds K d_follow_line ["bound", "line", "comings"] []
  g_follow_line : mg "follow_line" = some (.ref a_follow_line)
  a_letters_of : Addr
  d_letters_of : FuncData
  F_letters_of : Fun K "letters_of" "letters_of" s_letters_of a_letters_of d_letters_of
  b_letters_of : Binds K d_letters_of ["bound", "comings"] []
  g_letters_of : mg "letters_of" = some (.ref a_letters_of)
  a_waits : Addr
  d_waits : FuncData
  F_waits : Fun K "waits" "waits" s_waits a_waits d_waits
  b_waits : Binds K d_waits ["comers", "bound", "comings"] []
  g_waits : mg "waits" = some (.ref a_waits)
  a_lines : Addr
  d_lines : FuncData
  F_lines : Fun K "lines" "lines" s_lines a_lines d_lines
  b_lines : Binds K d_lines ["comers", "bound", "comings"] []
  g_lines : mg "lines" = some (.ref a_lines)
  a_is_round : Addr
  d_is_round : FuncData
  F_is_round : Fun K "is_round" "is_round" s_is_round a_is_round d_is_round
  b_is_round : Binds K d_is_round ["comers", "thing"] []
  g_is_round : mg "is_round" = some (.ref a_is_round)
  a_is_long_pair : Addr
  d_is_long_pair : FuncData
  F_is_long_pair : Fun K "is_long_pair" "is_long_pair" s_is_long_pair a_is_long_pair d_is_long_pair
  b_is_long_pair : Binds K d_is_long_pair ["comers", "thing"] []
  g_is_long_pair : mg "is_long_pair" = some (.ref a_is_long_pair)
  a_check_long : Addr
  d_check_long : FuncData
  F_check_long : Fun K "check_long" "check_long" s_check_long a_check_long d_check_long
  b_check_long : Binds K d_check_long ["comers", "bound", "long"] []
  g_check_long : mg "check_long" = some (.ref a_check_long)
  a_follow_round : Addr
  d_follow_round : FuncData
  F_follow_round : Fun K "follow_round" "follow_round" s_follow_round a_follow_round d_follow_round
  b_follow_round : Binds K d_follow_round ["bound", "line", "comings"] []
  g_follow_round : mg "follow_round" = some (.ref a_follow_round)
  a_follow_long : Addr
  d_follow_long : FuncData
  F_follow_long : Fun K "follow_long" "follow_long" s_follow_long a_follow_long d_follow_long
  b_follow_long : Binds K d_follow_long ["bound", "long"] []
  g_follow_long : mg "follow_long" = some (.ref a_follow_long)
  a_long_line : Addr
  d_long_line : FuncData
  F_long_line : Fun K "long_line" "long_line" s_long_line a_long_line d_long_line
  b_long_line : Binds K d_long_line ["comers", "bound", "long"] []
  g_long_line : mg "long_line" = some (.ref a_long_line)
  a_long_counts : Addr
  d_long_counts : FuncData
  F_long_counts : Fun K "long_counts" "long_counts" s_long_counts a_long_counts d_long_counts
  b_long_counts : Binds K d_long_counts ["comers", "bound", "long"] []
  g_long_counts : mg "long_counts" = some (.ref a_long_counts)
  a__law_tape : Addr
  d__law_tape : FuncData
  F__law_tape : Fun K "_law_tape" "_law_tape" s__law_tape a__law_tape d__law_tape
  b__law_tape : Binds K d__law_tape ["script"] []
  g__law_tape : mg "_law_tape" = some (.ref a__law_tape)
  a__law_pick : Addr
  d__law_pick : FuncData
  F__law_pick : Fun K "_law_pick" "_law_pick" s__law_pick a__law_pick d__law_pick
  b__law_pick : Binds K d__law_pick ["tape", "size"] []
  g__law_pick : mg "_law_pick" = some (.ref a__law_pick)
  a__law_round : Addr
  d__law_round : FuncData
  F__law_round : Fun K "_law_round" "_law_round" s__law_round a__law_round d__law_round
  b__law_round : Binds K d__law_round ["bound", "line", "comings"] []
  g__law_round : mg "_law_round" = some (.ref a__law_round)
  a__law_short : Addr
  d__law_short : FuncData
  F__law_short : Fun K "_law_short" "_law_short" s__law_short a__law_short d__law_short
  b__law_short : Binds K d__law_short ["tape", "comers", "most"] []
  g__law_short : mg "_law_short" = some (.ref a__law_short)
  a__law_joined : Addr
  d__law_joined : FuncData
  F__law_joined : Fun K "_law_joined" "_law_joined" s__law_joined a__law_joined d__law_joined
  b__law_joined : Binds K d__law_joined ["one", "other"] []
  g__law_joined : mg "_law_joined" = some (.ref a__law_joined)
  a__law_power : Addr
  d__law_power : FuncData
  F__law_power : Fun K "_law_power" "_law_power" s__law_power a__law_power d__law_power
  b__law_power : Binds K d__law_power ["bound", "comings", "times"] []
  g__law_power : mg "_law_power" = some (.ref a__law_power)
  a__law_due : Addr
  d__law_due : FuncData
  F__law_due : Fun K "_law_due" "_law_due" s__law_due a__law_due d__law_due
  b__law_due : Binds K d__law_due ["bound", "long"] []
  g__law_due : mg "_law_due" = some (.ref a__law_due)
  a__law_long : Addr
  d__law_long : FuncData
  F__law_long : Fun K "_law_long" "_law_long" s__law_long a__law_long d__law_long
  b__law_long : Binds K d__law_long ["tape", "comers", "great"] []
  g__law_long : mg "_law_long" = some (.ref a__law_long)
  a_law : Addr
  d_law : FuncData
  F_law : Fun K "law" "law" s_law a_law d_law
  b_law : Binds K d_law ["script"] []
  g_law : mg "law" = some (.ref a_law)
  m_all : mg "all" = none
  m_bool : mg "bool" = none
  m_enumerate : mg "enumerate" = none
  m_int : mg "int" = none
  m_isinstance : mg "isinstance" = none
  m_len : mg "len" = none
  m_list : mg "list" = none
  m_range : mg "range" = none
  m_repr : mg "repr" = none
  m_sum : mg "sum" = none
  m_tuple : mg "tuple" = none
  t_MOST_BOUND : Tok
  g_MOST_BOUND : mg "MOST_BOUND" = some (.int 60 t_MOST_BOUND)
  t_MOST_COMERS : Tok
  g_MOST_COMERS : mg "MOST_COMERS" = some (.int 4 t_MOST_COMERS)
  t_MOST_PAIRS : Tok
  g_MOST_PAIRS : mg "MOST_PAIRS" = some (.int 20 t_MOST_PAIRS)
  t_MOST_ROUND : Tok
  g_MOST_ROUND : mg "MOST_ROUND" = some (.int 60 t_MOST_ROUND)
  t_MOST_TICKS : Tok
  g_MOST_TICKS : mg "MOST_TICKS" = some (.int 400 t_MOST_TICKS)
def tv (l : Ln.Let) : List V := [.int l.1, .int l.2.1, wv l.2.2]
/-- comings that are right -/
def Rt (k : Int) (cs : List Int) : Prop := cs.length ≤ 400 ∧ ∀ c ∈ cs, 0 ≤ c ∧ c ≤ k
theorem Rt.four {k : Int} {cs : List Int} (h : Rt k cs) (hk : k ≤ 4) : ∀ c ∈ cs, c ≤ 4 := fun c hc => by
  have := h.2 c hc
  omega
theorem Rt.all {k : Int} {cs : List Int} (h : Rt k cs) : (cs.all fun n => decide (0 ≤ n) && decide (n ≤ k)) = true := by
  rw [List.all_eq_true]
  intro n hn
  have := h.2 n hn
  rw [Bool.and_eq_true]
  exact ⟨decide_eq_true this.1, decide_eq_true this.2⟩

section
variable {P : Program} {w : World} {K : PySem.W.Frag} {mg : Str → Option Value} {base : Heap}
def spTape (K : PySem.W.Frag) : Sp := fun vs H Q _ => ∃ (a : Addr) (ns : List Int), vs = [.ref a] ∧ SqL K H a (ns.map V.int) ∧ ∀ t s H', H t = none → H s = none → Same H H' → Tape H' t s → Q (.ref t) H'
theorem ok__law_tape (T : Tx K mg) : FnOk P w K mg base CX0 1 T.a__law_tape T.d__law_tape ["script"] (spTape K) := by
  refine T.F__law_tape.ok sc__law_tape (fun vs H Q E h => ?_) (fun cdv A outer s H vs Q E hr h => ?_)
  · obtain ⟨a, ns, rfl, _⟩ := h
    rfl
  · obtain ⟨a, ns, rfl, hS, q⟩ := h
    refine ⟨_, ((pss_one (ps_ret (pe_lst (pa_cons (pe_callTy call_list_of (by rfl) T.m_list (by decide +kernel) (pa_cons (pv 0) pa_nil)) (pa_cons pe_int (pa_cons pe_int (pa_cons pe_int (pa_cons pe_int pa_nil))))))))), ?_⟩
    refine ⟨.ref a, rfl, a, _, rfl, .inl hS, fun l nl => ?_⟩
    refine ⟨by show 5 ≤ sizeLine; decide, fun t nt => ?_⟩
    have nlt : l ≠ t := fun e => by
      rw [← e, upd_same] at nt
      cases nt
    have s1 : Same H (upd H l (.lst (ns.map V.int))) := same_upd nl
    refine q t l _ (Same.free s1 nt) nl (s1.trans (same_upd nt)) ⟨ns, 0, 0, 1, 0, nlt, upd_same, ?_, by decide⟩
    rw [upd_ne nlt, upd_same]
def spPick (K : PySem.W.Frag) : Sp := fun vs H Q _ => ∃ (t s : Addr) (n : Int), vs = [.ref t, .int n] ∧ (0 < n ∧ n < 2 ^ 120) ∧ Tape H t s ∧ ∀ r H', 0 ≤ r → r < n → Moved t H H' → Tape H' t s → Q (.int r) H'
theorem fm_of {a b : Int} (h : 0 < b) : 0 ≤ a.fmod b ∧ a.fmod b < b := by
  rw [Int.fmod_eq_emod_of_nonneg a (Int.le_of_lt h)]
  exact ⟨Int.emod_nonneg a (by omega), Int.emod_lt_of_pos a h⟩
theorem ok__law_pick (T : Tx K mg) : FnOk P w K mg base CX0 1 T.a__law_pick T.d__law_pick ["tape", "size"] (spPick K) := by
  refine T.F__law_pick.ok sc__law_pick (fun vs H Q E h => ?_) (fun cdv A outer s H vs Q E hr h => ?_)
  · obtain ⟨t, l, n, rfl, _⟩ := h
    rfl
  · obtain ⟨t, l, n, rfl, ⟨hn, hn2⟩, ⟨ns, pos, rest, mx, ct, hlt, ht, hl, hp⟩, q⟩ := h
    have wd : ∀ i : Int, CDivW i n := fun i => wide_div hn (b := 120) (by omega) (by decide) (by decide)
    refine ⟨_, ((pss_cons (ps_if (pt_cmpR op_gt (pe_ix ix_list (pv 0) pe_int (fun _ _ => rfl)) pe_int (nomark _)) (pss_cons (ps_set (i := 2) sc__law_pick.nd rfl (.inl rfl) (pe_op op_modN (pe_callTy call_int1 (by rfl) T.m_int (by decide +kernel) (pa_cons (pe_ix ix_list (pv 0) pe_int (fun _ _ => rfl)) pa_nil)) (pv 1)))
  (pss_cons (ps_asg (pe_op op_fdivW (pe_ix ix_list (pv 0) pe_int (fun _ _ => rfl)) (pv 1)) (pg_sub (pv 0) pe_int set_list))
  (pss_one (ps_ret (pv 2))))) pss_nil)
  (pss_cons (ps_asg (pe_op op_add (pe_ix ix_list (pv 0) pe_int (fun _ _ => rfl)) pe_int) (pg_sub (pv 0) pe_int set_list))
  (pss_cons (ps_set (i := 3) sc__law_pick.nd rfl (.inl rfl) pe_int)
  (Evl.pss_cut (ps_if (pt_cmpR op_lt (pe_ix ix_list (pv 0) pe_int (fun _ _ => rfl)) (pe_callB call_len_seq (by rfl) T.m_len PySem.boot_len (pa_cons (pe_ix ix_list (pv 0) pe_int (fun _ _ => rfl)) pa_nil)) (nomark _)) (pss_cons (ps_set (i := 3) sc__law_pick.nd rfl (.inl rfl) (pe_ix ix_list (pe_ix ix_list (pv 0) pe_int (fun _ _ => rfl)) (pe_ix ix_list (pv 0) pe_int (fun _ _ => rfl)) (fun _ _ => rfl)))
  (pss_one (ps_asg (pe_op op_add (pe_ix ix_list (pv 0) pe_int (fun _ _ => rfl)) pe_int) (pg_sub (pv 0) pe_int set_list)))) pss_nil)
  (pss_cons (ps_if (pt_cmpR op_ge (pv 3) (pe_op op_pow pe_int pe_int) (nomark _)) (pss_cons (ps_asg (pe_op op_fdivW (pv 3) (pv 1)) (pg_sub (pv 0) pe_int set_list))
  (pss_one (ps_ret (pe_op op_modN (pe_callTy call_int1 (by rfl) T.m_int (by decide +kernel) (pa_cons (pv 3) pa_nil)) (pv 1))))) pss_nil)
  (pss_cons (ps_set (i := 4) sc__law_pick.nd rfl (.inl rfl) (pe_op op_modN (pe_callTy call_int1 (by rfl) T.m_int (by decide +kernel) (pa_cons (pe_op op_add (pe_op op_add (pe_op op_mul (pe_ix ix_list (pv 0) pe_int (fun _ _ => rfl)) pe_int) (pe_op op_modN (pe_callTy call_int1 (by rfl) T.m_int (by decide +kernel) (pa_cons (pv 3) pa_nil)) pe_int)) (pe_op op_mul (pe_ix ix_list (pv 0) pe_int (fun _ _ => rfl)) pe_int)) pa_nil)) pe_int))
  (pss_cons (ps_set (i := 4) sc__law_pick.nd rfl (.inl rfl) (pe_op op_modN (pe_callTy call_int1 (by rfl) T.m_int (by decide +kernel) (pa_cons (pe_op op_mul (pv 4) (pe_op op_add (pe_op op_fdivW (pv 4) pe_int) pe_int)) pa_nil)) pe_int))
  (pss_cons (ps_asg (pv 4) (pg_sub (pv 0) pe_int set_list))
  (pss_one (ps_ret (pe_op op_modN (pe_callTy call_int1 (by rfl) T.m_int (by decide +kernel) (pa_cons (pe_op op_fdivW (pv 4) pe_int) pa_nil)) (pv 1))))))))))))), ?_⟩
    -- tape[2] > 1
    refine ⟨.ref t, rfl, t, _, 2, _, rfl, rfl, SqL.of ht, atI_nat (j := 2) rfl, _, _, rfl, rfl, _, rfl, ite2 (fun h1 => ?_) (fun h1 => ?_)⟩
    · -- digit
      refine ⟨.ref t, rfl, t, _, 2, _, rfl, rfl, SqL.of ht, atI_nat (j := 2) rfl, .inl ⟨_, rfl, ?_⟩⟩
      refine ⟨.int n, rfl, _, _, rfl, rfl, by omega, ?_⟩
      -- tape[2] = tape[2] // size
      refine ⟨.ref t, rfl, t, _, 2, _, rfl, rfl, SqL.of ht, atI_nat (j := 2) rfl, .int n, rfl, _, _, rfl, rfl, wd _, ?_⟩
      refine ⟨.ref t, rfl, t, _, 2, 2, rfl, rfl, ht, rfl, ?_⟩
      -- return digit
      refine ⟨_, rfl, ?_⟩
      refine q _ _ (fm_of hn).1 (fm_of hn).2 Moved.upd ⟨ns, pos, _, mx, ct, hlt, upd_same, ?_, hp⟩
      rw [upd_ne hlt]
      exact hl
    · -- tape[4] = tape[4] + 1
      refine ⟨.ref t, rfl, t, _, 4, _, rfl, rfl, SqL.of ht, atI_nat (j := 4) rfl, _, _, rfl, rfl, ?_⟩
      refine ⟨.ref t, rfl, t, _, 4, 4, rfl, rfl, ht, rfl, ?_⟩
      -- cell = 0; the first cut
      refine ⟨fun σ' H1 => ∃ (cell p2 : Int) (σ3 σ4 : Option V), σ' = [some (.ref t), some (.int n), σ3, some (.int cell), σ4] ∧ 0 ≤ p2 ∧ H1 t = some (.lst [.ref l, .int p2, .int rest, .int mx, .int (ct + 1)]) ∧ H1 l = some (.lst (ns.map V.int)) ∧ Moved t H H1, ?_, fun σ' H1 hm => ?_⟩
      · have hl1 : (upd H t (.lst [.ref l, .int pos, .int rest, .int mx, .int (ct + 1)])) l = some (.lst (ns.map V.int)) := by
          rw [upd_ne hlt]
          exact hl
        refine ⟨.ref t, rfl, t, _, 1, _, rfl, rfl, SqL.of upd_same, atI_nat (j := 1) rfl, .ref t, rfl, t, _, 0, _, rfl, rfl, SqL.of upd_same, atI_nat (j := 0) rfl, l, _, rfl, .inl (SqL.of hl1), _, _, rfl, rfl, _, rfl, ite2 (fun h2 => ?_) (fun h2 => ?_)⟩
        · have h3 : pos < ((ns.map V.int).length : Int) := of_decide_eq_true h2
          obtain ⟨j, rfl⟩ : ∃ j : Nat, pos = (j : Int) := ⟨pos.toNat, by omega⟩
          have hj : j < ns.length := by
            rw [List.length_map] at h3
            omega
          have gj : (ns.map V.int)[j]? = some (.int ns[j]) := by
            rw [List.getElem?_map, List.getElem?_eq_getElem hj]
            rfl
          -- cell = tape[0][tape[1]]
          refine ⟨.ref t, rfl, t, _, 0, _, rfl, rfl, SqL.of upd_same, atI_nat (j := 0) rfl, .ref t, rfl, t, _, 1, _, rfl, rfl, SqL.of upd_same, atI_nat (j := 1) rfl, l, _, _, _, rfl, rfl, SqL.of hl1, atI_nat gj, ?_⟩
          -- tape[1] = tape[1] + 1
          refine ⟨.ref t, rfl, t, _, 1, _, rfl, rfl, SqL.of upd_same, atI_nat (j := 1) rfl, _, _, rfl, rfl, ?_⟩
          refine ⟨.ref t, rfl, t, _, 1, 1, rfl, rfl, upd_same, rfl, ?_⟩
          rw [upd_upd]
          exact ⟨_, _, _, _, rfl, by omega, upd_same, (by rw [upd_ne hlt]; exact hl), Moved.upd⟩
        · exact ⟨_, _, _, _, rfl, hp, upd_same, hl1, Moved.upd⟩
      · obtain ⟨cell, p2, σ3, σ4, rfl, hp2, ht1, hl1, mv⟩ := hm
        -- cell >= 10 ** 18
        refine ⟨.int cell, rfl, 10, 18, rfl, rfl, ⟨by decide, by decide, by decide⟩, _, _, rfl, rfl, _, rfl, ite2 (fun h2 => ?_) (fun h2 => ?_)⟩
        · refine ⟨.int cell, rfl, .int n, rfl, _, _, rfl, rfl, wd _, .ref t, rfl, t, _, 2, 2, rfl, rfl, ht1, rfl, ?_⟩
          refine ⟨.int cell, rfl, .inl ⟨_, rfl, .int n, rfl, _, _, rfl, rfl, by omega, ?_⟩⟩
          refine q _ _ (fm_of hn).1 (fm_of hn).2 (mv.trans Moved.upd) ⟨ns, p2, _, mx, _, hlt, upd_same, ?_, hp2⟩
          rw [upd_ne hlt]
          exact hl1
        · -- mixed = ..
          refine ⟨.ref t, rfl, t, _, 3, _, rfl, rfl, SqL.of ht1, atI_nat (j := 3) rfl, _, _, rfl, rfl, .inr ⟨by decide, by decide⟩, ?_⟩
          refine ⟨.int cell, rfl, .inl ⟨_, rfl, _, _, rfl, rfl, (by show (2147483629 : Int) ≠ 0; decide), _, _, rfl, rfl, ?_⟩⟩
          refine ⟨.ref t, rfl, t, _, 4, _, rfl, rfl, SqL.of ht1, atI_nat (j := 4) rfl, _, _, rfl, rfl, .inr ⟨by decide, by decide⟩, _, _, rfl, rfl, ?_⟩
          refine .inl ⟨_, rfl, _, _, rfl, rfl, (by show (2147483647 : Int) ≠ 0; decide), ?_⟩
          have bm := fm_of (a := mx * 48271 + cell.fmod 2147483629 + (ct + 1) * 69621) (b := 2147483647) (by decide)
          -- mixed = int(mixed * ..) % ..
          refine ⟨_, rfl, _, rfl, _, _, rfl, rfl, ⟨by decide, by decide⟩, _, _, rfl, rfl, _, _, rfl, rfl, .inl ⟨Int.lt_of_lt_of_le (by decide) bm.1, Int.lt_trans bm.2 (by decide)⟩, .inl ⟨_, rfl, _, _, rfl, rfl, (by show (2147483399 : Int) ≠ 0; decide), ?_⟩⟩
          -- tape[3] = mixed
          refine ⟨_, rfl, .ref t, rfl, t, _, 3, 3, rfl, rfl, ht1, rfl, ?_⟩
          refine ⟨_, rfl, _, _, rfl, rfl, ⟨by decide, by decide⟩, .inl ⟨_, rfl, .int n, rfl, _, _, rfl, rfl, by omega, ?_⟩⟩
          refine q _ _ (fm_of hn).1 (fm_of hn).2 (mv.trans Moved.upd) ⟨ns, p2, _, _, _, hlt, upd_same, ?_, hp2⟩
          rw [upd_ne hlt]
          exact hl1
end

section
variable {P : Program} {w : World} {K : PySem.W.Frag} {mg : Str → Option Value} {base : Heap}
def spIsInt (K : PySem.W.Frag) : Sp := fun vs H Q _ => ∃ i : Int, vs = [.int i] ∧ Q (.bl true) H
theorem ok_is_integer (T : Tx K mg) : FnOk P w K mg base CX0 1 T.a_is_integer T.d_is_integer ["thing"] (spIsInt K) := by
  refine T.F_is_integer.ok sc_is_integer (fun vs H Q E h => ?_) (fun cdv A outer s H vs Q E hr h => ?_)
  · obtain ⟨i, rfl, _⟩ := h
    rfl
  · obtain ⟨i, rfl, q⟩ := h
    refine ⟨_, ((pss_one (ps_ret (pe_and (pe_callB call_isi (by rfl) T.m_isinstance (by decide +kernel) (pa_cons (pv 0) (pa_cons (pe_bltn (v := .ty "int") (by rfl) T.m_int (by decide +kernel) rfl) pa_nil))) (pe_one (pe_not (pe_callB call_isi (by rfl) T.m_isinstance (by decide +kernel) (pa_cons (pv 0) (pa_cons (pe_bltn (v := .ty "bool") (by rfl) T.m_bool (by decide +kernel) rfl) pa_nil))))))))), ?_⟩
    refine ⟨.int i, rfl, .int i, .ty "int", _, _, true, rfl, .ty _, .base (.int i), kit_ty (by decide +kernel), true, rfl, iteT ?_⟩
    refine ⟨.int i, rfl, .int i, .ty "bool", _, _, false, rfl, .ty _, .base (.int i), kit_ty (by decide +kernel), false, rfl, ?_⟩
    exact q
def spIsNum (K : PySem.W.Frag) : Sp := fun vs H Q _ => ∃ i a b : Int, vs = [.int i, .int a, .int b] ∧ Q (.bl (decide (a ≤ i) && decide (i ≤ b))) H
theorem ok_is_number (T : Tx K mg) : FnOk P w K mg base CX0 2 T.a_is_number T.d_is_number ["thing", "least", "most"] (spIsNum K) := by
  refine T.F_is_number.ok sc_is_number (fun vs H Q E h => ?_) (fun cdv A outer s H vs Q E hr h => ?_)
  · obtain ⟨i, a, b, rfl, _⟩ := h
    rfl
  · obtain ⟨i, a, b, rfl, q⟩ := h
    refine ⟨_, ((pss_one (ps_ret (pe_and (pe_call (ok_is_integer T) (hr.mono (by decide)) (by rfl) T.g_is_integer T.F_is_integer.kp T.b_is_integer .nil pass0 (pa_cons (pv 0) pa_nil)) (pe_one (pe_chain op_le op_le (pv 1) (pv 0) (pv 2))))))), ?_⟩
    refine ⟨.int i, rfl, i, rfl, true, rfl, iteT ?_⟩
    refine ⟨.int a, rfl, .int i, rfl, a, i, rfl, rfl, _, rfl, ?_⟩
    by_cases h : a ≤ i
    · rw [decide_eq_true h] at q ⊢
      refine iteT ⟨.int b, rfl, i, b, rfl, rfl, ?_⟩
      exact q
    · rw [decide_eq_false h] at q ⊢
      exact iteF q
def spAreNums (K : PySem.W.Frag) : Sp := fun vs H Q _ => ∃ (a : Addr) (ns : List Int) (lo hi : Int), vs = [.ref a, .int lo, .int hi] ∧ SqT K H a (ns.map V.int) ∧ ns.length ≤ 1000 ∧
  ∀ H', Same H H' → Q (.bl (ns.all fun n => decide (lo ≤ n) && decide (n ≤ hi))) H'
theorem ok_are_numbers (T : Tx K mg) : FnOk P w K mg base CX0 3 T.a_are_numbers T.d_are_numbers ["things", "least", "most"] (spAreNums K) := by
  refine T.F_are_numbers.ok sc_are_numbers (fun vs H Q E h => ?_) (fun cdv A outer s H vs Q E hr h => ?_)
  · obtain ⟨a, ns, lo, hi, rfl, _⟩ := h
    rfl
  · obtain ⟨a, ns, lo, hi, rfl, hT, hlen, q⟩ := h
    refine ⟨_, ((pss_one (ps_ret (pe_callB (cr_all rfl) (by rfl) T.m_all (by decide +kernel) (pa_cons (pe_lc (own := [("thing", 3)]) (g := (gName 3)) (tt := tYes) rfl sc_are_numbers.nd (pi_tup (pv 0)) (blkOk_by (own := [("thing", 3)]) (N := ["things", "least", "most", "thing"]) (sc := defScope s_are_numbers) (by decide +kernel)) (fun _ _ _ _ _ => pg_name (i := 3) sc_are_numbers.nd rfl (.inl rfl)) (fun _ _ _ _ _ => pts_nil) (fun _ _ _ _ _ => (pe_call (ok_is_number T) (hr.mono (by decide)) (by rfl) T.g_is_number T.F_is_number.kp T.b_is_number .nil pass0 (pa_cons (pv 3) (pa_cons (pv 1) (pa_cons (pv 2) pa_nil)))))) pa_nil))))), ?_⟩
    refine ⟨.ref a, rfl, a, rfl, ⟨_, hT⟩, fun D hD => lc_tup (K := K) (a := a) (xs := ns.map V.int)
      (fun i H' => Same H H' ∧ H D = none ∧ H' D = some (.lst (((ns.take i).map fun n => decide (lo ≤ n) && decide (n ≤ hi)).map V.bl)))
      ⟨same_upd hD, hD, upd_same⟩ (fun i H' _ p => sT p.1 hT) (fun i x H' hx p => ?_) (fun H' p => ?_)⟩
    · obtain ⟨sm, nD, eD⟩ := p
      rw [List.getElem?_map] at hx
      obtain ⟨n, hn, rfl⟩ := Option.map_eq_some_iff.mp hx
      refine ⟨rfl, ?_⟩
      refine ⟨.int n, rfl, .int lo, rfl, .int hi, rfl, n, lo, hi, rfl, ?_⟩
      have hi' : i < ns.length := (List.getElem?_eq_some_iff.mp hn).1
      refine ⟨_, eD, ?_, ?_⟩
      · rw [List.length_map, List.length_map, List.length_take]
        exact small1000 (by omega)
      · refine ⟨fun b o e => ?_, nD, ?_⟩
        · rw [upd_ne (ne_of_none e nD)]
          exact sm b o e
        · rw [upd_same, List.take_add_one, hn, List.map_append, List.map_append]
          rfl
    · obtain ⟨sm, nD, eD⟩ := p
      rw [List.length_map, List.take_of_length_le (Nat.le_refl _)] at eD
      refine ⟨D, _, rfl, SqL.of eD, ?_⟩
      have e2 : ((ns.map fun n => decide (lo ≤ n) && decide (n ≤ hi)).all id) = ns.all fun n => decide (lo ≤ n) && decide (n ≤ hi) := by
        rw [List.all_map]
        rfl
      rw [e2]
      exact q H' sm
end

/-! ### the checks -/
section
variable {P : Program} {w : World} {K : PySem.W.Frag} {mg : Str → Option Value} {base : Heap}
def spIsComings (K : PySem.W.Frag) : Sp := fun vs H Q _ => ∃ (a : Addr) (cs : List Int) (k : Int), vs = [.int k, .ref a] ∧ SqT K H a (cs.map V.int) ∧ Rt k cs ∧ ∀ H', Same H H' → Q (.bl true) H'
theorem ok_is_comings (T : Tx K mg) : FnOk P w K mg base CX0 4 T.a_is_comings T.d_is_comings ["comers", "thing"] (spIsComings K) := by
  refine T.F_is_comings.ok sc_is_comings (fun vs H Q E h => ?_) (fun cdv A outer s H vs Q E hr h => ?_)
  · obtain ⟨a, cs, k, rfl, _⟩ := h
    rfl
  · obtain ⟨a, cs, k, rfl, hT, g, q⟩ := h
    refine ⟨_, ((pss_one (ps_ret (pe_and (pe_callB call_isi (by rfl) T.m_isinstance (by decide +kernel) (pa_cons (pv 1) (pa_cons (pe_bltn (v := .ty "tuple") (by rfl) T.m_tuple (by decide +kernel) rfl) pa_nil))) (pe_and (pe_cmpR op_le (pe_callB call_len_seq (by rfl) T.m_len PySem.boot_len (pa_cons (pv 1) pa_nil)) (pe_glob (v := .int 400) rfl T.g_MOST_TICKS ⟨_, rfl⟩) (nomark _)) (pe_one (pe_call (ok_are_numbers T) (hr.mono (by decide)) (by rfl) T.g_are_numbers T.F_are_numbers.kp T.b_are_numbers .nil pass0 (pa_cons (pv 1) (pa_cons pe_int (pa_cons (pv 0) pa_nil)))))))))), ?_⟩
    refine ⟨.ref a, rfl, .ref a, .ty "tuple", _, _, true, rfl, .ty _, tyTup hT, kit_ty (by decide +kernel), true, rfl, iteT ?_⟩
    have g1 := g.1
    refine ⟨.ref a, rfl, a, _, rfl, .inr hT, _, 400, rfl, rfl, true, ?_, iteT ?_⟩
    · show V.bl (decide (((cs.map V.int).length : Int) ≤ (400 : Int))) = V.bl true
      rw [List.length_map, decide_eq_true (by omega)]
    · refine ⟨.ref a, rfl, .int k, rfl, a, cs, 0, k, rfl, hT, by omega, fun H' sm => ?_⟩
      have e := g.all
      rw [e]
      exact q H' sm
def spChkComings (K : PySem.W.Frag) : Sp := fun vs H Q _ => ∃ (a : Addr) (cs : List Int) (k : Int), vs = [.int k, .ref a] ∧ SqT K H a (cs.map V.int) ∧ Rt k cs ∧ ∀ H', Same H H' → Q .non H'
theorem ok_check_comings (T : Tx K mg) : FnOk P w K mg base CX0 5 T.a_check_comings T.d_check_comings ["comers", "thing"] (spChkComings K) := by
  refine T.F_check_comings.ok sc_check_comings (fun vs H Q E h => ?_) (fun cdv A outer s H vs Q E hr h => ?_)
  · obtain ⟨a, cs, k, rfl, _⟩ := h
    rfl
  · obtain ⟨a, cs, k, rfl, hT, g, q⟩ := h
    refine ⟨_, ((pss_one (ps_if (pt_not (pt_val (pe_call (ok_is_comings T) (hr.mono (by decide)) (by rfl) T.g_is_comings T.F_is_comings.kp T.b_is_comings .nil pass0 (pa_cons (pv 0) (pa_cons (pv 1) pa_nil))))) (pss_one ps_never) pss_nil))), ?_⟩
    refine ⟨.int k, rfl, .ref a, rfl, a, cs, k, rfl, hT, g, fun H' sm => ⟨true, rfl, iteF ?_⟩⟩
    exact q H' sm
def spChkNum (lo hi : Int) (K : PySem.W.Frag) : Sp := fun vs H Q _ => ∃ k : Int, vs = [.int k] ∧ lo ≤ k ∧ k ≤ hi ∧ Q .non H
theorem ok_check_comers (T : Tx K mg) : FnOk P w K mg base CX0 3 T.a_check_comers T.d_check_comers ["thing"] (spChkNum 2 4 K) := by
  refine T.F_check_comers.ok sc_check_comers (fun vs H Q E h => ?_) (fun cdv A outer s H vs Q E hr h => ?_)
  · obtain ⟨k, rfl, _⟩ := h
    rfl
  · obtain ⟨k, rfl, h1, h2, q⟩ := h
    refine ⟨_, ((pss_one (ps_if (pt_not (pt_val (pe_call (ok_is_number T) (hr.mono (by decide)) (by rfl) T.g_is_number T.F_is_number.kp T.b_is_number .nil pass0 (pa_cons (pv 0) (pa_cons pe_int (pa_cons (pe_glob (v := .int 4) rfl T.g_MOST_COMERS ⟨_, rfl⟩) pa_nil)))))) (pss_one ps_never) pss_nil))), ?_⟩
    refine ⟨.int k, rfl, k, 2, 4, rfl, true, ?_, iteF ?_⟩
    · rw [decide_eq_true h1, decide_eq_true h2]
      rfl
    · exact q
theorem ok_check_bound (T : Tx K mg) : FnOk P w K mg base CX0 3 T.a_check_bound T.d_check_bound ["thing"] (spChkNum 1 60 K) := by
  refine T.F_check_bound.ok sc_check_bound (fun vs H Q E h => ?_) (fun cdv A outer s H vs Q E hr h => ?_)
  · obtain ⟨k, rfl, _⟩ := h
    rfl
  · obtain ⟨k, rfl, h1, h2, q⟩ := h
    refine ⟨_, ((pss_one (ps_if (pt_not (pt_val (pe_call (ok_is_number T) (hr.mono (by decide)) (by rfl) T.g_is_number T.F_is_number.kp T.b_is_number .nil pass0 (pa_cons (pv 0) (pa_cons pe_int (pa_cons (pe_glob (v := .int 60) rfl T.g_MOST_BOUND ⟨_, rfl⟩) pa_nil)))))) (pss_one ps_never) pss_nil))), ?_⟩
    refine ⟨.int k, rfl, k, 1, 60, rfl, true, ?_, iteF ?_⟩
    · rw [decide_eq_true h1, decide_eq_true h2]
      rfl
    · exact q
end

/-! ### the line -/
section
variable {P : Program} {w : World} {K : PySem.W.Frag} {mg : Str → Option Value} {base : Heap}

def spFollow (K : PySem.W.Frag) : Sp := fun vs H Q _ => ∃ (a : Addr) (cs : List Int) (b l k : Int), vs = [.int b, .int l, .ref a] ∧ SqT K H a (cs.map V.int) ∧ Rt k cs ∧ k ≤ 4 ∧ 0 ≤ b ∧
  ∀ L B p ps H', Same H H' → H L = none → H B = none → L ≠ B → H' L = some (.lst (ps.map V.ref)) → Tups tv H' ps (Lg.preL b l cs cs.length).1 → H' B = some (.lst ((Lg.behindL b l cs cs.length).map V.int)) → H' p = some (.tup [.ref L, .ref B]) → Q (.ref p) H'
theorem ok_follow_line (T : Tx K mg) : FnOk P w K mg base CX0 1 T.a_follow_line T.d_follow_line ["bound", "line", "comings"] (spFollow K) := by
  refine T.F_follow_line.ok sc_follow_line (fun vs H Q E h => ?_) (fun cdv A outer s H vs Q E hr h => ?_)
  · obtain ⟨a, cs, b, l, k, rfl, _⟩ := h
    rfl
  · obtain ⟨a, cs, b, l, k, rfl, hT, g, hk, hb, q⟩ := h
    have g4 := g.four hk
    have g1 := g.1
    refine ⟨_, ((pss_cons (ps_set (i := 3) sc_follow_line.nd rfl (.inl rfl) (pe_lst pa_nil))
  (pss_cons (ps_set (i := 4) sc_follow_line.nd rfl (.inl rfl) (pe_lst pa_nil))
  (pss_cons (ps_for PassesOwn.never rfl (RR.pi_enumT (by rfl) T.m_enumerate (pa_cons (pv 2) pa_nil)) (pg_tup rfl (pgs_cons (pg_name (i := 5) sc_follow_line.nd rfl (.inl rfl)) (pgs_cons (pg_name (i := 6) sc_follow_line.nd rfl (.inl rfl)) pgs_nil)))
   (pss_cons (ps_for PassesOwn.never rfl (pi_range2 (by rfl) T.m_range (pa_cons pe_int (pa_cons (pe_op op_add (pv 6) pe_int) pa_nil))) (pg_name (i := 7) sc_follow_line.nd rfl (.inl rfl))
   (pss_one (ps_if (pt_cmpR op_gt (pv 1) (pv 0) (nomark _)) (pss_one (ps_expr (pe_bm PySem.F.plainAttrs_list PySem.F.slot_list_append PySem.F.type_list_append mt_append (pv 3) (pa_cons (pe_tup (pa_cons (pv 5) (pa_cons (pv 7) (pa_cons pe_non pa_nil)))) pa_nil)))) (pss_cons (ps_expr (pe_bm PySem.F.plainAttrs_list PySem.F.slot_list_append PySem.F.type_list_append mt_append (pv 3) (pa_cons (pe_tup (pa_cons (pv 5) (pa_cons (pv 7) (pa_cons (pv 1) pa_nil)))) pa_nil)))
  (pss_one (ps_aug (i := 1) sc_follow_line.nd rfl (.inl rfl) pe_int ip_add))))))
  (Evl.pss_cut (ps_if (pt_cmpR op_gt (pv 1) pe_int (nomark _)) (pss_one (ps_aug (i := 1) sc_follow_line.nd rfl (.inl rfl) pe_int ip_sub)) pss_nil)
  (pss_one (ps_expr (pe_bm PySem.F.plainAttrs_list PySem.F.slot_list_append PySem.F.type_list_append mt_append (pv 4) (pa_cons (pv 1) pa_nil)))))))
  (pss_one (ps_ret (pe_tup (pa_cons (pv 3) (pa_cons (pv 4) pa_nil))))))))), ?_⟩
    refine ⟨Nat.zero_le _, fun L nL => ⟨Nat.zero_le _, fun B nB => ?_⟩⟩
    have hBL : B ≠ L := fun e => by
      rw [e, upd_same] at nB
      cases nB
    have hHB : H B = none := Same.free (same_upd nL) nB
    have s2 : Same H (upd (upd H L (.lst [])) B (.lst [])) := (same_upd nL).trans (same_upd nB)
    refine ⟨.ref a, rfl, a, _, rfl, sT s2 hT, RR.for_enumT (K := K) (xs := cs.map V.int)
      (fun i σ H' => ∃ y5 y6 y7 ps, σ = [some (.int b), some (.int (Lg.preL b l cs i).2), some (.ref a), some (.ref L), some (.ref B), y5, y6, y7] ∧ H' L = some (.lst (ps.map V.ref)) ∧ Tups tv H' ps (Lg.preL b l cs i).1 ∧ H' B = some (.lst ((Lg.behindL b l cs i).map V.int)) ∧ Same H H')
      ⟨_, _, _, [], rfl, by rw [upd_ne hBL.symm, upd_same]; rfl, .nil, upd_same, s2⟩ (fun i σ H' _ h => ?_) (fun i x T σ H' hx h nT => ?_) (fun σ H' h => ?_)⟩
    · obtain ⟨_, _, _, _, _, _, _, _, sm⟩ := h
      exact sT sm hT
    · obtain ⟨y5, y6, y7, ps, rfl, eL, tu, eB, sm⟩ := h
      rw [List.getElem?_map] at hx
      obtain ⟨c, hc, rfl⟩ := Option.map_eq_some_iff.mp hx
      have bc := g.2 c (List.mem_of_getElem? hc)
      have ec := Ln.getD_of hc
      have hi : i < cs.length := (List.getElem?_eq_some_iff.mp hc).1
      have smT : Same H' (upd H' T (.tup [.int (i : Nat), .int c])) := same_upd nT
      refine ⟨T, _, rfl, SqT.of upd_same, rfl, _, [_], rfl, _, [], rfl, rfl, ?_⟩
      refine ⟨.int c, rfl, _, _, rfl, rfl, 1, c + 1, rfl, ⟨by omega, by omega, by omega, by omega⟩, for_range (lo := 1) (n := (c + 1 - 1).toNat)
        (fun j σ H2 => ∃ y7 ps, σ = [some (.int b), some (.int (Ln.turns b (i : Int) j (Lg.preL b l cs i)).2), some (.ref a), some (.ref L), some (.ref B), some (.int (i : Nat)), some (.int c), y7] ∧ H2 L = some (.lst (ps.map V.ref)) ∧ Tups tv H2 ps (Ln.turns b (i : Int) j (Lg.preL b l cs i)).1 ∧ H2 B = some (.lst ((Lg.behindL b l cs i).map V.int)) ∧ Same H H2)
        ⟨_, ps, rfl, smT _ _ eL, tu.new nT, smT _ _ eB, sm.trans smT⟩ (fun j σ H2 hj h => ?_) (fun σ H2 h => ?_)⟩
      · obtain ⟨y7, ps, rfl, eL, tu, eB, sm⟩ := h
        have zl : ps.length ≤ 1640 := by
          rw [tu.length, Ln.turns_len]
          have := Lg.preL_len (b := b) (l := l) g4 i
          omega
        refine ⟨_, rfl, _, rfl, _, _, rfl, rfl, _, rfl, ite2 (fun h1 => ?_) (fun h1 => ?_)⟩
        · have hb1 : (Ln.turns b (i : Int) j (Lg.preL b l cs i)).2 > b := of_decide_eq_true h1
          have es : Ln.turns b (i : Int) (j + 1) (Lg.preL b l cs i) = ((Ln.turns b (i : Int) j (Lg.preL b l cs i)).1 ++ [((i : Int), 1 + (j : Int), none)], (Ln.turns b (i : Int) j (Lg.preL b l cs i)).2) := if_pos hb1
          refine ⟨.ref L, rfl, .inl ⟨rfl, _, SqL.of eL⟩, _, rfl, _, rfl, by show 3 ≤ sizeLine; decide, fun p np => ?_⟩
          have s3 := same_upd (o := .tup (tv ((i : Int), 1 + (j : Int), none))) np
          refine ⟨L, _, _, rfl, rfl, s3 _ _ eL, by rw [List.length_map]; exact small2000 (by omega), ?_⟩
          refine ⟨_, ps ++ [p], by rw [es]; rfl, by rw [upd_same, List.map_append]; rfl, ?_, ?_, fun b o e => ?_⟩
          · rw [es]
            exact ((tu.new np).snoc (x := ((i : Int), 1 + (j : Int), none)) upd_same).put (s3 _ _ eL)
          · rw [upd_ne hBL]
            exact s3 _ _ eB
          · rw [upd_ne (ne_of_none e nL)]
            exact s3 _ _ (sm _ _ e)
        · have hb1 : ¬ (Ln.turns b (i : Int) j (Lg.preL b l cs i)).2 > b := fun z => h1 (decide_eq_true z)
          have es : Ln.turns b (i : Int) (j + 1) (Lg.preL b l cs i) = ((Ln.turns b (i : Int) j (Lg.preL b l cs i)).1 ++ [((i : Int), 1 + (j : Int), some (Ln.turns b (i : Int) j (Lg.preL b l cs i)).2)], (Ln.turns b (i : Int) j (Lg.preL b l cs i)).2 + 1) := if_neg hb1
          refine ⟨.ref L, rfl, .inl ⟨rfl, _, SqL.of eL⟩, _, rfl, _, rfl, _, rfl, by show 3 ≤ sizeLine; decide, fun p np => ?_⟩
          have s3 := same_upd (o := .tup (tv ((i : Int), 1 + (j : Int), some (Ln.turns b (i : Int) j (Lg.preL b l cs i)).2))) np
          refine ⟨L, _, _, rfl, rfl, s3 _ _ eL, by rw [List.length_map]; exact small2000 (by omega), ?_⟩
          refine ⟨_, rfl, _, _, rfl, rfl, ?_⟩
          refine ⟨_, ps ++ [p], by rw [es]; rfl, by rw [upd_same, List.map_append]; rfl, ?_, ?_, fun b o e => ?_⟩
          · rw [es]
            exact ((tu.new np).snoc (x := ((i : Int), 1 + (j : Int), some (Ln.turns b (i : Int) j (Lg.preL b l cs i)).2)) upd_same).put (s3 _ _ eL)
          · rw [upd_ne hBL]
            exact s3 _ _ eB
          · rw [upd_ne (ne_of_none e nL)]
            exact s3 _ _ (sm _ _ e)
      · obtain ⟨y7, ps, rfl, eL, tu, eB, sm⟩ := h
        have en : (c + 1 - 1).toNat = (cs.getD i 0).toNat := by
          rw [ec]
          omega
        rw [en] at tu ⊢
        refine ⟨fun σ' H3 => ∃ y7, σ' = [some (.int b), some (.int (Lg.preL b l cs (i + 1)).2), some (.ref a), some (.ref L), some (.ref B), some (.int (i : Nat)), some (.int c), y7] ∧ H3 = H2, ?_, fun σ' H3 hm => ?_⟩
        · refine ⟨_, rfl, _, _, rfl, rfl, _, rfl, ite2 (fun h1 => ?_) (fun h1 => ?_)⟩
          · refine ⟨_, rfl, _, _, rfl, rfl, ?_⟩
            refine ⟨y7, ?_, rfl⟩
            have e : (Lg.preL b l cs (i + 1)).2 = (Ln.turns b (i : Int) (cs.getD i 0).toNat (Lg.preL b l cs i)).2 - 1 := if_pos (of_decide_eq_true h1)
            rw [e]
            rfl
          · refine ⟨y7, ?_, rfl⟩
            have e : (Lg.preL b l cs (i + 1)).2 = (Ln.turns b (i : Int) (cs.getD i 0).toNat (Lg.preL b l cs i)).2 := if_neg (fun z => h1 (decide_eq_true z))
            rw [e]
        · obtain ⟨y7, rfl, rfl⟩ := hm
          refine ⟨.ref B, rfl, .inl ⟨rfl, _, SqL.of eB⟩, _, rfl, B, _, _, rfl, rfl, eB, by rw [List.length_map, Lg.behindL_len]; exact small1000 (by omega), ?_⟩
          refine ⟨_, _, _, ps, rfl, by rw [upd_ne hBL.symm]; exact eL, tu.put eB, ?_, fun b o e => ?_⟩
          · rw [upd_same]
            show _ = some (HO.lst ((Lg.behindL b l cs i ++ [(Lg.preL b l cs (i + 1)).2]).map V.int))
            rw [List.map_append]
            rfl
          · rw [upd_ne (ne_of_none e hHB)]
            exact sm _ _ e
    · obtain ⟨y5, y6, y7, ps, rfl, eL, tu, eB, sm⟩ := h
      rw [List.length_map] at tu eB
      refine ⟨.ref L, rfl, .ref B, rfl, by show 2 ≤ sizeLine; decide, fun p np => ?_⟩
      have s3 := same_upd (o := .tup [.ref L, .ref B]) np
      exact q L B p ps _ (sm.trans s3) nL hHB hBL.symm (s3 _ _ eL) (tu.new np) (s3 _ _ eB) upd_same
def spLetters (K : PySem.W.Frag) : Sp := fun vs H Q _ => ∃ (a : Addr) (cs : List Int) (b k : Int), vs = [.int b, .ref a] ∧ SqT K H a (cs.map V.int) ∧ Rt k cs ∧ k ≤ 4 ∧ 0 ≤ b ∧
  ∀ L ps H', Same H H' → H L = none → H' L = some (.lst (ps.map V.ref)) → Tups tv H' ps (Ln.letts b cs) → Q (.ref L) H'
theorem ok_letters_of (T : Tx K mg) : FnOk P w K mg base CX0 2 T.a_letters_of T.d_letters_of ["bound", "comings"] (spLetters K) := by
  refine T.F_letters_of.ok sc_letters_of (fun vs H Q E h => ?_) (fun cdv A outer s H vs Q E hr h => ?_)
  · obtain ⟨a, cs, b, k, rfl, _⟩ := h
    rfl
  · obtain ⟨a, cs, b, k, rfl, hT, g, hk, hb, q⟩ := h
    refine ⟨_, ((pss_cons (ps_asg (pe_call (ok_follow_line T) (hr.mono (by decide)) (by rfl) T.g_follow_line T.F_follow_line.kp T.b_follow_line .nil pass0 (pa_cons (pv 0) (pa_cons pe_int (pa_cons (pv 1) pa_nil)))) (pg_tup rfl (pgs_cons (pg_name (i := 2) sc_letters_of.nd rfl (.inl rfl)) (pgs_cons (pg_name (i := 3) sc_letters_of.nd rfl (.inl rfl)) pgs_nil))))
  (pss_one (ps_ret (pv 2))))), ?_⟩
    refine ⟨.int b, rfl, .ref a, rfl, a, cs, b, 0, k, rfl, hT, g, hk, hb, fun L B p ps H' sm nL nB hLB eL tu eB ep => ?_⟩
    rw [Lg.preL_0] at tu
    refine ⟨p, _, rfl, SqT.of ep, rfl, _, [_], rfl, _, [], rfl, rfl, ?_⟩
    exact ⟨.ref L, rfl, q L ps H' sm nL eL tu⟩
end

section
variable {P : Program} {w : World} {K : PySem.W.Frag} {mg : Str → Option Value} {base : Heap}
def spWaits (K : PySem.W.Frag) : Sp := fun vs H Q _ => ∃ (a : Addr) (cs : List Int) (k b : Int), vs = [.int k, .int b, .ref a] ∧ SqT K H a (cs.map V.int) ∧ Rt k cs ∧ 2 ≤ k ∧ k ≤ 4 ∧ 1 ≤ b ∧ b ≤ 60 ∧
  ∀ L H', Same H H' → H L = none → H' L = some (.lst ((Ln.letts b cs).map fun l => wv l.2.2)) → Q (.ref L) H'
theorem letts_len {b : Int} {cs : List Int} (g4 : ∀ c ∈ cs, c ≤ 4) (g1 : cs.length ≤ 400) : (Ln.letts b cs).length ≤ 1600 := by
  have := Ln.pre_len (b := b) g4 cs.length
  unfold Ln.letts
  omega
theorem ok_waits (T : Tx K mg) : FnOk P w K mg base CX0 6 T.a_waits T.d_waits ["comers", "bound", "comings"] (spWaits K) := by
  refine T.F_waits.ok sc_waits (fun vs H Q E h => ?_) (fun cdv A outer s H vs Q E hr h => ?_)
  · obtain ⟨a, cs, k, b, rfl, _⟩ := h
    rfl
  · obtain ⟨a, cs, k, b, rfl, hT0, g, hk2, hk, hb1, hb2, q⟩ := h
    have g4 := g.four hk
    have zl := letts_len (b := b) g4 g.1
    refine ⟨_, ((pss_cons (ps_expr (pe_call (ok_check_comers T) (hr.mono (by decide)) (by rfl) T.g_check_comers T.F_check_comers.kp T.b_check_comers .nil pass0 (pa_cons (pv 0) pa_nil)))
  (pss_cons (ps_expr (pe_call (ok_check_bound T) (hr.mono (by decide)) (by rfl) T.g_check_bound T.F_check_bound.kp T.b_check_bound .nil pass0 (pa_cons (pv 1) pa_nil)))
  (pss_cons (ps_expr (pe_call (ok_check_comings T) (hr.mono (by decide)) (by rfl) T.g_check_comings T.F_check_comings.kp T.b_check_comings .nil pass0 (pa_cons (pv 0) (pa_cons (pv 2) pa_nil))))
  (pss_one (ps_ret (pe_lc (own := [("tick", 3), ("turn", 4), ("wait", 5)]) (g := (gTup K 3 (gCons (gName 3) (gCons (gName 4) (gCons (gName 5) gNil))))) (tt := tYes) rfl sc_waits.nd (pi_list (pe_call (ok_letters_of T) (hr.mono (by decide)) (by rfl) T.g_letters_of T.F_letters_of.kp T.b_letters_of .nil pass0 (pa_cons (pv 1) (pa_cons (pv 2) pa_nil)))) (blkOk_by (own := [("tick", 3), ("turn", 4), ("wait", 5)]) (N := ["comers", "bound", "comings", "tick", "turn", "wait"]) (sc := defScope s_waits) (by decide +kernel)) (fun _ _ _ _ _ => pg_tup rfl (pgs_cons (pg_name (i := 3) sc_waits.nd rfl (.inl rfl)) (pgs_cons (pg_name (i := 4) sc_waits.nd rfl (.inl rfl)) (pgs_cons (pg_name (i := 5) sc_waits.nd rfl (.inl rfl)) pgs_nil)))) (fun _ _ _ _ _ => pts_nil) (fun _ _ _ _ _ => (pv 5))))))))), ?_⟩
    refine ⟨.int k, rfl, k, rfl, hk2, hk, ?_⟩
    refine ⟨.int b, rfl, b, rfl, hb1, hb2, ?_⟩
    refine ⟨.int k, rfl, .ref a, rfl, a, cs, k, rfl, hT0, g, fun H0 s0 => ?_⟩
    have hT := sT s0 hT0
    refine ⟨.int b, rfl, .ref a, rfl, a, cs, b, k, rfl, hT, g, hk, by omega, fun L ps H1 s1 nL eL tu => ?_⟩
    refine ⟨L, rfl, ⟨_, SqL.of eL⟩, fun D hD => lc_list (K := K) (a := L) (xs := ps.map V.ref)
      (fun i H' => Same H1 H' ∧ H' D = some (.lst (((Ln.letts b cs).take i).map fun l => wv l.2.2)))
      ⟨same_upd hD, upd_same⟩ (fun i H' _ p => SqL.of (p.1 _ _ eL)) (fun i x H' hx p => ?_) (fun H' p => ?_)⟩
    · obtain ⟨sm, eD⟩ := p
      obtain ⟨r, l, rfl, hl, er⟩ := tu.get hx
      refine ⟨r, _, rfl, SqT.of (sm _ _ er), rfl, _, [_, _], rfl, _, [_], rfl, _, [], rfl, rfl, rfl, ?_⟩
      refine ⟨_, rfl, _, eD, ?_, fun b o e => ?_, ?_⟩
      · rw [List.length_map, List.length_take]
        exact small2000 (by omega)
      · rw [upd_ne (ne_of_none e hD)]
        exact sm _ _ e
      · rw [upd_same, List.take_add_one, hl, List.map_append]
        rfl
    · obtain ⟨sm, eD⟩ := p
      rw [List.length_map, tu.length, List.take_of_length_le (Nat.le_refl _)] at eD
      exact q D H' ((s0.trans s1).trans sm) (Same.free (s0.trans s1) hD) eD
end

section
variable {P : Program} {w : World} {K : PySem.W.Frag} {mg : Str → Option Value} {base : Heap}
def spLines (K : PySem.W.Frag) : Sp := fun vs H Q _ => ∃ (a : Addr) (cs : List Int) (k b : Int), vs = [.int k, .int b, .ref a] ∧ SqT K H a (cs.map V.int) ∧ Rt k cs ∧ 2 ≤ k ∧ k ≤ 4 ∧ 1 ≤ b ∧ b ≤ 60 ∧
  ∀ L H', Same H H' → H L = none → H' L = some (.lst ((Ln.behind b cs cs.length).map V.int)) → Q (.ref L) H'
theorem ok_lines (T : Tx K mg) : FnOk P w K mg base CX0 6 T.a_lines T.d_lines ["comers", "bound", "comings"] (spLines K) := by
  refine T.F_lines.ok sc_lines (fun vs H Q E h => ?_) (fun cdv A outer s H vs Q E hr h => ?_)
  · obtain ⟨a, cs, k, b, rfl, _⟩ := h
    rfl
  · obtain ⟨a, cs, k, b, rfl, hT0, g, hk2, hk, hb1, hb2, q⟩ := h
    refine ⟨_, ((pss_cons (ps_expr (pe_call (ok_check_comers T) (hr.mono (by decide)) (by rfl) T.g_check_comers T.F_check_comers.kp T.b_check_comers .nil pass0 (pa_cons (pv 0) pa_nil)))
  (pss_cons (ps_expr (pe_call (ok_check_bound T) (hr.mono (by decide)) (by rfl) T.g_check_bound T.F_check_bound.kp T.b_check_bound .nil pass0 (pa_cons (pv 1) pa_nil)))
  (pss_cons (ps_expr (pe_call (ok_check_comings T) (hr.mono (by decide)) (by rfl) T.g_check_comings T.F_check_comings.kp T.b_check_comings .nil pass0 (pa_cons (pv 0) (pa_cons (pv 2) pa_nil))))
  (pss_cons (ps_asg (pe_call (ok_follow_line T) (hr.mono (by decide)) (by rfl) T.g_follow_line T.F_follow_line.kp T.b_follow_line .nil pass0 (pa_cons (pv 1) (pa_cons pe_int (pa_cons (pv 2) pa_nil)))) (pg_tup rfl (pgs_cons (pg_name (i := 3) sc_lines.nd rfl (.inl rfl)) (pgs_cons (pg_name (i := 4) sc_lines.nd rfl (.inl rfl)) pgs_nil))))
  (pss_one (ps_ret (pv 4)))))))), ?_⟩
    refine ⟨.int k, rfl, k, rfl, hk2, hk, ?_⟩
    refine ⟨.int b, rfl, b, rfl, hb1, hb2, ?_⟩
    refine ⟨.int k, rfl, .ref a, rfl, a, cs, k, rfl, hT0, g, fun H0 s0 => ?_⟩
    have hT := sT s0 hT0
    refine ⟨.int b, rfl, .ref a, rfl, a, cs, b, 0, k, rfl, hT, g, hk, by omega, fun L B p ps H' sm nL nB hLB eL tu eB ep => ?_⟩
    rw [Lg.behindL_0] at eB
    refine ⟨p, _, rfl, SqT.of ep, rfl, _, [_], rfl, _, [], rfl, rfl, ?_⟩
    exact ⟨.ref B, rfl, q B H' (s0.trans sm) (Same.free s0 nB) eB⟩
end

/-! ### long comings -/
section
variable {P : Program} {w : World} {K : PySem.W.Frag} {mg : Str → Option Value} {base : Heap}
/-- a pair of comings and a number -/
def Lp (K : PySem.W.Frag) (H : Hp) (p : Addr) (x : List Int × Int) : Prop := ∃ ca, H p = some (.tup [.ref ca, .int x.2]) ∧ SqT K H ca (x.1.map V.int)
inductive Lps (K : PySem.W.Frag) (H : Hp) : List Addr → List (List Int × Int) → Prop
  | nil : Lps K H [] []
  | cons {p x ps xs} : Lp K H p x → Lps K H ps xs → Lps K H (p :: ps) (x :: xs)
theorem Lp.same {K : PySem.W.Frag} {H H' : Hp} {p x} (h : Lp K H p x) (s : Same H H') : Lp K H' p x := let ⟨ca, e, c⟩ := h; ⟨ca, s _ _ e, sT s c⟩
theorem Lps.same {K : PySem.W.Frag} {H H' : Hp} {ps xs} (h : Lps K H ps xs) (s : Same H H') : Lps K H' ps xs := by
  induction h with
  | nil => exact .nil
  | cons a _ ih => exact .cons (a.same s) ih
theorem Lps.len {K : PySem.W.Frag} {H : Hp} {ps xs} (h : Lps K H ps xs) : ps.length = xs.length := by
  induction h with
  | nil => rfl
  | cons _ _ ih => rw [List.length_cons, List.length_cons, ih]
theorem Lps.get {K : PySem.W.Frag} {H : Hp} {ps xs} (h : Lps K H ps xs) : ∀ {i : Nat} {v : V}, (ps.map V.ref)[i]? = some v → ∃ p x, v = .ref p ∧ xs[i]? = some x ∧ Lp K H p x := by
  induction h with
  | nil =>
    intro i v h
    simp at h
  | cons a _ ih =>
    intro i v h
    cases i with
    | zero =>
      simp at h
      exact ⟨_, _, h.symm, rfl, a⟩
    | succ i =>
      simp only [List.map_cons, List.getElem?_cons_succ] at h ⊢
      exact ih h
def spIsRound (K : PySem.W.Frag) : Sp := fun vs H Q _ => ∃ (a : Addr) (cs : List Int) (k : Int), vs = [.int k, .ref a] ∧ SqT K H a (cs.map V.int) ∧ Rt k cs ∧ cs.length ≤ 60 ∧ ∀ H', Same H H' → Q (.bl true) H'
theorem ok_is_round (T : Tx K mg) : FnOk P w K mg base CX0 5 T.a_is_round T.d_is_round ["comers", "thing"] (spIsRound K) := by
  refine T.F_is_round.ok sc_is_round (fun vs H Q E h => ?_) (fun cdv A outer s H vs Q E hr h => ?_)
  · obtain ⟨a, cs, k, rfl, _⟩ := h
    rfl
  · obtain ⟨a, cs, k, rfl, hT, g, h60, q⟩ := h
    refine ⟨_, ((pss_one (ps_ret (pe_and (pe_call (ok_is_comings T) (hr.mono (by decide)) (by rfl) T.g_is_comings T.F_is_comings.kp T.b_is_comings .nil pass0 (pa_cons (pv 0) (pa_cons (pv 1) pa_nil))) (pe_one (pe_cmpR op_le (pe_callB call_len_seq (by rfl) T.m_len PySem.boot_len (pa_cons (pv 1) pa_nil)) (pe_glob (v := .int 60) rfl T.g_MOST_ROUND ⟨_, rfl⟩) (nomark _))))))), ?_⟩
    refine ⟨.int k, rfl, .ref a, rfl, a, cs, k, rfl, hT, g, fun H' sm => ⟨true, rfl, iteT ?_⟩⟩
    refine ⟨.ref a, rfl, a, _, rfl, .inr (sT sm hT), _, 60, rfl, rfl, ?_⟩
    have e : decide ((((cs.map V.int).length : Nat) : Int) ≤ 60) = true := decide_eq_true (by rw [List.length_map]; omega)
    show Q (V.bl (decide ((((cs.map V.int).length : Nat) : Int) ≤ 60))) H'
    rw [e]
    exact q H' sm
def spIsLP (K : PySem.W.Frag) : Sp := fun vs H Q _ => ∃ (p : Addr) (x : List Int × Int) (k : Int), vs = [.int k, .ref p] ∧ Lp K H p x ∧ (∀ c ∈ x.1, 0 ≤ c ∧ c ≤ k) ∧ x.1.length ≤ 60 ∧ 0 ≤ x.2 ∧ x.2 ≤ 10 ^ 30 ∧ ∀ H', Same H H' → Q (.bl true) H'
theorem ok_is_long_pair (T : Tx K mg) : FnOk P w K mg base CX0 6 T.a_is_long_pair T.d_is_long_pair ["comers", "thing"] (spIsLP K) := by
  refine T.F_is_long_pair.ok sc_is_long_pair (fun vs H Q E h => ?_) (fun cdv A outer s H vs Q E hr h => ?_)
  · obtain ⟨p, x, k, rfl, _⟩ := h
    rfl
  · obtain ⟨p, x, k, rfl, ⟨ca, ep, hC⟩, hk, h60, n0, n1, q⟩ := h
    refine ⟨_, ((pss_cons (ps_if (PW.pt (pw_or (pt_not (pt_val (pe_callB call_isi (by rfl) T.m_isinstance (by decide +kernel) (pa_cons (pv 1) (pa_cons (pe_bltn (v := .ty "tuple") (by rfl) T.m_tuple (by decide +kernel) rfl) pa_nil))))) (pw_or1 (pt_cmpR op_ne (pe_callB call_len_seq (by rfl) T.m_len PySem.boot_len (pa_cons (pv 1) pa_nil)) pe_int (nomark _))))) (pss_one (ps_ret pe_bl)) pss_nil)
  (pss_one (ps_ret (pe_and (pe_call (ok_is_round T) (hr.mono (by decide)) (by rfl) T.g_is_round T.F_is_round.kp T.b_is_round .nil pass0 (pa_cons (pv 0) (pa_cons (pe_ix ix_tup (pv 1) pe_int (fun _ _ => rfl)) pa_nil))) (pe_one (pe_call (ok_is_number T) (hr.mono (by decide)) (by rfl) T.g_is_number T.F_is_number.kp T.b_is_number .nil pass0 (pa_cons (pe_ix ix_tup (pv 1) pe_int (fun _ _ => rfl)) (pa_cons pe_int (pa_cons (pe_op op_pow pe_int pe_int) pa_nil)))))))))), ?_⟩
    refine ⟨.ref p, rfl, .ref p, .ty "tuple", _, _, true, rfl, .ty _, tyTup (SqT.of ep), kit_ty (by decide +kernel), true, rfl, iteF ?_⟩
    refine ⟨.ref p, rfl, p, _, rfl, .inr (SqT.of ep), rfl, false, rfl, iteF ?_⟩
    refine ⟨.int k, rfl, .ref p, rfl, p, _, 0, _, rfl, rfl, SqT.of ep, atI_nat (j := 0) rfl, ca, x.1, k, rfl, hC, ⟨by omega, hk⟩, h60, fun H' sm => ⟨true, rfl, iteT ?_⟩⟩
    refine ⟨.ref p, rfl, p, _, 1, _, rfl, rfl, SqT.of (sm _ _ ep), atI_nat (j := 1) rfl, ?_⟩
    refine ⟨10, 30, rfl, rfl, ⟨by decide, by decide, by decide⟩, x.2, 0, 10 ^ 30, rfl, ?_⟩
    rw [decide_eq_true n0, decide_eq_true n1]
    exact q H' sm
def spChkLong (K : PySem.W.Frag) : Sp := fun vs H Q _ => ∃ (ra : Addr) (ps : List Addr) (xs : List (List Int × Int)) (k b : Int), vs = [.int k, .int b, .ref ra] ∧ SqT K H ra (ps.map V.ref) ∧ Lps K H ps xs ∧ Lg.Right k xs ∧ 2 ≤ k ∧ k ≤ 4 ∧ 1 ≤ b ∧ b ≤ 60 ∧ ∀ H', Same H H' → Q .non H'
theorem ok_check_long (T : Tx K mg) : FnOk P w K mg base CX0 7 T.a_check_long T.d_check_long ["comers", "bound", "long"] (spChkLong K) := by
  refine T.F_check_long.ok sc_check_long (fun vs H Q E h => ?_) (fun cdv A outer s H vs Q E hr h => ?_)
  · obtain ⟨ra, ps, xs, k, b, rfl, _⟩ := h
    rfl
  · obtain ⟨ra, ps, xs, k, b, rfl, hR, lp, R, k2, k4, b1, b60, q⟩ := h
    refine ⟨_, ((pss_cons (ps_expr (pe_call (ok_check_comers T) (hr.mono (by decide)) (by rfl) T.g_check_comers T.F_check_comers.kp T.b_check_comers .nil pass0 (pa_cons (pv 0) pa_nil)))
  (pss_cons (ps_expr (pe_call (ok_check_bound T) (hr.mono (by decide)) (by rfl) T.g_check_bound T.F_check_bound.kp T.b_check_bound .nil pass0 (pa_cons (pv 1) pa_nil)))
  (pss_one (ps_if (PW.pt (pw_or (pt_not (pt_val (pe_callB call_isi (by rfl) T.m_isinstance (by decide +kernel) (pa_cons (pv 2) (pa_cons (pe_bltn (v := .ty "tuple") (by rfl) T.m_tuple (by decide +kernel) rfl) pa_nil))))) (pw_or (pt_cmpR op_gt (pe_callB call_len_seq (by rfl) T.m_len PySem.boot_len (pa_cons (pv 2) pa_nil)) (pe_glob (v := .int 20) rfl T.g_MOST_PAIRS ⟨_, rfl⟩) (nomark _)) (pw_or1 (pt_not (pt_val (pe_callB (cr_all rfl) (by rfl) T.m_all (by decide +kernel) (pa_cons (pe_lc (own := [("pair", 3)]) (g := (gName 3)) (tt := tYes) rfl sc_check_long.nd (pi_tup (pv 2)) (blkOk_by (own := [("pair", 3)]) (N := ["comers", "bound", "long", "pair"]) (sc := defScope s_check_long) (by decide +kernel)) (fun _ _ _ _ _ => pg_name (i := 3) sc_check_long.nd rfl (.inl rfl)) (fun _ _ _ _ _ => pts_nil) (fun _ _ _ _ _ => (pe_call (ok_is_long_pair T) (hr.mono (by decide)) (by rfl) T.g_is_long_pair T.F_is_long_pair.kp T.b_is_long_pair .nil pass0 (pa_cons (pv 0) (pa_cons (pv 3) pa_nil))))) pa_nil)))))))) (pss_one ps_never) pss_nil))))), ?_⟩
    have zl := lp.len
    have r20 := R.1
    refine ⟨.int k, rfl, k, rfl, k2, k4, ?_⟩
    refine ⟨.int b, rfl, b, rfl, b1, b60, ?_⟩
    refine ⟨.ref ra, rfl, .ref ra, .ty "tuple", _, _, true, rfl, .ty _, tyTup hR, kit_ty (by decide +kernel), true, rfl, iteF ?_⟩
    refine ⟨.ref ra, rfl, ra, _, rfl, .inr hR, _, 20, rfl, rfl, false, congrArg V.bl (decide_eq_false (by rw [List.length_map]; omega)), iteF ?_⟩
    refine ⟨.ref ra, rfl, ra, rfl, ⟨_, hR⟩, fun D nD => lc_tup (K := K) (a := ra) (xs := ps.map V.ref)
      (fun i H' => Same H H' ∧ H' D = some (.lst (List.replicate i (V.bl true))))
      ⟨same_upd nD, upd_same⟩ (fun i H' _ h => sT h.1 hR) (fun i x H' hx h => ?_) (fun H' h => ?_)⟩
    · obtain ⟨sm, eD⟩ := h
      obtain ⟨p, y, rfl, hy, ly⟩ := lp.get hx
      have hi := (List.getElem?_eq_some_iff.mp hy).1
      obtain ⟨y60, yk, y0, y1⟩ := R.2 y (List.mem_of_getElem? hy)
      refine ⟨rfl, .int k, rfl, .ref p, rfl, p, y, k, rfl, ly.same sm, yk, y60, y0, y1, fun H2 s2 => ?_⟩
      refine ⟨_, s2 _ _ eD, by rw [List.length_replicate]; exact small1000 (by omega), same_put (sm.trans s2) nD, ?_⟩
      rw [upd_same, List.replicate_succ']
    · obtain ⟨sm, eD⟩ := h
      refine ⟨D, List.replicate (ps.map V.ref).length true, rfl, .inl (.inl (by rw [eD, List.map_replicate])), true, ?_, iteF ?_⟩
      · rw [List.all_replicate]
        simp
      · exact q H' sm
/-- a round from a line on -/
def spFRound (K : PySem.W.Frag) : Sp := fun vs H Q _ => ∃ (a : Addr) (cs : List Int) (b l k : Int), vs = [.int b, .int l, .ref a] ∧ SqT K H a (cs.map V.int) ∧ Rt k cs ∧ k ≤ 4 ∧ 0 ≤ b ∧
  ∀ p H', Same H H' → H p = none → H' p = some (.tup [.int (Lg.rd b cs l).1, .int cs.sum, .int (Lg.rd b cs l).2.2]) → Q (.ref p) H'
theorem ok_follow_round (T : Tx K mg) : FnOk P w K mg base CX0 2 T.a_follow_round T.d_follow_round ["bound", "line", "comings"] (spFRound K) := by
  refine T.F_follow_round.ok sc_follow_round (fun vs H Q E h => ?_) (fun cdv A outer s H vs Q E hr h => ?_)
  · obtain ⟨a, cs, b, l, k, rfl, _⟩ := h
    rfl
  · obtain ⟨a, cs, b, l, k, rfl, hT, g, hk, hb, q⟩ := h
    have g4 := g.four hk
    have g1 := g.1
    refine ⟨_, ((pss_cons (ps_asg (pe_call (ok_follow_line T) (hr.mono (by decide)) (by rfl) T.g_follow_line T.F_follow_line.kp T.b_follow_line .nil pass0 (pa_cons (pv 0) (pa_cons (pv 1) (pa_cons (pv 2) pa_nil)))) (pg_tup rfl (pgs_cons (pg_name (i := 3) sc_follow_round.nd rfl (.inl rfl)) (pgs_cons (pg_name (i := 4) sc_follow_round.nd rfl (.inl rfl)) pgs_nil))))
  (pss_cons (ps_set (i := 5) sc_follow_round.nd rfl (.inl rfl) (pe_callB call_len_seq (by rfl) T.m_len PySem.boot_len (pa_cons (pe_lc (own := [("tick", 6), ("_", 7), ("wait", 8)]) (g := (gTup K 3 (gCons (gName 6) (gCons (gName 7) (gCons (gName 8) gNil))))) rfl sc_follow_round.nd (pi_list (pv 3)) (blkOk_by (own := [("tick", 6), ("_", 7), ("wait", 8)]) (N := ["bound", "line", "comings", "letters", "behind", "away", "tick", "_", "wait"]) (sc := defScope s_follow_round) (by decide +kernel)) (fun _ _ _ _ _ => pg_tup rfl (pgs_cons (pg_name (i := 6) sc_follow_round.nd rfl (.inl rfl)) (pgs_cons (pg_name (i := 7) sc_follow_round.nd rfl (.inl rfl)) (pgs_cons (pg_name (i := 8) sc_follow_round.nd rfl (.inl rfl)) pgs_nil)))) (fun _ _ _ _ _ => (pts_one (pt_cmpR op_isN (pv 8) pe_non (nomark _)))) (fun _ _ _ _ _ => (pv 6))) pa_nil)))
  (pss_one (ps_ret (pe_tup (pa_cons (pe_ifExp (pt_truth (pv 4) (by intro _; rfl)) (pe_ix ix_list (pv 4) (pe_un un_neg pe_int) (fun _ _ => rfl)) (pv 1)) (pa_cons (pe_callB call_len_seq (by rfl) T.m_len PySem.boot_len (pa_cons (pv 3) pa_nil)) (pa_cons (pv 5) pa_nil))))))))), ?_⟩
    refine ⟨.int b, rfl, .int l, rfl, .ref a, rfl, a, cs, b, l, k, rfl, hT, g, hk, hb, fun L B p ps H1 sm nL nB hLB eL tu eB ep => ?_⟩
    refine ⟨p, _, rfl, SqT.of ep, rfl, _, [_], rfl, _, [], rfl, rfl, ?_⟩
    have zl : ps.length ≤ 1600 := by
      rw [tu.length]
      have := Lg.preL_len (b := b) (l := l) g4 cs.length
      omega
    refine ⟨.ref L, rfl, L, rfl, ⟨_, SqL.of eL⟩, fun D nD => lc_list (K := K) (a := L) (xs := ps.map V.ref)
      (fun i H' => ∃ ks : List Int, Same H1 H' ∧ H' D = some (.lst (ks.map V.int)) ∧ ks.length ≤ i ∧ ((ks.length : Nat) : Int) = Lg.away ((Lg.preL b l cs cs.length).1.take i))
      ⟨[], same_upd nD, upd_same, Nat.le_refl _, rfl⟩ (fun i H' _ h => let ⟨_, sm, _⟩ := h; SqL.of (sm _ _ eL)) (fun i x H' hx h => ?_) (fun H' h => ?_)⟩
    · obtain ⟨ks, s2, eD, zk, ek⟩ := h
      obtain ⟨r, y, rfl, hy, er⟩ := tu.get hx
      have hi := (List.getElem?_eq_some_iff.mp hx).1
      rw [List.length_map] at hi
      refine ⟨r, _, rfl, SqT.of (s2 _ _ er), rfl, _, [_, _], rfl, _, [_], rfl, _, [], rfl, rfl, rfl, ?_⟩
      have hy' : (Lg.preL b l cs cs.length).1.take (i + 1) = (Lg.preL b l cs cs.length).1.take i ++ [y] := by
        rw [List.take_add_one, hy]
        rfl
      obtain ⟨yt, yu, yw⟩ := y
      cases yw with
      | none =>
        refine ⟨.non, rfl, rfl, true, rfl, iteT ?_⟩
        refine ⟨_, rfl, _, eD, by rw [List.length_map]; exact small2000 (by omega), ks ++ [yt], same_put s2 nD, by rw [upd_same, List.map_append]; rfl, by rw [List.length_append]; show ks.length + 1 ≤ i + 1; omega, ?_⟩
        rw [hy', Lg.away_snoc, ← ek, List.length_append]
        rfl
      | some v =>
        refine ⟨.int v, rfl, rfl, false, rfl, iteF ?_⟩
        refine ⟨ks, s2, eD, by omega, ?_⟩
        rw [hy', Lg.away_snoc, ← ek]
        show _ = _ + (0 : Int)
        rw [Int.add_zero]
    · obtain ⟨ks, s2, eD, zk, ek⟩ := h
      rw [List.length_map, tu.length, List.take_of_length_le (Nat.le_refl _)] at ek
      refine ⟨D, _, rfl, .inl (SqL.of eD), ?_⟩
      rw [List.length_map, ek]
      have c0 : ∀ c ∈ cs, 0 ≤ c := fun c hc => (g.2 c hc).1
      obtain ⟨r1, r2⟩ := Lg.rd_pre b l cs cs.length
      have es : (((Lg.preL b l cs cs.length).1.length : Nat) : Int) = cs.sum := by
        rw [Lg.preL_sum c0 cs.length (Nat.le_refl _)]
        unfold Lg.sumN
        rw [List.take_length]
      have eB2 := s2 _ _ eB
      have eL2 := s2 _ _ eL
      refine ⟨.ref B, rfl, _, .inl ⟨_, SqL.of eB2, rfl⟩, ?_⟩
      have fin : ∀ v : Int, v = (Lg.rd b cs l).1 → ∀ p' : Addr, H' p' = none → Q (.ref p') (upd H' p' (.tup [.int v, .int (((ps.map V.ref).length : Nat) : Int), .int (Lg.away (Lg.preL b l cs cs.length).1)])) := fun v hv p' np => by
        refine q p' _ ((sm.trans s2).trans (same_upd np)) (Same.free (sm.trans s2) np) ?_
        rw [upd_same, hv, List.length_map, tu.length, es, ← r2]
        rfl
      cases hcs : cs with
      | nil =>
        subst hcs
        refine iteF ⟨.int l, rfl, .ref L, rfl, L, _, rfl, .inl (SqL.of eL2), _, rfl, by show 3 ≤ sizeLine; decide, fun p' np => ?_⟩
        exact fin l rfl p' np
      | cons c0' cs' =>
        have hne : 0 < cs.length := by rw [hcs]; exact Nat.succ_pos _
        obtain ⟨n, hn⟩ : ∃ n, cs.length = n + 1 := ⟨cs.length - 1, by omega⟩
        have eb : Lg.behindL b l cs cs.length = Lg.behindL b l cs n ++ [(Lg.preL b l cs cs.length).2] := by
          rw [hn]
          rfl
        rw [← hcs]
        have em : (List.map V.int (Lg.behindL b l cs cs.length)).isEmpty = false := by
          rw [eb, List.map_append]
          simp
        rw [em]
        refine iteT ⟨.ref B, rfl, 1, rfl, B, _, _, .int (Lg.preL b l cs cs.length).2, rfl, rfl, SqL.of eB2, by rw [eb, List.map_append]; exact atI_last _ _, ?_⟩
        refine ⟨.ref L, rfl, L, _, rfl, .inl (SqL.of eL2), _, rfl, by show 3 ≤ sizeLine; decide, fun p' np => ?_⟩
        exact fin _ r1.symm p' np
def spFLong (K : PySem.W.Frag) : Sp := fun vs H Q _ => ∃ (ra : Addr) (ps : List Addr) (xs : List (List Int × Int)) (k b : Int), vs = [.int b, .ref ra] ∧ SqT K H ra (ps.map V.ref) ∧ Lps K H ps xs ∧ Lg.Right k xs ∧ k ≤ 4 ∧ 0 ≤ b ∧ b ≤ 60 ∧
  ∀ p H', Same H H' → H' p = some (.tup [.int (Lg.tot b xs).1, .int (Lg.tot b xs).2.1, .int (Lg.tot b xs).2.2.2]) → Q (.ref p) H'
theorem ok_follow_long (T : Tx K mg) : FnOk P w K mg base CX0 3 T.a_follow_long T.d_follow_long ["bound", "long"] (spFLong K) := by
  refine T.F_follow_long.ok sc_follow_long (fun vs H Q E h => ?_) (fun cdv A outer s H vs Q E hr h => ?_)
  · obtain ⟨ra, ps, xs, k, b, rfl, _⟩ := h
    rfl
  · obtain ⟨ra, ps, xs, k, b, rfl, hR, lp, R, k4, hb, hb60, q⟩ := h
    refine ⟨_, ((pss_cons (ps_set (i := 2) sc_follow_long.nd rfl (.inl rfl) pe_int)
  (pss_cons (ps_set (i := 3) sc_follow_long.nd rfl (.inl rfl) pe_int)
  (pss_cons (ps_set (i := 4) sc_follow_long.nd rfl (.inl rfl) pe_int)
  (pss_cons (ps_for PassesOwn.never rfl (pi_tup (pv 1)) (pg_tup rfl (pgs_cons (pg_name (i := 5) sc_follow_long.nd rfl (.inl rfl)) (pgs_cons (pg_name (i := 6) sc_follow_long.nd rfl (.inl rfl)) pgs_nil)))
   (pss_cons (ps_set (i := 7) sc_follow_long.nd rfl (.inl rfl) (pv 6))
  (pss_one (ps_while PassesOwn.never (pt_cmpR op_gt (pv 7) pe_int (nomark _)) (pss_cons (ps_asg (pe_call (ok_follow_round T) (hr.mono (by decide)) (by rfl) T.g_follow_round T.F_follow_round.kp T.b_follow_round .nil pass0 (pa_cons (pv 0) (pa_cons (pv 2) (pa_cons (pv 5) pa_nil)))) (pg_tup rfl (pgs_cons (pg_name (i := 8) sc_follow_long.nd rfl (.inl rfl)) (pgs_cons (pg_name (i := 9) sc_follow_long.nd rfl (.inl rfl)) (pgs_cons (pg_name (i := 10) sc_follow_long.nd rfl (.inl rfl)) pgs_nil)))))
  (pss_cons (ps_set (i := 11) sc_follow_long.nd rfl (.inl rfl) (pe_ifExp (pt_cmpR op_eq (pv 8) (pv 2) (nomark _)) (pv 7) pe_int))
  (pss_cons (ps_set (i := 2) sc_follow_long.nd rfl (.inl rfl) (pv 8))
  (pss_cons (ps_aug (i := 3) sc_follow_long.nd rfl (.inl rfl) (pe_op op_mul (pv 11) (pv 9)) ip_add)
  (pss_cons (ps_aug (i := 4) sc_follow_long.nd rfl (.inl rfl) (pe_op op_mul (pv 11) (pv 10)) ip_add)
  (pss_one (ps_aug (i := 7) sc_follow_long.nd rfl (.inl rfl) (pv 11) ip_sub)))))))))))
  (pss_one (ps_ret (pe_tup (pa_cons (pv 2) (pa_cons (pv 3) (pa_cons (pv 4) pa_nil))))))))))), ?_⟩
    refine ⟨.ref ra, rfl, ra, rfl, ⟨_, hR⟩, for_tup (K := K) (xs := ps.map V.ref)
      (fun i σ H' => ∃ (y5 y6 y7 y8 y9 y10 y11 : Option V), σ = [some (.int b), some (.ref ra), some (.int (Lg.tot b (xs.take i)).1), some (.int (Lg.tot b (xs.take i)).2.1), some (.int (Lg.tot b (xs.take i)).2.2.2), y5, y6, y7, y8, y9, y10, y11] ∧ Same H H')
      ⟨_, _, _, _, _, _, _, rfl, fun _ _ e => e⟩ (fun i σ H' _ h => ?_) (fun i x σ H' hx h => ?_) (fun σ H' h => ?_)⟩
    · obtain ⟨_, _, _, _, _, _, _, _, sm⟩ := h
      exact sT sm hR
    · obtain ⟨y5, y6, y7, y8, y9, y10, y11, rfl, sm⟩ := h
      obtain ⟨p, x, rfl, hy, ca, ep, hC⟩ := lp.get hx
      obtain ⟨x60, xk, x0, x1⟩ := R.2 x (List.mem_of_getElem? hy)
      have c0 : ∀ c ∈ x.1, 0 ≤ c := fun c hc => (xk c hc).1
      have et : Lg.tot b (xs.take (i + 1)) = Lg.go1 b (Lg.tot b (xs.take i)) x := by
        unfold Lg.tot
        rw [take_snoc hy, List.foldl_append]
        rfl
      have qk : Lg.Qk b (Lg.tot b (xs.take i)) := Lg.tot_ok hb ⟨by rw [List.length_take]; have := R.1; omega, fun y hy' => R.2 y (List.mem_of_mem_take hy')⟩
      refine ⟨p, _, rfl, SqT.of (sm _ _ ep), rfl, _, [_], rfl, _, [], rfl, rfl, ?_⟩
      rw [et]
      generalize Lg.tot b (xs.take i) = s0 at *
      obtain ⟨cs, n⟩ := x
      have x0' : 0 ≤ n := x0
      have x1' : n ≤ 10 ^ 30 := x1
      refine ⟨.int n, rfl, ?_⟩
      refine ⟨fun m σ' H' => ∃ (d : Nat) (lv cv av lf : Int) (y8 y9 y10 y11 : Option V), (m : Int) = lf ∧ σ' = [some (.int b), some (.ref ra), some (.int lv), some (.int cv), some (.int av), some (.ref ca), some (.int n), some (.int lf), y8, y9, y10, y11] ∧ Same H H' ∧ lf = n - (d : Int) ∧ lv = (Lg.it b cs d s0.1).1 ∧ cv = s0.2.1 + (d : Int) * cs.sum ∧ av = s0.2.2.2 + (Lg.it b cs d s0.1).2.2,
        ⟨n.toNat, 0, _, _, _, n, y8, y9, y10, y11, by omega, rfl, sm, by omega, rfl, by simp, by show _ = s0.2.2.2 + 0; omega⟩, ?_⟩
      rintro m σ' H2 ⟨d, lv, cv, av, lf, y8, y9, y10, y11, em, rfl, s2, elf, elv, ecv, eav⟩
      have c0' : ∀ c ∈ cs, 0 ≤ c := c0
      have ok := Lg.it_ok qk.l0 qk.l1 c0' d
      refine ⟨.int lf, rfl, _, _, rfl, rfl, _, rfl, ite2 (fun c1 => ?_) (fun c1 => ?_)⟩
      · have c1' : lf > 0 := of_decide_eq_true c1
        refine ⟨fun σ3 H3 => ∃ (d' : Nat) (lv cv av lf' : Int) (y8 y9 y10 y11 : Option V), 0 ≤ lf' ∧ lf' < lf ∧ σ3 = [some (.int b), some (.ref ra), some (.int lv), some (.int cv), some (.int av), some (.ref ca), some (.int n), some (.int lf'), y8, y9, y10, y11] ∧ Same H H3 ∧ lf' = n - (d' : Int) ∧ lv = (Lg.it b cs d' s0.1).1 ∧ cv = s0.2.1 + (d' : Int) * cs.sum ∧ av = s0.2.2.2 + (Lg.it b cs d' s0.1).2.2,
          fun σ3 H3 h3 => ?_, ?_⟩
        · obtain ⟨d', a1, a2, a3, a4, z8, z9, z10, z11, le, lt, e3, s3, b1, b2, b3, b4⟩ := h3
          exact ⟨a4.toNat, by omega, d', a1, a2, a3, a4, z8, z9, z10, z11, by omega, e3, s3, b1, b2, b3, b4⟩
        · have l0 : 0 ≤ lv := by rw [elv]; exact ok.l0
          have l1 : lv ≤ b := by rw [elv]; exact ok.l1
          have h60 : cs.length ≤ 60 := x60
          have su := Lg.sum_le (cs := cs) fun c hc => by
            have : 0 ≤ c ∧ c ≤ k := xk c hc
            omega
          refine ⟨.int b, rfl, .int lv, rfl, .ref ca, rfl, ca, cs, b, lv, k, rfl, sT s2 hC, ⟨by omega, xk⟩, k4, hb, fun p3 H3 s3 np3 ep3 => ?_⟩
          refine ⟨p3, _, rfl, SqT.of ep3, rfl, _, [_, _], rfl, _, [_], rfl, _, [], rfl, rfl, ?_⟩
          have s23 := s2.trans s3
          have ro := Lg.rd_ok l0 l1 c0'
          have r0 := ro.l0
          have r2 := ro.o0
          have r3 := ro.a0
          have r4 := ro.sum
          refine ⟨.int (Lg.rd b cs lv).1, rfl, .int lv, rfl, rfl, _, rfl, ite2 (fun c2 => ?_) (fun c2 => ?_)⟩
          · have c2' : (Lg.rd b cs lv).1 = lv := V.int.inj (of_decide_eq_true c2)
            refine ⟨.int lf, rfl, .int (Lg.rd b cs lv).1, rfl, _, rfl, .int lf, rfl, .int cs.sum, rfl, _, _, rfl, rfl, .inr ⟨by omega, by omega⟩, _, _, rfl, rfl, ?_⟩
            refine ⟨_, rfl, .int lf, rfl, .int (Lg.rd b cs lv).2.2, rfl, _, _, rfl, rfl, .inr ⟨by omega, by omega⟩, _, _, rfl, rfl, ?_⟩
            refine ⟨_, rfl, .int lf, rfl, _, _, rfl, rfl, ?_⟩
            have ef := Lg.it_fix (b := b) (cs := cs) c2' lf.toNat
            have ea := Lg.it_add b cs d s0.1 lf.toNat
            rw [← elv, ef] at ea
            have en : ((lf.toNat : Nat) : Int) = lf := by omega
            refine ⟨d + lf.toNat, _, _, _, lf - lf, _, _, _, _, by omega, by omega, rfl, s23, by omega, ?_, ?_, ?_⟩
            · rw [ea]
              exact c2'
            · rw [ecv, Int.natCast_add, en, Int.add_mul]
              exact Int.add_assoc _ _ _
            · rw [ea, eav, en]
              exact Int.add_assoc _ _ _
          · refine ⟨.int (Lg.rd b cs lv).1, rfl, _, rfl, .int 1, rfl, .int cs.sum, rfl, _, _, rfl, rfl, .inl ⟨by decide, by decide⟩, _, _, rfl, rfl, ?_⟩
            refine ⟨_, rfl, .int 1, rfl, .int (Lg.rd b cs lv).2.2, rfl, _, _, rfl, rfl, .inl ⟨by decide, by decide⟩, _, _, rfl, rfl, ?_⟩
            refine ⟨_, rfl, .int 1, rfl, _, _, rfl, rfl, ?_⟩
            refine ⟨d + 1, _, _, _, lf - 1, _, _, _, _, by omega, by omega, rfl, s23, by omega, ?_, ?_, ?_⟩
            · show _ = (Lg.rd b cs (Lg.it b cs d s0.1).1).1
              rw [elv]
            · rw [ecv, Int.natCast_add, Int.add_mul]
              exact Int.add_assoc _ _ _
            · show _ = s0.2.2.2 + ((Lg.it b cs d s0.1).2.2 + (Lg.rd b cs (Lg.it b cs d s0.1).1).2.2)
              rw [eav, elv, Int.one_mul]
              exact Int.add_assoc _ _ _
      · have c1' : ¬ lf > 0 := fun z => c1 (decide_eq_true z)
        have elf0 : lf = 0 := by omega
        have ed : d = n.toNat := by omega
        subst ed
        refine ⟨some (.ref ca), some (.int n), some (.int lf), y8, y9, y10, y11, ?_, s2⟩
        have en : ((n.toNat : Nat) : Int) = n := by omega
        rw [en] at ecv
        rw [elv, ecv, eav]
        rfl
    · obtain ⟨y5, y6, y7, y8, y9, y10, y11, rfl, sm⟩ := h
      rw [List.length_map, lp.len, List.take_of_length_le (Nat.le_refl _)]
      refine ⟨_, rfl, _, rfl, _, rfl, by show 3 ≤ sizeLine; decide, fun p np => ?_⟩
      exact q p _ (sm.trans (same_upd np)) upd_same
def spLLine (K : PySem.W.Frag) : Sp := fun vs H Q _ => ∃ (ra : Addr) (ps : List Addr) (xs : List (List Int × Int)) (k b : Int), vs = [.int k, .int b, .ref ra] ∧ SqT K H ra (ps.map V.ref) ∧ Lps K H ps xs ∧ Lg.Right k xs ∧ 2 ≤ k ∧ k ≤ 4 ∧ 1 ≤ b ∧ b ≤ 60 ∧ ∀ H', Same H H' → Q (.int (Lg.tot b xs).1) H'
theorem ok_long_line (T : Tx K mg) : FnOk P w K mg base CX0 8 T.a_long_line T.d_long_line ["comers", "bound", "long"] (spLLine K) := by
  refine T.F_long_line.ok sc_long_line (fun vs H Q E h => ?_) (fun cdv A outer s H vs Q E hr h => ?_)
  · obtain ⟨ra, ps, xs, k, b, rfl, _⟩ := h
    rfl
  · obtain ⟨ra, ps, xs, k, b, rfl, hR, lp, R, k2, k4, b1, b60, q⟩ := h
    refine ⟨_, ((pss_cons (ps_expr (pe_call (ok_check_long T) (hr.mono (by decide)) (by rfl) T.g_check_long T.F_check_long.kp T.b_check_long .nil pass0 (pa_cons (pv 0) (pa_cons (pv 1) (pa_cons (pv 2) pa_nil)))))
  (pss_cons (ps_asg (pe_call (ok_follow_long T) (hr.mono (by decide)) (by rfl) T.g_follow_long T.F_follow_long.kp T.b_follow_long .nil pass0 (pa_cons (pv 1) (pa_cons (pv 2) pa_nil))) (pg_tup rfl (pgs_cons (pg_name (i := 3) sc_long_line.nd rfl (.inl rfl)) (pgs_cons (pg_name (i := 4) sc_long_line.nd rfl (.inl rfl)) (pgs_cons (pg_name (i := 4) sc_long_line.nd rfl (.inl rfl)) pgs_nil)))))
  (pss_one (ps_ret (pv 3)))))), ?_⟩
    refine ⟨.int k, rfl, .int b, rfl, .ref ra, rfl, ra, ps, xs, k, b, rfl, hR, lp, R, k2, k4, b1, b60, fun H1 s1 => ?_⟩
    refine ⟨.int b, rfl, .ref ra, rfl, ra, ps, xs, k, b, rfl, sT s1 hR, lp.same s1, R, k4, by omega, b60, fun p H2 s2 ep => ?_⟩
    refine ⟨p, _, rfl, SqT.of ep, rfl, _, [_, _], rfl, _, [_], rfl, _, [], rfl, rfl, ?_⟩
    exact ⟨_, rfl, q H2 (s1.trans s2)⟩
def spLCounts (K : PySem.W.Frag) : Sp := fun vs H Q _ => ∃ (ra : Addr) (ps : List Addr) (xs : List (List Int × Int)) (k b : Int), vs = [.int k, .int b, .ref ra] ∧ SqT K H ra (ps.map V.ref) ∧ Lps K H ps xs ∧ Lg.Right k xs ∧ 2 ≤ k ∧ k ≤ 4 ∧ 1 ≤ b ∧ b ≤ 60 ∧
  ∀ p H', Same H H' → H' p = some (.tup [.int (Lg.tot b xs).2.1, .int (Lg.tot b xs).2.2.1, .int (Lg.tot b xs).2.2.2]) → Q (.ref p) H'
theorem ok_long_counts (T : Tx K mg) : FnOk P w K mg base CX0 8 T.a_long_counts T.d_long_counts ["comers", "bound", "long"] (spLCounts K) := by
  refine T.F_long_counts.ok sc_long_counts (fun vs H Q E h => ?_) (fun cdv A outer s H vs Q E hr h => ?_)
  · obtain ⟨ra, ps, xs, k, b, rfl, _⟩ := h
    rfl
  · obtain ⟨ra, ps, xs, k, b, rfl, hR, lp, R, k2, k4, b1, b60, q⟩ := h
    refine ⟨_, ((pss_cons (ps_expr (pe_call (ok_check_long T) (hr.mono (by decide)) (by rfl) T.g_check_long T.F_check_long.kp T.b_check_long .nil pass0 (pa_cons (pv 0) (pa_cons (pv 1) (pa_cons (pv 2) pa_nil)))))
  (pss_cons (ps_asg (pe_call (ok_follow_long T) (hr.mono (by decide)) (by rfl) T.g_follow_long T.F_follow_long.kp T.b_follow_long .nil pass0 (pa_cons (pv 1) (pa_cons (pv 2) pa_nil))) (pg_tup rfl (pgs_cons (pg_name (i := 3) sc_long_counts.nd rfl (.inl rfl)) (pgs_cons (pg_name (i := 4) sc_long_counts.nd rfl (.inl rfl)) (pgs_cons (pg_name (i := 5) sc_long_counts.nd rfl (.inl rfl)) pgs_nil)))))
  (pss_one (ps_ret (pe_tup (pa_cons (pv 4) (pa_cons (pe_op op_sub (pe_op op_sub (pv 4) (pv 5)) (pv 3)) (pa_cons (pv 5) pa_nil))))))))), ?_⟩
    refine ⟨.int k, rfl, .int b, rfl, .ref ra, rfl, ra, ps, xs, k, b, rfl, hR, lp, R, k2, k4, b1, b60, fun H1 s1 => ?_⟩
    refine ⟨.int b, rfl, .ref ra, rfl, ra, ps, xs, k, b, rfl, sT s1 hR, lp.same s1, R, k4, by omega, b60, fun p H2 s2 ep => ?_⟩
    refine ⟨p, _, rfl, SqT.of ep, rfl, _, [_, _], rfl, _, [_], rfl, _, [], rfl, rfl, ?_⟩
    refine ⟨_, rfl, _, rfl, _, rfl, _, _, rfl, rfl, _, rfl, _, _, rfl, rfl, _, rfl, by show 3 ≤ sizeLine; decide, fun p' np => ?_⟩
    have qk := (Lg.tot_ok (by omega : (0 : Int) ≤ b) R).sum
    refine q p' _ ((s1.trans s2).trans (same_upd np)) ?_
    rw [upd_same]
    have e : (Lg.tot b xs).2.1 - (Lg.tot b xs).2.2.2 - (Lg.tot b xs).1 = (Lg.tot b xs).2.2.1 := by omega
    rw [← e]
end

theorem cut1 (xs : List V) : cutV xs (some 1) none = xs.drop 1 := by
  unfold cutV
  rw [show HT.sIx xs.length 0 (some 1) = min 1 xs.length from HT.sIx_nat xs.length 0 1, HT.sIx_none]
  cases xs with
  | nil => rfl
  | cons x r =>
    rw [show min 1 (x :: r).length = 1 by
      rw [List.length_cons]
      omega]
    show (List.take ((x :: r).length - 1) r) = r
    rw [List.length_cons, Nat.add_sub_cancel]
    exact List.take_length
theorem Tups.at {α : Type} {f : α → List V} {H : Hp} {ps : List Addr} {xs : List α} (h : Tups f H ps xs) : ∀ {i : Nat} {x : α}, xs[i]? = some x → ∃ p, (ps.map V.ref)[i]? = some (.ref p) ∧ H p = some (.tup (f x)) := by
  induction h with
  | nil =>
    intro i x h
    simp at h
  | cons a _ ih =>
    intro i x h
    cases i with
    | zero =>
      simp at h
      subst h
      exact ⟨_, rfl, a⟩
    | succ i =>
      simp only [List.map_cons, List.getElem?_cons_succ] at h ⊢
      exact ih h

/-! ### the law's own rounds -/
section
variable {P : Program} {w : World} {K : PySem.W.Frag} {mg : Str → Option Value} {base : Heap}
/-- a tuple of three -/
def f3 (s : Lg.Tri) : List V := [.int s.1, .int s.2.1, .int s.2.2]
def spLRound (K : PySem.W.Frag) : Sp := fun vs H Q _ => ∃ (a : Addr) (cs : List Int) (b l k : Int), vs = [.int b, .int l, .ref a] ∧ SqT K H a (cs.map V.int) ∧ Rt k cs ∧ k ≤ 4 ∧ ∀ p H', Same H H' → H p = none → H' p = some (.tup (f3 (Lg.rd b cs l))) → Q (.ref p) H'
theorem ok__law_round (T : Tx K mg) : FnOk P w K mg base CX0 1 T.a__law_round T.d__law_round ["bound", "line", "comings"] (spLRound K) := by
  refine T.F__law_round.ok sc__law_round (fun vs H Q E h => ?_) (fun cdv A outer s H vs Q E hr h => ?_)
  · obtain ⟨a, cs, b, l, k, rfl, _⟩ := h
    rfl
  · obtain ⟨a, cs, b, l, k, rfl, hT, g, hk, q⟩ := h
    refine ⟨_, ((pss_cons (ps_set (i := 3) sc__law_round.nd rfl (.inl rfl) pe_int)
  (pss_cons (ps_set (i := 4) sc__law_round.nd rfl (.inl rfl) pe_int)
  (pss_cons (ps_for PassesOwn.never rfl (pi_tup (pv 2)) (pg_name (i := 5) sc__law_round.nd rfl (.inl rfl))
   (pss_cons (ps_for PassesOwn.never rfl (pi_range1 (by rfl) T.m_range (pa_cons (pv 5) pa_nil)) (pg_name (i := 6) sc__law_round.nd rfl (.inl rfl))
   (pss_one (ps_if (pt_cmpR op_gt (pv 1) (pv 0) (nomark _)) (pss_one (ps_set (i := 4) sc__law_round.nd rfl (.inl rfl) (pe_op op_add (pv 4) pe_int))) (pss_one (ps_set (i := 1) sc__law_round.nd rfl (.inl rfl) (pe_op op_add (pv 1) pe_int))))))
  (pss_one (ps_if (pt_cmpR op_gt (pv 1) pe_int (nomark _)) (pss_cons (ps_set (i := 1) sc__law_round.nd rfl (.inl rfl) (pe_op op_sub (pv 1) pe_int))
  (pss_one (ps_set (i := 3) sc__law_round.nd rfl (.inl rfl) (pe_op op_add (pv 3) pe_int)))) pss_nil))))
  (pss_one (ps_ret (pe_tup (pa_cons (pv 1) (pa_cons (pv 3) (pa_cons (pv 4) pa_nil)))))))))), ?_⟩
    refine ⟨.ref a, rfl, a, rfl, ⟨_, hT⟩, for_tup (K := K) (xs := cs.map V.int)
      (fun i σ H' => ∃ (y5 y6 : Option V), σ = [some (.int b), some (.int (Lg.rdN b cs (l, 0, 0) i).1), some (.ref a), some (.int (Lg.rdN b cs (l, 0, 0) i).2.1), some (.int (Lg.rdN b cs (l, 0, 0) i).2.2), y5, y6] ∧ H' = H)
      ⟨_, _, rfl, rfl⟩ (fun i σ H' _ h => ?_) (fun i x σ H' hx h => ?_) (fun σ H' h => ?_)⟩
    · obtain ⟨_, _, _, rfl⟩ := h
      exact hT
    · obtain ⟨y5, y6, rfl, rfl⟩ := h
      rw [List.getElem?_map] at hx
      obtain ⟨c, hc, rfl⟩ := Option.map_eq_some_iff.mp hx
      have bc := g.2 c (List.mem_of_getElem? hc)
      have en : Lg.rdN b cs (l, 0, 0) (i + 1) = Lg.tk b c (Lg.rdN b cs (l, 0, 0) i) := by
        show Lg.tk b (cs.getD i 0) _ = _
        rw [Ln.getD_of hc]
      rw [en]
      generalize Lg.rdN b cs (l, 0, 0) i = s0 at *
      refine ⟨.int c, rfl, c, rfl, by omega, by omega, for_range (lo := 0) (n := c.toNat)
        (fun m σ H2 => ∃ (y6 : Option V), σ = [some (.int b), some (.int (Lg.add b m (s0.1, s0.2.2)).1), some (.ref a), some (.int s0.2.1), some (.int (Lg.add b m (s0.1, s0.2.2)).2), some (.int c), y6] ∧ H2 = H')
        ⟨_, rfl, rfl⟩ (fun m σ H2 hm h => ?_) (fun σ H2 h => ?_)⟩
      · obtain ⟨y6, rfl, rfl⟩ := h
        refine ⟨_, rfl, .int b, rfl, _, _, rfl, rfl, _, rfl, ite2 (fun h1 => ?_) (fun h1 => ?_)⟩
        · have e : Lg.add b (m + 1) (s0.1, s0.2.2) = ((Lg.add b m (s0.1, s0.2.2)).1, (Lg.add b m (s0.1, s0.2.2)).2 + 1) := if_pos (of_decide_eq_true h1)
          refine ⟨_, rfl, _, _, rfl, rfl, some (.int (0 + (m : Int))), ?_, rfl⟩
          rw [e]
          rfl
        · have e : Lg.add b (m + 1) (s0.1, s0.2.2) = ((Lg.add b m (s0.1, s0.2.2)).1 + 1, (Lg.add b m (s0.1, s0.2.2)).2) := if_neg (fun z => h1 (decide_eq_true z))
          refine ⟨_, rfl, _, _, rfl, rfl, some (.int (0 + (m : Int))), ?_, rfl⟩
          rw [e]
          rfl
      · obtain ⟨y6, rfl, rfl⟩ := h
        refine ⟨_, rfl, _, _, rfl, rfl, _, rfl, ite2 (fun h1 => ?_) (fun h1 => ?_)⟩
        · have e : Lg.tk b c s0 = ((Lg.add b c.toNat (s0.1, s0.2.2)).1 - 1, s0.2.1 + 1, (Lg.add b c.toNat (s0.1, s0.2.2)).2) := if_pos (of_decide_eq_true h1)
          refine ⟨_, rfl, _, _, rfl, rfl, _, rfl, _, _, rfl, rfl, some (.int c), y6, ?_, rfl⟩
          rw [e]
          rfl
        · have e : Lg.tk b c s0 = ((Lg.add b c.toNat (s0.1, s0.2.2)).1, s0.2.1, (Lg.add b c.toNat (s0.1, s0.2.2)).2) := if_neg (fun z => h1 (decide_eq_true z))
          refine ⟨some (.int c), y6, ?_, rfl⟩
          rw [e]
    · obtain ⟨y5, y6, rfl, rfl⟩ := h
      rw [List.length_map]
      refine ⟨_, rfl, _, rfl, _, rfl, by show 3 ≤ sizeLine; decide, fun p np => ?_⟩
      exact q p _ (same_upd np) np upd_same
def spShort (K : PySem.W.Frag) : Sp := fun vs H Q _ => ∃ (t s : Addr) (k m : Int), vs = [.ref t, .int k, .int m] ∧ (1 ≤ k ∧ k ≤ 1000) ∧ (0 ≤ m ∧ m ≤ 1000) ∧ Tape H t s ∧
  ∀ a (cs : List Int) H', (cs.length : Int) ≤ m → (∀ c ∈ cs, 0 ≤ c ∧ c ≤ k) → a ≠ t → H a = none → Moved t H H' → Tape H' t s → H' a = some (.tup (cs.map V.int)) → Q (.ref a) H'
theorem all_snoc {k : Int} {cs : List Int} (h : ∀ c ∈ cs, 0 ≤ c ∧ c ≤ k) {x : Int} (h0 : 0 ≤ x) (h1 : x ≤ k) : ∀ c ∈ cs ++ [x], 0 ≤ c ∧ c ≤ k := fun c hc => by
  rcases List.mem_append.mp hc with hc | hc
  · exact h c hc
  · rw [List.mem_singleton.mp hc]
    exact ⟨h0, h1⟩
theorem ok__law_short (T : Tx K mg) : FnOk P w K mg base CX0 2 T.a__law_short T.d__law_short ["tape", "comers", "most"] (spShort K) := by
  refine T.F__law_short.ok sc__law_short (fun vs H Q E h => ?_) (fun cdv A outer s H vs Q E hr h => ?_)
  · obtain ⟨t, sc, k, m, rfl, _⟩ := h
    rfl
  · obtain ⟨t, sc, k, m, rfl, hk, hm, tp0, q⟩ := h
    refine ⟨_, ((pss_cons (ps_set (i := 3) sc__law_short.nd rfl (.inl rfl) (pe_call (ok__law_pick T) (hr.mono (by decide)) (by rfl) T.g__law_pick T.F__law_pick.kp T.b__law_pick .nil pass0 (pa_cons (pv 0) (pa_cons pe_int pa_nil))))
  (pss_cons (ps_set (i := 4) sc__law_short.nd rfl (.inl rfl) (pe_lst pa_nil))
  (pss_cons (ps_for PassesOwn.never rfl (pi_range1 (by rfl) T.m_range (pa_cons (pe_call (ok__law_pick T) (hr.mono (by decide)) (by rfl) T.g__law_pick T.F__law_pick.kp T.b__law_pick .nil pass0 (pa_cons (pv 0) (pa_cons (pe_op op_add (pv 2) pe_int) pa_nil))) pa_nil)) (pg_name (i := 5) sc__law_short.nd rfl (.inl rfl))
   (pss_cons (ps_set (i := 6) sc__law_short.nd rfl (.inl rfl) (pe_call (ok__law_pick T) (hr.mono (by decide)) (by rfl) T.g__law_pick T.F__law_pick.kp T.b__law_pick .nil pass0 (pa_cons (pv 0) (pa_cons (pe_op op_add (pv 1) pe_int) pa_nil))))
  (Evl.pss_cut (ps_if (PW.pt (pw_and (pt_cmpR op_eq (pv 3) pe_int (nomark _)) (pw_and1 (pt_cmpR op_eq (pe_call (ok__law_pick T) (hr.mono (by decide)) (by rfl) T.g__law_pick T.F__law_pick.kp T.b__law_pick .nil pass0 (pa_cons (pv 0) (pa_cons pe_int pa_nil))) pe_int (nomark _))))) (pss_one (ps_set (i := 6) sc__law_short.nd rfl (.inl rfl) pe_int)) pss_nil)
  (Evl.pss_cut (ps_if (PW.pt (pw_and (pt_cmpR op_eq (pv 3) pe_int (nomark _)) (pw_and1 (pt_cmpR op_eq (pe_call (ok__law_pick T) (hr.mono (by decide)) (by rfl) T.g__law_pick T.F__law_pick.kp T.b__law_pick .nil pass0 (pa_cons (pv 0) (pa_cons pe_int pa_nil))) pe_int (nomark _))))) (pss_one (ps_set (i := 6) sc__law_short.nd rfl (.inl rfl) (pv 1))) pss_nil)
  (pss_one (ps_expr (pe_bm PySem.F.plainAttrs_list PySem.F.slot_list_append PySem.F.type_list_append mt_append (pv 4) (pa_cons (pv 6) pa_nil))))))))
  (pss_one (ps_ret (pe_callTy call_tuple_of (by rfl) T.m_tuple (by decide +kernel) (pa_cons (pv 4) pa_nil)))))))), ?_⟩
    refine ⟨.ref t, rfl, t, sc, 3, rfl, ⟨by decide, by decide⟩, tp0, fun gr H1 hg0 hg3 mv1 tp1 => ?_⟩
    refine ⟨Nat.zero_le _, fun L nL => ?_⟩
    have hLt : L ≠ t := tp1.ne nL
    have hLs : L ≠ sc := tp1.ne2 nL
    have tpL := tp1.keep (same_upd (o := .lst []) nL)
    have nLH : H L = none := mv1.free hLt nL
    have mv0 : Moved t H (upd H1 L (.lst [])) := mv1.trans (Moved.same (same_upd nL))
    refine ⟨.ref t, rfl, .int m, rfl, _, _, rfl, rfl, t, sc, m + 1, rfl, ⟨by omega, by omega⟩, tpL, fun n H2 hn0 hn1 mv2 tp2 => ?_⟩
    refine ⟨n, rfl, by omega, by omega, for_range (lo := 0) (n := n.toNat)
      (fun i σ H' => ∃ y5 y6 cs, σ = [some (.ref t), some (.int k), some (.int m), some (.int gr), some (.ref L), y5, y6] ∧ H' L = some (.lst (cs.map V.int)) ∧ cs.length = i ∧ (∀ c ∈ cs, 0 ≤ c ∧ c ≤ k) ∧ (∀ b o, b ≠ t → b ≠ L → H b = some o → H' b = some o) ∧ Tape H' t sc)
      ⟨_, _, [], rfl, mv2 _ _ hLt upd_same, rfl, fun _ h => by simp at h, fun b o n1 n2 e => mv2 b o n1 (mv0 b o n1 e), tp2⟩ (fun i σ H' hi h => ?_) (fun σ H' h => ?_)⟩
    · obtain ⟨y5, y6, cs, rfl, eL, el, hc, kp, tp'⟩ := h
      refine ⟨.ref t, rfl, .int k, rfl, _, _, rfl, rfl, t, sc, k + 1, rfl, ⟨by omega, by omega⟩, tp', fun x H3 hx0 hx1 mv3 tp3 => ?_⟩
      refine ⟨fun σ' H4 => ∃ z y5, σ' = [some (.ref t), some (.int k), some (.int m), some (.int gr), some (.ref L), y5, some (.int z)] ∧ 0 ≤ z ∧ z ≤ k ∧ Moved t H3 H4 ∧ Tape H4 t sc, ?_, fun σ' H4 hm => ?_⟩
      · refine ⟨.int gr, rfl, rfl, _, rfl, ite2 (fun c1 => ?_) (fun c1 => ?_)⟩
        · refine ⟨.ref t, rfl, t, sc, 2, rfl, ⟨by decide, by decide⟩, tp3, fun x2 H4 _ _ mv4 tp4 => ?_⟩
          by_cases c2 : V.int x2 = V.int 0
          · refine ⟨rfl, true, congrArg V.bl (decide_eq_true c2), iteT ?_⟩
            exact ⟨0, _, rfl, by omega, by omega, mv4, tp4⟩
          · refine ⟨rfl, false, congrArg V.bl (decide_eq_false c2), iteF ?_⟩
            exact ⟨x, _, rfl, hx0, by omega, mv4, tp4⟩
        · exact ⟨x, _, rfl, hx0, by omega, Moved.refl, tp3⟩
      · obtain ⟨z, y5, rfl, hz0, hz1, mv4, tp4⟩ := hm
        refine ⟨fun σ' H5 => ∃ z y5, σ' = [some (.ref t), some (.int k), some (.int m), some (.int gr), some (.ref L), y5, some (.int z)] ∧ 0 ≤ z ∧ z ≤ k ∧ Moved t H3 H5 ∧ Tape H5 t sc, ?_, fun σ' H5 hm => ?_⟩
        · refine ⟨.int gr, rfl, rfl, _, rfl, ite2 (fun c1 => ?_) (fun c1 => ?_)⟩
          · refine ⟨.ref t, rfl, t, sc, 2, rfl, ⟨by decide, by decide⟩, tp4, fun x2 H5 _ _ mv5 tp5 => ?_⟩
            by_cases c2 : V.int x2 = V.int 0
            · refine ⟨rfl, true, congrArg V.bl (decide_eq_true c2), iteT ?_⟩
              exact ⟨.int k, rfl, k, _, rfl, by omega, Int.le_refl _, mv4.trans mv5, tp5⟩
            · refine ⟨rfl, false, congrArg V.bl (decide_eq_false c2), iteF ?_⟩
              exact ⟨z, _, rfl, hz0, hz1, mv4.trans mv5, tp5⟩
          · exact ⟨z, _, rfl, hz0, hz1, mv4, tp4⟩
        · obtain ⟨z, y5, rfl, hz0, hz1, mv5, tp5⟩ := hm
          have eL4 : H5 L = some (.lst (cs.map V.int)) := mv5 L _ hLt (mv3 L _ hLt eL)
          refine ⟨.ref L, rfl, .inl ⟨rfl, _, SqL.of eL4⟩, _, rfl, L, _, _, rfl, rfl, eL4, by rw [List.length_map]; exact small1000 (by omega), ?_⟩
          refine ⟨_, _, cs ++ [z], rfl, by rw [upd_same, List.map_append]; rfl, by rw [List.length_append, el]; rfl, all_snoc hc hz0 hz1, fun b o n1 n2 e => ?_, tp5.but hLt hLs⟩
          rw [upd_ne n2]
          exact mv5 b o n1 (mv3 b o n1 (kp b o n1 n2 e))
    · obtain ⟨y5, y6, cs, rfl, eL, el, hc, kp, tp'⟩ := h
      refine ⟨.ref L, rfl, L, _, rfl, .inl ⟨SqL.of eL, fun p np => ?_⟩⟩
      have hpt : p ≠ t := tp'.ne np
      have hpL : p ≠ L := fun e => by
        rw [e, eL] at np
        cases np
      have hHp : H p = none := by
        cases z : H p with
        | none => rfl
        | some o =>
          rw [kp p o hpt hpL z] at np
          cases np
      refine q p cs _ (by omega) hc hpt hHp (fun b o n1 e => ?_) (tp'.keep (same_upd np)) upd_same
      rw [upd_ne (ne_of_none e hHp)]
      exact kp b o n1 (ne_of_none e nLH) e
def spJoined (K : PySem.W.Frag) : Sp := fun vs H Q _ => ∃ (A B : Addr) (ps qs : List Addr) (xs ys : List Lg.Tri), vs = [.ref A, .ref B] ∧ H A = some (.lst (ps.map V.ref)) ∧ Tups f3 H ps xs ∧ H B = some (.lst (qs.map V.ref)) ∧ Tups f3 H qs ys ∧ xs.length ≤ 1000 ∧ (∀ x ∈ xs, 0 ≤ x.1 ∧ x.1 < (ys.length : Int)) ∧
  ∀ C rs H', Same H H' → H C = none → H' C = some (.lst (rs.map V.ref)) → Tups f3 H' rs (xs.map fun x => ((ys.getD x.1.toNat (0, 0, 0)).1, x.2.1 + (ys.getD x.1.toNat (0, 0, 0)).2.1, x.2.2 + (ys.getD x.1.toNat (0, 0, 0)).2.2)) → Q (.ref C) H'
theorem ok__law_joined (T : Tx K mg) : FnOk P w K mg base CX0 1 T.a__law_joined T.d__law_joined ["one", "other"] (spJoined K) := by
  refine T.F__law_joined.ok sc__law_joined (fun vs H Q E h => ?_) (fun cdv A outer s H vs Q E hr h => ?_)
  · obtain ⟨A, B, ps, qs, xs, ys, rfl, _⟩ := h
    rfl
  · obtain ⟨A, B, ps, qs, xs, ys, rfl, eA, tA, eB, tB, zx, rg, q⟩ := h
    refine ⟨_, ((pss_cons (ps_set (i := 2) sc__law_joined.nd rfl (.inl rfl) (pe_lst pa_nil))
  (pss_cons (ps_for PassesOwn.never rfl (pi_list (pv 0)) (pg_tup rfl (pgs_cons (pg_name (i := 3) sc__law_joined.nd rfl (.inl rfl)) (pgs_cons (pg_name (i := 4) sc__law_joined.nd rfl (.inl rfl)) (pgs_cons (pg_name (i := 5) sc__law_joined.nd rfl (.inl rfl)) pgs_nil))))
   (pss_cons (ps_set (i := 6) sc__law_joined.nd rfl (.inl rfl) (pe_ix ix_list (pv 1) (pv 3) (fun _ _ => rfl)))
  (pss_one (ps_expr (pe_bm PySem.F.plainAttrs_list PySem.F.slot_list_append PySem.F.type_list_append mt_append (pv 2) (pa_cons (pe_tup (pa_cons (pe_ix ix_tup (pv 6) pe_int (fun _ _ => rfl)) (pa_cons (pe_op op_add (pv 4) (pe_ix ix_tup (pv 6) pe_int (fun _ _ => rfl))) (pa_cons (pe_op op_add (pv 5) (pe_ix ix_tup (pv 6) pe_int (fun _ _ => rfl))) pa_nil)))) pa_nil))))))
  (pss_one (ps_ret (pv 2)))))), ?_⟩
    refine ⟨Nat.zero_le _, fun C nC => ?_⟩
    have sC := same_upd (o := .lst []) nC
    refine ⟨.ref A, rfl, A, rfl, ⟨_, SqL.of (sC _ _ eA)⟩, for_list (K := K) (xs := ps.map V.ref)
      (fun i σ H' => ∃ (y3 y4 y5 y6 : Option V) (rs : List Addr), σ = [some (.ref A), some (.ref B), some (.ref C), y3, y4, y5, y6] ∧ Same H H' ∧ H' C = some (.lst (rs.map V.ref)) ∧ Tups f3 H' rs ((xs.take i).map fun x => ((ys.getD x.1.toNat (0, 0, 0)).1, x.2.1 + (ys.getD x.1.toNat (0, 0, 0)).2.1, x.2.2 + (ys.getD x.1.toNat (0, 0, 0)).2.2)))
      ⟨_, _, _, _, [], rfl, sC, upd_same, .nil⟩ (fun i σ H' _ h => ?_) (fun i x σ H' hx h => ?_) (fun σ H' h => ?_)⟩
    · obtain ⟨_, _, _, _, _, _, sm, _⟩ := h
      exact SqL.of (sm _ _ eA)
    · obtain ⟨y3, y4, y5, y6, rs, rfl, sm, eC, tC⟩ := h
      obtain ⟨r, y, rfl, hy, er⟩ := tA.get hx
      have hi := (List.getElem?_eq_some_iff.mp hy).1
      obtain ⟨b0, b1⟩ := rg y (List.mem_of_getElem? hy)
      obtain ⟨z, hz⟩ : ∃ z, ys[y.1.toNat]? = some z := ⟨_, List.getElem?_eq_getElem (by omega)⟩
      obtain ⟨m, hm, em⟩ := tB.at hz
      have ez : ys.getD y.1.toNat (0, 0, 0) = z := by rw [List.getD_eq_getElem?_getD, hz]; rfl
      have em' := sm _ _ em
      refine ⟨r, _, rfl, SqT.of (sm _ _ er), rfl, _, [_, _], rfl, _, [_], rfl, _, [], rfl, rfl, ?_⟩
      refine ⟨.ref B, rfl, .int y.1, rfl, B, _, _, .ref m, rfl, rfl, SqL.of (sm _ _ eB), atI_of b0 hm, ?_⟩
      refine ⟨.ref C, rfl, .inl ⟨rfl, _, SqL.of eC⟩, .ref m, rfl, m, _, 0, _, rfl, rfl, SqT.of em', atI_nat (j := 0) rfl, .int y.2.1, rfl, .ref m, rfl, m, _, 1, _, rfl, rfl, SqT.of em', atI_nat (j := 1) rfl, _, _, rfl, rfl, .int y.2.2, rfl, .ref m, rfl, m, _, 2, _, rfl, rfl, SqT.of em', atI_nat (j := 2) rfl, _, _, rfl, rfl, by show 3 ≤ sizeLine; decide, fun u nu => ?_⟩
      have su := same_upd (o := .tup (f3 (z.1, y.2.1 + z.2.1, y.2.2 + z.2.2))) nu
      refine ⟨C, _, _, rfl, rfl, su _ _ eC, by rw [List.length_map, tC.length, List.length_map, List.length_take]; exact small1000 (by omega), ?_⟩
      refine ⟨_, _, _, _, rs ++ [u], rfl, same_put (sm.trans su) nC, by rw [upd_same, List.map_append]; rfl, ?_⟩
      rw [take_snoc hy, List.map_append]
      refine ((tC.new nu).snoc (x := ((ys.getD y.1.toNat (0, 0, 0)).1, y.2.1 + (ys.getD y.1.toNat (0, 0, 0)).2.1, y.2.2 + (ys.getD y.1.toNat (0, 0, 0)).2.2)) ?_).put (su _ _ eC)
      rw [ez]
      exact upd_same
    · obtain ⟨y3, y4, y5, y6, rs, rfl, sm, eC, tC⟩ := h
      rw [List.length_map, tA.length, List.take_of_length_le (Nat.le_refl _)] at tC
      exact ⟨.ref C, rfl, q C rs H' sm nC eC tC⟩
end

/-! ### the law's table of a round many times -/
/-- the table of n rounds -/
def tbl (b : Int) (cs : List Int) (n : Nat) : List Lg.Tri := (List.range (b + 1).toNat).map fun (i : Nat) => Lg.it b cs n (i : Int)
theorem tbl_len (b : Int) (cs : List Int) (n : Nat) : (tbl b cs n).length = (b + 1).toNat := by
  unfold tbl
  rw [List.length_map, List.length_range]
theorem tbl_get {b : Int} {cs : List Int} {n : Nat} {l : Int} (h0 : 0 ≤ l) (h1 : l ≤ b) : (tbl b cs n)[l.toNat]? = some (Lg.it b cs n l) := by
  unfold tbl
  rw [List.getElem?_map, List.getElem?_range (by omega)]
  show some (Lg.it b cs n ((l.toNat : Nat) : Int)) = _
  rw [Int.toNat_of_nonneg h0]
theorem tbl_mem {b : Int} {cs : List Int} {n : Nat} {x : Lg.Tri} (h : x ∈ tbl b cs n) : ∃ l : Int, 0 ≤ l ∧ l ≤ b ∧ x = Lg.it b cs n l := by
  unfold tbl at h
  obtain ⟨i, hi, e⟩ := List.mem_map.mp h
  have := List.mem_range.mp hi
  exact ⟨i, by omega, by omega, e.symm⟩
theorem tbl_join {b : Int} {cs : List Int} (c0 : ∀ c ∈ cs, 0 ≤ c) (m n : Nat) : ((tbl b cs m).map fun x => (((tbl b cs n).getD x.1.toNat (0, 0, 0)).1, x.2.1 + ((tbl b cs n).getD x.1.toNat (0, 0, 0)).2.1, x.2.2 + ((tbl b cs n).getD x.1.toNat (0, 0, 0)).2.2)) = tbl b cs (m + n) := by
  unfold tbl
  rw [List.map_map]
  apply List.map_congr_left
  intro i hi
  have hi := List.mem_range.mp hi
  have ok := Lg.it_ok (b := b) (l := (i : Int)) (by omega) (by omega) c0 m
  have e : (tbl b cs n).getD (Lg.it b cs m (i : Int)).1.toNat (0, 0, 0) = Lg.it b cs n (Lg.it b cs m (i : Int)).1 := by
    rw [List.getD_eq_getElem?_getD, tbl_get ok.l0 ok.l1]
    rfl
  rw [Lg.it_add]
  unfold tbl at e
  show (_, _, _) = _
  rw [e]
theorem tbl_rng {b : Int} {cs : List Int} (b0 : 0 ≤ b) (c0 : ∀ c ∈ cs, 0 ≤ c) (m n : Nat) : ∀ x ∈ tbl b cs m, 0 ≤ x.1 ∧ x.1 < ((tbl b cs n).length : Int) := fun x hx => by
  obtain ⟨l, h0, h1, rfl⟩ := tbl_mem hx
  have ok := Lg.it_ok (b := b) h0 h1 c0 m
  rw [tbl_len]
  exact ⟨ok.l0, by have := ok.l1; omega⟩
section
variable {P : Program} {w : World} {K : PySem.W.Frag} {mg : Str → Option Value} {base : Heap}
def spLPower (K : PySem.W.Frag) : Sp := fun vs H Q _ => ∃ (a : Addr) (cs : List Int) (b k n : Int), vs = [.int b, .ref a, .int n] ∧ SqT K H a (cs.map V.int) ∧ Rt k cs ∧ k ≤ 4 ∧ 0 ≤ b ∧ b ≤ 60 ∧ 0 ≤ n ∧ n ≤ 10 ^ 30 ∧
  ∀ C rs H', Same H H' → H' C = some (.lst (rs.map V.ref)) → Tups f3 H' rs (tbl b cs n.toNat) → Q (.ref C) H'
theorem div2 (i : Int) : CDivW i 2 := wide_div (b := 2) (by decide) (by decide) (by decide) (by decide)
theorem ok__law_power (T : Tx K mg) : FnOk P w K mg base CX0 2 T.a__law_power T.d__law_power ["bound", "comings", "times"] (spLPower K) := by
  refine T.F__law_power.ok sc__law_power (fun vs H Q E h => ?_) (fun cdv A outer s H vs Q E hr h => ?_)
  · obtain ⟨a, cs, b, k, n, rfl, _⟩ := h
    rfl
  · obtain ⟨a, cs, b, k, n, rfl, hT, g, hk, b0, b60, n0, n1, q⟩ := h
    have c0 : ∀ c ∈ cs, 0 ≤ c := fun c hc => (g.2 c hc).1
    refine ⟨_, ((pss_cons (ps_setLc (i := 3) (own := [("line", 6)]) (g := (gName 6)) (tt := tYes) rfl sc__law_power.nd rfl rfl (sw_true rfl rfl rfl (by decide +kernel)) (pi_range1 (by rfl) T.m_range (pa_cons (pe_op op_add (pv 0) pe_int) pa_nil)) (blkOk_by (own := [("line", 6)]) (N := ["bound", "comings", "times", "found", "base", "turn", "line"]) (sc := defScope s__law_power) (by decide +kernel)) (fun _ _ _ _ _ => pg_name (i := 6) sc__law_power.nd rfl (.inl rfl)) (fun _ _ _ _ _ => pts_nil) (fun _ _ _ _ _ => (pe_tup (pa_cons (pv 6) (pa_cons pe_int (pa_cons pe_int pa_nil))))))
  (pss_cons (ps_setLc (i := 4) (own := [("line", 6)]) (g := (gName 6)) (tt := tYes) rfl sc__law_power.nd rfl rfl (sw_true rfl rfl rfl (by decide +kernel)) (pi_range1 (by rfl) T.m_range (pa_cons (pe_op op_add (pv 0) pe_int) pa_nil)) (blkOk_by (own := [("line", 6)]) (N := ["bound", "comings", "times", "found", "base", "turn", "line"]) (sc := defScope s__law_power) (by decide +kernel)) (fun _ _ _ _ _ => pg_name (i := 6) sc__law_power.nd rfl (.inl rfl)) (fun _ _ _ _ _ => pts_nil) (fun _ _ _ _ _ => (pe_call (ok__law_round T) (hr.mono (by decide)) (by rfl) T.g__law_round T.F__law_round.kp T.b__law_round .nil pass0 (pa_cons (pv 0) (pa_cons (pv 6) (pa_cons (pv 1) pa_nil))))))
  (pss_cons (ps_for PassesOwn.never rfl (pi_range1 (by rfl) T.m_range (pa_cons pe_int pa_nil)) (pg_name (i := 5) sc__law_power.nd rfl (.inl rfl))
   (Evl.pss_cut (ps_if (pt_cmpR op_eq (pe_op op_modN (pe_callTy call_int1 (by rfl) T.m_int (by decide +kernel) (pa_cons (pv 2) pa_nil)) pe_int) pe_int (nomark _)) (pss_one (ps_set (i := 3) sc__law_power.nd rfl (.inl rfl) (pe_call (ok__law_joined T) (hr.mono (by decide)) (by rfl) T.g__law_joined T.F__law_joined.kp T.b__law_joined .nil pass0 (pa_cons (pv 3) (pa_cons (pv 4) pa_nil))))) pss_nil)
  (pss_cons (ps_set (i := 2) sc__law_power.nd rfl (.inl rfl) (pe_op op_fdivW (pv 2) pe_int))
  (pss_one (ps_if (pt_cmpR op_gt (pv 2) pe_int (nomark _)) (pss_one (ps_set (i := 4) sc__law_power.nd rfl (.inl rfl) (pe_call (ok__law_joined T) (hr.mono (by decide)) (by rfl) T.g__law_joined T.F__law_joined.kp T.b__law_joined .nil pass0 (pa_cons (pv 4) (pa_cons (pv 4) pa_nil))))) pss_nil)))))
  (pss_one (ps_ret (pv 3))))))), ?_⟩
    refine ⟨.int b, rfl, _, _, rfl, rfl, b + 1, rfl, by omega, by omega, fun F nF => lc_range (lo := 0) (n := (b + 1).toNat)
      (fun i H' => ∃ rs, Same H H' ∧ H' F = some (.lst (rs.map V.ref)) ∧ Tups f3 H' rs ((tbl b cs 0).take i))
      ⟨[], same_upd nF, upd_same, .nil⟩ (fun i H' hi h => ?_) (fun H1 h => ?_)⟩
    · obtain ⟨rs, sm, eF, tF⟩ := h
      refine ⟨rfl, .int (0 + (i : Int)), rfl, by show 3 ≤ sizeLine; decide, fun p np => ?_⟩
      have sp := same_upd (o := .tup [V.int (0 + (i : Int)), .int 0, .int 0]) np
      refine ⟨_, sp _ _ eF, by rw [List.length_map, tF.length, List.length_take]; exact small1000 (by omega), rs ++ [p], same_put (sm.trans sp) nF, by rw [upd_same, List.map_append]; rfl, ?_⟩
      rw [take_snoc (x := Lg.it b cs 0 (i : Int)) (by rw [← tbl_get (b := b) (l := (i : Int)) (by omega) (by omega)]; rfl)]
      refine ((tF.new np).snoc ?_).put (sp _ _ eF)
      rw [upd_same]
      show some (HO.tup [V.int (0 + (i : Int)), .int 0, .int 0]) = some (.tup (f3 ((i : Int), 0, 0)))
      rw [Int.zero_add]
      rfl
    · obtain ⟨rs, sm, eF, tF⟩ := h
      rw [show (b + 1).toNat = (tbl b cs 0).length from (tbl_len b cs 0).symm, List.take_of_length_le (Nat.le_refl _)] at tF
      refine ⟨.int b, rfl, _, _, rfl, rfl, b + 1, rfl, by omega, by omega, fun B nB => lc_range (lo := 0) (n := (b + 1).toNat)
        (fun i H' => ∃ rs, Same H1 H' ∧ H' B = some (.lst (rs.map V.ref)) ∧ Tups f3 H' rs ((tbl b cs 1).take i))
        ⟨[], same_upd nB, upd_same, .nil⟩ (fun i H' hi h => ?_) (fun H2 h => ?_)⟩
      · obtain ⟨ts, sm2, eB, tB⟩ := h
        refine ⟨rfl, .int b, rfl, .int (0 + (i : Int)), rfl, .ref a, rfl, a, cs, b, 0 + (i : Int), k, rfl, sT sm2 (sT sm hT), g, hk, fun p H3 s3 np ep => ?_⟩
        refine ⟨_, s3 _ _ eB, by rw [List.length_map, tB.length, List.length_take]; exact small1000 (by omega), ts ++ [p], same_put (sm2.trans s3) nB, by rw [upd_same, List.map_append]; rfl, ?_⟩
        rw [take_snoc (x := Lg.it b cs 1 (i : Int)) (by rw [← tbl_get (b := b) (l := (i : Int)) (by omega) (by omega)]; rfl)]
        refine ((tB.same s3).snoc ?_).put (s3 _ _ eB)
        rw [ep, Int.zero_add]
        show _ = some (HO.tup (f3 ((Lg.rd b cs (i : Int)).1, 0 + (Lg.rd b cs (i : Int)).2.1, 0 + (Lg.rd b cs (i : Int)).2.2)))
        rw [Int.zero_add, Int.zero_add]
      · obtain ⟨ts, sm2, eB, tB⟩ := h
        rw [show (b + 1).toNat = (tbl b cs 1).length from (tbl_len b cs 1).symm, List.take_of_length_le (Nat.le_refl _)] at tB
        refine ⟨101, rfl, by decide, by decide, for_range (lo := 0) (n := 101)
          (fun i σ H' => ∃ (t f e : Nat) (F B : Addr) (rs ts : List Addr) (y5 y6 : Option V), σ = [some (.int b), some (.ref a), some (.int (t : Int)), some (.ref F), some (.ref B), y5, y6] ∧ Same H H' ∧ H' F = some (.lst (rs.map V.ref)) ∧ Tups f3 H' rs (tbl b cs f) ∧ H' B = some (.lst (ts.map V.ref)) ∧ Tups f3 H' ts (tbl b cs e) ∧ f + e * t = n.toNat ∧ t < 2 ^ (101 - i))
          ⟨n.toNat, 0, 1, F, B, rs, ts, _, _, by rw [Int.toNat_of_nonneg n0]; rfl, sm.trans sm2, sm2 _ _ eF, tF.same sm2, eB, tB, by omega, by
            have : (10 : Int) ^ 30 < 2 ^ 101 := by decide
            omega⟩ (fun i σ H' hi h => ?_) (fun σ H' h => ?_)⟩
        · obtain ⟨t, f, e, F', B', rs, ts, y5, y6, rfl, s, eF', tF', eB', tB', ef, lt⟩ := h
          refine ⟨fun σ' H3 => ∃ (f2 : Nat) (F2 : Addr) (rs2 : List Addr), σ' = [some (.int b), some (.ref a), some (.int (t : Int)), some (.ref F2), some (.ref B'), some (.int (0 + (i : Int))), y6] ∧ Same H' H3 ∧ H3 F2 = some (.lst (rs2.map V.ref)) ∧ Tups f3 H3 rs2 (tbl b cs f2) ∧ f2 + e * (2 * (t / 2)) = n.toNat, ?_, fun σ' H3 hm => ?_⟩
          · refine ⟨.int (t : Int), rfl, .inl ⟨_, rfl, _, _, rfl, rfl, (by show (2 : Int) ≠ 0; decide), rfl, _, rfl, ite2 (fun c1 => ?_) (fun c1 => ?_)⟩⟩
            · have c1' : ((t : Int)).fmod 2 = 1 := V.int.inj (of_decide_eq_true c1)
              rw [Int.fmod_eq_emod_of_nonneg _ (by decide)] at c1'
              refine ⟨.ref F', rfl, .ref B', rfl, F', B', rs, ts, _, _, rfl, eF', tF', eB', tB', by rw [tbl_len]; omega, tbl_rng b0 c0 f e, fun C rs2 H3 s3 nC eC tC => ?_⟩
              rw [tbl_join c0] at tC
              refine ⟨f + e, C, rs2, rfl, s3, eC, tC, ?_⟩
              rw [← ef, Nat.add_assoc]
              have et : t = 2 * (t / 2) + 1 := by omega
              have : e * t = e * (2 * (t / 2)) + e := by
                conv => lhs; rw [et, Nat.mul_add, Nat.mul_one]
              omega
            · have c1' : ¬ ((t : Int)).fmod 2 = 1 := fun z => c1 (decide_eq_true (congrArg V.int z))
              rw [Int.fmod_eq_emod_of_nonneg _ (by decide)] at c1'
              refine ⟨f, F', rs, rfl, fun _ _ z => z, eF', tF', ?_⟩
              rw [← ef, show 2 * (t / 2) = t by omega]
          · obtain ⟨f2, F2, rs2, rfl, s3, eF2, tF2, ef2⟩ := hm
            have lt2 : t / 2 < 2 ^ (101 - (i + 1)) := by
              have : 101 - i = (101 - (i + 1)) + 1 := by omega
              rw [this, Nat.pow_succ] at lt
              omega
            refine ⟨_, rfl, _, _, rfl, rfl, div2 _, ?_⟩
            have ed : ((t : Int)) / 2 = ((t / 2 : Nat) : Int) := by omega
            refine ⟨_, rfl, _, _, rfl, rfl, _, rfl, ite2 (fun c2 => ?_) (fun c2 => ?_)⟩
            · refine ⟨.ref B', rfl, .ref B', rfl, B', B', ts, ts, _, _, rfl, s3 _ _ eB', tB'.same s3, s3 _ _ eB', tB'.same s3, by rw [tbl_len]; omega, tbl_rng b0 c0 e e, fun C ts2 H4 s4 nC eC tC => ?_⟩
              rw [tbl_join c0] at tC
              refine ⟨t / 2, f2, e + e, F2, C, rs2, ts2, some (.int (0 + (i : Int))), y6, ?_, (s.trans s3).trans s4, s4 _ _ eF2, tF2.same s4, eC, tC, ?_, lt2⟩
              · rw [← ed]
                rfl
              · rw [← ef2, Nat.add_mul]
                have : e * (2 * (t / 2)) = e * (t / 2) + e * (t / 2) := by rw [← Nat.mul_add]; congr 1; omega
                omega
            · have c2' : ¬ ((t : Int)) / 2 > 0 := fun z => c2 (decide_eq_true z)
              have e0 : t / 2 = 0 := by omega
              refine ⟨t / 2, f2, e, F2, B', rs2, ts, some (.int (0 + (i : Int))), y6, ?_, s.trans s3, eF2, tF2, s3 _ _ eB', tB'.same s3, ?_, lt2⟩
              · rw [← ed]
                rfl
              · rw [← ef2, e0]
        · obtain ⟨t, f, e, F', B', rs, ts, y5, y6, rfl, s, eF', tF', eB', tB', ef, lt⟩ := h
          have t0 : t = 0 := by
            have : t < 1 := lt
            omega
          subst t0
          have ef' : f = n.toNat := by omega
          subst ef'
          exact ⟨.ref F', rfl, q F' rs H' s eF' tF'⟩
end

/-! ### what is due behind long comings, by the law -/
section
variable {P : Program} {w : World} {K : PySem.W.Frag} {mg : Str → Option Value} {base : Heap}
def spLDue (K : PySem.W.Frag) : Sp := fun vs H Q _ => ∃ (ra : Addr) (ps : List Addr) (xs : List (List Int × Int)) (k b : Int), vs = [.int b, .ref ra] ∧ SqT K H ra (ps.map V.ref) ∧ Lps K H ps xs ∧ Lg.Right k xs ∧ k ≤ 4 ∧ 0 ≤ b ∧ b ≤ 60 ∧
  ∀ p q' H', Same H H' → H' p = some (.tup [.int (Lg.tot b xs).1, .ref q']) → H' q' = some (.tup [.int (Lg.tot b xs).2.1, .int (Lg.tot b xs).2.2.1, .int (Lg.tot b xs).2.2.2]) → Q (.ref p) H'
theorem ok__law_due (T : Tx K mg) : FnOk P w K mg base CX0 3 T.a__law_due T.d__law_due ["bound", "long"] (spLDue K) := by
  refine T.F__law_due.ok sc__law_due (fun vs H Q E h => ?_) (fun cdv A outer s H vs Q E hr h => ?_)
  · obtain ⟨ra, ps, xs, k, b, rfl, _⟩ := h
    rfl
  · obtain ⟨ra, ps, xs, k, b, rfl, hR, lp, R, k4, hb, hb60, q⟩ := h
    refine ⟨_, ((pss_cons (ps_set (i := 2) sc__law_due.nd rfl (.inl rfl) pe_int)
  (pss_cons (ps_set (i := 3) sc__law_due.nd rfl (.inl rfl) (pe_lst (pa_cons pe_int (pa_cons pe_int (pa_cons pe_int pa_nil)))))
  (pss_cons (ps_for PassesOwn.never rfl (pi_tup (pv 1)) (pg_tup rfl (pgs_cons (pg_name (i := 4) sc__law_due.nd rfl (.inl rfl)) (pgs_cons (pg_name (i := 5) sc__law_due.nd rfl (.inl rfl)) pgs_nil)))
   (pss_cons (ps_asg (pe_ix ix_list (pe_call (ok__law_power T) (hr.mono (by decide)) (by rfl) T.g__law_power T.F__law_power.kp T.b__law_power .nil pass0 (pa_cons (pv 0) (pa_cons (pv 4) (pa_cons (pv 5) pa_nil)))) (pv 2) (fun _ _ => rfl)) (pg_tup rfl (pgs_cons (pg_name (i := 6) sc__law_due.nd rfl (.inl rfl)) (pgs_cons (pg_name (i := 7) sc__law_due.nd rfl (.inl rfl)) (pgs_cons (pg_name (i := 8) sc__law_due.nd rfl (.inl rfl)) pgs_nil)))))
  (pss_cons (ps_set (i := 3) sc__law_due.nd rfl (.inl rfl) (pe_lst (pa_cons (pe_op op_add (pe_ix ix_list (pv 3) pe_int (fun _ _ => rfl)) (pe_op op_mul (pv 5) (pe_callB (cr_sumT rfl) (by rfl) T.m_sum (by decide +kernel) (pa_cons (pv 4) pa_nil)))) (pa_cons (pe_op op_add (pe_ix ix_list (pv 3) pe_int (fun _ _ => rfl)) (pv 7)) (pa_cons (pe_op op_add (pe_ix ix_list (pv 3) pe_int (fun _ _ => rfl)) (pv 8)) pa_nil)))))
  (pss_one (ps_set (i := 2) sc__law_due.nd rfl (.inl rfl) (pv 6))))))
  (pss_one (ps_ret (pe_tup (pa_cons (pv 2) (pa_cons (pe_callTy call_tuple_of (by rfl) T.m_tuple (by decide +kernel) (pa_cons (pv 3) pa_nil)) pa_nil))))))))), ?_⟩
    refine ⟨by show 3 ≤ sizeLine; decide, fun C nC => ?_⟩
    refine ⟨.ref ra, rfl, ra, rfl, ⟨_, sT (same_upd nC) hR⟩, for_tup (K := K) (xs := ps.map V.ref)
      (fun i σ H' => ∃ (C : Addr) (y4 y5 y6 y7 y8 : Option V), σ = [some (.int b), some (.ref ra), some (.int (Lg.tot b (xs.take i)).1), some (.ref C), y4, y5, y6, y7, y8] ∧ Same H H' ∧ H' C = some (.lst [.int (Lg.tot b (xs.take i)).2.1, .int (Lg.tot b (xs.take i)).2.2.1, .int (Lg.tot b (xs.take i)).2.2.2]))
      ⟨C, _, _, _, _, _, rfl, same_upd nC, upd_same⟩ (fun i σ H' _ h => ?_) (fun i x σ H' hx h => ?_) (fun σ H' h => ?_)⟩
    · obtain ⟨_, _, _, _, _, _, _, sm, _⟩ := h
      exact sT sm hR
    · obtain ⟨C, y4, y5, y6, y7, y8, rfl, sm, eC⟩ := h
      obtain ⟨p, x, rfl, hy, ca, ep, hC⟩ := lp.get hx
      obtain ⟨x60, xk, x0, x1⟩ := R.2 x (List.mem_of_getElem? hy)
      have et : Lg.tot b (xs.take (i + 1)) = Lg.go1 b (Lg.tot b (xs.take i)) x := by
        unfold Lg.tot
        rw [take_snoc hy, List.foldl_append]
        rfl
      have qk : Lg.Qk b (Lg.tot b (xs.take i)) := Lg.tot_ok hb ⟨by rw [List.length_take]; have := R.1; omega, fun y hy' => R.2 y (List.mem_of_mem_take hy')⟩
      refine ⟨p, _, rfl, SqT.of (sm _ _ ep), rfl, _, [_], rfl, _, [], rfl, rfl, ?_⟩
      rw [et]
      generalize Lg.tot b (xs.take i) = s0 at *
      obtain ⟨cs, n⟩ := x
      have x0' : 0 ≤ n := x0
      have x1' : n ≤ 10 ^ 30 := x1
      have l0 := qk.l0
      have l1 := qk.l1
      refine ⟨.int b, rfl, .ref ca, rfl, .int n, rfl, ca, cs, b, k, n, rfl, sT sm hC, ⟨by have : cs.length ≤ 60 := x60; omega, xk⟩, k4, hb, hb60, x0', x1', fun F rs H2 s2 eF tF => ?_⟩
      obtain ⟨m, hm, em⟩ := tF.at (tbl_get (n := n.toNat) (cs := cs) l0 l1)
      refine ⟨.int s0.1, rfl, F, _, _, .ref m, rfl, rfl, SqL.of eF, atI_of l0 hm, ?_⟩
      refine ⟨m, _, rfl, SqT.of em, rfl, _, [_, _], rfl, _, [_], rfl, _, [], rfl, rfl, ?_⟩
      have eC2 := s2 _ _ eC
      have c60 : cs.length ≤ 60 := x60
      have ck : ∀ c ∈ cs, 0 ≤ c ∧ c ≤ 4 := fun c hc => by
        have : 0 ≤ c ∧ c ≤ k := xk c hc
        omega
      have su := Lg.sum_le ck
      refine ⟨.ref C, rfl, C, _, 0, _, rfl, rfl, SqL.of eC2, atI_nat (j := 0) rfl, .int n, rfl, .ref ca, rfl, ca, cs, rfl, sT (sm.trans s2) hC, _, _, rfl, rfl, .inr ⟨by omega, by omega⟩, _, _, rfl, rfl, ?_⟩
      refine ⟨.ref C, rfl, C, _, 1, _, rfl, rfl, SqL.of eC2, atI_nat (j := 1) rfl, .int (Lg.it b cs n.toNat s0.1).2.1, rfl, _, _, rfl, rfl, ?_⟩
      refine ⟨.ref C, rfl, C, _, 2, _, rfl, rfl, SqL.of eC2, atI_nat (j := 2) rfl, .int (Lg.it b cs n.toNat s0.1).2.2, rfl, _, _, rfl, rfl, by show 3 ≤ sizeLine; decide, fun D nD => ?_⟩
      refine ⟨.int (Lg.it b cs n.toNat s0.1).1, rfl, D, _, _, _, _, _, rfl, (sm.trans s2).trans (same_upd nD), upd_same⟩
    · obtain ⟨C, y4, y5, y6, y7, y8, rfl, sm, eC⟩ := h
      rw [List.length_map, lp.len, List.take_of_length_le (Nat.le_refl _)] at eC ⊢
      refine ⟨_, rfl, .ref C, rfl, C, _, rfl, .inl ⟨SqL.of eC, fun q' nq => ?_⟩⟩
      refine ⟨by show 2 ≤ sizeLine; decide, fun p np => ?_⟩
      have s1 := same_upd (o := .tup [.int (Lg.tot b xs).2.1, .int (Lg.tot b xs).2.2.1, .int (Lg.tot b xs).2.2.2]) nq
      exact q p q' _ ((sm.trans s1).trans (same_upd np)) upd_same (same_upd np _ _ upd_same)
end

/-! ### long comings drawn -/
/-- all but lists stays -/
def Nl (H H' : Hp) : Prop := ∀ b o, (∀ ys, o ≠ HO.lst ys) → H b = some o → H' b = some o
theorem Nl.trans {H H1 H2 : Hp} (a : Nl H H1) (b : Nl H1 H2) : Nl H H2 := fun c o n h => b c o n (a c o n h)
theorem Nl.moved {t s : Addr} {H H' : Hp} (tp : Tape H t s) (m : Moved t H H') : Nl H H' := fun b o n e => m b o (fun z => by
  obtain ⟨_, _, _, _, _, _, h2, _⟩ := tp
  rw [z, h2] at e
  exact n _ (Option.some.inj e).symm) e
theorem Nl.same {H H' : Hp} (m : Same H H') : Nl H H' := fun b o _ e => m b o e
theorem Nl.put {H : Hp} {L : Addr} {ys : List V} {o : HO} (h : H L = some (.lst ys)) : Nl H (upd H L o) := fun b o' n e => by
  rw [upd_ne (fun z => by rw [z, h] at e; exact n _ (Option.some.inj e).symm)]
  exact e
theorem sT_nl {K : PySem.W.Frag} {H H' : Hp} {a : Addr} {xs : List V} (h : SqT K H a xs) (e : Nl H H') : SqT K H' a xs :=
  h.elim (fun h => .inl (h.elim (fun h => .inl (e _ _ (fun _ z => by cases z) h)) fun ⟨o, h⟩ => .inr ⟨o, e _ _ (fun _ z => by cases z) h⟩)) fun h => .inr h
theorem Lp.nl {K : PySem.W.Frag} {H H' : Hp} {p x} (h : Lp K H p x) (s : Nl H H') : Lp K H' p x := let ⟨ca, e, c⟩ := h; ⟨ca, s _ _ (fun _ z => by cases z) e, sT_nl c s⟩
theorem Lps.nl {K : PySem.W.Frag} {H H' : Hp} {ps xs} (h : Lps K H ps xs) (s : Nl H H') : Lps K H' ps xs := by
  induction h with
  | nil => exact .nil
  | cons a _ ih => exact .cons (a.nl s) ih
theorem Lps.snoc {K : PySem.W.Frag} {H : Hp} {ps xs p x} (h : Lps K H ps xs) (a : Lp K H p x) : Lps K H (ps ++ [p]) (xs ++ [x]) := by
  induction h with
  | nil => exact .cons a .nil
  | cons b _ ih => exact .cons b ih
section
variable {P : Program} {w : World} {K : PySem.W.Frag} {mg : Str → Option Value} {base : Heap}
def spLLong (K : PySem.W.Frag) : Sp := fun vs H Q _ => ∃ (t s : Addr) (k : Int) (g : Bool), vs = [.ref t, .int k, .bl g] ∧ 2 ≤ k ∧ k ≤ 4 ∧ Tape H t s ∧
  ∀ ra (ps : List Addr) (xs : List (List Int × Int)) H', ra ≠ t → H ra = none → Moved t H H' → Tape H' t s → H' ra = some (.tup (ps.map V.ref)) → Lps K H' ps xs → Lg.Right k xs → (g = false → ∀ x ∈ xs, x.2 ≤ 3) → Q (.ref ra) H'
theorem of_ints {M : Int} (ns : List Int) (hM : ∀ n ∈ ns, 0 ≤ n ∧ n ≤ M) {j : Nat} (h : j < ns.length) : ∃ v, (ns.map V.int)[j]? = some (.int v) ∧ 0 ≤ v ∧ v ≤ M :=
  ⟨ns[j], by rw [List.getElem?_map, List.getElem?_eq_getElem h]; rfl, hM _ (List.getElem_mem h)⟩
def LpR (k : Int) (g : Bool) (x : List Int × Int) : Prop := x.1.length ≤ 60 ∧ (∀ c ∈ x.1, 0 ≤ c ∧ c ≤ k) ∧ 0 ≤ x.2 ∧ x.2 ≤ 10 ^ 30 ∧ (g = false → x.2 ≤ 3)
theorem ok__law_long (T : Tx K mg) : FnOk P w K mg base CX0 3 T.a__law_long T.d__law_long ["tape", "comers", "great"] (spLLong K) := by
  refine T.F__law_long.ok sc__law_long (fun vs H Q E h => ?_) (fun cdv A outer s H vs Q E hr h => ?_)
  · obtain ⟨t, sc, k, g, rfl, _⟩ := h
    rfl
  · obtain ⟨t, sc, k, g, rfl, k2, k4, tp0, q⟩ := h
    refine ⟨_, ((pss_cons (ps_set (i := 3) sc__law_long.nd rfl (.inl rfl) (pe_lst pa_nil))
  (pss_cons (ps_set (i := 4) sc__law_long.nd rfl (.inl rfl) (pe_call (ok__law_pick T) (hr.mono (by decide)) (by rfl) T.g__law_pick T.F__law_pick.kp T.b__law_pick .nil pass0 (pa_cons (pv 0) (pa_cons pe_int pa_nil))))
  (Evl.pss_cut (ps_if (pt_cmpR op_eq (pe_call (ok__law_pick T) (hr.mono (by decide)) (by rfl) T.g__law_pick T.F__law_pick.kp T.b__law_pick .nil pass0 (pa_cons (pv 0) (pa_cons pe_int pa_nil))) pe_int (nomark _)) (pss_one (ps_set (i := 4) sc__law_long.nd rfl (.inl rfl) (pe_op op_add pe_int (pe_call (ok__law_pick T) (hr.mono (by decide)) (by rfl) T.g__law_pick T.F__law_pick.kp T.b__law_pick .nil pass0 (pa_cons (pv 0) (pa_cons pe_int pa_nil)))))) pss_nil)
  (pss_cons (ps_for PassesOwn.never rfl (pi_range1 (by rfl) T.m_range (pa_cons (pv 4) pa_nil)) (pg_name (i := 5) sc__law_long.nd rfl (.inl rfl))
   (pss_cons (ps_set (i := 6) sc__law_long.nd rfl (.inl rfl) (pe_call (ok__law_pick T) (hr.mono (by decide)) (by rfl) T.g__law_pick T.F__law_pick.kp T.b__law_pick .nil pass0 (pa_cons (pv 0) (pa_cons pe_int pa_nil))))
  (Evl.pss_cut (ps_if (pt_val (pv 2)) (pss_one (ps_set (i := 6) sc__law_long.nd rfl (.inl rfl) (pe_ix ix_list (pe_lst (pa_cons pe_int (pa_cons pe_int (pa_cons pe_int (pa_cons (pe_op op_pow pe_int pe_int) (pa_cons (pe_op op_pow pe_int pe_int) (pa_cons (pe_call (ok__law_pick T) (hr.mono (by decide)) (by rfl) T.g__law_pick T.F__law_pick.kp T.b__law_pick .nil pass0 (pa_cons (pv 0) (pa_cons (pe_op op_pow pe_int pe_int) pa_nil))) (pa_cons (pe_call (ok__law_pick T) (hr.mono (by decide)) (by rfl) T.g__law_pick T.F__law_pick.kp T.b__law_pick .nil pass0 (pa_cons (pv 0) (pa_cons pe_int pa_nil))) pa_nil)))))))) (pe_call (ok__law_pick T) (hr.mono (by decide)) (by rfl) T.g__law_pick T.F__law_pick.kp T.b__law_pick .nil pass0 (pa_cons (pv 0) (pa_cons pe_int pa_nil))) (fun _ _ => rfl)))) pss_nil)
  (pss_one (ps_expr (pe_bm PySem.F.plainAttrs_list PySem.F.slot_list_append PySem.F.type_list_append mt_append (pv 3) (pa_cons (pe_tup (pa_cons (pe_call (ok__law_short T) (hr.mono (by decide)) (by rfl) T.g__law_short T.F__law_short.kp T.b__law_short .nil pass0 (pa_cons (pv 0) (pa_cons (pv 1) (pa_cons (pe_ix ix_list (pe_lst (pa_cons pe_int (pa_cons pe_int (pa_cons pe_int pa_nil)))) (pe_op op_mul (pe_call (ok__law_pick T) (hr.mono (by decide)) (by rfl) T.g__law_pick T.F__law_pick.kp T.b__law_pick .nil pass0 (pa_cons (pv 0) (pa_cons pe_int pa_nil))) (pe_callTy call_int1 (by rfl) T.m_int (by decide +kernel) (pa_cons (pe_cmpR op_lt (pv 4) pe_int (nomark _)) pa_nil))) (fun _ _ => rfl)) pa_nil)))) (pa_cons (pv 6) pa_nil))) pa_nil)))))))
  (pss_one (ps_ret (pe_callTy call_tuple_of (by rfl) T.m_tuple (by decide +kernel) (pa_cons (pv 3) pa_nil))))))))), ?_⟩
    refine ⟨Nat.zero_le _, fun L nL => ?_⟩
    have sL := same_upd (o := .lst []) nL
    have hLt : L ≠ t := tp0.ne nL
    have hLs : L ≠ sc := tp0.ne2 nL
    have tpL := tp0.keep sL
    refine ⟨.ref t, rfl, t, sc, 6, rfl, ⟨by decide, by decide⟩, tpL, fun m0 H1 hm0 hm1 mv1 tp1 => ?_⟩
    refine ⟨fun σ' H2 => ∃ m, σ' = [some (.ref t), some (.int k), some (.bl g), some (.ref L), some (.int m), none, none] ∧ 0 ≤ m ∧ m ≤ 20 ∧ Moved t (upd H L (.lst [])) H2 ∧ Tape H2 t sc, ?_, fun σ' H2 hm => ?_⟩
    · refine ⟨.ref t, rfl, t, sc, 16, rfl, ⟨by decide, by decide⟩, tp1, fun x H2 _ _ mv2 tp2 => ?_⟩
      refine ⟨rfl, _, rfl, ite2 (fun c1 => ?_) (fun c1 => ?_)⟩
      · refine ⟨.ref t, rfl, t, sc, 15, rfl, ⟨by decide, by decide⟩, tp2, fun y H3 hy0 hy1 mv3 tp3 => ?_⟩
        exact ⟨6, y, rfl, rfl, 6 + y, rfl, by omega, by omega, (mv1.trans mv2).trans mv3, tp3⟩
      · exact ⟨m0, rfl, hm0, by omega, mv1.trans mv2, tp2⟩
    · obtain ⟨m, rfl, hm0, hm1, mv2, tp2⟩ := hm
      have eL2 := mv2 L _ hLt upd_same
      refine ⟨.int m, rfl, m, rfl, by omega, by omega, for_range (lo := 0) (n := m.toNat)
        (fun i σ H' => ∃ (y5 y6 : Option V) (ps : List Addr) (xs : List (List Int × Int)), σ = [some (.ref t), some (.int k), some (.bl g), some (.ref L), some (.int m), y5, y6] ∧ H' L = some (.lst (ps.map V.ref)) ∧ Lps K H' ps xs ∧ xs.length = i ∧ (∀ x ∈ xs, LpR k g x) ∧ (∀ b o, b ≠ t → b ≠ L → H b = some o → H' b = some o) ∧ Tape H' t sc)
        ⟨_, _, [], [], rfl, eL2, .nil, rfl, fun _ h => by simp at h, fun b o n1 n2 e => mv2 b o n1 (sL b o e), tp2⟩ (fun i σ H' hi h => ?_) (fun σ H' h => ?_)⟩
      · obtain ⟨y5, y6, ps, xs, rfl, eL, lp, el, hR, kp, tp'⟩ := h
        refine ⟨.ref t, rfl, t, sc, 4, rfl, ⟨by decide, by decide⟩, tp', fun n0 H3 hn0 hn1 mv3 tp3 => ?_⟩
        refine ⟨fun σ' H4 => ∃ n, σ' = [some (.ref t), some (.int k), some (.bl g), some (.ref L), some (.int m), some (.int (0 + (i : Int))), some (.int n)] ∧ 0 ≤ n ∧ n ≤ 10 ^ 30 ∧ (g = false → n ≤ 3) ∧ Moved t H' H4 ∧ Tape H4 t sc, ?_, fun σ' H4 hm => ?_⟩
        · cases g with
          | false => exact ⟨.bl false, rfl, false, rfl, n0, rfl, hn0, by omega, fun _ => by omega, mv3, tp3⟩
          | true =>
            refine ⟨.bl true, rfl, true, rfl, ?_⟩
            refine ⟨10, 9, rfl, rfl, ⟨by decide, by decide, by decide⟩, 10, 30, rfl, rfl, ⟨by decide, by decide, by decide⟩, .ref t, rfl, 10, 12, rfl, rfl, ⟨by decide, by decide, by decide⟩, t, sc, 10 ^ 12, rfl, ⟨by decide, by decide⟩, tp3, fun p1 H4 hp0 hp1 mv4 tp4 => ?_⟩
            refine ⟨.ref t, rfl, t, sc, 100, rfl, ⟨by decide, by decide⟩, tp4, fun p2 H5 hq0 hq1 mv5 tp5 => ?_⟩
            refine ⟨by show 7 ≤ sizeLine; decide, fun G nG => ?_⟩
            have sG := same_upd (o := .lst ([0, 1, 7, 10 ^ 9, 10 ^ 30, p1, p2].map V.int)) nG
            have tpG := tp5.keep sG
            refine ⟨.ref t, rfl, t, sc, 7, rfl, ⟨by decide, by decide⟩, tpG, fun r H6 hr0 hr1 mv6 tp6 => ?_⟩
            have hGt : G ≠ t := tp5.ne nG
            have eG := mv6 G _ hGt (upd_same (H := H5) (o := .lst ([0, 1, 7, 10 ^ 9, 10 ^ 30, p1, p2].map V.int)))
            obtain ⟨v, hv, v0, v1⟩ := of_ints (M := 10 ^ 30) [0, 1, 7, 10 ^ 9, 10 ^ 30, p1, p2] (fun n hn => by
              simp only [List.mem_cons, List.not_mem_nil, or_false] at hn
              omega) (j := r.toNat) (by show r.toNat < 7; omega)
            refine ⟨G, _, _, .int v, rfl, rfl, SqL.of eG, atI_of hr0 hv, ?_⟩
            exact ⟨v, rfl, v0, v1, (fun z => by cases z), (((mv3.trans mv4).trans mv5).trans (Moved.same sG)).trans mv6, tp6⟩
        · obtain ⟨n, rfl, hn0, hn1, hn2, mv4, tp4⟩ := hm
          have eL4 := mv4 L _ hLt eL
          refine ⟨.ref L, rfl, .inl ⟨rfl, _, SqL.of eL4⟩, .ref t, rfl, .int k, rfl, by show 3 ≤ sizeLine; decide, fun M nM => ?_⟩
          have sM := same_upd (o := .lst ([6, 20, 60].map V.int)) nM
          have hMt : M ≠ t := tp4.ne nM
          refine ⟨.ref t, rfl, t, sc, 3, rfl, ⟨by decide, by decide⟩, tp4.keep sM, fun r H6 hr0 hr1 mv6 tp6 => ?_⟩
          have eM := mv6 M _ hMt (upd_same (H := H4) (o := .lst ([6, 20, 60].map V.int)))
          refine ⟨.int m, rfl, _, _, rfl, rfl, .inr ⟨_, rfl, ?_⟩⟩
          obtain ⟨z, hz, ez⟩ : ∃ z : Int, (z = 0 ∨ z = 1) ∧ (if decide (m < 6) = true then (1 : Int) else 0) = z := by
            by_cases c : decide (m < 6) = true
            · exact ⟨1, .inr rfl, if_pos c⟩
            · exact ⟨0, .inl rfl, if_neg c⟩
          rw [ez]
          refine ⟨_, _, rfl, rfl, .inr ⟨by omega, by omega⟩, ?_⟩
          have hrz : 0 ≤ r * z ∧ r * z ≤ 2 := by
            rcases hz with rfl | rfl
            · rw [Int.mul_zero]
              decide
            · rw [Int.mul_one]
              omega
          obtain ⟨mx, hmx, mx0, mx1⟩ := of_ints (M := 60) [6, 20, 60] (fun n hn => by
            simp only [List.mem_cons, List.not_mem_nil, or_false] at hn
            omega) (j := (r * z).toNat) (by show (r * z).toNat < 3; omega)
          refine ⟨M, _, _, .int mx, rfl, rfl, SqL.of eM, atI_of hrz.1 hmx, ?_⟩
          refine ⟨t, sc, k, mx, rfl, ⟨by omega, by omega⟩, ⟨mx0, by omega⟩, tp6, fun ca cs H7 hcl hcs hct nca mv7 tp7 eca => ?_⟩
          refine ⟨.int n, rfl, by show 2 ≤ sizeLine; decide, fun p np => ?_⟩
          have sp := same_upd (o := .tup [.ref ca, .int n]) np
          have hpt : p ≠ t := tp7.ne np
          have mvA : Moved t H' H7 := ((mv4.trans (Moved.same sM)).trans mv6).trans mv7
          have eL7 : H7 L = _ := mvA L _ hLt eL
          have eL8 := sp _ _ eL7
          refine ⟨L, _, _, rfl, rfl, eL8, by rw [List.length_map, lp.len]; exact small1000 (by omega), ?_⟩
          have nl7 : Nl H' H7 := .moved tp' mvA
          refine ⟨_, _, ps ++ [p], xs ++ [(cs, n)], rfl, by rw [upd_same, List.map_append]; rfl, ?_, by rw [List.length_append, el]; rfl, fun x hx => ?_, fun b o n1 n2 e => ?_, (tp7.keep sp).but hLt hLs⟩
          · refine ((lp.nl (nl7.trans (.same sp))).snoc ⟨ca, upd_same, SqT.of (sp _ _ eca)⟩).nl (.put eL8)
          · rcases List.mem_append.mp hx with hx | hx
            · exact hR x hx
            · rw [List.mem_singleton.mp hx]
              exact ⟨by show cs.length ≤ 60; omega, hcs, hn0, hn1, hn2⟩
          · rw [upd_ne n2]
            exact sp _ _ (mvA b o n1 (kp b o n1 n2 e))
      · obtain ⟨y5, y6, ps, xs, rfl, eL, lp, el, hR, kp, tp'⟩ := h
        refine ⟨.ref L, rfl, L, _, rfl, .inl ⟨SqL.of eL, fun p np => ?_⟩⟩
        have hpt : p ≠ t := tp'.ne np
        have hpL : p ≠ L := fun e => by
          rw [e, eL] at np
          cases np
        have hHp : H p = none := by
          cases z : H p with
          | none => rfl
          | some o =>
            rw [kp p o hpt hpL z] at np
            cases np
        have sp := same_upd (o := .tup (ps.map V.ref)) np
        refine q p ps xs _ hpt hHp (fun b o n1 e => sp _ _ (kp b o n1 (ne_of_none e nL) e)) (tp'.keep sp) upd_same (lp.same sp) ⟨by omega, fun x hx => ?_⟩ (fun hg x hx => (hR x hx).2.2.2.2 hg)
        obtain ⟨h1, h2, h3, h4, _⟩ := hR x hx
        exact ⟨h1, h2, h3, h4⟩
end

/-! ### a part of a tuple, as one thing -/
def rSlU (K : PySem.W.Frag) : V → Option Int → Option Int → Hp → VK → Prop := fun x lo hi H Q => ∃ a xs, x = .ref a ∧ SqT K H a xs ∧ ∀ p H', Same H H' → SqT K H' p (cutV xs lo hi) → Q (.ref p) H'
theorem sl_tupU {X : Cx} : SlR X (rSlU X.K) := by
  intro pins s σ H x v vl vu lo hi sl Q I rx hs pl pu h
  obtain ⟨a, xs, rfl, hx, q⟩ := h
  refine sl_tupA pins s σ H _ v vl vu lo hi sl Q I rx hs pl pu ⟨a, xs, rfl, hx, fun hw => ?_, fun hw p np => q p _ (same_upd np) (SqT.of upd_same)⟩
  refine q a H (fun _ _ e => e) ?_
  have e : cutV xs lo hi = xs := by
    unfold cutV
    rw [hw.1, hw.2, List.drop_zero, Nat.sub_zero]
    exact List.take_length
  rw [e]
  exact hx
theorem cut_fromL (xs : List V) {n : Nat} (h : n ≤ xs.length) : cutV xs (some (n : Int)) none = xs.drop n := by
  unfold cutV
  rw [HT.sIx_nat, HT.sIx_none, Nat.min_eq_left h]
  exact List.take_of_length_le (by rw [List.length_drop]; exact Nat.le_refl _)
theorem cut_toL (xs : List V) {n : Nat} (h : n ≤ xs.length) : cutV xs none (some (n : Int)) = xs.take n := by
  unfold cutV
  rw [HT.sIx_nat, HT.sIx_none, Nat.min_eq_left h, Nat.sub_zero, List.drop_zero]

/-! ### t + u as one thing -/
def rCatU (K : PySem.W.Frag) : R2 := fun x y H Q => ∃ a b xs ys, x = .ref a ∧ y = .ref b ∧ SqT K H a xs ∧ SqT K H b ys ∧ xs.length + ys.length ≤ sizeLine ∧ ∀ p H', Same H H' → SqT K H' p (xs ++ ys) → Q (.ref p) H'
theorem catU {X : Cx} : OpR X (binaryOp .Add) (rCatU X.K) := by
  intro pins s σ H x y v u Q I rx ry h
  obtain ⟨a, b, xs, ys, rfl, rfl, ha, hb, hz, q⟩ := h
  refine op_catA pins s σ H _ _ v u Q I rx ry ⟨a, b, xs, ys, rfl, rfl, ha, hb, hz, fun e => ?_, fun _ e => ?_, fun _ _ p np => ?_⟩
  · subst e
    exact q b H (fun _ _ h => h) hb
  · subst e
    refine q a H (fun _ _ h => h) ?_
    rw [List.append_nil]
    exact ha
  · exact q p _ (same_upd np) (SqT.of upd_same)

/-! ### rows of long comings as data; the law's ends -/
theorem rd_nil (b l : Int) : Lg.rd b [] l = (l, 0, 0) := rfl
theorem behind_last {b : Int} {cs : List Int} (h : 0 < cs.length) : ∃ L, Ln.behind b cs cs.length = L ++ [(Lg.rd b cs 0).1] := by
  obtain ⟨n, hn⟩ : ∃ n, cs.length = n + 1 := ⟨cs.length - 1, by omega⟩
  refine ⟨Ln.behind b cs n, ?_⟩
  have e : (Lg.rd b cs 0).1 = (Ln.pre b cs cs.length).2 := by
    rw [← Lg.preL_0]
    exact (Lg.rd_pre b 0 cs cs.length).1
  rw [e, hn]
  rfl
theorem none_count (b : Int) (cs : List Int) : ((((Ln.letts b cs).map fun l => wv l.2.2).countP fun y => eqV y .non : Nat) : Int) = (Lg.rd b cs 0).2.2 := by
  have e : (Lg.rd b cs 0).2.2 = Lg.away (Ln.letts b cs) := by
    unfold Ln.letts
    rw [← Lg.preL_0]
    exact (Lg.rd_pre b 0 cs cs.length).2
  rw [e, List.countP_map]
  unfold Lg.away
  congr 1
  apply List.countP_congr
  rintro ⟨x, y, z⟩ _
  cases z <;> exact Iff.rfl
theorem flat_ws (L : List Ln.Let) : (L.map fun l => wv l.2.2).all flatV = true := by
  rw [List.all_eq_true]
  intro v hv
  obtain ⟨l, _, rfl⟩ := List.mem_map.mp hv
  cases l.2.2 <;> rfl
def dLp (x : List Int × Int) : PyData := .tuple [My.dI x.1, .int x.2]
def dLps (xs : List (List Int × Int)) : PyData := .tuple (xs.map dLp)
theorem dp_Lp {K : PySem.W.Frag} {H : Hp} {p x} (h : Lp K H p x) : Dp K H (.ref p) (dLp x) := by
  obtain ⟨ca, e, c⟩ := h
  exact .tup (SqT.of e) (.cons (dp_dI c) (.cons (.int _) .nil))
theorem dpa_Lps {K : PySem.W.Frag} {H : Hp} {ps xs} (h : Lps K H ps xs) : DpAll K H (ps.map V.ref) (xs.map dLp) := by
  induction h with
  | nil => exact .nil
  | cons a _ ih => exact .cons (dp_Lp a) ih
theorem dp_Lps {K : PySem.W.Frag} {H : Hp} {r : Addr} {ps xs} (e : SqT K H r (ps.map V.ref)) (h : Lps K H ps xs) : Dp K H (.ref r) (dLps xs) := .tup e (dpa_Lps h)
theorem rp_Lps {k : Int} (hk : k ≤ 4) {xs : List (List Int × Int)} (R : Lg.Right k xs) : RG7.Rp 3 2460 (dLps xs) := by
  obtain ⟨h20, hx⟩ := R
  refine RG7.Rp.tup (k := 2) (n := 122) (fun d hd => ?_) (by rw [List.length_map]; omega)
  obtain ⟨x, hx', rfl⟩ := List.mem_map.mp hd
  obtain ⟨h60, hc, h0, h1⟩ := hx x hx'
  refine RG7.Rp.tup (k := 1) (n := 60) (fun d hd => ?_) (by show 2 * 61 ≤ 122; decide)
  simp only [List.mem_cons, List.not_mem_nil, or_false] at hd
  rcases hd with rfl | rfl
  · refine RG7.Rp.tup (k := 0) (n := 0) (fun d hd => ?_) (by rw [List.length_map]; omega)
    obtain ⟨c, hc', rfl⟩ := List.mem_map.mp hd
    have := hc c hc'
    exact RG7.Rp.int (by have : (10 : Nat) ^ 60 > 4 := by decide
                         omega)
  · exact (RG7.Rp.int (by
      have : (10 : Int) ^ 30 < 10 ^ 31 := by decide
      have : ((10 : Nat) ^ 60 : Nat) > 10 ^ 31 := by decide
      omega)).up (by decide) (by decide)

/-! ### the law of long comings -/
theorem of_ints2 {lo M : Int} (ns : List Int) (hM : ∀ n ∈ ns, lo ≤ n ∧ n ≤ M) {j : Nat} (h : j < ns.length) : ∃ v, (ns.map V.int)[j]? = some (.int v) ∧ lo ≤ v ∧ v ≤ M :=
  ⟨ns[j], by rw [List.getElem?_map, List.getElem?_eq_getElem h]; rfl, hM _ (List.getElem_mem h)⟩
theorem cut_upto (xs : List V) (n : Nat) : cutV xs none (some (n : Int)) = xs.take n := by
  unfold cutV
  rw [HT.sIx_none, HT.sIx_nat]
  show List.take (min n xs.length - 0) (xs.drop 0) = _
  rw [List.drop_zero, Nat.sub_zero, ← List.take_take, List.take_length]
theorem ints_take {K : PySem.W.Frag} {H : Hp} {p : Addr} {cs : List Int} {n : Nat} (h : SqT K H p (cutV (cs.map V.int) none (some (n : Int)))) : SqT K H p ((cs.take n).map V.int) := by
  rw [cut_upto, ← List.map_take] at h
  exact h
/-- so many times the same -/
def reps (cs : List Int) (n : Int) : List Int := (List.replicate n.toNat cs).flatten
theorem reps_mem {cs : List Int} {n c : Int} (h : c ∈ reps cs n) : c ∈ cs := by
  obtain ⟨l, hl, hc⟩ := List.mem_flatten.mp h
  rw [(List.mem_replicate.mp hl).2] at hc
  exact hc
theorem reps_len (cs : List Int) (n : Int) : (reps cs n).length = n.toNat * cs.length := by
  unfold reps
  rw [List.length_flatten, List.map_replicate, List.sum_replicate_nat]
section
variable {P : Program} {w : World} {K : PySem.W.Frag} {mg : Str → Option Value} {base : Heap}
def lawLevel : Nat := 10
def spLaw (K : PySem.W.Frag) : Sp := fun vs H Q _ => ∃ (a : Addr) (ns : List Int), vs = [.ref a] ∧ SqL K H a (ns.map V.int) ∧ ns.length ≤ 63 ∧ ∀ H', Q (.bl true) H'
theorem ok_law (T : Tx K mg) : RG7.FnG P w K mg base 10 T.a_law T.d_law ["script"] (spLaw K) := by
  refine RG7.fnG T.F_law sc_law (fun vs H Q E h => ?_) (fun cdv A outer s H vs Q E noG hr h => ?_)
  · obtain ⟨a, ns, rfl, _⟩ := h
    rfl
  · obtain ⟨a, ns0, rfl, hS, hlen, q⟩ := h
    refine ⟨_, ((pss_cons (ps_set (i := 1) sc_law.nd rfl (.inl rfl) (pe_call (ok__law_tape T) (hr.mono (by decide)) (by rfl) T.g__law_tape T.F__law_tape.kp T.b__law_tape .nil pass0 (pa_cons (pv 0) pa_nil)))
  (pss_cons (ps_set (i := 2) sc_law.nd rfl (.inl rfl) (pe_op op_add pe_int (pe_call (ok__law_pick T) (hr.mono (by decide)) (by rfl) T.g__law_pick T.F__law_pick.kp T.b__law_pick .nil pass0 (pa_cons (pv 1) (pa_cons pe_int pa_nil)))))
  (pss_cons (ps_set (i := 3) sc_law.nd rfl (.inl rfl) (pe_ix ix_list (pe_lst (pa_cons (pe_op op_add pe_int (pe_call (ok__law_pick T) (hr.mono (by decide)) (by rfl) T.g__law_pick T.F__law_pick.kp T.b__law_pick .nil pass0 (pa_cons (pv 1) (pa_cons pe_int pa_nil)))) (pa_cons (pe_op op_add pe_int (pe_call (ok__law_pick T) (hr.mono (by decide)) (by rfl) T.g__law_pick T.F__law_pick.kp T.b__law_pick .nil pass0 (pa_cons (pv 1) (pa_cons pe_int pa_nil)))) (pa_cons pe_int pa_nil)))) (pe_call (ok__law_pick T) (hr.mono (by decide)) (by rfl) T.g__law_pick T.F__law_pick.kp T.b__law_pick .nil pass0 (pa_cons (pv 1) (pa_cons pe_int pa_nil))) (fun _ _ => rfl)))
  (pss_cons (ps_set (i := 4) sc_law.nd rfl (.inl rfl) (pe_call (ok__law_long T) (hr.mono (by decide)) (by rfl) T.g__law_long T.F__law_long.kp T.b__law_long .nil pass0 (pa_cons (pv 1) (pa_cons (pv 2) (pa_cons pe_bl pa_nil)))))
  (pss_cons (ps_set (i := 5) sc_law.nd rfl (.inl rfl) (pe_tup pa_nil))
  (pss_cons (ps_for PassesOwn.never rfl (pi_tup (pv 4)) (pg_tup rfl (pgs_cons (pg_name (i := 6) sc_law.nd rfl (.inl rfl)) (pgs_cons (pg_name (i := 7) sc_law.nd rfl (.inl rfl)) pgs_nil)))
   (pss_one (ps_set (i := 5) sc_law.nd rfl (.inl rfl) (pe_op catU (pv 5) (pe_op RN6.op_repN (pv 6) (pv 7))))))
  (pss_cons (ps_set (i := 5) sc_law.nd rfl (.inl rfl) (pe_slice sl_tupU (pv 5) po_none (po_some pe_int)))
  (pss_cons (ps_asg (pe_call (ok__law_round T) (hr.mono (by decide)) (by rfl) T.g__law_round T.F__law_round.kp T.b__law_round .nil pass0 (pa_cons (pv 3) (pa_cons pe_int (pa_cons (pv 5) pa_nil)))) (pg_tup rfl (pgs_cons (pg_name (i := 8) sc_law.nd rfl (.inl rfl)) (pgs_cons (pg_name (i := 9) sc_law.nd rfl (.inl rfl)) (pgs_cons (pg_name (i := 10) sc_law.nd rfl (.inl rfl)) pgs_nil)))))
  (Evl.pss_cut (ps_if (pt_cmpR (op_neD hr.units) (pv 5) (pe_tup pa_nil) (nomark _)) (pss_one (ps_if (PW.pt (pw_or (pt_cmpR op_ne (pe_ix ix_list (pe_call (ok_lines T) (hr.mono (by decide)) (by rfl) T.g_lines T.F_lines.kp T.b_lines .nil pass0 (pa_cons (pv 2) (pa_cons (pv 3) (pa_cons (pv 5) pa_nil)))) (pe_un un_neg pe_int) (fun _ _ => rfl)) (pv 8) (nomark _)) (pw_or1 (pt_cmpR op_ne (pe_bm PySem.F.plainAttrs_list PySem.F.slot_list_count PySem.F.type_list_count CF6.mt_countF (pe_call (ok_waits T) (hr.mono (by decide)) (by rfl) T.g_waits T.F_waits.kp T.b_waits .nil pass0 (pa_cons (pv 2) (pa_cons (pv 3) (pa_cons (pv 5) pa_nil)))) (pa_cons pe_non pa_nil)) (pv 10) (nomark _))))) (pss_one (ps_ret pe_bl)) pss_nil)) pss_nil)
  (pss_cons (ps_for PassesOwn.never rfl (pi_list (pe_lst (pa_cons (pe_tup (pa_cons (pe_tup pa_nil) (pa_cons pe_int pa_nil))) (pa_cons (pe_tup (pa_cons (pe_slice sl_tupU (pv 5) po_none (po_some pe_int)) (pa_cons pe_int pa_nil))) (pa_cons (pe_tup (pa_cons (pe_tup (pa_cons pe_int pa_nil)) (pa_cons pe_int pa_nil))) pa_nil))))) (pg_name (i := 11) sc_law.nd rfl (.inl rfl))
   (pss_one (ps_if (pt_cmpR op_ne (pe_call (ok_long_line T) (hr.mono (by decide)) (by rfl) T.g_long_line T.F_long_line.kp T.b_long_line .nil pass0 (pa_cons (pv 2) (pa_cons (pv 3) (pa_cons (pe_tup (pa_cons (pv 11) pa_nil)) pa_nil)))) (pe_ix ix_tup (pe_call (ok__law_round T) (hr.mono (by decide)) (by rfl) T.g__law_round T.F__law_round.kp T.b__law_round .nil pass0 (pa_cons (pv 3) (pa_cons pe_int (pa_cons (pe_op RN6.op_repN (pe_ix ix_tup (pv 11) pe_int (fun _ _ => rfl)) (pe_ix ix_tup (pv 11) pe_int (fun _ _ => rfl))) pa_nil)))) pe_int (fun _ _ => rfl)) (nomark _)) (pss_one (ps_ret pe_bl)) pss_nil)))
  (pss_cons (ps_for PassesOwn.never rfl (pi_list (pe_lst (pa_cons (pv 4) (pa_cons (pe_call (ok__law_long T) (hr.mono (by decide)) (by rfl) T.g__law_long T.F__law_long.kp T.b__law_long .nil pass0 (pa_cons (pv 1) (pa_cons (pv 2) (pa_cons pe_bl pa_nil)))) pa_nil)))) (pg_name (i := 12) sc_law.nd rfl (.inl rfl))
   (pss_cons (ps_set (i := 13) sc_law.nd rfl (.inl rfl) (pe_call (ok__law_due T) (hr.mono (by decide)) (by rfl) T.g__law_due T.F__law_due.kp T.b__law_due .nil pass0 (pa_cons (pv 3) (pa_cons (pv 12) pa_nil))))
  (pss_cons (ps_set (i := 14) sc_law.nd rfl (.inl rfl) (pe_callB (RG7.call_reprD (by exact noG) (units65 hr)) (by rfl) T.m_repr (by decide +kernel) (pa_cons (pv 12) pa_nil)))
  (pss_cons (ps_set (i := 15) sc_law.nd rfl (.inl rfl) (pe_call (ok_long_counts T) (hr.mono (by decide)) (by rfl) T.g_long_counts T.F_long_counts.kp T.b_long_counts .nil pass0 (pa_cons (pv 2) (pa_cons (pv 3) (pa_cons (pv 12) pa_nil)))))
  (pss_cons (ps_if (PW.pt (pw_or (pt_cmpR op_ne (pe_call (ok_long_line T) (hr.mono (by decide)) (by rfl) T.g_long_line T.F_long_line.kp T.b_long_line .nil pass0 (pa_cons (pv 2) (pa_cons (pv 3) (pa_cons (pv 12) pa_nil)))) (pe_ix ix_tup (pv 13) pe_int (fun _ _ => rfl)) (nomark _)) (pw_or (pt_cmpR (op_neD hr.units) (pv 15) (pe_ix ix_tup (pv 13) pe_int (fun _ _ => rfl)) (nomark _)) (pw_or1 (pt_not (pt_val (pe_callB call_isi (by rfl) T.m_isinstance (by decide +kernel) (pa_cons (pv 15) (pa_cons (pe_bltn (v := .ty "tuple") (by rfl) T.m_tuple (by decide +kernel) rfl) pa_nil))))))))) (pss_one (ps_ret pe_bl)) pss_nil)
  (pss_cons (ps_if (PW.pt (pw_or (pt_cmpR op_ne (pe_ix ix_tup (pv 15) pe_int (fun _ _ => rfl)) (pe_op op_add (pe_op op_add (pe_ix ix_tup (pv 15) pe_int (fun _ _ => rfl)) (pe_ix ix_tup (pv 15) pe_int (fun _ _ => rfl))) (pe_ix ix_tup (pv 13) pe_int (fun _ _ => rfl))) (nomark _)) (pw_or (pt_cmpR op_ne (pe_callB (RG7.call_reprD (by exact noG) (units65 hr)) (by rfl) T.m_repr (by decide +kernel) (pa_cons (pv 12) pa_nil)) (pv 14) (nomark _)) (pw_or1 (pt_val (pe_callB call_isi (by rfl) T.m_isinstance (by decide +kernel) (pa_cons (pe_call (ok_long_line T) (hr.mono (by decide)) (by rfl) T.g_long_line T.F_long_line.kp T.b_long_line .nil pass0 (pa_cons (pv 2) (pa_cons (pv 3) (pa_cons (pv 12) pa_nil)))) (pa_cons (pe_bltn (v := .ty "bool") (by rfl) T.m_bool (by decide +kernel) rfl) pa_nil)))))))) (pss_one (ps_ret pe_bl)) pss_nil)
  (pss_one (ps_if (PW.pt (pw_and (pt_cmpR op_gt (pe_callB call_len_seq (by rfl) T.m_len PySem.boot_len (pa_cons (pv 12) pa_nil)) pe_int (nomark _)) (pw_and1 (pt_cmpR op_lt (pe_callB call_len_seq (by rfl) T.m_len PySem.boot_len (pa_cons (pv 12) pa_nil)) pe_int (nomark _))))) (pss_cons (ps_set (i := 16) sc_law.nd rfl (.inl rfl) (pe_call (ok__law_pick T) (hr.mono (by decide)) (by rfl) T.g__law_pick T.F__law_pick.kp T.b__law_pick .nil pass0 (pa_cons (pv 1) (pa_cons (pe_op op_add (pe_ix ix_tup (pe_ix ix_tup (pv 12) pe_int (fun _ _ => rfl)) pe_int (fun _ _ => rfl)) pe_int) pa_nil))))
  (pss_cons (ps_set (i := 17) sc_law.nd rfl (.inl rfl) (pe_op catU (pe_tup (pa_cons (pe_tup (pa_cons (pe_ix ix_tup (pe_ix ix_tup (pv 12) pe_int (fun _ _ => rfl)) pe_int (fun _ _ => rfl)) (pa_cons (pv 16) pa_nil))) (pa_cons (pe_tup (pa_cons (pe_ix ix_tup (pe_ix ix_tup (pv 12) pe_int (fun _ _ => rfl)) pe_int (fun _ _ => rfl)) (pa_cons (pe_op op_sub (pe_ix ix_tup (pe_ix ix_tup (pv 12) pe_int (fun _ _ => rfl)) pe_int (fun _ _ => rfl)) (pv 16)) pa_nil))) pa_nil))) (pe_slice sl_tupU (pv 12) (po_some pe_int) po_none)))
  (pss_one (ps_if (PW.pt (pw_or (pt_cmpR (op_neD hr.units) (pe_call (ok_long_counts T) (hr.mono (by decide)) (by rfl) T.g_long_counts T.F_long_counts.kp T.b_long_counts .nil pass0 (pa_cons (pv 2) (pa_cons (pv 3) (pa_cons (pv 17) pa_nil)))) (pv 15) (nomark _)) (pw_or1 (pt_cmpR op_ne (pe_call (ok_long_line T) (hr.mono (by decide)) (by rfl) T.g_long_line T.F_long_line.kp T.b_long_line .nil pass0 (pa_cons (pv 2) (pa_cons (pv 3) (pa_cons (pv 17) pa_nil)))) (pe_ix ix_tup (pv 13) pe_int (fun _ _ => rfl)) (nomark _))))) (pss_one (ps_ret pe_bl)) pss_nil)))) pss_nil))))))))
  (pss_one (ps_ret (pe_and (pe_cmpR (op_eqD hr.units) (pe_call (ok_long_counts T) (hr.mono (by decide)) (by rfl) T.g_long_counts T.F_long_counts.kp T.b_long_counts .nil pass0 (pa_cons (pv 2) (pa_cons (pv 3) (pa_cons (pe_tup pa_nil) pa_nil)))) (pe_tup (pa_cons pe_int (pa_cons pe_int (pa_cons pe_int pa_nil)))) (nomark _)) (pe_one (pe_cmpR op_eq (pe_call (ok_long_line T) (hr.mono (by decide)) (by rfl) T.g_long_line T.F_long_line.kp T.b_long_line .nil pass0 (pa_cons (pv 2) (pa_cons (pv 3) (pa_cons (pe_tup pa_nil) pa_nil)))) pe_int (nomark _)))))))))))))))))), ?_⟩
    refine ⟨.ref a, rfl, a, ns0, rfl, hS, fun t sc H1 nt ns' sm tp => ?_⟩
    refine ⟨.ref t, rfl, t, sc, 3, rfl, ⟨by decide, by decide⟩, tp, fun d H2 hd0 hd1 mv2 tp2 => ?_⟩
    refine ⟨2, d, rfl, rfl, ?_⟩
    obtain ⟨k, hk⟩ : ∃ k : Int, k = 2 + d := ⟨_, rfl⟩
    have k2 : 2 ≤ k := by omega
    have k4 : k ≤ 4 := by omega
    show gName 2 (V.int (2 + d)) _ _ _
    rw [← hk]
    refine ⟨.ref t, rfl, t, sc, 4, rfl, ⟨by decide, by decide⟩, tp2, fun p0 H3 hp0 hp1 mv3 tp3 => ?_⟩
    refine ⟨1, p0, rfl, rfl, .ref t, rfl, t, sc, 12, rfl, ⟨by decide, by decide⟩, tp3, fun p1 H4 hq0 hq1 mv4 tp4 => ?_⟩
    refine ⟨1, p1, rfl, rfl, by show 3 ≤ sizeLine; decide, fun G nG => ?_⟩
    have sG := same_upd (o := .lst ([1 + p0, 1 + p1, 60].map V.int)) nG
    refine ⟨.ref t, rfl, t, sc, 3, rfl, ⟨by decide, by decide⟩, tp4.keep sG, fun r H6 hr0 hr1 mv6 tp6 => ?_⟩
    have eG := mv6 G _ (tp4.ne nG) (upd_same (H := H4) (o := .lst ([1 + p0, 1 + p1, 60].map V.int)))
    obtain ⟨b, hb, b1, b60⟩ := of_ints2 (lo := 1) (M := 60) [1 + p0, 1 + p1, 60] (fun n hn => by
      simp only [List.mem_cons, List.not_mem_nil, or_false] at hn
      omega) (j := r.toNat) (by show r.toNat < 3; omega)
    refine ⟨G, _, _, .int b, rfl, rfl, SqL.of eG, atI_of hr0 hb, ?_⟩
    refine ⟨.ref t, rfl, .int k, rfl, t, sc, k, false, rfl, k2, k4, tp6, fun ra ps xs H7 nra fra mv7 tp7 era lp R sm3 => ?_⟩
    refine ⟨Nat.zero_le _, fun W nW => ?_⟩
    have sW := same_upd (o := .tup []) nW
    have R20 := R.1
    refine ⟨.ref ra, rfl, ra, rfl, ⟨_, SqT.of (sW _ _ era)⟩, for_tup (K := K) (xs := ps.map V.ref)
      (fun i σ H' => ∃ (W : Addr) (cs : List Int) (y6 y7 : Option V), σ = [some (.ref a), some (.ref t), some (.int k), some (.int b), some (.ref ra), some (.ref W), y6, y7, none, none, none, none, none, none, none, none, none, none] ∧ Same H7 H' ∧ SqT K H' W (cs.map V.int) ∧ cs.length ≤ i * 180 ∧ ∀ c ∈ cs, 0 ≤ c ∧ c ≤ k)
      ⟨W, [], _, _, rfl, sW, SqT.of upd_same, Nat.zero_le _, fun _ h => by simp at h⟩ (fun i σ H' _ h => ?_) (fun i x σ H' hx h => ?_) (fun σ H8 h => ?_)⟩
    · obtain ⟨_, _, _, _, _, sm, _⟩ := h
      exact SqT.of (sm _ _ era)
    · obtain ⟨W, cs, y6, y7, rfl, sm, hW, zW, cW⟩ := h
      obtain ⟨p, x, rfl, hy, ca, ep, hC⟩ := lp.get hx
      have hi := (List.getElem?_eq_some_iff.mp hy).1
      obtain ⟨x60, xk, x0, x1⟩ := R.2 x (List.mem_of_getElem? hy)
      have x3 := sm3 rfl x (List.mem_of_getElem? hy)
      obtain ⟨xc, n⟩ := x
      have x60' : xc.length ≤ 60 := x60
      have xk' : ∀ c ∈ xc, 0 ≤ c ∧ c ≤ k := xk
      have x0' : 0 ≤ n := x0
      have x3' : n ≤ 3 := x3
      refine ⟨p, _, rfl, SqT.of (sm _ _ ep), rfl, _, [_], rfl, _, [], rfl, rfl, ?_⟩
      refine ⟨.ref W, rfl, .ref ca, rfl, .int n, rfl, ca, n, _, rfl, rfl, sT sm hC, by omega, by omega, by rw [List.length_map]; omega, fun U H9 s9 hU => ?_⟩
      have hU' : SqT K H9 U ((reps xc n).map V.int) := by
        unfold reps
        rw [List.map_flatten, List.map_replicate]
        exact hU
      have zU : (reps xc n).length ≤ 180 := by
        rw [reps_len]
        have : n.toNat * xc.length ≤ 3 * 60 := Nat.mul_le_mul (by omega) x60'
        omega
      refine ⟨W, U, _, _, rfl, rfl, sT s9 hW, hU', by rw [List.length_map, List.length_map]; have : (sizeLine : Nat) = 2 ^ 24 := rfl; omega, fun Z H10 s10 hZ => ?_⟩
      rw [← List.map_append] at hZ
      refine ⟨Z, cs ++ reps xc n, _, _, rfl, (sm.trans s9).trans s10, hZ, by rw [List.length_append]; omega, fun c hc => ?_⟩
      rcases List.mem_append.mp hc with hc | hc
      · exact cW c hc
      · exact xk' c (reps_mem hc)
    · obtain ⟨W, cs0, y6, y7, rfl, s7, hW0, zW0, cW0⟩ := h
      rw [List.length_map, lp.len] at zW0
      refine ⟨.ref W, rfl, 400, rfl, W, _, rfl, hW0, fun W2 H9 s9 hW2 => ?_⟩
      have hW := ints_take (n := 400) hW2
      generalize hcs : cs0.take 400 = cs at hW
      have g : Rt k cs := ⟨by rw [← hcs, List.length_take]; omega, fun c hc => cW0 c (List.mem_of_mem_take (hcs ▸ hc))⟩
      have g4 := g.four k4
      have c0 : ∀ c ∈ cs, 0 ≤ c := fun c hc => (g.2 c hc).1
      refine ⟨.int b, rfl, .ref W2, rfl, W2, cs, b, 0, k, rfl, hW, g, k4, fun p H10 s10 np ep => ?_⟩
      refine ⟨p, _, rfl, SqT.of ep, rfl, _, [_, _], rfl, _, [_], rfl, _, [], rfl, rfl, ?_⟩
      have hW10 := sT s10 hW
      refine ⟨fun σ' H' => ∃ l o aw : Int, σ' = [some (.ref a), some (.ref t), some (.int k), some (.int b), some (.ref ra), some (.ref W2), y6, y7, some (.int l), some (.int o), some (.int aw), none, none, none, none, none, none, none] ∧ Same H10 H', ?_, fun σ' H11 hm => ?_⟩
      · refine ⟨.ref W2, rfl, Nat.zero_le _, fun u nu => ?_⟩
        have su := same_upd (o := .tup []) nu
        refine ⟨My.dI cs, My.dI [], dp_dI (sT su hW10), dp_dI (SqT.of upd_same), (Shp.dI _).ok (by decide), (Shp.dI _).ok (by decide), ?_⟩
        rw [eqvI]
        refine ⟨_, rfl, ite2 (fun c1 => ?_) (fun c1 => ?_)⟩
        · have hpos : 0 < cs.length := by
            cases cs with
            | nil => exact absurd c1 (by decide)
            | cons => exact Nat.succ_pos _
          obtain ⟨L0, eL0⟩ := behind_last (b := b) hpos
          refine ⟨.int k, rfl, .int b, rfl, .ref W2, rfl, W2, cs, k, b, rfl, sT su hW10, g, k2, k4, b1, b60, fun L H12 s12 nL eL => ?_⟩
          refine ⟨1, rfl, L, _, _, .int (Lg.rd b cs 0).1, rfl, rfl, SqL.of eL, by rw [eL0, List.map_append]; exact atI_last _ _, ?_⟩
          refine ⟨.int (Lg.rd b cs 0).1, rfl, rfl, false, congrArg V.bl (by simp), iteF ?_⟩
          refine ⟨.int k, rfl, .int b, rfl, .ref W2, rfl, W2, cs, k, b, rfl, sT s12 (sT su hW10), g, k2, k4, b1, b60, fun L2 H13 s13 nL2 eL2 => ?_⟩
          refine ⟨.inl ⟨rfl, _, SqL.of eL2⟩, L2, _, .non, rfl, rfl, SqL.of eL2, rfl, flat_ws _, ?_⟩
          rw [none_count]
          refine ⟨.int (Lg.rd b cs 0).2.2, rfl, rfl, false, congrArg V.bl (by simp), iteF ?_⟩
          exact ⟨_, _, _, rfl, (su.trans s12).trans s13⟩
        · exact ⟨_, _, _, rfl, su⟩
      · obtain ⟨l, o, aw, rfl, s11⟩ := hm
        have hW11 := sT s11 hW10
        refine ⟨Nat.zero_le _, fun u1 nu1 => ?_⟩
        have sa := same_upd (o := .tup []) nu1
        refine ⟨by show 2 ≤ sizeLine; decide, fun r1 nr1 => ?_⟩
        have sb := same_upd (o := .tup [V.ref u1, .int 5]) nr1
        refine ⟨.ref W2, rfl, 60, rfl, W2, _, rfl, sT sb (sT sa hW11), fun V3 H12 sc3 hV3 => ?_⟩
        have hV := ints_take (n := 60) hV3
        refine ⟨by show 2 ≤ sizeLine; decide, fun r2 nr2 => ?_⟩
        have sd := same_upd (o := .tup [V.ref V3, .int 1]) nr2
        refine ⟨by show 1 ≤ sizeLine; decide, fun u3 nu3 => ?_⟩
        have se := same_upd (o := .tup [V.int 0]) nu3
        refine ⟨by show 2 ≤ sizeLine; decide, fun r3 nr3 => ?_⟩
        have sf := same_upd (o := .tup [V.ref u3, .int 0]) nr3
        refine ⟨by show 3 ≤ sizeLine; decide, fun D nD => ?_⟩
        have sg := same_upd (o := .lst [V.ref r1, .ref r2, .ref r3]) nD
        obtain ⟨H13, eH13⟩ : ∃ H13, H13 = upd (upd (upd (upd H12 r2 (.tup [V.ref V3, .int 1])) u3 (.tup [V.int 0])) r3 (.tup [V.ref u3, .int 0])) D (.lst [V.ref r1, .ref r2, .ref r3]) := ⟨_, rfl⟩
        have lp3 : Lps K H13 [r1, r2, r3] [([], 5), (cs.take 60, 1), ([0], 0)] := by
          rw [eH13]
          refine .cons ⟨u1, sg _ _ (sf _ _ (se _ _ (sd _ _ (sc3 _ _ upd_same)))), SqT.of (sg _ _ (sf _ _ (se _ _ (sd _ _ (sc3 _ _ (sb _ _ upd_same))))))⟩ (.cons ⟨V3, sg _ _ (sf _ _ (se _ _ upd_same)), sT sg (sT sf (sT se (sT sd hV)))⟩ (.cons ⟨u3, sg _ _ upd_same, SqT.of (sg _ _ (sf _ _ upd_same))⟩ .nil))
        have eD13 : H13 D = some (.lst [V.ref r1, .ref r2, .ref r3]) := by rw [eH13]; exact upd_same
        have s13 : Same H11 H13 := by
          rw [eH13]
          exact ((((((sa.trans sb).trans sc3).trans sd).trans se).trans sf).trans sg)
        rw [← eH13]
        have rows3 : ∀ x ∈ ([([], 5), (cs.take 60, 1), ([0], 0)] : List (List Int × Int)), x.1.length ≤ 60 ∧ (∀ c ∈ x.1, 0 ≤ c ∧ c ≤ k) ∧ 0 ≤ x.2 ∧ x.2 ≤ 5 ∧ (reps x.1 x.2).length ≤ 60 ∧ (Lg.it b x.1 x.2.toNat 0).1 = (Lg.rd b (reps x.1 x.2) 0).1 := by
          intro x hx
          simp only [List.mem_cons, List.not_mem_nil, or_false] at hx
          rcases hx with rfl | rfl | rfl
          · exact ⟨Nat.zero_le _, fun c hc => by simp at hc, by decide, by decide, Nat.zero_le _, rfl⟩
          · have e1 : reps (cs.take 60) 1 = cs.take 60 := by
              unfold reps
              simp
            have l60 : (cs.take 60).length ≤ 60 := by rw [List.length_take]; omega
            refine ⟨l60, fun c hc => g.2 c (List.mem_of_mem_take hc), (by show (0 : Int) ≤ 1; decide), (by show (1 : Int) ≤ 5; decide), by rw [e1]; exact l60, ?_⟩
            rw [e1]
            rfl
          · exact ⟨by decide, fun c hc => by simp at hc; omega, by decide, by decide, Nat.zero_le _, rfl⟩
        refine ⟨D, rfl, ⟨_, SqL.of eD13⟩, for_list (K := K) (xs := [V.ref r1, .ref r2, .ref r3])
          (fun i σ H' => ∃ y11, σ = [some (.ref a), some (.ref t), some (.int k), some (.int b), some (.ref ra), some (.ref W2), y6, y7, some (.int l), some (.int o), some (.int aw), y11, none, none, none, none, none, none] ∧ Same H13 H')
          ⟨_, rfl, fun _ _ e => e⟩ (fun i σ H' _ h => ?_) (fun i x σ H' hx h => ?_) (fun σ H14 h => ?_)⟩
        · obtain ⟨_, _, sm⟩ := h
          exact SqL.of (sm _ _ eD13)
        · obtain ⟨y11, rfl, sm⟩ := h
          obtain ⟨rw', x, rfl, hy, lpx⟩ := lp3.get (ps := [r1, r2, r3]) (i := i) (v := x) hx
          obtain ⟨x60, xk, x0, x5, xr, xe⟩ := rows3 x (List.mem_of_getElem? hy)
          obtain ⟨ca, er, hC⟩ := lpx.same sm
          refine ⟨.int k, rfl, .int b, rfl, .ref rw', rfl, by show 1 ≤ sizeLine; decide, fun q1 nq1 => ?_⟩
          have sq1 := same_upd (o := .tup [V.ref rw']) nq1
          refine ⟨q1, [rw'], [x], k, b, rfl, SqT.of upd_same, .cons ((lpx.same sm).same sq1) .nil, ⟨(by show 1 ≤ 20; decide), fun y hy' => by
            rw [List.mem_singleton.mp hy']
            exact ⟨x60, xk, x0, by omega⟩⟩, k2, k4, b1, b60, fun H15 s15 => ?_⟩
          have s15' := sq1.trans s15
          refine ⟨.int b, rfl, .ref rw', rfl, rw', _, 0, _, rfl, rfl, SqT.of (s15' _ _ er), atI_nat (j := 0) rfl, .ref rw', rfl, rw', _, 1, _, rfl, rfl, SqT.of (s15' _ _ er), atI_nat (j := 1) rfl, ca, x.2, _, rfl, rfl, sT s15' hC, by omega, by omega, by rw [List.length_map]; omega, fun U H16 s16 hU => ?_⟩
          have hU' : SqT K H16 U ((reps x.1 x.2).map V.int) := by
            unfold reps
            rw [List.map_flatten, List.map_replicate]
            exact hU
          refine ⟨U, reps x.1 x.2, b, 0, k, rfl, hU', ⟨by omega, fun c hc => xk c (reps_mem hc)⟩, k4, fun p6 H17 s17 np6 ep6 => ?_⟩
          refine ⟨p6, _, 0, _, rfl, rfl, SqT.of ep6, atI_nat (j := 0) rfl, rfl, false, ?_, iteF ?_⟩
          · have e : (Lg.tot b [x]).1 = (Lg.rd b (reps x.1 x.2) 0).1 := xe
            rw [e]
            exact congrArg V.bl (by simp)
          · exact ⟨_, rfl, ((sm.trans s15').trans s16).trans s17⟩
        · obtain ⟨y11, rfl, s14⟩ := h
          have mvA : Moved t H6 H14 := mv7.trans (Moved.same (((((((s7.trans s9).trans s10).trans s11)).trans s13).trans s14)))
          have sA : Same H7 H14 := ((((s7.trans s9).trans s10).trans s11).trans s13).trans s14
          have tpA := tp7.keep sA
          refine ⟨.ref ra, rfl, .ref t, rfl, .int k, rfl, t, sc, k, true, rfl, k2, k4, tpA, fun rb qs ys H20 nrb frb mv20 tp20 erb lpb Rb _ => ?_⟩
          refine ⟨by show 2 ≤ sizeLine; decide, fun D2 nD2 => ?_⟩
          have sD2 := same_upd (o := .lst [V.ref ra, .ref rb]) nD2
          have nl20 : Nl H14 H20 := .moved tpA mv20
          have rowsOk : ∀ (i : Nat) (v : V), ([V.ref ra, .ref rb] : List V)[i]? = some v → ∃ (r : Addr) (ps : List Addr) (xs : List (List Int × Int)), v = .ref r ∧ SqT K (upd H20 D2 (.lst [V.ref ra, .ref rb])) r (ps.map V.ref) ∧ Lps K (upd H20 D2 (.lst [V.ref ra, .ref rb])) ps xs ∧ Lg.Right k xs := by
            intro i v hv
            match i, hv with
            | 0, hv =>
              cases hv
              exact ⟨ra, ps, xs, rfl, sT sD2 (sT_nl (SqT.of (sA _ _ era)) nl20), ((lp.same sA).nl nl20).same sD2, R⟩
            | 1, hv =>
              cases hv
              exact ⟨rb, qs, ys, rfl, sT sD2 (SqT.of erb), lpb.same sD2, Rb⟩
            | n + 2, hv => simp at hv
          have eD2 : upd H20 D2 (.lst [V.ref ra, .ref rb]) D2 = some (.lst [V.ref ra, .ref rb]) := upd_same
          have tpD := tp20.keep sD2
          have hD2t : D2 ≠ t := tp20.ne nD2
          generalize upd H20 D2 (.lst [V.ref ra, .ref rb]) = HB at *
          refine ⟨D2, rfl, ⟨_, SqL.of eD2⟩, for_list (K := K) (xs := [V.ref ra, .ref rb])
            (fun i σ H' => ∃ y12 y13 y14 y15 y16 y17, σ = [some (.ref a), some (.ref t), some (.int k), some (.int b), some (.ref ra), some (.ref W2), y6, y7, some (.int l), some (.int o), some (.int aw), y11, y12, y13, y14, y15, y16, y17] ∧ Moved t HB H' ∧ Tape H' t sc)
            ⟨_, _, _, _, _, _, rfl, Moved.refl, tpD⟩ (fun i σ H' _ h => ?_) (fun i x σ H' hx h => ?_) (fun σ H' h => ?_)⟩
          · obtain ⟨_, _, _, _, _, _, _, mv, _⟩ := h
            exact SqL.of (mv _ _ hD2t eD2)
          · obtain ⟨y12, y13, y14, y15, y16, y17, rfl, mvB, tpB⟩ := h
            obtain ⟨r', ps', xs', rfl, hR0, lp0, R'⟩ := rowsOk i x hx
            have nlB : Nl HB H' := .moved tpD mvB
            have hR := sT_nl hR0 nlB
            have lpR := lp0.nl nlB
            refine ⟨.int b, rfl, .ref r', rfl, r', ps', xs', k, b, rfl, hR, lpR, R', k4, by omega, b60, fun dp dq H21 s21 edp edq => ?_⟩
            have tpE := tpB.keep s21
            refine ⟨.ref r', rfl, r', dLps xs', 3, 2460, rfl, dp_Lps (sT s21 hR) (lpR.same s21), rp_Lps k4 R', by decide, by decide, ?_⟩
            refine ⟨.int k, rfl, .int b, rfl, .ref r', rfl, r', ps', xs', k, b, rfl, sT s21 hR, lpR.same s21, R', k2, k4, b1, b60, fun cp H22 s22 ecp => ?_⟩
            have s12 := s21.trans s22
            refine ⟨.int k, rfl, .int b, rfl, .ref r', rfl, r', ps', xs', k, b, rfl, sT s12 hR, lpR.same s12, R', k2, k4, b1, b60, fun H23 s23 => ?_⟩
            have edp3 := s23 _ _ (s22 _ _ edp)
            have edq3 := s23 _ _ (s22 _ _ edq)
            have ecp3 := s23 _ _ ecp
            refine ⟨.ref dp, rfl, dp, _, 0, _, rfl, rfl, SqT.of edp3, atI_nat (j := 0) rfl, rfl, false, congrArg V.bl (by simp), iteF ?_⟩
            refine ⟨.ref cp, rfl, .ref dp, rfl, dp, _, 1, _, rfl, rfl, SqT.of edp3, atI_nat (j := 1) rfl, My.dI [(Lg.tot b xs').2.1, (Lg.tot b xs').2.2.1, (Lg.tot b xs').2.2.2], My.dI [(Lg.tot b xs').2.1, (Lg.tot b xs').2.2.1, (Lg.tot b xs').2.2.2], dp_dI (SqT.of ecp3), dp_dI (SqT.of edq3), (Shp.dI _).ok (by decide), (Shp.dI _).ok (by decide), false, ne_same (Shp.dI _), iteF ?_⟩
            refine ⟨.ref cp, rfl, .ref cp, .ty "tuple", _, _, true, rfl, .ty _, tyTup (SqT.of ecp3), kit_ty (by decide +kernel), true, rfl, iteF ?_⟩
            have s13 := s12.trans s23
            have qk := (Lg.tot_ok (by omega : (0 : Int) ≤ b) R').sum
            refine ⟨.ref cp, rfl, cp, _, 0, _, rfl, rfl, SqT.of ecp3, atI_nat (j := 0) rfl, .ref cp, rfl, cp, _, 1, _, rfl, rfl, SqT.of ecp3, atI_nat (j := 1) rfl, .ref cp, rfl, cp, _, 2, _, rfl, rfl, SqT.of ecp3, atI_nat (j := 2) rfl, _, _, rfl, rfl, .ref dp, rfl, dp, _, 0, _, rfl, rfl, SqT.of edp3, atI_nat (j := 0) rfl, _, _, rfl, rfl, rfl, false, ?_, iteF ?_⟩
            · have e : V.int (Lg.tot b xs').2.1 = V.int ((Lg.tot b xs').2.2.1 + (Lg.tot b xs').2.2.2 + (Lg.tot b xs').1) := congrArg V.int qk
              show V.bl (!decide (V.int (Lg.tot b xs').2.1 = V.int ((Lg.tot b xs').2.2.1 + (Lg.tot b xs').2.2.2 + (Lg.tot b xs').1))) = _
              rw [decide_eq_true e]
              rfl
            refine ⟨.ref r', rfl, r', dLps xs', 3, 2460, rfl, dp_Lps (sT s13 hR) (lpR.same s13), rp_Lps k4 R', by decide, by decide, ?_⟩
            refine ⟨.str (dLps xs').shown, rfl, rfl, false, congrArg V.bl (by simp), iteF ?_⟩
            refine ⟨.int k, rfl, .int b, rfl, .ref r', rfl, r', ps', xs', k, b, rfl, sT s13 hR, lpR.same s13, R', k2, k4, b1, b60, fun H24 s24 => ?_⟩
            refine ⟨.int (Lg.tot b xs').1, .ty "bool", _, _, false, rfl, .ty _, .base (.int _), kit_ty (by decide +kernel), false, rfl, iteF ?_⟩
            have s14' := s13.trans s24
            have tp24 := tpB.keep s14'
            have mv24 := mvB.trans (Moved.same s14')
            have ecp24 := s24 _ _ ecp3
            have edp24 := s24 _ _ edp3
            refine ⟨.ref r', rfl, r', _, rfl, .inr (sT s14' hR), _, 0, rfl, rfl, _, rfl, ite2 (fun c1 => ?_) (fun c1 => ?_)⟩
            · refine ⟨.ref r', rfl, r', _, rfl, .inr (sT s14' hR), _, 20, rfl, rfl, _, rfl, ite2 (fun c2 => ?_) (fun c2 => ?_)⟩
              · have c2' := of_decide_eq_true c2
                cases lpR with
                | nil => exact absurd c1 (by decide)
                | @cons p0 x0 ps1 xs1 lx lxs =>
                  obtain ⟨ca, e0, hC⟩ := lx
                  obtain ⟨cs1, n⟩ := x0
                  obtain ⟨x60, xk, xn0, xn1⟩ := R'.2 _ List.mem_cons_self
                  have x60' : cs1.length ≤ 60 := x60
                  have xk' : ∀ c ∈ cs1, 0 ≤ c ∧ c ≤ k := xk
                  have n0 : 0 ≤ n := xn0
                  have n1 : n ≤ 10 ^ 30 := xn1
                  have zl := lxs.len
                  have l18 : xs1.length ≤ 18 := by
                    rw [List.length_map, List.length_cons] at c2'
                    omega
                  have e024 := s14' _ _ e0
                  have hR24 := sT s14' hR
                  refine ⟨.ref t, rfl, .ref r', rfl, r', _, 0, _, rfl, rfl, hR24, atI_nat (j := 0) rfl, p0, _, 1, _, rfl, rfl, SqT.of e024, atI_nat (j := 1) rfl, _, _, rfl, rfl, t, sc, n + 1, rfl, ⟨by omega, by
                    have : (10 : Int) ^ 30 + 1 < 2 ^ 120 := by decide
                    omega⟩, tp24, fun c H25 hc0 hc1 mv25 tp25 => ?_⟩
                  have nl25 : Nl H24 H25 := .moved tp24 mv25
                  have nlX := (Nl.same s14').trans nl25
                  have hR25 := sT_nl hR24 nl25
                  have e025 := nl25 _ _ (fun _ z => by cases z) e024
                  have hC25 := sT_nl hC nlX
                  have lxs25 := lxs.nl nlX
                  refine ⟨.ref r', rfl, r', _, 0, _, rfl, rfl, hR25, atI_nat (j := 0) rfl, p0, _, 0, _, rfl, rfl, SqT.of e025, atI_nat (j := 0) rfl, .int c, rfl, by show 2 ≤ sizeLine; decide, fun m1 nm1 => ?_⟩
                  have sm1 := same_upd (o := .tup [V.ref ca, .int c]) nm1
                  refine ⟨.ref r', rfl, r', _, 0, _, rfl, rfl, sT sm1 hR25, atI_nat (j := 0) rfl, p0, _, 0, _, rfl, rfl, SqT.of (sm1 _ _ e025), atI_nat (j := 0) rfl, .ref r', rfl, r', _, 0, _, rfl, rfl, sT sm1 hR25, atI_nat (j := 0) rfl, p0, _, 1, _, rfl, rfl, SqT.of (sm1 _ _ e025), atI_nat (j := 1) rfl, .int c, rfl, _, _, rfl, rfl, by show 2 ≤ sizeLine; decide, fun m2 nm2 => ?_⟩
                  have sm2 := same_upd (o := .tup [V.ref ca, .int (n - c)]) nm2
                  refine ⟨by show 2 ≤ sizeLine; decide, fun M nM => ?_⟩
                  have smM := same_upd (o := .tup [V.ref m1, .ref m2]) nM
                  have s3 := (sm1.trans sm2).trans smM
                  refine ⟨.ref r', rfl, 1, rfl, r', _, rfl, sT s3 hR25, fun Z1 H26 s26 hZ1 => ?_⟩
                  have hZ1' : SqT K H26 Z1 (ps1.map V.ref) := by
                    have e := cut1 ((p0 :: ps1).map V.ref)
                    have hZ2 : SqT K H26 Z1 (cutV ((p0 :: ps1).map V.ref) (some 1) none) := hZ1
                    rw [e] at hZ2
                    exact hZ2
                  refine ⟨M, Z1, [V.ref m1, .ref m2], _, rfl, rfl, SqT.of (s26 _ _ upd_same), hZ1', by
                    show 2 + _ ≤ sizeLine
                    rw [List.length_map]
                    have : (sizeLine : Nat) = 2 ^ 24 := rfl
                    omega, fun Z H27 s27 hZ => ?_⟩
                  have s37 := (s3.trans s26).trans s27
                  have em1 : H27 m1 = some (.tup [V.ref ca, .int c]) := s27 _ _ (s26 _ _ (smM _ _ (sm2 _ _ upd_same)))
                  have em2 : H27 m2 = some (.tup [V.ref ca, .int (n - c)]) := s27 _ _ (s26 _ _ (smM _ _ upd_same))
                  have lpZ : Lps K H27 (m1 :: m2 :: ps1) ((cs1, c) :: (cs1, n - c) :: xs1) := .cons ⟨ca, em1, sT s37 hC25⟩ (.cons ⟨ca, em2, sT s37 hC25⟩ (lxs25.same s37))
                  have RZ : Lg.Right k ((cs1, c) :: (cs1, n - c) :: xs1) := ⟨by rw [List.length_cons, List.length_cons]; omega, fun y hy => by
                    rcases List.mem_cons.mp hy with rfl | hy
                    · exact ⟨x60', xk', hc0, by show c ≤ 10 ^ 30; omega⟩
                    · rcases List.mem_cons.mp hy with rfl | hy
                      · exact ⟨x60', xk', (by show 0 ≤ n - c; omega), (by show n - c ≤ 10 ^ 30; omega)⟩
                      · exact R'.2 y (List.mem_cons_of_mem _ hy)⟩
                  have et : Lg.tot b ((cs1, c) :: (cs1, n - c) :: xs1) = Lg.tot b ((cs1, n) :: xs1) := by
                    rw [Lg.tot_part b cs1 c (n - c) hc0 (by omega), show c + (n - c) = n by omega]
                  have ecp27 := s37 _ _ (nl25 _ _ (fun _ z => by cases z) ecp24)
                  have edp27 := s37 _ _ (nl25 _ _ (fun _ z => by cases z) edp24)
                  refine ⟨.int k, rfl, .int b, rfl, .ref Z, rfl, Z, m1 :: m2 :: ps1, _, k, b, rfl, hZ, lpZ, RZ, k2, k4, b1, b60, fun cp2 H28 s28 ecp2 => ?_⟩
                  rw [et] at ecp2
                  refine ⟨.ref cp, rfl, My.dI [(Lg.tot b ((cs1, n) :: xs1)).2.1, (Lg.tot b ((cs1, n) :: xs1)).2.2.1, (Lg.tot b ((cs1, n) :: xs1)).2.2.2], My.dI [(Lg.tot b ((cs1, n) :: xs1)).2.1, (Lg.tot b ((cs1, n) :: xs1)).2.2.1, (Lg.tot b ((cs1, n) :: xs1)).2.2.2], dp_dI (SqT.of ecp2), dp_dI (SqT.of (s28 _ _ ecp27)), (Shp.dI _).ok (by decide), (Shp.dI _).ok (by decide), false, ne_same (Shp.dI _), iteF ?_⟩
                  refine ⟨.int k, rfl, .int b, rfl, .ref Z, rfl, Z, m1 :: m2 :: ps1, _, k, b, rfl, sT s28 hZ, lpZ.same s28, RZ, k2, k4, b1, b60, fun H29 s29 => ?_⟩
                  rw [et]
                  refine ⟨.ref dp, rfl, dp, _, 0, _, rfl, rfl, SqT.of (s29 _ _ (s28 _ _ edp27)), atI_nat (j := 0) rfl, rfl, false, congrArg V.bl (by simp), iteF ?_⟩
                  have s39 := (s37.trans s28).trans s29
                  exact ⟨_, _, _, _, _, _, rfl, (mv24.trans mv25).trans (Moved.same s39), tp25.keep s39⟩
              · exact ⟨_, _, _, _, _, _, rfl, mv24, tp24⟩
            · exact iteF ⟨_, _, _, _, _, _, rfl, mv24, tp24⟩
          · obtain ⟨y12, y13, y14, y15, y16, y17, rfl, mvB, tpB⟩ := h
            refine ⟨.int k, rfl, .int b, rfl, Nat.zero_le _, fun e1 ne1 => ?_⟩
            refine ⟨e1, [], [], k, b, rfl, SqT.of upd_same, .nil, ⟨Nat.zero_le _, fun _ h => by simp at h⟩, k2, k4, b1, b60, fun cp H30 s30 ecp => ?_⟩
            refine ⟨by show 3 ≤ sizeLine; decide, fun z nz => ?_⟩
            have sz := same_upd (o := .tup [V.int 0, .int 0, .int 0]) nz
            refine ⟨My.dI [0, 0, 0], My.dI [0, 0, 0], dp_dI (SqT.of (sz _ _ ecp)), dp_dI (SqT.of upd_same), (Shp.dI _).ok (by decide), (Shp.dI _).ok (by decide), true, eq_same (Shp.dI _), iteT ?_⟩
            refine ⟨.int k, rfl, .int b, rfl, Nat.zero_le _, fun e2 ne2 => ?_⟩
            refine ⟨e2, [], [], k, b, rfl, SqT.of upd_same, .nil, ⟨Nat.zero_le _, fun _ h => by simp at h⟩, k2, k4, b1, b60, fun H31 s31 => ?_⟩
            exact ⟨rfl, q _⟩
end

/-! ### the end -/
theorem fin_mk {l : PySem.W.OpenLaw} {w : World} {K : PySem.W.Frag} {h : Heap} {mg : Str → Option Value} {fa f_law : Addr} (KX : K.In h) (G : h.Ns mainGlobals mg) (hmg : mg "law" = some (.ref fa)) {an : Option Addr} {kV dc pm cd ct : Value}
    (hT : ∃ T : Tx K mg, T.a_law = f_law ∧ T.d_law = PySem.W.fnOf "law" "law" (defArgs s_law) (defBody s_law) (defScope s_law) .none kV dc pm an cd ct) :
    ∃ fd : FuncData, (∀ (s : Shared) (v : Value), BindsTo s fd ⟨[v], []⟩ [("script", v)]) ∧ ∀ base : Heap, K.In base → base.Ns mainGlobals mg → RG7.FnG l.prog w K mg base lawLevel fa fd ["script"] (spLaw K) := by
  obtain ⟨T, ea, ed⟩ := hT
  have e := hmg.symm.trans T.g_law
  cases e
  exact ⟨T.d_law, fun s v => by rw [ed]; exact .of_eq rfl, fun base _ _ => ok_law T⟩

theorem all_mk {w : World} {K : PySem.W.Frag} {h : Heap} {mg : Str → Option Value} (X : K.In h) (G : h.Ns mainGlobals mg)
    {f_is_integer : Addr} {od_is_integer an_is_integer : Option Addr} {sl_is_integer : Array (Option Value)} {oc_is_integer kV_is_integer dc_is_integer pm_is_integer cd_is_integer ct_is_integer : Value}
    {f_is_number : Addr} {od_is_number an_is_number : Option Addr} {sl_is_number : Array (Option Value)} {oc_is_number kV_is_number dc_is_number pm_is_number cd_is_number ct_is_number : Value}
    {f_are_numbers : Addr} {od_are_numbers an_are_numbers : Option Addr} {sl_are_numbers : Array (Option Value)} {oc_are_numbers kV_are_numbers dc_are_numbers pm_are_numbers cd_are_numbers ct_are_numbers : Value}
    {f_is_comings : Addr} {od_is_comings an_is_comings : Option Addr} {sl_is_comings : Array (Option Value)} {oc_is_comings kV_is_comings dc_is_comings pm_is_comings cd_is_comings ct_is_comings : Value}
    {f_check_comers : Addr} {od_check_comers an_check_comers : Option Addr} {sl_check_comers : Array (Option Value)} {oc_check_comers kV_check_comers dc_check_comers pm_check_comers cd_check_comers ct_check_comers : Value}
    {f_check_bound : Addr} {od_check_bound an_check_bound : Option Addr} {sl_check_bound : Array (Option Value)} {oc_check_bound kV_check_bound dc_check_bound pm_check_bound cd_check_bound ct_check_bound : Value}
    {f_check_comings : Addr} {od_check_comings an_check_comings : Option Addr} {sl_check_comings : Array (Option Value)} {oc_check_comings kV_check_comings dc_check_comings pm_check_comings cd_check_comings ct_check_comings : Value}
    {f_follow_line : Addr} {od_follow_line an_follow_line : Option Addr} {sl_follow_line : Array (Option Value)} {oc_follow_line kV_follow_line dc_follow_line pm_follow_line cd_follow_line ct_follow_line : Value}
    {f_letters_of : Addr} {od_letters_of an_letters_of : Option Addr} {sl_letters_of : Array (Option Value)} {oc_letters_of kV_letters_of dc_letters_of pm_letters_of cd_letters_of ct_letters_of : Value}
    {f_waits : Addr} {od_waits an_waits : Option Addr} {sl_waits : Array (Option Value)} {oc_waits kV_waits dc_waits pm_waits cd_waits ct_waits : Value}
    {f_lines : Addr} {od_lines an_lines : Option Addr} {sl_lines : Array (Option Value)} {oc_lines kV_lines dc_lines pm_lines cd_lines ct_lines : Value}
    {f_is_round : Addr} {od_is_round an_is_round : Option Addr} {sl_is_round : Array (Option Value)} {oc_is_round kV_is_round dc_is_round pm_is_round cd_is_round ct_is_round : Value}
    {f_is_long_pair : Addr} {od_is_long_pair an_is_long_pair : Option Addr} {sl_is_long_pair : Array (Option Value)} {oc_is_long_pair kV_is_long_pair dc_is_long_pair pm_is_long_pair cd_is_long_pair ct_is_long_pair : Value}
    {f_check_long : Addr} {od_check_long an_check_long : Option Addr} {sl_check_long : Array (Option Value)} {oc_check_long kV_check_long dc_check_long pm_check_long cd_check_long ct_check_long : Value}
    {f_follow_round : Addr} {od_follow_round an_follow_round : Option Addr} {sl_follow_round : Array (Option Value)} {oc_follow_round kV_follow_round dc_follow_round pm_follow_round cd_follow_round ct_follow_round : Value}
    {f_follow_long : Addr} {od_follow_long an_follow_long : Option Addr} {sl_follow_long : Array (Option Value)} {oc_follow_long kV_follow_long dc_follow_long pm_follow_long cd_follow_long ct_follow_long : Value}
    {f_long_line : Addr} {od_long_line an_long_line : Option Addr} {sl_long_line : Array (Option Value)} {oc_long_line kV_long_line dc_long_line pm_long_line cd_long_line ct_long_line : Value}
    {f_long_counts : Addr} {od_long_counts an_long_counts : Option Addr} {sl_long_counts : Array (Option Value)} {oc_long_counts kV_long_counts dc_long_counts pm_long_counts cd_long_counts ct_long_counts : Value}
    {f__law_tape : Addr} {od__law_tape an__law_tape : Option Addr} {sl__law_tape : Array (Option Value)} {oc__law_tape kV__law_tape dc__law_tape pm__law_tape cd__law_tape ct__law_tape : Value}
    {f__law_pick : Addr} {od__law_pick an__law_pick : Option Addr} {sl__law_pick : Array (Option Value)} {oc__law_pick kV__law_pick dc__law_pick pm__law_pick cd__law_pick ct__law_pick : Value}
    {f__law_round : Addr} {od__law_round an__law_round : Option Addr} {sl__law_round : Array (Option Value)} {oc__law_round kV__law_round dc__law_round pm__law_round cd__law_round ct__law_round : Value}
    {f__law_short : Addr} {od__law_short an__law_short : Option Addr} {sl__law_short : Array (Option Value)} {oc__law_short kV__law_short dc__law_short pm__law_short cd__law_short ct__law_short : Value}
    {f__law_joined : Addr} {od__law_joined an__law_joined : Option Addr} {sl__law_joined : Array (Option Value)} {oc__law_joined kV__law_joined dc__law_joined pm__law_joined cd__law_joined ct__law_joined : Value}
    {f__law_power : Addr} {od__law_power an__law_power : Option Addr} {sl__law_power : Array (Option Value)} {oc__law_power kV__law_power dc__law_power pm__law_power cd__law_power ct__law_power : Value}
    {f__law_due : Addr} {od__law_due an__law_due : Option Addr} {sl__law_due : Array (Option Value)} {oc__law_due kV__law_due dc__law_due pm__law_due cd__law_due ct__law_due : Value}
    {f__law_long : Addr} {od__law_long an__law_long : Option Addr} {sl__law_long : Array (Option Value)} {oc__law_long kV__law_long dc__law_long pm__law_long cd__law_long ct__law_long : Value}
    {f_law : Addr} {od_law an_law : Option Addr} {sl_law : Array (Option Value)} {oc_law kV_law dc_law pm_law cd_law ct_law : Value}
    {t_MOST_BOUND : Tok}
    {t_MOST_COMERS : Tok}
    {t_MOST_PAIRS : Tok}
    {t_MOST_ROUND : Tok}
    {t_MOST_TICKS : Tok}
    (a_is_integer : PySem.W.nsIn K mainGlobals "is_integer" = some (some (.ref f_is_integer))) (l_is_integer : K.lookup f_is_integer = some ⟨oc_is_integer, od_is_integer, .func (PySem.W.fnOf "is_integer" "is_integer" (defArgs s_is_integer) (defBody s_is_integer) (defScope s_is_integer) .none kV_is_integer dc_is_integer pm_is_integer an_is_integer cd_is_integer ct_is_integer), sl_is_integer⟩) (c_is_integer : PySem.W.codeIn K cd_is_integer "is_integer" = true) (k_is_integer : PySem.W.keepIn K (.ref f_is_integer) = true)
    (a_is_number : PySem.W.nsIn K mainGlobals "is_number" = some (some (.ref f_is_number))) (l_is_number : K.lookup f_is_number = some ⟨oc_is_number, od_is_number, .func (PySem.W.fnOf "is_number" "is_number" (defArgs s_is_number) (defBody s_is_number) (defScope s_is_number) .none kV_is_number dc_is_number pm_is_number an_is_number cd_is_number ct_is_number), sl_is_number⟩) (c_is_number : PySem.W.codeIn K cd_is_number "is_number" = true) (k_is_number : PySem.W.keepIn K (.ref f_is_number) = true)
    (a_are_numbers : PySem.W.nsIn K mainGlobals "are_numbers" = some (some (.ref f_are_numbers))) (l_are_numbers : K.lookup f_are_numbers = some ⟨oc_are_numbers, od_are_numbers, .func (PySem.W.fnOf "are_numbers" "are_numbers" (defArgs s_are_numbers) (defBody s_are_numbers) (defScope s_are_numbers) .none kV_are_numbers dc_are_numbers pm_are_numbers an_are_numbers cd_are_numbers ct_are_numbers), sl_are_numbers⟩) (c_are_numbers : PySem.W.codeIn K cd_are_numbers "are_numbers" = true) (k_are_numbers : PySem.W.keepIn K (.ref f_are_numbers) = true)
    (a_is_comings : PySem.W.nsIn K mainGlobals "is_comings" = some (some (.ref f_is_comings))) (l_is_comings : K.lookup f_is_comings = some ⟨oc_is_comings, od_is_comings, .func (PySem.W.fnOf "is_comings" "is_comings" (defArgs s_is_comings) (defBody s_is_comings) (defScope s_is_comings) .none kV_is_comings dc_is_comings pm_is_comings an_is_comings cd_is_comings ct_is_comings), sl_is_comings⟩) (c_is_comings : PySem.W.codeIn K cd_is_comings "is_comings" = true) (k_is_comings : PySem.W.keepIn K (.ref f_is_comings) = true)
    (a_check_comers : PySem.W.nsIn K mainGlobals "check_comers" = some (some (.ref f_check_comers))) (l_check_comers : K.lookup f_check_comers = some ⟨oc_check_comers, od_check_comers, .func (PySem.W.fnOf "check_comers" "check_comers" (defArgs s_check_comers) (defBody s_check_comers) (defScope s_check_comers) .none kV_check_comers dc_check_comers pm_check_comers an_check_comers cd_check_comers ct_check_comers), sl_check_comers⟩) (c_check_comers : PySem.W.codeIn K cd_check_comers "check_comers" = true) (k_check_comers : PySem.W.keepIn K (.ref f_check_comers) = true)
    (a_check_bound : PySem.W.nsIn K mainGlobals "check_bound" = some (some (.ref f_check_bound))) (l_check_bound : K.lookup f_check_bound = some ⟨oc_check_bound, od_check_bound, .func (PySem.W.fnOf "check_bound" "check_bound" (defArgs s_check_bound) (defBody s_check_bound) (defScope s_check_bound) .none kV_check_bound dc_check_bound pm_check_bound an_check_bound cd_check_bound ct_check_bound), sl_check_bound⟩) (c_check_bound : PySem.W.codeIn K cd_check_bound "check_bound" = true) (k_check_bound : PySem.W.keepIn K (.ref f_check_bound) = true)
    (a_check_comings : PySem.W.nsIn K mainGlobals "check_comings" = some (some (.ref f_check_comings))) (l_check_comings : K.lookup f_check_comings = some ⟨oc_check_comings, od_check_comings, .func (PySem.W.fnOf "check_comings" "check_comings" (defArgs s_check_comings) (defBody s_check_comings) (defScope s_check_comings) .none kV_check_comings dc_check_comings pm_check_comings an_check_comings cd_check_comings ct_check_comings), sl_check_comings⟩) (c_check_comings : PySem.W.codeIn K cd_check_comings "check_comings" = true) (k_check_comings : PySem.W.keepIn K (.ref f_check_comings) = true)
    (a_follow_line : PySem.W.nsIn K mainGlobals "follow_line" = some (some (.ref f_follow_line))) (l_follow_line : K.lookup f_follow_line = some ⟨oc_follow_line, od_follow_line, .func (PySem.W.fnOf "follow_line" "follow_line" (defArgs s_follow_line) (defBody s_follow_line) (defScope s_follow_line) .none kV_follow_line dc_follow_line pm_follow_line an_follow_line cd_follow_line ct_follow_line), sl_follow_line⟩) (c_follow_line : PySem.W.codeIn K cd_follow_line "follow_line" = true) (k_follow_line : PySem.W.keepIn K (.ref f_follow_line) = true)
    (a_letters_of : PySem.W.nsIn K mainGlobals "letters_of" = some (some (.ref f_letters_of))) (l_letters_of : K.lookup f_letters_of = some ⟨oc_letters_of, od_letters_of, .func (PySem.W.fnOf "letters_of" "letters_of" (defArgs s_letters_of) (defBody s_letters_of) (defScope s_letters_of) .none kV_letters_of dc_letters_of pm_letters_of an_letters_of cd_letters_of ct_letters_of), sl_letters_of⟩) (c_letters_of : PySem.W.codeIn K cd_letters_of "letters_of" = true) (k_letters_of : PySem.W.keepIn K (.ref f_letters_of) = true)
    (a_waits : PySem.W.nsIn K mainGlobals "waits" = some (some (.ref f_waits))) (l_waits : K.lookup f_waits = some ⟨oc_waits, od_waits, .func (PySem.W.fnOf "waits" "waits" (defArgs s_waits) (defBody s_waits) (defScope s_waits) .none kV_waits dc_waits pm_waits an_waits cd_waits ct_waits), sl_waits⟩) (c_waits : PySem.W.codeIn K cd_waits "waits" = true) (k_waits : PySem.W.keepIn K (.ref f_waits) = true)
    (a_lines : PySem.W.nsIn K mainGlobals "lines" = some (some (.ref f_lines))) (l_lines : K.lookup f_lines = some ⟨oc_lines, od_lines, .func (PySem.W.fnOf "lines" "lines" (defArgs s_lines) (defBody s_lines) (defScope s_lines) .none kV_lines dc_lines pm_lines an_lines cd_lines ct_lines), sl_lines⟩) (c_lines : PySem.W.codeIn K cd_lines "lines" = true) (k_lines : PySem.W.keepIn K (.ref f_lines) = true)
    (a_is_round : PySem.W.nsIn K mainGlobals "is_round" = some (some (.ref f_is_round))) (l_is_round : K.lookup f_is_round = some ⟨oc_is_round, od_is_round, .func (PySem.W.fnOf "is_round" "is_round" (defArgs s_is_round) (defBody s_is_round) (defScope s_is_round) .none kV_is_round dc_is_round pm_is_round an_is_round cd_is_round ct_is_round), sl_is_round⟩) (c_is_round : PySem.W.codeIn K cd_is_round "is_round" = true) (k_is_round : PySem.W.keepIn K (.ref f_is_round) = true)
    (a_is_long_pair : PySem.W.nsIn K mainGlobals "is_long_pair" = some (some (.ref f_is_long_pair))) (l_is_long_pair : K.lookup f_is_long_pair = some ⟨oc_is_long_pair, od_is_long_pair, .func (PySem.W.fnOf "is_long_pair" "is_long_pair" (defArgs s_is_long_pair) (defBody s_is_long_pair) (defScope s_is_long_pair) .none kV_is_long_pair dc_is_long_pair pm_is_long_pair an_is_long_pair cd_is_long_pair ct_is_long_pair), sl_is_long_pair⟩) (c_is_long_pair : PySem.W.codeIn K cd_is_long_pair "is_long_pair" = true) (k_is_long_pair : PySem.W.keepIn K (.ref f_is_long_pair) = true)
    (a_check_long : PySem.W.nsIn K mainGlobals "check_long" = some (some (.ref f_check_long))) (l_check_long : K.lookup f_check_long = some ⟨oc_check_long, od_check_long, .func (PySem.W.fnOf "check_long" "check_long" (defArgs s_check_long) (defBody s_check_long) (defScope s_check_long) .none kV_check_long dc_check_long pm_check_long an_check_long cd_check_long ct_check_long), sl_check_long⟩) (c_check_long : PySem.W.codeIn K cd_check_long "check_long" = true) (k_check_long : PySem.W.keepIn K (.ref f_check_long) = true)
    (a_follow_round : PySem.W.nsIn K mainGlobals "follow_round" = some (some (.ref f_follow_round))) (l_follow_round : K.lookup f_follow_round = some ⟨oc_follow_round, od_follow_round, .func (PySem.W.fnOf "follow_round" "follow_round" (defArgs s_follow_round) (defBody s_follow_round) (defScope s_follow_round) .none kV_follow_round dc_follow_round pm_follow_round an_follow_round cd_follow_round ct_follow_round), sl_follow_round⟩) (c_follow_round : PySem.W.codeIn K cd_follow_round "follow_round" = true) (k_follow_round : PySem.W.keepIn K (.ref f_follow_round) = true)
    (a_follow_long : PySem.W.nsIn K mainGlobals "follow_long" = some (some (.ref f_follow_long))) (l_follow_long : K.lookup f_follow_long = some ⟨oc_follow_long, od_follow_long, .func (PySem.W.fnOf "follow_long" "follow_long" (defArgs s_follow_long) (defBody s_follow_long) (defScope s_follow_long) .none kV_follow_long dc_follow_long pm_follow_long an_follow_long cd_follow_long ct_follow_long), sl_follow_long⟩) (c_follow_long : PySem.W.codeIn K cd_follow_long "follow_long" = true) (k_follow_long : PySem.W.keepIn K (.ref f_follow_long) = true)
    (a_long_line : PySem.W.nsIn K mainGlobals "long_line" = some (some (.ref f_long_line))) (l_long_line : K.lookup f_long_line = some ⟨oc_long_line, od_long_line, .func (PySem.W.fnOf "long_line" "long_line" (defArgs s_long_line) (defBody s_long_line) (defScope s_long_line) .none kV_long_line dc_long_line pm_long_line an_long_line cd_long_line ct_long_line), sl_long_line⟩) (c_long_line : PySem.W.codeIn K cd_long_line "long_line" = true) (k_long_line : PySem.W.keepIn K (.ref f_long_line) = true)
    (a_long_counts : PySem.W.nsIn K mainGlobals "long_counts" = some (some (.ref f_long_counts))) (l_long_counts : K.lookup f_long_counts = some ⟨oc_long_counts, od_long_counts, .func (PySem.W.fnOf "long_counts" "long_counts" (defArgs s_long_counts) (defBody s_long_counts) (defScope s_long_counts) .none kV_long_counts dc_long_counts pm_long_counts an_long_counts cd_long_counts ct_long_counts), sl_long_counts⟩) (c_long_counts : PySem.W.codeIn K cd_long_counts "long_counts" = true) (k_long_counts : PySem.W.keepIn K (.ref f_long_counts) = true)
    (a__law_tape : PySem.W.nsIn K mainGlobals "_law_tape" = some (some (.ref f__law_tape))) (l__law_tape : K.lookup f__law_tape = some ⟨oc__law_tape, od__law_tape, .func (PySem.W.fnOf "_law_tape" "_law_tape" (defArgs s__law_tape) (defBody s__law_tape) (defScope s__law_tape) .none kV__law_tape dc__law_tape pm__law_tape an__law_tape cd__law_tape ct__law_tape), sl__law_tape⟩) (c__law_tape : PySem.W.codeIn K cd__law_tape "_law_tape" = true) (k__law_tape : PySem.W.keepIn K (.ref f__law_tape) = true)
    (a__law_pick : PySem.W.nsIn K mainGlobals "_law_pick" = some (some (.ref f__law_pick))) (l__law_pick : K.lookup f__law_pick = some ⟨oc__law_pick, od__law_pick, .func (PySem.W.fnOf "_law_pick" "_law_pick" (defArgs s__law_pick) (defBody s__law_pick) (defScope s__law_pick) .none kV__law_pick dc__law_pick pm__law_pick an__law_pick cd__law_pick ct__law_pick), sl__law_pick⟩) (c__law_pick : PySem.W.codeIn K cd__law_pick "_law_pick" = true) (k__law_pick : PySem.W.keepIn K (.ref f__law_pick) = true)
    (a__law_round : PySem.W.nsIn K mainGlobals "_law_round" = some (some (.ref f__law_round))) (l__law_round : K.lookup f__law_round = some ⟨oc__law_round, od__law_round, .func (PySem.W.fnOf "_law_round" "_law_round" (defArgs s__law_round) (defBody s__law_round) (defScope s__law_round) .none kV__law_round dc__law_round pm__law_round an__law_round cd__law_round ct__law_round), sl__law_round⟩) (c__law_round : PySem.W.codeIn K cd__law_round "_law_round" = true) (k__law_round : PySem.W.keepIn K (.ref f__law_round) = true)
    (a__law_short : PySem.W.nsIn K mainGlobals "_law_short" = some (some (.ref f__law_short))) (l__law_short : K.lookup f__law_short = some ⟨oc__law_short, od__law_short, .func (PySem.W.fnOf "_law_short" "_law_short" (defArgs s__law_short) (defBody s__law_short) (defScope s__law_short) .none kV__law_short dc__law_short pm__law_short an__law_short cd__law_short ct__law_short), sl__law_short⟩) (c__law_short : PySem.W.codeIn K cd__law_short "_law_short" = true) (k__law_short : PySem.W.keepIn K (.ref f__law_short) = true)
    (a__law_joined : PySem.W.nsIn K mainGlobals "_law_joined" = some (some (.ref f__law_joined))) (l__law_joined : K.lookup f__law_joined = some ⟨oc__law_joined, od__law_joined, .func (PySem.W.fnOf "_law_joined" "_law_joined" (defArgs s__law_joined) (defBody s__law_joined) (defScope s__law_joined) .none kV__law_joined dc__law_joined pm__law_joined an__law_joined cd__law_joined ct__law_joined), sl__law_joined⟩) (c__law_joined : PySem.W.codeIn K cd__law_joined "_law_joined" = true) (k__law_joined : PySem.W.keepIn K (.ref f__law_joined) = true)
    (a__law_power : PySem.W.nsIn K mainGlobals "_law_power" = some (some (.ref f__law_power))) (l__law_power : K.lookup f__law_power = some ⟨oc__law_power, od__law_power, .func (PySem.W.fnOf "_law_power" "_law_power" (defArgs s__law_power) (defBody s__law_power) (defScope s__law_power) .none kV__law_power dc__law_power pm__law_power an__law_power cd__law_power ct__law_power), sl__law_power⟩) (c__law_power : PySem.W.codeIn K cd__law_power "_law_power" = true) (k__law_power : PySem.W.keepIn K (.ref f__law_power) = true)
    (a__law_due : PySem.W.nsIn K mainGlobals "_law_due" = some (some (.ref f__law_due))) (l__law_due : K.lookup f__law_due = some ⟨oc__law_due, od__law_due, .func (PySem.W.fnOf "_law_due" "_law_due" (defArgs s__law_due) (defBody s__law_due) (defScope s__law_due) .none kV__law_due dc__law_due pm__law_due an__law_due cd__law_due ct__law_due), sl__law_due⟩) (c__law_due : PySem.W.codeIn K cd__law_due "_law_due" = true) (k__law_due : PySem.W.keepIn K (.ref f__law_due) = true)
    (a__law_long : PySem.W.nsIn K mainGlobals "_law_long" = some (some (.ref f__law_long))) (l__law_long : K.lookup f__law_long = some ⟨oc__law_long, od__law_long, .func (PySem.W.fnOf "_law_long" "_law_long" (defArgs s__law_long) (defBody s__law_long) (defScope s__law_long) .none kV__law_long dc__law_long pm__law_long an__law_long cd__law_long ct__law_long), sl__law_long⟩) (c__law_long : PySem.W.codeIn K cd__law_long "_law_long" = true) (k__law_long : PySem.W.keepIn K (.ref f__law_long) = true)
    (a_law : PySem.W.nsIn K mainGlobals "law" = some (some (.ref f_law))) (l_law : K.lookup f_law = some ⟨oc_law, od_law, .func (PySem.W.fnOf "law" "law" (defArgs s_law) (defBody s_law) (defScope s_law) .none kV_law dc_law pm_law an_law cd_law ct_law), sl_law⟩) (c_law : PySem.W.codeIn K cd_law "law" = true) (k_law : PySem.W.keepIn K (.ref f_law) = true)
    (z_all : PySem.W.nsIn K mainGlobals "all" = some none)
    (z_bool : PySem.W.nsIn K mainGlobals "bool" = some none)
    (z_enumerate : PySem.W.nsIn K mainGlobals "enumerate" = some none)
    (z_int : PySem.W.nsIn K mainGlobals "int" = some none)
    (z_isinstance : PySem.W.nsIn K mainGlobals "isinstance" = some none)
    (z_len : PySem.W.nsIn K mainGlobals "len" = some none)
    (z_list : PySem.W.nsIn K mainGlobals "list" = some none)
    (z_range : PySem.W.nsIn K mainGlobals "range" = some none)
    (z_repr : PySem.W.nsIn K mainGlobals "repr" = some none)
    (z_sum : PySem.W.nsIn K mainGlobals "sum" = some none)
    (z_tuple : PySem.W.nsIn K mainGlobals "tuple" = some none)
    (y_MOST_BOUND : PySem.W.nsIn K mainGlobals "MOST_BOUND" = some (some (.int 60 t_MOST_BOUND)))
    (y_MOST_COMERS : PySem.W.nsIn K mainGlobals "MOST_COMERS" = some (some (.int 4 t_MOST_COMERS)))
    (y_MOST_PAIRS : PySem.W.nsIn K mainGlobals "MOST_PAIRS" = some (some (.int 20 t_MOST_PAIRS)))
    (y_MOST_ROUND : PySem.W.nsIn K mainGlobals "MOST_ROUND" = some (some (.int 60 t_MOST_ROUND)))
    (y_MOST_TICKS : PySem.W.nsIn K mainGlobals "MOST_TICKS" = some (some (.int 400 t_MOST_TICKS)))
    : ∃ T : Tx K mg, T.a_law = f_law ∧ T.d_law = PySem.W.fnOf "law" "law" (defArgs s_law) (defBody s_law) (defScope s_law) .none kV_law dc_law pm_law an_law cd_law ct_law :=
  ⟨{ a_is_integer := f_is_integer, d_is_integer := _, F_is_integer := fun_mk (st := s_is_integer) l_is_integer c_is_integer k_is_integer, b_is_integer := (fun_mk (st := s_is_integer) l_is_integer c_is_integer k_is_integer).binds (ps := ["thing"]) (fun _ _ _ _ _ _ us hl => match us, hl with | [_], _ => rfl), g_is_integer := PySem.W.mg_of X G a_is_integer,
     a_is_number := f_is_number, d_is_number := _, F_is_number := fun_mk (st := s_is_number) l_is_number c_is_number k_is_number, b_is_number := (fun_mk (st := s_is_number) l_is_number c_is_number k_is_number).binds (ps := ["thing", "least", "most"]) (fun _ _ _ _ _ _ us hl => match us, hl with | [_, _, _], _ => rfl), g_is_number := PySem.W.mg_of X G a_is_number,
     a_are_numbers := f_are_numbers, d_are_numbers := _, F_are_numbers := fun_mk (st := s_are_numbers) l_are_numbers c_are_numbers k_are_numbers, b_are_numbers := (fun_mk (st := s_are_numbers) l_are_numbers c_are_numbers k_are_numbers).binds (ps := ["things", "least", "most"]) (fun _ _ _ _ _ _ us hl => match us, hl with | [_, _, _], _ => rfl), g_are_numbers := PySem.W.mg_of X G a_are_numbers,
     a_is_comings := f_is_comings, d_is_comings := _, F_is_comings := fun_mk (st := s_is_comings) l_is_comings c_is_comings k_is_comings, b_is_comings := (fun_mk (st := s_is_comings) l_is_comings c_is_comings k_is_comings).binds (ps := ["comers", "thing"]) (fun _ _ _ _ _ _ us hl => match us, hl with | [_, _], _ => rfl), g_is_comings := PySem.W.mg_of X G a_is_comings,
     a_check_comers := f_check_comers, d_check_comers := _, F_check_comers := fun_mk (st := s_check_comers) l_check_comers c_check_comers k_check_comers, b_check_comers := (fun_mk (st := s_check_comers) l_check_comers c_check_comers k_check_comers).binds (ps := ["thing"]) (fun _ _ _ _ _ _ us hl => match us, hl with | [_], _ => rfl), g_check_comers := PySem.W.mg_of X G a_check_comers,
     a_check_bound := f_check_bound, d_check_bound := _, F_check_bound := fun_mk (st := s_check_bound) l_check_bound c_check_bound k_check_bound, b_check_bound := (fun_mk (st := s_check_bound) l_check_bound c_check_bound k_check_bound).binds (ps := ["thing"]) (fun _ _ _ _ _ _ us hl => match us, hl with | [_], _ => rfl), g_check_bound := PySem.W.mg_of X G a_check_bound,
     a_check_comings := f_check_comings, d_check_comings := _, F_check_comings := fun_mk (st := s_check_comings) l_check_comings c_check_comings k_check_comings, b_check_comings := (fun_mk (st := s_check_comings) l_check_comings c_check_comings k_check_comings).binds (ps := ["comers", "thing"]) (fun _ _ _ _ _ _ us hl => match us, hl with | [_, _], _ => rfl), g_check_comings := PySem.W.mg_of X G a_check_comings,
     a_follow_line := f_follow_line, d_follow_line := _, F_follow_line := fun_mk (st := s_follow_line) l_follow_line c_follow_line k_follow_line, b_follow_line := (fun_mk (st := s_follow_line) l_follow_line c_follow_line k_follow_line).binds (ps := ["bound", "line", "comings"]) (fun _ _ _ _ _ _ us hl => match us, hl with | [_, _, _], _ => rfl), g_follow_line := PySem.W.mg_of X G a_follow_line,
     a_letters_of := f_letters_of, d_letters_of := _, F_letters_of := fun_mk (st := s_letters_of) l_letters_of c_letters_of k_letters_of, b_letters_of := (fun_mk (st := s_letters_of) l_letters_of c_letters_of k_letters_of).binds (ps := ["bound", "comings"]) (fun _ _ _ _ _ _ us hl => match us, hl with | [_, _], _ => rfl), g_letters_of := PySem.W.mg_of X G a_letters_of,
     a_waits := f_waits, d_waits := _, F_waits := fun_mk (st := s_waits) l_waits c_waits k_waits, b_waits := (fun_mk (st := s_waits) l_waits c_waits k_waits).binds (ps := ["comers", "bound", "comings"]) (fun _ _ _ _ _ _ us hl => match us, hl with | [_, _, _], _ => rfl), g_waits := PySem.W.mg_of X G a_waits,
     a_lines := f_lines, d_lines := _, F_lines := fun_mk (st := s_lines) l_lines c_lines k_lines, b_lines := (fun_mk (st := s_lines) l_lines c_lines k_lines).binds (ps := ["comers", "bound", "comings"]) (fun _ _ _ _ _ _ us hl => match us, hl with | [_, _, _], _ => rfl), g_lines := PySem.W.mg_of X G a_lines,
     a_is_round := f_is_round, d_is_round := _, F_is_round := fun_mk (st := s_is_round) l_is_round c_is_round k_is_round, b_is_round := (fun_mk (st := s_is_round) l_is_round c_is_round k_is_round).binds (ps := ["comers", "thing"]) (fun _ _ _ _ _ _ us hl => match us, hl with | [_, _], _ => rfl), g_is_round := PySem.W.mg_of X G a_is_round,
     a_is_long_pair := f_is_long_pair, d_is_long_pair := _, F_is_long_pair := fun_mk (st := s_is_long_pair) l_is_long_pair c_is_long_pair k_is_long_pair, b_is_long_pair := (fun_mk (st := s_is_long_pair) l_is_long_pair c_is_long_pair k_is_long_pair).binds (ps := ["comers", "thing"]) (fun _ _ _ _ _ _ us hl => match us, hl with | [_, _], _ => rfl), g_is_long_pair := PySem.W.mg_of X G a_is_long_pair,
     a_check_long := f_check_long, d_check_long := _, F_check_long := fun_mk (st := s_check_long) l_check_long c_check_long k_check_long, b_check_long := (fun_mk (st := s_check_long) l_check_long c_check_long k_check_long).binds (ps := ["comers", "bound", "long"]) (fun _ _ _ _ _ _ us hl => match us, hl with | [_, _, _], _ => rfl), g_check_long := PySem.W.mg_of X G a_check_long,
     a_follow_round := f_follow_round, d_follow_round := _, F_follow_round := fun_mk (st := s_follow_round) l_follow_round c_follow_round k_follow_round, b_follow_round := (fun_mk (st := s_follow_round) l_follow_round c_follow_round k_follow_round).binds (ps := ["bound", "line", "comings"]) (fun _ _ _ _ _ _ us hl => match us, hl with | [_, _, _], _ => rfl), g_follow_round := PySem.W.mg_of X G a_follow_round,
     a_follow_long := f_follow_long, d_follow_long := _, F_follow_long := fun_mk (st := s_follow_long) l_follow_long c_follow_long k_follow_long, b_follow_long := (fun_mk (st := s_follow_long) l_follow_long c_follow_long k_follow_long).binds (ps := ["bound", "long"]) (fun _ _ _ _ _ _ us hl => match us, hl with | [_, _], _ => rfl), g_follow_long := PySem.W.mg_of X G a_follow_long,
     a_long_line := f_long_line, d_long_line := _, F_long_line := fun_mk (st := s_long_line) l_long_line c_long_line k_long_line, b_long_line := (fun_mk (st := s_long_line) l_long_line c_long_line k_long_line).binds (ps := ["comers", "bound", "long"]) (fun _ _ _ _ _ _ us hl => match us, hl with | [_, _, _], _ => rfl), g_long_line := PySem.W.mg_of X G a_long_line,
     a_long_counts := f_long_counts, d_long_counts := _, F_long_counts := fun_mk (st := s_long_counts) l_long_counts c_long_counts k_long_counts, b_long_counts := (fun_mk (st := s_long_counts) l_long_counts c_long_counts k_long_counts).binds (ps := ["comers", "bound", "long"]) (fun _ _ _ _ _ _ us hl => match us, hl with | [_, _, _], _ => rfl), g_long_counts := PySem.W.mg_of X G a_long_counts,
     a__law_tape := f__law_tape, d__law_tape := _, F__law_tape := fun_mk (st := s__law_tape) l__law_tape c__law_tape k__law_tape, b__law_tape := (fun_mk (st := s__law_tape) l__law_tape c__law_tape k__law_tape).binds (ps := ["script"]) (fun _ _ _ _ _ _ us hl => match us, hl with | [_], _ => rfl), g__law_tape := PySem.W.mg_of X G a__law_tape,
     a__law_pick := f__law_pick, d__law_pick := _, F__law_pick := fun_mk (st := s__law_pick) l__law_pick c__law_pick k__law_pick, b__law_pick := (fun_mk (st := s__law_pick) l__law_pick c__law_pick k__law_pick).binds (ps := ["tape", "size"]) (fun _ _ _ _ _ _ us hl => match us, hl with | [_, _], _ => rfl), g__law_pick := PySem.W.mg_of X G a__law_pick,
     a__law_round := f__law_round, d__law_round := _, F__law_round := fun_mk (st := s__law_round) l__law_round c__law_round k__law_round, b__law_round := (fun_mk (st := s__law_round) l__law_round c__law_round k__law_round).binds (ps := ["bound", "line", "comings"]) (fun _ _ _ _ _ _ us hl => match us, hl with | [_, _, _], _ => rfl), g__law_round := PySem.W.mg_of X G a__law_round,
     a__law_short := f__law_short, d__law_short := _, F__law_short := fun_mk (st := s__law_short) l__law_short c__law_short k__law_short, b__law_short := (fun_mk (st := s__law_short) l__law_short c__law_short k__law_short).binds (ps := ["tape", "comers", "most"]) (fun _ _ _ _ _ _ us hl => match us, hl with | [_, _, _], _ => rfl), g__law_short := PySem.W.mg_of X G a__law_short,
     a__law_joined := f__law_joined, d__law_joined := _, F__law_joined := fun_mk (st := s__law_joined) l__law_joined c__law_joined k__law_joined, b__law_joined := (fun_mk (st := s__law_joined) l__law_joined c__law_joined k__law_joined).binds (ps := ["one", "other"]) (fun _ _ _ _ _ _ us hl => match us, hl with | [_, _], _ => rfl), g__law_joined := PySem.W.mg_of X G a__law_joined,
     a__law_power := f__law_power, d__law_power := _, F__law_power := fun_mk (st := s__law_power) l__law_power c__law_power k__law_power, b__law_power := (fun_mk (st := s__law_power) l__law_power c__law_power k__law_power).binds (ps := ["bound", "comings", "times"]) (fun _ _ _ _ _ _ us hl => match us, hl with | [_, _, _], _ => rfl), g__law_power := PySem.W.mg_of X G a__law_power,
     a__law_due := f__law_due, d__law_due := _, F__law_due := fun_mk (st := s__law_due) l__law_due c__law_due k__law_due, b__law_due := (fun_mk (st := s__law_due) l__law_due c__law_due k__law_due).binds (ps := ["bound", "long"]) (fun _ _ _ _ _ _ us hl => match us, hl with | [_, _], _ => rfl), g__law_due := PySem.W.mg_of X G a__law_due,
     a__law_long := f__law_long, d__law_long := _, F__law_long := fun_mk (st := s__law_long) l__law_long c__law_long k__law_long, b__law_long := (fun_mk (st := s__law_long) l__law_long c__law_long k__law_long).binds (ps := ["tape", "comers", "great"]) (fun _ _ _ _ _ _ us hl => match us, hl with | [_, _, _], _ => rfl), g__law_long := PySem.W.mg_of X G a__law_long,
     a_law := f_law, d_law := _, F_law := fun_mk (st := s_law) l_law c_law k_law, b_law := (fun_mk (st := s_law) l_law c_law k_law).binds (ps := ["script"]) (fun _ _ _ _ _ _ us hl => match us, hl with | [_], _ => rfl), g_law := PySem.W.mg_of X G a_law,
     m_all := PySem.W.mg_none_of X G z_all,
     m_bool := PySem.W.mg_none_of X G z_bool,
     m_enumerate := PySem.W.mg_none_of X G z_enumerate,
     m_int := PySem.W.mg_none_of X G z_int,
     m_isinstance := PySem.W.mg_none_of X G z_isinstance,
     m_len := PySem.W.mg_none_of X G z_len,
     m_list := PySem.W.mg_none_of X G z_list,
     m_range := PySem.W.mg_none_of X G z_range,
     m_repr := PySem.W.mg_none_of X G z_repr,
     m_sum := PySem.W.mg_none_of X G z_sum,
     m_tuple := PySem.W.mg_none_of X G z_tuple,
     t_MOST_BOUND := t_MOST_BOUND, g_MOST_BOUND := PySem.W.mg_of X G y_MOST_BOUND,
     t_MOST_COMERS := t_MOST_COMERS, g_MOST_COMERS := PySem.W.mg_of X G y_MOST_COMERS,
     t_MOST_PAIRS := t_MOST_PAIRS, g_MOST_PAIRS := PySem.W.mg_of X G y_MOST_PAIRS,
     t_MOST_ROUND := t_MOST_ROUND, g_MOST_ROUND := PySem.W.mg_of X G y_MOST_ROUND,
     t_MOST_TICKS := t_MOST_TICKS, g_MOST_TICKS := PySem.W.mg_of X G y_MOST_TICKS }, rfl, rfl⟩
end My
open PySem PySem.W PyProof.Rows
set_option maxHeartbeats 0 in
theorem PySem.Challenge.cw_loopstore_k96_whole_long_comings_holds : PySem.Challenge.rw_loopstore_k96_whole_long_comings.Holds := by
  w_on; o_law; k_head; (case hw => w_witness2)
  k_fill
  refine RG7.walk_ofG (l := PySem.Challenge.rw_loopstore_k96_whole_long_comings) (n := 63) (k := My.lawLevel) (x := "script") (sp := fun w => My.spLaw _) rfl (by decide) rfl ⟨rfl, by decide, by decide⟩ (fun w h Y => PySem.W.kIn_of Y) ?F (fun _ _ a ns hl _ hS => ⟨a, ns, rfl, hS, hl, fun _ => rfl⟩)
  case F =>
    intro w mg fa h KX G hmg
    refine' My.fin_mk KX G hmg (My.all_mk (w := w) KX G ?a_is_integer ?l_is_integer ?c_is_integer ?k_is_integer ?a_is_number ?l_is_number ?c_is_number ?k_is_number ?a_are_numbers ?l_are_numbers ?c_are_numbers ?k_are_numbers ?a_is_comings ?l_is_comings ?c_is_comings ?k_is_comings ?a_check_comers ?l_check_comers ?c_check_comers ?k_check_comers ?a_check_bound ?l_check_bound ?c_check_bound ?k_check_bound ?a_check_comings ?l_check_comings ?c_check_comings ?k_check_comings ?a_follow_line ?l_follow_line ?c_follow_line ?k_follow_line ?a_letters_of ?l_letters_of ?c_letters_of ?k_letters_of ?a_waits ?l_waits ?c_waits ?k_waits ?a_lines ?l_lines ?c_lines ?k_lines ?a_is_round ?l_is_round ?c_is_round ?k_is_round ?a_is_long_pair ?l_is_long_pair ?c_is_long_pair ?k_is_long_pair ?a_check_long ?l_check_long ?c_check_long ?k_check_long ?a_follow_round ?l_follow_round ?c_follow_round ?k_follow_round ?a_follow_long ?l_follow_long ?c_follow_long ?k_follow_long ?a_long_line ?l_long_line ?c_long_line ?k_long_line ?a_long_counts ?l_long_counts ?c_long_counts ?k_long_counts ?a__law_tape ?l__law_tape ?c__law_tape ?k__law_tape ?a__law_pick ?l__law_pick ?c__law_pick ?k__law_pick ?a__law_round ?l__law_round ?c__law_round ?k__law_round ?a__law_short ?l__law_short ?c__law_short ?k__law_short ?a__law_joined ?l__law_joined ?c__law_joined ?k__law_joined ?a__law_power ?l__law_power ?c__law_power ?k__law_power ?a__law_due ?l__law_due ?c__law_due ?k__law_due ?a__law_long ?l__law_long ?c__law_long ?k__law_long ?a_law ?l_law ?c_law ?k_law ?z_all ?z_bool ?z_enumerate ?z_int ?z_isinstance ?z_len ?z_list ?z_range ?z_repr ?z_sum ?z_tuple ?y_MOST_BOUND ?y_MOST_COMERS ?y_MOST_PAIRS ?y_MOST_ROUND ?y_MOST_TICKS)
    (case a_is_integer => k_is); (case l_is_integer => k_is); (case c_is_integer => k_is); (case k_is_integer => k_is); (case a_is_number => k_is); (case l_is_number => k_is); (case c_is_number => k_is); (case k_is_number => k_is); (case a_are_numbers => k_is); (case l_are_numbers => k_is); (case c_are_numbers => k_is); (case k_are_numbers => k_is); (case a_is_comings => k_is); (case l_is_comings => k_is); (case c_is_comings => k_is); (case k_is_comings => k_is); (case a_check_comers => k_is); (case l_check_comers => k_is); (case c_check_comers => k_is); (case k_check_comers => k_is); (case a_check_bound => k_is); (case l_check_bound => k_is); (case c_check_bound => k_is); (case k_check_bound => k_is); (case a_check_comings => k_is); (case l_check_comings => k_is); (case c_check_comings => k_is); (case k_check_comings => k_is); (case a_follow_line => k_is); (case l_follow_line => k_is); (case c_follow_line => k_is); (case k_follow_line => k_is); (case a_letters_of => k_is); (case l_letters_of => k_is); (case c_letters_of => k_is); (case k_letters_of => k_is); (case a_waits => k_is); (case l_waits => k_is); (case c_waits => k_is); (case k_waits => k_is); (case a_lines => k_is); (case l_lines => k_is); (case c_lines => k_is); (case k_lines => k_is); (case a_is_round => k_is); (case l_is_round => k_is); (case c_is_round => k_is); (case k_is_round => k_is); (case a_is_long_pair => k_is); (case l_is_long_pair => k_is); (case c_is_long_pair => k_is); (case k_is_long_pair => k_is); (case a_check_long => k_is); (case l_check_long => k_is); (case c_check_long => k_is); (case k_check_long => k_is); (case a_follow_round => k_is); (case l_follow_round => k_is); (case c_follow_round => k_is); (case k_follow_round => k_is); (case a_follow_long => k_is); (case l_follow_long => k_is); (case c_follow_long => k_is); (case k_follow_long => k_is); (case a_long_line => k_is); (case l_long_line => k_is); (case c_long_line => k_is); (case k_long_line => k_is); (case a_long_counts => k_is); (case l_long_counts => k_is); (case c_long_counts => k_is); (case k_long_counts => k_is); (case a__law_tape => k_is); (case l__law_tape => k_is); (case c__law_tape => k_is); (case k__law_tape => k_is); (case a__law_pick => k_is); (case l__law_pick => k_is); (case c__law_pick => k_is); (case k__law_pick => k_is); (case a__law_round => k_is); (case l__law_round => k_is); (case c__law_round => k_is); (case k__law_round => k_is); (case a__law_short => k_is); (case l__law_short => k_is); (case c__law_short => k_is); (case k__law_short => k_is); (case a__law_joined => k_is); (case l__law_joined => k_is); (case c__law_joined => k_is); (case k__law_joined => k_is); (case a__law_power => k_is); (case l__law_power => k_is); (case c__law_power => k_is); (case k__law_power => k_is); (case a__law_due => k_is); (case l__law_due => k_is); (case c__law_due => k_is); (case k__law_due => k_is); (case a__law_long => k_is); (case l__law_long => k_is); (case c__law_long => k_is); (case k__law_long => k_is); (case a_law => k_is); (case l_law => k_is); (case c_law => k_is); (case k_law => k_is); (case z_all => k_is); (case z_bool => k_is); (case z_enumerate => k_is); (case z_int => k_is); (case z_isinstance => k_is); (case z_len => k_is); (case z_list => k_is); (case z_range => k_is); (case z_repr => k_is); (case z_sum => k_is); (case z_tuple => k_is); (case y_MOST_BOUND => k_is); (case y_MOST_COMERS => k_is); (case y_MOST_PAIRS => k_is); (case y_MOST_ROUND => k_is); (case y_MOST_TICKS => k_is)

