import PyProof.Rows.All
import Wide.All
import OpenK.AllK
import Wide.FinOn
import HandS.ForMost
import HandS.Wide
import HandS.IsInst
import HandS.TupMul
import HandS.TupAny
import HandS.SortInts
import HandS.SortRule
import HandS.Strs
import HandS.Iter
import HandS.Deep
import HandS.More
import HandS.Style
import HandS.Exc
import HandS.ExcOwn
import HandS.ExcInit
import HandS.TryOnly
import HandS.WordsExc
import HandS.ExcField
import HandS.ExcIs
import KE.KExcIs
import HandS.Dict
import HandS.DictTup
import HandS.Keys
import HandS.OwnEq
import PyProof.InstNe
import PyProof.ReprReads
import KE.DatumIndex
import PyProof.ReprBulk
import PyProof.FitsInt
import PyProof.ReprRoads
import HandS.Evl
import PySem.Challenge.RW_loopstore_k06_tables_judged
set_option Elab.async false
set_option linter.all false
set_option maxRecDepth 100000
set_option maxHeartbeats 4000000
/-! ## rules that the layer lacks -/
namespace RR
open PySem PySem.Spec PyProof.Rows L2 HT
section
variable {prog : Program} {w : World} {A : Around} {E : Value → Shared → Prop} {s : Shared}
/-- a tuple's items gathered -/
theorem collect_tuple {l : Addr} {vs : List Value} {Q : List Value → Shared → Prop} (hl : IsTup s.heap l vs.toArray)
    (h : Q vs { s with heap := (s.heap.push (seqObj "list" #[] 0)).update s.heap.objs.size (Obj.mapSeq (· ++ vs.toArray)) }) (hsz : vs.length ≤ sizeLine) :
    wpAny (model prog w) A (collect (.ref l)) Q E s := by
  obtain ⟨o, ho, hc, n, hd⟩ := id hl
  unfold collect
  refine wpAny_bind (wpAny_runValue (codeAny_builtin entry_proto_collect' ?_))
  show wpAny _ _ (do again (.builtin "list.__iadd__" ⟨[← newList [], .ref l], []⟩)) _ _ s
  refine wpAny_bind (wpAny_newList (wpAny_pure ⟨Code.quiet_builtin _ (by decide +kernel), codeAny_builtin entry_list_iadd' ?_⟩))
  show wpAny _ _ (Builtin.List.listExtendWith (.ref s.heap.objs.size) (.ref l) (.ref s.heap.objs.size)) _ _ { s with heap := s.heap.push (seqObj "list" #[] 0) }
  unfold Builtin.List.listExtendWith
  have ho' : (s.heap.push (seqObj "list" #[] 0)).get? l = some o := Heap.get?_push_of_some _ ho
  refine wpAny_bind (wpAny_typeOf (T := "tuple") ⟨o, ho', hc⟩ ?_)
  have ht : (Value.type "tuple" == Value.type "tuple") = true := by rfl
  rw [if_pos (by rw [ht]; simp)]
  refine wpAny_bind (listItems_at ho' hd ?_)
  refine wpAny_bind (listItems_at (xs := #[]) (n := 0) (Heap.get?_push_size _ rfl) rfl ?_)
  rw [if_neg (by simp)]
  refine wpAny_bind (listUpdate_at (xs := #[]) (n := 0) (Heap.get?_push_size _ rfl) rfl ?_ (Nat.zero_le _) (by show (#[] ++ vs.toArray).size ≤ sizeLine + 1; simp only [Array.size_append, List.size_toArray, List.length_nil]; omega))
  refine wpAny_pure ?_
  show wpAny (model prog w) A (do
      let o ← load s.heap.objs.size
      match o.data with
      | .seq xs _ => pure xs.toList
      | _ => unsupported "internal:collect") Q E { s with heap := (s.heap.push (seqObj "list" #[] 0)).update s.heap.objs.size (Obj.mapSeq (· ++ vs.toArray)) }
  refine wpAny_bind (wpAny_load (get?_update_seq (Heap.get?_push_size _ rfl) _) ?_)
  show wpAny _ _ (pure ((#[] : Array Value) ++ vs.toArray).toList) Q E _
  rw [show ((#[] : Array Value) ++ vs.toArray).toList = vs by simp]
  exact wpAny_pure h
theorem sorted_ordT {l : Addr} {vs : List Value} {ltv : Value → Value → Bool} {Q : Value → Shared → Prop} (O : SrtO.Swo ltv) (hl : IsTup s.heap l vs.toArray) (hz : vs.length ≤ sizeLine)
    (hS : 2 ≤ vs.length → ∀ (h₁ : Heap) (a : Addr), h₁.get? a = some (seqObj "list" vs.toArray 0) → (∀ b o, s.heap.get? b = some o → b ≠ a ∧ h₁.get? b = some o) → SrtO.SortableO prog w A.in1.in1 { s with heap := h₁ } a vs ltv)
    (h : ∀ out : List Value, SrtO.Srtd ltv out → SrtO.Stb ltv out vs → Q (.ref (s.heap.objs.size + 1)) { s with heap := sortedAll s.heap vs out.toArray }) :
    wpAny (model prog w) A (call (.builtin "sorted") [.ref l]) Q E s := by
  refine Calls.call_function_entry kind_sorted plain_sorted entry_sorted (args_sorted1 _) ?_
  unfold Builtin.«sorted»
  refine wpAny_bind (m := checkCount "sorted" 1 1 _) (wpAny_pure ?_)
  refine wpAny_bind (collect_tuple hl ?_ hz)
  refine wpAny_bind (wpAny_newList ?_ hz)
  have hsz : ((s.heap.push (seqObj "list" #[] 0)).update s.heap.objs.size (Obj.mapSeq (· ++ vs.toArray))).objs.size = s.heap.objs.size + 1 := by
    rw [Heap.size_update, size_push']
  have hoL : (((s.heap.push (seqObj "list" #[] 0)).update s.heap.objs.size (Obj.mapSeq (· ++ vs.toArray))).push (seqObj "list" vs.toArray 0)).get? (s.heap.objs.size + 1) = some (seqObj "list" vs.toArray 0) := by
    rw [← hsz]; exact Heap.get?_push_size _ rfl
  have keep : ∀ b o, s.heap.get? b = some o → b ≠ s.heap.objs.size + 1 ∧ (((s.heap.push (seqObj "list" #[] 0)).update s.heap.objs.size (Obj.mapSeq (· ++ vs.toArray))).push (seqObj "list" vs.toArray 0)).get? b = some o := fun b o q => by
    have hlt : b < s.heap.objs.size := Heap.lt_size q
    refine ⟨Nat.ne_of_lt (Nat.lt_succ_of_lt hlt), Heap.get?_push_of_some _ ?_⟩
    rw [Heap.get?_update_ne _ _ _ _ (Nat.ne_of_lt hlt)]
    exact Heap.get?_push_of_some _ q
  show wpAny _ _ _ _ _ { s with heap := ((s.heap.push (seqObj "list" #[] 0)).update s.heap.objs.size (Obj.mapSeq (· ++ vs.toArray))).push (seqObj "list" vs.toArray 0) }
  rw [hsz]
  refine wpAny_bind (wpAny_holding (wpAny_call_entry slot_list_sort ⟨_, hoL, rfl⟩ entry_list_sort (SrtO.list_sort_ord O hoL hz (fun h2 => hS h2 _ _ hoL keep) fun out hs hb => ⟨_, rfl, ?_⟩) (args_list_sort _)))
  exact wpAny_pure ⟨_, rfl, h out hs hb⟩
end
def rSortedU (K : PySem.W.Frag) : List V → Hp → VK → Prop := fun vs H Q => ∃ (a : Addr) (ns : List Int), vs = [V.ref a] ∧ SqT K H a (ns.map V.int) ∧
  ∀ (ns' : List Int) (p : Addr), ns'.Perm ns → ns'.Pairwise (· ≤ ·) → H p = none → Q (.ref p) (upd H p (.lst (ns'.map V.int)))
section
variable {X : Cx}
/-- sorted(t), t a tuple of ints -/
theorem cr_sortedU : CallR X (.builtin "sorted") (rSortedU X.K) := by
  intro pins s σ H vs us Q I r h
  obtain ⟨a, ns, rfl, hs, q⟩ := h
  obtain ⟨its, rv, hl, hz⟩ := I.tuple hs
  rw [Vals.ref1 r]
  have hi := rv.ints
  refine sorted_ordT SrtO.swo_int hl (by rw [← rv.length]; exact hz) (fun h2 h₁ a' _ _ => SrtO.ints_sortable hi h2) fun out h1 h2 => ?_
  obtain ⟨k1, k2, k3⟩ := SrtO.ints_out hi h1 h2
  obtain ⟨ep, he'⟩ := PyProof.Rows.sortedAll_at s.heap its out.toArray
  have hlen : ((out.map SrtO.iv).map V.int).length ≤ sizeLine := by
    rw [List.length_map, k2.length_eq]
    rw [List.length_map] at hz
    exact hz
  exact ⟨.ref _, upd H (s.heap.objs.size + 1) (.lst ((out.map SrtO.iv).map V.int)), I.laid (t' := s.toks) (fun _ _ => PyProof.Rows.sortedAll_old) (Nat.le_succ _) ⟨hlen, out, ep, vals_of_ints k1, he'⟩, rfl, q _ _ k2 k3 (I.hok.fresh (Nat.le_succ _))⟩
end
/-! ### t[::-1] -/
theorem adj_rev (n : Nat) : Builtin.Slice.sliceAdjust none none (-1) (n : Int) = ((n : Int) - 1, -1) := rfl
theorem pl_rev (n : Nat) : Builtin.Slice.slicePlaces ((n : Int) - 1) (-1) (-1) = n := by
  unfold Builtin.Slice.slicePlaces
  have h1 : ¬ ((-1 : Int) > 0) := by omega
  simp only [h1, if_false]
  split <;> simp <;> omega
theorem pick_rev (xs : List Value) : ((List.range xs.length).filterMap fun (m : Nat) => xs.toArray[(((xs.length : Int) - 1) + (m : Int) * (-1)).toNat]?) = xs.reverse := by
  have key : ∀ m, m ≤ xs.length → ((List.range m).filterMap fun (k : Nat) => xs.toArray[(((xs.length : Int) - 1) + (k : Int) * (-1)).toNat]?) = xs.reverse.take m := by
    intro m
    induction m with
    | zero => intro _; rfl
    | succ m ih =>
      intro hm
      rw [List.range_succ, List.filterMap_append, ih (by omega), List.take_add_one]
      have e : (((xs.length : Int) - 1) + (m : Int) * (-1)).toNat = xs.length - 1 - m := by omega
      have hl : m < xs.reverse.length := by rw [List.length_reverse]; omega
      have e2 : xs.toArray[xs.length - 1 - m]? = some (xs.reverse[m]) := by
        rw [List.getElem?_toArray, List.getElem_reverse, List.getElem?_eq_getElem]
      rw [List.getElem?_eq_getElem hl]
      simp only [List.filterMap_cons, List.filterMap_nil, e, e2, Option.toList_some]
  have := key xs.length (Nat.le_refl _)
  rw [this, List.take_of_length_le (by rw [List.length_reverse]; exact Nat.le_refl _)]
section
variable {prog : Program} {w : World} {A : Around} {E : Value → Shared → Prop} {s : Shared}
theorem sliceApplied_rev {sl : Addr} {vl vu vs : Value} {n : Nat} {Q : Int × Int × Nat → Shared → Prop} (hs : s.heap.IsSliceOf sl vl vu vs) (pl : IsPart vl none) (pu : IsPart vu none) (ps : IsPart vs (some (-1)))
    (h : Q ((n : Int) - 1, -1, n) s) : wpAny (model prog w) A (Builtin.Slice.sliceApplied (.ref sl) (pure (n : Int))) Q E s := by
  obtain ⟨os, hos, hcs, hds⟩ := id hs
  unfold Builtin.Slice.sliceApplied Builtin.Slice.sliceFields
  refine wpAny_bind (wpAny_bind (wpAny_field hos hds (x := vl) rfl (wpAny_bind (wpAny_field hos hds (x := vu) rfl (wpAny_bind (wpAny_field hos hds (x := vs) rfl (wpAny_pure ?_)))))))
  refine wpAny_bind (slicePart_ ps ?_)
  show wpAny _ _ (if ((-1 : Int) == 0) = true then _ else _) _ _ s
  rw [if_neg (by decide)]
  refine wpAny_bind (slicePart_ pl (wpAny_bind (slicePart_ pu (wpAny_bind (wpAny_pure ?_)))))
  show wpAny _ _ (match Builtin.Slice.sliceAdjust none none (-1) (n : Int) with | (lo, hi) => pure (lo, (-1 : Int), Builtin.Slice.slicePlaces lo hi (-1))) _ _ s
  rw [adj_rev n]
  show wpAny _ _ (pure ((n : Int) - 1, (-1 : Int), Builtin.Slice.slicePlaces ((n : Int) - 1) (-1) (-1))) _ _ s
  rw [pl_rev]
  exact wpAny_pure h
theorem getItem_tuple_rev {t sl : Addr} {items : List Value} {vl vu vs : Value} {Q : Value → Shared → Prop} (ht : IsTup s.heap t items.toArray) (hs : s.heap.IsSliceOf sl vl vu vs) (pl : IsPart vl none) (pu : IsPart vu none) (ps : IsPart vs (some (-1)))
    (h : Q (.ref s.heap.objs.size) { s with heap := s.heap.push { cls := .type "tuple", data := .seq items.reverse.toArray } })
    (hsz : items.length ≤ sizeLine) : wpAny (model prog w) A (getItem (.ref t) (.ref sl)) Q E s := by
  have htake : sizeOk (.seq items.reverse.toArray) := by
    show items.reverse.toArray.size ≤ sizeLine
    rw [List.size_toArray, List.length_reverse]
    omega
  obtain ⟨os, hos, hcs, hds⟩ := id hs
  have hTs : s.TypeIs (.ref sl) "slice" := ⟨os, hos, hcs⟩
  unfold getItem
  try with_reducible refine wpAny_holding ?_
  first | refine wpAny_bind (wpAny_pure ?_) | skip
  refine wpAny_bind (wpAny_sequenceKey ht.typeIs (by decide) ?_)
  refine wpAny_bind (wpAny_callSpecial?_slot (name := Str.ofString "__getitem__") ht.typeIs PyProof.Rows.slot_tuple_getitem
    (wpAny_call_entry PyProof.Rows.slot_tuple_getitem ht.typeIs entry_tuple_getitem ?_ (args_tuple_getitem _ _)))
  show wpAny _ _ (Builtin.Tuple.tupleItemsOf (.ref t) >>= _) _ _ s
  refine wpAny_bind (tupleItemsOf_ ht ?_)
  refine wpAny_bind (wpAny_typeOf hTs ?_)
  rw [if_pos (by decide)]
  rw [List.size_toArray]
  refine wpAny_bind (sliceApplied_rev hs pl pu ps ?_)
  have hno : ¬ ((((items.length : Int) - 1) == 0 && (-1 : Int) == 1 && items.length == items.length) = true) := by
    rw [show ((-1 : Int) == 1) = false from rfl, Bool.and_false, Bool.false_and]
    exact Bool.false_ne_true
  show wpAny _ _ (if (((items.length : Int) - 1) == 0 && (-1 : Int) == 1 && items.length == items.length) = true then _ else _) _ _ s
  rw [if_neg hno, pick_rev]
  first
    | exact wpAny_bind (m := Builtin.Tuple.tupleExact _) (wpAny_newObj_type (wpAny_pure ⟨_, rfl, wpAny_pure h⟩) htake)
    | exact wpAny_bind (m := Builtin.Tuple.tupleExact _) (wpAny_newObj_type (wpAny_bind (wpAny_pure (wpAny_pure ⟨_, rfl, wpAny_pure h⟩))) htake)
    | exact wpAny_bind (wpAny_bind (m := Builtin.Tuple.tupleExact _) (wpAny_newObj_type (wpAny_pure (wpAny_pure ⟨_, rfl, wpAny_pure h⟩)) htake))
    | exact wpAny_bind (wpAny_bind (m := Builtin.Tuple.tupleExact _) (wpAny_newObj_type (wpAny_pure ⟨_, rfl, wpAny_pure h⟩) htake))
end
def tRevT (K : PySem.W.Frag) (te : TE) : TE := fun σ H Q => te σ H fun x H1 => ∃ a xs, x = .ref a ∧ SqT K H1 a xs ∧ ∀ p, H1 p = none → Q (.ref p) (upd H1 p (.tup xs.reverse))
section
variable {X : Cx}
theorem pe_revT {e : Expr} {te : TE} {k : Nat} {p1 p2 p3 pos : Pos} (he : PE X e te) : PE X (.Subscript e (.Slice none none (some (.UnaryOp .USub (.Constant (.int 1) k p1) p2)) p3) pos) (tRevT X.K te) := by
  refine ⟨fun pins s σ H Q I h => ?_⟩
  refine Subscript_ (thn (he.run pins s σ H _ I h) fun v s1 ⟨x, H1, I1, r1, q1⟩ => ?_)
  obtain ⟨a, xs, ex, hx, q⟩ := q1
  subst ex
  cases r1
  have hst : PO X (some (.UnaryOp .USub (.Constant (.int 1) k p1) p2)) (tPart (tUn (rU fun i => .int (-i)) (tC (.int 1)))) := po_some (pe_un un_neg pe_int)
  refine wpAny_Slice (thn (po_none.run pins s1 σ H1 (fun o H2 => o = none ∧ H2 = H1) I1 ⟨rfl, rfl⟩) fun vl s2 ⟨l, H2, I2, pl, el, e2⟩ => ?_)
  subst el e2
  refine thn (po_none.run pins s2 σ H2 (fun o H3 => o = none ∧ H3 = H2) I2 ⟨rfl, rfl⟩) fun vu s3 ⟨u, H3, I3, pu, eu, e3⟩ => ?_
  subst eu e3
  refine thn (hst.run pins s3 σ H3 (fun o H4 => o = some (-1) ∧ H4 = H3) I3 ⟨1, rfl, -1, rfl, rfl, rfl⟩) fun vs s4 ⟨o, H4, I4, ps, eo, e4⟩ => ?_
  subst eo e4
  have I5 : Inv X pins σ H4 { s4 with heap := s4.heap.push { cls := .type "slice", data := .fields #[vl, vu, vs] } } := I4.kept (t' := s4.toks) fun b ob q => Heap.get?_push_of_some _ q
  obtain ⟨its, r, ht, hz⟩ := I5.tuple hx
  have hlen := r.length
  show wpAny (model X.prog X.w) X.A (subscriptTail e (.Slice none none (some (.UnaryOp .USub (.Constant (.int 1) k p1) p2)) p3) (.ref a) (.ref s4.heap.objs.size)) (EP X pins σ Q) X.xe { s4 with heap := s4.heap.push { cls := .type "slice", data := .fields #[vl, vu, vs] } }
  refine tail_any (ops := [.ref a, .ref s4.heap.objs.size]) ht.typeIs (PyProof.Rows.slot_tuple_getitem.lookup) ?_ (by with_unfolding_all rfl)
  refine getItem_tuple_rev ht (Heap.IsSliceOf.new _ vl vu vs) pl pu ps ?_ (by rw [← hlen]; exact hz)
  refine ⟨.ref _, _, I5.laid (t' := s4.toks) (o := .tup xs.reverse) (fun b ob q => Heap.get?_push_of_some _ q) (Nat.le_refl _) ?_, rfl, q _ (I5.hok.fresh (Nat.le_refl _))⟩
  exact ⟨by rw [List.length_reverse]; exact hz, _, r.reverse, IsTup.new _ _⟩
end
/-! ### t * k, k from 1 on -/
theorem tuple_mulW1 (l : Addr) (items : Array Value) (n : Nat) (dd : Option Addr) (sl : Array (Option Value)) (u : Tok) :
    Meets (Builtin.«tuple.__mul__» ⟨[.ref l, .int 1 u], []⟩) (fun _ R s => s.heap.get? l = some { cls := .type "tuple", dict := dd, data := .seq items n, slots := sl } ∧ R (.ok (.ret (Value.ref l))) s) :=
  .of_wp fun prog w A R s h => by
    obtain ⟨hp, g, d, tk, os⟩ := s
    obtain ⟨hl, h⟩ := h
    have f1 := AutoSeq1.idx_int
    have c0 : (decide ((1 : Int) < -(2 ^ 63)) || decide ((1 : Int) ≥ 2 ^ 63)) = false := by decide
    have c1 : (items.isEmpty || (1 : Int) == 1) = true := by rw [show ((1 : Int) == 1) = true from rfl, Bool.or_true]
    wp_walk using wpAny_loadPart' hl
    repeat (first
      | (refine wpAny_ite_false (decide_eq_false (by rw [c0]; exact Bool.false_ne_true)) ?_; wp_walk using wpAny_loadPart' hl)
      | (refine wpAny_ite_true (decide_eq_true c1) ?_; wp_walk using wpAny_loadPart' hl))
    exact ⟨_, rfl, h⟩
def rRepA (K : PySem.W.Frag) : R2 := fun x y H Q => ∃ l k xs, x = .ref l ∧ y = .int k ∧ SqT K H l xs ∧ xs ≠ [] ∧ 1 ≤ k ∧ k ≤ 1000 ∧ xs.length ≤ 1000 ∧ (k = 1 → Q (.ref l) H) ∧ (k ≠ 1 → ∀ p, H p = none → Q (.ref p) (upd H p (.tup (List.replicate k.toNat xs).flatten)))
section
variable {X : Cx}
theorem op_repA : OpR X (binaryOp .Mult) (rRepA X.K) := by
  intro pins s σ H x y v u Q I rx ry h
  obtain ⟨l, k, xs, rfl, rfl, hT, hne, h1, h2, hz, q1, q2⟩ := h
  by_cases hk : k = 1
  · subst hk
    cases rx
    obtain ⟨t, rfl⟩ := ry
    obtain ⟨its, r, ⟨⟨cls, dd, data, sl⟩, ho, hc, n, hd⟩, hs⟩ := I.tuple hT
    simp only at hc hd
    subst hc hd
    refine wpAny_binaryOp_repeat_ref (T := "tuple") (U := "int") (by decide) ⟨_, ho, rfl⟩ (fun s' => typeIs_int s' 1 t) noFill_tuple_mul F.fills_int_mul F.slot_int_rmul repeat_tuple F.slot_int_index.lookup
      (call_meets F.slot_int_rmul (typeIs_int s 1 t) F.entry_int_rmul (F.args_int_rmul_2 _ _) (int_rmul_tuple 1 t l its.toArray n dd sl)
        ⟨ho, rfl, ⟨_, ho, rfl⟩, call_meets F.slot_tuple_mul ⟨_, ho, rfl⟩ F.entry_tuple_mul (F.args_tuple_mul_2 _ _) (tuple_mulW1 l its.toArray n dd sl t) ⟨ho, ?_⟩⟩)
    exact ⟨.ref l, H, I, rfl, q1 rfl⟩
  · exact op_repT pins s σ H _ _ v u Q I rx ry ⟨l, k, xs, rfl, rfl, hT, hne, by omega, h2, hz, q2 hk⟩
end
end RR

/-! ## enumerate over a tuple; an empty tuple times k -/
namespace RR
open PySem PySem.Spec PyProof.Rows L2 HT
open Sem (wp)
open AutoSeq1 (wpAny_loadPart')
section
variable {prog : Program} {w : World} {A : Around} {E : Value → Shared → Prop} {s : Shared}
theorem next_tuple_item {it t : Addr} {i : Nat} {items} {x : Value} {Q : Value → Shared → Prop} (hit : s.heap.IsTupleIter it t i)
    (ht : s.heap.IsTuple t items) (hx : items[i]? = some x)
    (hQ : ∀ h', h'.IsTupleIter it t (i + 1) → Heap.SameBut it s.heap h' → Q x { s with heap := h' }) :
    wpAny (model prog w) A (Builtin.SmallTypes.nextOf (.ref it)) Q E s := by
  obtain ⟨o, ho, hc, hd⟩ := id hit
  obtain ⟨ol, hol, _, nl, hdl⟩ := ht
  unfold Builtin.SmallTypes.nextOf
  refine wpAny_bind (wpAny_callSpecial?_slot (name := Str.ofString "__next__") hit.typeIs F.slot_tuple_iterator_next
    (wpAny_call_entry F.slot_tuple_iterator_next hit.typeIs F.entry_tuple_iterator_next ?_ (F.args_tuple_iterator_next_1 _)))
  show wpAny _ _ (field (.ref it) 0 >>= _) _ _ s
  refine wpAny_bind (wpAny_field ho hd (x := .ref t) rfl ?_)
  show wpAny _ _ (if (Value.ref t == Value.none) = true then _ else _) _ _ s
  rw [if_neg (show ¬ ((Value.ref t == Value.none) = true) from Bool.false_ne_true)]
  show wpAny _ _ (field (.ref it) 1 >>= _) _ _ s
  refine wpAny_bind (wpAny_field ho hd (x := .int i 0) rfl ?_)
  show wpAny _ _ (seqItems? (.ref t) >>= _) _ _ s
  refine wpAny_bind (wpAny_seqItems hol hdl ?_)
  simp only [Int.toNat_natCast, hx]
  refine wpAny_bind (wpAny_setField ho hd (by simp) (wpAny_pure ⟨x, rfl, wpAny_pure (hQ _ ?_ (Heap.SameBut.update ..))⟩))
  exact ⟨_, Heap.get?_update_self _ ho (Obj.isFreed_of_fields (Obj.data_mapFields hd _)), (Obj.cls_mapFields ..).trans hc, by
    rw [Obj.data_mapFields hd]; simp [rawInt]⟩
theorem next_tuple_end {it t : Addr} {i : Nat} {items} {Q : Value → Shared → Prop} (hh : A.handled = none)
    (hit : s.heap.IsTupleIter it t i) (ht : s.heap.IsTuple t items) (hx : items[i]? = none)
    (hE : ∀ h' e, Heap.ExtBut it s.heap h' → (∃ o, h'.get? e = some o ∧ o.cls = .type "StopIteration") → E (.ref e) { s with heap := h' }) :
    wpAny (model prog w) A (Builtin.SmallTypes.nextOf (.ref it)) Q E s := by
  obtain ⟨o, ho, hc, hd⟩ := id hit
  obtain ⟨ol, hol, _, nl, hdl⟩ := ht
  unfold Builtin.SmallTypes.nextOf
  refine wpAny_bind (wpAny_callSpecial?_slot (name := Str.ofString "__next__") hit.typeIs F.slot_tuple_iterator_next
    (wpAny_call_entry F.slot_tuple_iterator_next hit.typeIs F.entry_tuple_iterator_next ?_ (F.args_tuple_iterator_next_1 _)))
  show wpAny _ _ (field (.ref it) 0 >>= _) _ _ s
  refine wpAny_bind (wpAny_field ho hd (x := .ref t) rfl ?_)
  show wpAny _ _ (if (Value.ref t == Value.none) = true then _ else _) _ _ s
  rw [if_neg (show ¬ ((Value.ref t == Value.none) = true) from Bool.false_ne_true)]
  show wpAny _ _ (field (.ref it) 1 >>= _) _ _ s
  refine wpAny_bind (wpAny_field ho hd (x := .int i 0) rfl ?_)
  show wpAny _ _ (seqItems? (.ref t) >>= _) _ _ s
  refine wpAny_bind (wpAny_seqItems hol hdl ?_)
  simp only [Int.toNat_natCast, hx]
  refine wpAny_bind (wpAny_rule (wpAny_bind (wpAny_setField ho hd (by simp) ?_)))
  show wpAny _ _ (newExc (.type "StopIteration") [] >>= _) _ _ _
  refine wpAny_bind ?_
  simp only [newExc, newTuple]
  refine wpAny_bind (wpAny_newObj_type ?_ (by size_fits))
  refine wpAny_bind (m := firstArgMember _ _) (wpAny_of_eq (a := Value.none) (by first | rfl | (simp only [firstArgMember]; rfl)) ?_)
  refine wpAny_newObj_type ?_ (by size_fits)
  simp only [raiseNew]
  refine wpAny_bind (wpAny_handled ?_)
  first | rw [show A.in1.handled = none from hh] | rw [hh]
  refine wpAny_bind (wpAny_pure (wpAny_throw ?_))
  exact hE _ _ (((Heap.SameBut.update ..).extBut.push _).push _) ⟨_, Heap.get?_push_size _ rfl, rfl⟩
end
theorem tup_at {h h' : Heap} {a : Addr} {items} (x : h.IsTuple a items) (e : ∀ o, h.get? a = some o → h'.get? a = some o) : h'.IsTuple a items := let ⟨o, ho, r⟩ := x; ⟨o, e _ ho, r⟩
theorem draws_tuple {prog : Program} {w : World} {A : Around} (hh : A.handled = none) (it l : Addr) (hne : l ≠ it) (items : Array Value) :
    Draws prog w A it [it, l] items.size (fun i v => items[i]? = some v) (fun i h => h.IsTupleIter it l i ∧ h.IsTuple l items) where
  live := fun _ _ st => let ⟨o, ho, _⟩ := st.1; ⟨o, ho⟩
  frame := fun _ _ _ st hk => ⟨st.1.at fun o e => hk it (by simp) o e, tup_at st.2 fun o e => hk l (by simp) o e⟩
  item := fun i s Q E hi st hQ => by
    refine next_tuple_item st.1 st.2 (x := items[i]) (by simp [hi]) fun h' hit' hs' => ?_
    exact hQ _ h' s.toks (by simp [hi]) ⟨hit', st.2.extBut hs'.extBut hne⟩ hs'
  done := fun s Q E st hE => next_tuple_end hh st.1 st.2 (by simp) hE
theorem enumerate_newT (l : Addr) (items : Array Value) (n : Nat) (dct : Option Addr) (sl : Array (Option Value)) :
    Meets (Builtin.«enumerate.__new__» ⟨[.type "enumerate", .ref l], []⟩) (fun _ R s => s.heap.get? l = some { cls := .type "tuple", dict := dct, data := .seq items n, slots := sl } ∧
      R (.ok (.ret (.ref (s.heap.push { cls := .type "tuple_iterator", data := .fields #[.ref l, .int 0 0] }).objs.size)))
        { s with heap := (s.heap.push { cls := .type "tuple_iterator", data := .fields #[.ref l, .int 0 0] }).push { cls := .type "enumerate", data := .fields #[.none, .bool false, .ref s.heap.objs.size, rawInt 0, .none, .none] } }) :=
  .of_wp fun prog w A R s h => by
    obtain ⟨hp, g, d, tk, os⟩ := s; obtain ⟨hl, h⟩ := h
    have hsub := sub_enumerate
    have hL : Heap.IsTuple (Shared.heap ⟨hp, g, d, tk, os⟩) l items := ⟨_, hl, rfl, n, rfl⟩
    wp_walk using wpAny_loadPart' hl
    refine wpAny_stack_any fun st => wpAny_pure ?_
    split
    · rename_i c _ _ _ _ _
      cases (c == Value.type "enumerate")
      · wp_walk using wpAny_loadPart' hl, wpAny_pyIter_tuple hL
        exact ⟨_, rfl, h⟩
      · wp_walk using wpAny_loadPart' hl, wpAny_pyIter_tuple hL
        exact ⟨_, rfl, h⟩
    · wp_walk using wpAny_loadPart' hl, wpAny_pyIter_tuple hL
      exact ⟨_, rfl, h⟩
section
variable {prog : Program} {w : World} {A : Around} {E : Value → Shared → Prop} {s : Shared}
theorem call_enumerate_tuple {l : Addr} {items : Array Value} {Q : Value → Shared → Prop} (hL : s.heap.IsTuple l items)
    (h : ∀ h', IsEnum h' (s.heap.objs.size + 1) s.heap.objs.size 0 .none → h'.IsTupleIter s.heap.objs.size l 0 → h'.objs.size = s.heap.objs.size + 2 →
      (∀ b o, s.heap.get? b = some o → h'.get? b = some o) → Q (.ref (s.heap.objs.size + 1)) { s with heap := h' }) :
    wpAny (model prog w) A (call (.type "enumerate") [.ref l]) Q E s := by
  obtain ⟨⟨c, dct, dt, sl⟩, hl, hc, n, hd⟩ := hL
  replace hc : c = .type "tuple" := hc
  replace hd : dt = .seq items n := hd
  subst hc hd
  refine callType_new F.called_enumerate (by decide) (F.typeCall_enumerate_1 _) (F.newCall_enumerate_1 _) (fun obj => F.args_object_init_2 obj _) F.entry_enumerate_new
    (enumerate_newT l items n dct sl) ⟨hl, ?_⟩
  have hz : (s.heap.push { cls := .type "tuple_iterator", data := .fields #[.ref l, .int 0 0] }).objs.size = s.heap.objs.size + 1 := Heap.size_push ..
  show _ ∧ _
  rw [hz]
  have he : IsEnum ((s.heap.push { cls := .type "tuple_iterator", data := .fields #[.ref l, .int 0 0] }).push
      { cls := .type "enumerate", data := .fields #[.none, .bool false, .ref s.heap.objs.size, rawInt 0, .none, .none] }) (s.heap.objs.size + 1) s.heap.objs.size 0 .none := by
    have := Heap.get?_push_size (s.heap.push { cls := .type "tuple_iterator", data := .fields #[.ref l, .int 0 0] })
      (o := { cls := .type "enumerate", data := .fields #[.none, .bool false, .ref s.heap.objs.size, rawInt 0, .none, .none] }) rfl
    rw [hz] at this; exact this
  refine ⟨⟨_, he, rfl⟩, h _ he ⟨_, Heap.get?_push_of_some _ (Heap.get?_push_size _ rfl), rfl, rfl⟩ (by rw [Heap.size_push, hz]) fun b o x => Heap.get?_push_of_some _ (Heap.get?_push_of_some _ x)⟩
end
/-- the tuple at a, each item in a new pair -/
def IteT (K : PySem.W.Frag) (a : Addr) : It :=
  ⟨fun i H => ∃ (xs : List V) (x : V), SqT K H a xs ∧ xs[i]? = some x, fun i H v H' => ∃ T x, v = .ref T ∧ H T = none ∧ H' = upd H T (.tup [.int (i : Nat), x]) ∧ ∀ xs, SqT K H a xs → xs[i]? = some x, fun i H => ∃ xs : List V, SqT K H a xs ∧ xs.length ≤ i⟩
theorem turn_enumT {P : Program} {w : World} {K : PySem.W.Frag} {elts : List Expr} {kk : Nat} {tpos : Pos} (a e it : Addr) :
    Turn P w K (.Tuple elts kk tpos) (IteT K a) [e, it] e (fun i h => (∃ old, IsEnum h e it ((i : Nat) : Int) old) ∧ h.IsTupleIter it a i ∧ e ≠ it ∧ a ≠ it ∧ a ≠ e) where
  mem := by simp
  obj := fun i h st b hb => by
    obtain ⟨⟨old, he⟩, ⟨o, ho, hc, hd⟩, _⟩ := st
    have e' : b = e ∨ b = it := by simpa using hb
    rcases e' with z | z
    · rw [z]; exact ⟨_, he, fun v q => nomatch q⟩
    · rw [z]; exact ⟨o, ho, fun v q => by rw [hd] at q; cases q⟩
  keep := fun i h h' st k => let ⟨⟨old, he⟩, hi, hne⟩ := st; ⟨⟨old, k e (by simp) _ he⟩, hi.at fun o q => k it (by simp) o q, hne⟩
  item := by
    intro X hP hw hK hc i pins s σ H E I hf st hg
    subst hP hw hK
    obtain ⟨⟨old, he⟩, hit, hne, hai, hae⟩ := st
    obtain ⟨xs, x, hq, hx⟩ := hg
    obtain ⟨its, rv, p, hz⟩ := I.tuple hq
    obtain ⟨u, hu, ru⟩ := rv.get hx
    have hel : e < s.heap.objs.size := Heap.lt_size he
    have hil : it < s.heap.objs.size := by obtain ⟨_, q, _⟩ := hit; exact Heap.lt_size q
    have hlt : i < its.toArray.size := by
      have := (List.getElem?_eq_some_iff.mp hu).1
      simpa using this
    refine wpAny_pyNext_enum_itemD (draws_tuple (prog := X.prog) (w := X.w) (A := X.A.in1) (show X.A.in1.handled = none from I.ok.hd hc) it a hai its.toArray) he ⟨hit, (show s.heap.IsTuple a its.toArray from p)⟩ hlt hne (by simp [hne, Ne.symm hae]) fun y h' tk hy ho hst' hT hsz hk => ?_
    have hyu : y = u := by
      have h2 : its.toArray[i]? = some u := by simpa using hu
      exact Option.some.inj (hy.symm.trans h2)
    subst hyu
    refine ⟨_, rfl, wpAny_letOwnedTupleGo_enum (s := { s with heap := h', toks := tk + 1 }) ho fun h'' he' sb => ?_⟩
    have hT2 : h''.get? s.heap.objs.size = some { cls := .type "tuple", data := .seq #[.int i tk, y] } := (sb.2 _ (Nat.ne_of_gt hel)).trans hT
    have new : ObjOk X.prog X.w (upd H s.heap.objs.size (.tup [.int (i : Nat), x])) h'' s.heap.objs.size (.tup [.int (i : Nat), x]) :=
      ⟨by show 2 ≤ sizeLine; decide, [.int i tk, y], .cons ⟨_, rfl⟩ (.cons ru .nil), ⟨_, hT2, rfl, _, rfl⟩⟩
    have I1 : Inv X pins σ (upd H s.heap.objs.size (.tup [.int (i : Nat), x])) { s with heap := h'', toks := tk + 1 } :=
      I.turnedNew (ch := [e, it]) (fun b ob hb q => (sb.2 b (fun z => hb (by simp [z]))).trans (hk b ob (fun z => hb (by simp [z])) (fun z => hb (by simp [z])) q)) hf (Nat.le_refl _) new
    refine ⟨.ref s.heap.objs.size, _, I1, rfl, ⟨_, x, rfl, I.hok.fresh (Nat.le_refl _), rfl, fun ys hy => by rw [I.tuple_inj hy hq]; exact hx⟩, ⟨⟨y, ?_⟩, hst'.1.at fun o q => (sb.2 it (Ne.symm hne)).trans q, hne, hai, hae⟩, fun b hb => ?_⟩
    · have e1 : ((i + 1 : Nat) : Int) = (i : Int) + 1 := by omega
      rw [e1]; exact he'
    · have hb' : b < s.heap.objs.size := by
        have e' : b = e ∨ b = it := by simpa using hb
        rcases e' with z | z
        · rw [z]; exact hel
        · rw [z]; exact hil
      rw [upd_ne (Nat.ne_of_lt hb')]
      exact (hf b hb).1
  done := by
    intro X hP hw hK hc i pins s σ H E I hf st hg
    subst hP hw hK
    obtain ⟨⟨old, he⟩, hit, hne, hai, hae⟩ := st
    obtain ⟨xs, hq, hx⟩ := hg
    obtain ⟨its, rv, p, hz⟩ := I.tuple hq
    obtain ⟨f0, f1, f2, f3, f4, f5⟩ := hf it (by simp)
    have hl := rv.length
    have hT : s.TypeIs (.ref e) "enumerate" := ⟨_, he, rfl⟩
    unfold pyNext
    refine wpAny_bind (wpAny_attempt (wpAny_callSpecial?_slot (name := Str.ofString "__next__") hT F.slot_enumerate_next
      (wpAny_call_entry F.slot_enumerate_next hT F.entry_enumerate_next ?_ (F.args_enumerate_next_1 _))))
    show wpAny _ _ (field (.ref e) 2 >>= _) _ _ _
    refine wpAny_bind (wpAny_field he rfl (x := .ref it) rfl ?_)
    refine wpAny_bind (next_tuple_end (I.ok.hd hc) hit (show s.heap.IsTuple a its.toArray from p) (by simp; omega) fun h' x eb hx' => ?_)
    obtain ⟨o, ho, hc'⟩ := hx'
    refine wpAny_bind (wpAny_isInstance (T := "StopIteration") (b := true) ⟨o, ho, hc'⟩ isSubtype_stop ?_)
    exact wpAny_pure ⟨rfl, I.turned (t' := s.toks) (fun b o hb q => eb b o hb q) f0 f1 f3 f4 f5⟩
  self := fun A i s Q E st h => let ⟨⟨_, he⟩, _⟩ := st; wpAny_pyIter_enum he h
def iEnumT (K : PySem.W.Frag) (ta : TA) : TI := fun σ H R => ta σ H fun vs H1 => ∃ a xs, vs = [.ref a] ∧ SqT K H1 a xs ∧ R (IteT K a) H1
theorem pi_enumT {X : Cx} {e : Expr} {ta : TA} {p pos tpos : Pos} {elts : List Expr} {kk : Nat} (hg : Gl X "enumerate") (hm : X.mg "enumerate" = none) (ha : PA X [e] ta) (hs : starEach [e] X.env = [(false, eval e X.env)] := by rfl) :
    PI X (.Tuple elts kk tpos) (.Call (.Name "enumerate" p) [e] [] pos) (iEnumT X.K ta) := by
  refine ⟨fun pins s σ H R I h => ?_⟩
  refine Call_ (ld_blt I hg hm boot_enumerate (PyProof.Rows.callWith_type1 (thn (ha.run pos pins s σ H _ I h) fun us s1 ⟨vs, H1, I1, r1, q1⟩ => ?_) hs rfl))
  obtain ⟨a, xs, ex, hq, q⟩ := q1
  subst ex
  cases r1 with
  | cons r rr =>
    cases rr
    cases r
    obtain ⟨its, rv, p', hz⟩ := I1.tuple hq
    have hp : s1.heap.IsTuple a its.toArray := p'
    have hal : a < s1.heap.objs.size := by obtain ⟨_, q, _⟩ := hp; exact Heap.lt_size q
    refine call_enumerate_tuple hp fun h' he hit hsz hk => wpAny_pyIter_enum he ?_
    have I2 : Inv X pins σ H1 { s1 with heap := h' } := I1.kept (t' := s1.toks) hk
    refine ⟨s1.heap.objs.size + 1, [s1.heap.objs.size + 1, s1.heap.objs.size], _, _, H1, rfl, I2, turn_enumT a (s1.heap.objs.size + 1) s1.heap.objs.size, ⟨⟨.none, he⟩, hit, Nat.succ_ne_self _, Nat.ne_of_lt hal, Nat.ne_of_lt (Nat.lt_succ_of_lt hal)⟩, fun b hb => ?_, q⟩
    have e' : b = s1.heap.objs.size + 1 ∨ b = s1.heap.objs.size := by simpa using hb
    have hle : s1.heap.objs.size ≤ b := by
      rcases e' with z | z
      · rw [z]; exact Nat.le_add_right _ _
      · rw [z]; exact Nat.le_refl _
    exact I1.fpOk hle (I1.hok.fresh hle)
theorem for_enumT {K : PySem.W.Frag} {a : Addr} {xs : List V} {g : TG} {tb : TS} {D : Ends} {σ : L2.St} {H : Hp} (Pv : Nat → L2.St → Hp → Prop) (h0 : Pv 0 σ H) (hl : ∀ i σ H, i ≤ xs.length → Pv i σ H → SqT K H a xs)
    (hs : ∀ i x T σ H, xs[i]? = some x → Pv i σ H → H T = none → g (.ref T) σ (upd H T (.tup [.int (i : Nat), x])) fun σ2 H2 => tb { D with nx := Pv (i + 1), ct := Pv (i + 1), bk := D.nx } σ2 H2) (hd : ∀ σ H, Pv xs.length σ H → D.nx σ H) :
    ∃ W : Nat → Nat → L2.St → Hp → Prop, (∃ m, W 0 m σ H) ∧ ∀ i m σ H, W i m σ H →
      ((IteT K a).stop i H ∧ D.nx σ H) ∨ ((IteT K a).go i H ∧ ∃ N : L2.St → Hp → Prop, (∀ σ' H', N σ' H' → ∃ m', m' < m ∧ W (i + 1) m' σ' H') ∧ ∀ x H', (IteT K a).yld i H x H' → g x σ H' fun σ2 H2 => tb { D with nx := N, ct := N, bk := D.nx } σ2 H2) := by
  refine ⟨fun i m σ H => m = xs.length - i ∧ i ≤ xs.length ∧ Pv i σ H, ⟨xs.length, by simp, Nat.zero_le _, h0⟩, ?_⟩
  rintro i m σ H ⟨rfl, hi, p⟩
  have hL := hl i σ H hi p
  by_cases h : i < xs.length
  · refine .inr ⟨⟨xs, xs[i], hL, List.getElem?_eq_getElem h⟩, Pv (i + 1), fun σ' H' n => ⟨xs.length - (i + 1), by omega, rfl, by omega, n⟩, ?_⟩
    rintro v H' ⟨T, x, rfl, nT, rfl, hx⟩
    exact hs i x T σ H (hx xs hL) p nT
  · have e : i = xs.length := by omega
    subst e
    exact .inl ⟨⟨xs, hL, Nat.le_refl _⟩, hd σ H p⟩
theorem for_enumL {K : PySem.W.Frag} {a : Addr} {xs : List V} {g : TG} {tb : TS} {D : Ends} {σ : L2.St} {H : Hp} (Pv : Nat → L2.St → Hp → Prop) (h0 : Pv 0 σ H) (hl : ∀ i σ H, i ≤ xs.length → Pv i σ H → SqL K H a xs)
    (hs : ∀ i x T σ H, xs[i]? = some x → Pv i σ H → H T = none → g (.ref T) σ (upd H T (.tup [.int (i : Nat), x])) fun σ2 H2 => tb { D with nx := Pv (i + 1), ct := Pv (i + 1), bk := D.nx } σ2 H2) (hd : ∀ σ H, Pv xs.length σ H → D.nx σ H) :
    ∃ W : Nat → Nat → L2.St → Hp → Prop, (∃ m, W 0 m σ H) ∧ ∀ i m σ H, W i m σ H →
      ((Ite K a).stop i H ∧ D.nx σ H) ∨ ((Ite K a).go i H ∧ ∃ N : L2.St → Hp → Prop, (∀ σ' H', N σ' H' → ∃ m', m' < m ∧ W (i + 1) m' σ' H') ∧ ∀ x H', (Ite K a).yld i H x H' → g x σ H' fun σ2 H2 => tb { D with nx := N, ct := N, bk := D.nx } σ2 H2) := by
  refine ⟨fun i m σ H => m = xs.length - i ∧ i ≤ xs.length ∧ Pv i σ H, ⟨xs.length, by simp, Nat.zero_le _, h0⟩, ?_⟩
  rintro i m σ H ⟨rfl, hi, p⟩
  have hL := hl i σ H hi p
  by_cases h : i < xs.length
  · refine .inr ⟨⟨xs, xs[i], hL, List.getElem?_eq_getElem h⟩, Pv (i + 1), fun σ' H' n => ⟨xs.length - (i + 1), by omega, rfl, by omega, n⟩, ?_⟩
    rintro v H' ⟨T, x, rfl, nT, rfl, hx⟩
    exact hs i x T σ H (hx xs hL) p nT
  · have e : i = xs.length := by omega
    subst e
    exact .inl ⟨⟨xs, hL, Nat.le_refl _⟩, hd σ H p⟩
/-! ### () * k -/
theorem tuple_mul0 (l : Addr) (n : Nat) (dd : Option Addr) (sl : Array (Option Value)) (x : Int) (u : Tok) (c0 : (decide (x < -(2 ^ 63)) || decide (x ≥ 2 ^ 63)) = false) :
    Meets (Builtin.«tuple.__mul__» ⟨[.ref l, .int x u], []⟩) (fun _ R s => s.heap.get? l = some { cls := .type "tuple", dict := dd, data := .seq #[] n, slots := sl } ∧ R (.ok (.ret (Value.ref l))) s) :=
  .of_wp fun prog w A R s h => by
    obtain ⟨hp, g, d, tk, os⟩ := s
    obtain ⟨hl, h⟩ := h
    have f1 := AutoSeq1.idx_int
    have c1 : ((#[] : Array Value).isEmpty || x == 1) = true := rfl
    wp_walk using wpAny_loadPart' hl
    repeat (first
      | (refine wpAny_ite_false (decide_eq_false (by rw [c0]; exact Bool.false_ne_true)) ?_; wp_walk using wpAny_loadPart' hl)
      | (refine wpAny_ite_true (decide_eq_true c1) ?_; wp_walk using wpAny_loadPart' hl))
    exact ⟨_, rfl, h⟩
def rRepZ (K : PySem.W.Frag) : R2 := fun x y H Q => ∃ l k xs, x = .ref l ∧ y = .int k ∧ SqT K H l xs ∧ 1 ≤ k ∧ k ≤ 1000 ∧ xs.length ≤ 1000 ∧ ∀ p H', (∀ b o, H b = some o → H' b = some o) → SqT K H' p (List.replicate k.toNat xs).flatten → Q (.ref p) H'
theorem flat_nil {α : Type} (k : Nat) : (List.replicate k ([] : List α)).flatten = [] := by
  induction k with
  | zero => rfl
  | succ k ih => rw [List.replicate_succ, List.flatten_cons, ih]; rfl
theorem op_repZ {X : Cx} : OpR X (binaryOp .Mult) (rRepZ X.K) := by
  intro pins s σ H x y v u Q I rx ry h
  obtain ⟨l, k, xs, rfl, rfl, hT, h1, h2, hz, q⟩ := h
  by_cases hne : xs = []
  · subst hne
    cases rx
    obtain ⟨t, rfl⟩ := ry
    obtain ⟨its, r, ⟨⟨cls, dd, data, sl⟩, ho, hc, n, hd⟩, hs⟩ := I.tuple hT
    simp only at hc hd
    subst hc hd
    cases r
    have c0 : (decide (k < -(2 ^ 63)) || decide (k ≥ 2 ^ 63)) = false := by
      rw [decide_eq_false (by omega), decide_eq_false (by omega)]
      rfl
    refine wpAny_binaryOp_repeat_ref (T := "tuple") (U := "int") (by decide) ⟨_, ho, rfl⟩ (fun s' => typeIs_int s' k t) noFill_tuple_mul F.fills_int_mul F.slot_int_rmul repeat_tuple F.slot_int_index.lookup
      (call_meets F.slot_int_rmul (typeIs_int s k t) F.entry_int_rmul (F.args_int_rmul_2 _ _) (int_rmul_tuple k t l #[] n dd sl)
        ⟨ho, rfl, ⟨_, ho, rfl⟩, call_meets F.slot_tuple_mul ⟨_, ho, rfl⟩ F.entry_tuple_mul (F.args_tuple_mul_2 _ _) (tuple_mul0 l n dd sl k t c0) ⟨ho, ?_⟩⟩)
    exact ⟨.ref l, H, I, rfl, q l H (fun _ _ h => h) (by rw [flat_nil]; exact hT)⟩
  · refine op_repA pins s σ H _ _ v u Q I rx ry ⟨l, k, xs, rfl, rfl, hT, hne, h1, h2, hz, fun e => ?_, fun e p np => ?_⟩
    · refine q l H (fun _ _ h => h) ?_
      subst e
      show SqT X.K H l ([xs]).flatten
      simpa using hT
    · refine q p _ (fun b o e => by rw [upd_ne (ne_of_none e np)]; exact e) (SqT.of upd_same)
end RR

/-! ### exceptions of own classes as values: made, asked for their class -/
namespace EX6
open PySem PySem.Spec PyProof.Rows L2
/-- C(e, ..) as a value, C an exception class with its own __init__ -/
def tNewE (C : Addr) (sp : Sp) (dvs : List V) (ta : TA) : TE := fun σ H Q => ta σ H fun vs H1 => vs.length ≤ 1000 ∧ ∀ a, H1 a = none → sp (.ref a :: (vs ++ dvs)) (upd H1 a (exo a C none)) (fun v H2 => v = .non ∧ Q (.ref a) H2) (fun _ _ _ => False)
theorem pe_newE {X : Cx} {CX : CXT} {x : Str} {C fI : Addr} {k : Nat} {fd : FuncData} {ps : List Str} {sp : Sp} {ds : List Value} {dvs : List V} {e : Expr} {es : List Expr} {ta : TA} {p pos : Pos} (T : OexC X.K C) (iC : PySem.W.findIn X.K (.ref C) "__init__" = some (some (.ref fI))) (tI : PySem.W.typeIn X.K (.ref fI) = some (.type "function"))
    (F1 : FnOk X.prog X.w X.K X.mg X.base CX k fI fd ps sp) (hr : Room (k + 1) X.A) (hb : Binds X.K fd ps ds) (hd : Vals dvs ds) (hx : Passes CX X (fun _ _ _ => False)) (hg : Gl X x) (hm : X.mg x = some (.ref C)) (ha : PA X (e :: es) ta)
    (hdb : (x == ("__debug__" : Str)) = false := by decide) (he : starEach (e :: es) X.env = (false, eval e X.env) :: starEach es X.env := by rfl) (hpl : (backTo pos (starEach es X.env)).any (·.1) = false := by rfl) :
    PE X (.Call (.Name x p) (e :: es) [] pos) (tNewE C sp dvs ta) := by
  refine ⟨fun pins s σ H Q I h => ?_⟩
  obtain ⟨nm, q, N, bs, bm, sn, sub, ab, col, dd, k0, k1, k2, k3, k5, hC, hbm⟩ := T.cls
  refine wpAny_Call_Name_kw (ld_glob I hg hm ?_ hdb)
  refine PySem.W.callWith_K (h₀ := X.base) I.ok.mod.kin T.kC (thn (ha.run pos pins s σ H _ I h) fun us s1 ⟨vs, H1, I1, r1, hz, q1⟩ => ⟨I1.kIn, ?_⟩) he hpl
  show wpAny _ _ (call (.ref C) us) _ _ _
  obtain ⟨hp, g, dr, tk, os⟩ := s1
  have hsz : hp.objs.size ≤ hp.objs.size + 1 := Nat.le_succ _
  have hn : H1 (hp.objs.size + 1) = none := I1.hok.fresh hsz
  have hq := q1 (hp.objs.size + 1) hn
  have kk : ∀ b o, hp.get? b = some o → ((hp.push (PySem.W.kdv_tup us)).push (PySem.HandSPX.excO C hp.objs.size)).get? b = some o := fun b o e => Heap.get?_push_of_some _ (Heap.get?_push_of_some _ e)
  have hget : ((hp.push (PySem.W.kdv_tup us)).push (PySem.HandSPX.excO C hp.objs.size)).get? (hp.objs.size + 1) = some (PySem.HandSPX.excO C hp.objs.size) := by heap_get
  have I2 : Inv X pins σ (upd H1 (hp.objs.size + 1) (exo (hp.objs.size + 1) C none)) ⟨(hp.push (PySem.W.kdv_tup us)).push (PySem.HandSPX.excO C hp.objs.size), g, dr, tk, os⟩ :=
    I1.laid (t' := tk) (a := hp.objs.size + 1) (o := exo (hp.objs.size + 1) C none) (h' := (hp.push (PySem.W.kdv_tup us)).push (PySem.HandSPX.excO C hp.objs.size)) kk hsz (exo_ok hget)
  have r2 : Vals (V.ref (hp.objs.size + 1) :: (vs ++ dvs)) (Value.ref (hp.objs.size + 1) :: (us ++ ds)) := .cons rfl (r1.append hd)
  have hl : (Value.ref (hp.objs.size + 1) :: us ++ ds).length = ps.length := by
    have e := r2.length
    rw [F1.len _ _ _ _ hq] at e
    exact e.symm
  have hus : us.length ≤ sizeLine := by
    rw [← Paired.length r1, sizeLine_eq]
    omega
  refine wpAny_call (PySem.HandSPX.call_own F.excBase_ValueError (fun Y => PySem.HandSPX.refsVE_contains Y bm hbm) (I1.kIn _ _ hC) (PySem.W.looks_findIn I1.kIn iC) (fun self => PySem.W.bind_fn I1.kIn self tI) hus
    (codeAny_mono (F1.run _ X.stack _ _ ⟨Value.ref (hp.objs.size + 1) :: us, []⟩ (Value.ref (hp.objs.size + 1) :: (us ++ ds)) _ _ (fun _ _ _ => False) (hr.make C us []) (I2.env0.make C us []) (hb _ (Value.ref (hp.objs.size + 1) :: us) I2.kIn hl) r2 hq) fun r s' hq' => ?_))
  cases r with
  | error er => exact hx pins σ _ _ er s' I2 hq'
  | ok fl =>
    cases fl with
    | ret u =>
      obtain ⟨v, H', I3, rv, ev, q3⟩ := I2.after hq'
      subst ev
      exact ⟨rv, ⟨V.ref (hp.objs.size + 1), H', I3, rfl, q3⟩⟩
    | next => exact False.elim hq'
    | brk => exact False.elim hq'
    | cont => exact False.elim hq'
/-- isinstance(e, c), e an exception of the own class at C that stands in the heap with its dict -/
def rIsX (K : PySem.W.Frag) (C : Addr) : List V → Hp → VK → Prop := fun xs H Q => ∃ (a d : Addr) (fs : List (Str × V)) (c : V) (cv : Value) (b : Bool), xs = [.ref a, c] ∧ H a = some (exo a C (some d)) ∧ H d = some (exd d fs) ∧ ClsV c cv ∧ PySem.W.kitOne K (.ref C) cv = some b ∧ Q (.bl b) H
theorem call_isX {X : Cx} {C : Addr} (E : ExcC X.K C) : CallR X (.builtin "isinstance") (rIsX X.K C) := by
  intro pins s σ H xs us Q I r h
  obtain ⟨a, d, fs, c, cv, b, rfl, ea, ed, k, e, q⟩ := h
  obtain ⟨u1, u2, rfl, r1, r2⟩ := vals2 r
  have e2 := k.eq r2
  subst e2
  cases (show u1 = Value.ref a from r1)
  obtain ⟨⟨t1, hget⟩, _⟩ := I.hok a _ ea
  obtain ⟨⟨mA, hns, _⟩, _⟩ := I.hok d _ ed
  obtain ⟨od, ho, _⟩ := lookIn_ns hns
  obtain ⟨cd, hcD, _⟩ := PySem.W.any_some E.hd
  have J : PySem.W.InstAt s.heap a ({ cls := .ref C, dict := some d, data := .fields #[.ref t1, .none, .none, .none, .bool false, .none] } : Obj) C (some od) := ⟨hget, rfl, rfl, ho⟩
  exact PySem.W.kia_one (PySem.W.kitx_exc (by rw [hcD]; rfl) E.hg E.hk E.hs E.ha E.hn E.ht E.hm) I.kIn J e (fun z => nomatch z) fun tk => ⟨.bl b, H, I.tok tk, rfl, q⟩
theorem kit_own {K : PySem.W.Frag} {a b : Addr} (h1 : PySem.W.subIn K (.ref a) (.ref b) = some true) (h2 : PySem.W.isClsIn K b = true) (h3 : PySem.W.typeIn K (.ref b) = some (.type "type")) : PySem.W.kitOne K (.ref a) (.ref b) = some true := by
  unfold PySem.W.kitOne
  split
  · rfl
  · have h2' : (PySem.W.clsIn K b).isSome = true := h2
    show (if ((PySem.W.clsIn K b).isSome && PySem.W.typeIn K (.ref b) == some (.type "type")) = true then PySem.W.subIn K (.ref a) (.ref b) else none) = some true
    rw [h2', h3, if_pos (by rfl)]
    exact h1
theorem kit_ownN {K : PySem.W.Frag} {a b : Addr} (h1 : PySem.W.subIn K (.ref a) (.ref b) = some false) (h2 : PySem.W.isClsIn K b = true) (h3 : PySem.W.typeIn K (.ref b) = some (.type "type")) (h4 : (Value.ref a == Value.ref b) = false) : PySem.W.kitOne K (.ref a) (.ref b) = some false := by
  unfold PySem.W.kitOne
  rw [h4, if_neg Bool.false_ne_true]
  have h2' : (PySem.W.clsIn K b).isSome = true := h2
  show (if ((PySem.W.clsIn K b).isSome && PySem.W.typeIn K (.ref b) == some (.type "type")) = true then PySem.W.subIn K (.ref a) (.ref b) else none) = some false
  rw [h2', h3, if_pos (by rfl)]
  exact h1
end EX6
/-! ### a tuple times an int of any sign -/
namespace RN6
open PySem PySem.Spec PyProof.Rows L2
theorem tuple_mulN (l : Addr) (items : Array Value) (n : Nat) (dd : Option Addr) (sl : Array (Option Value)) (x : Int) (u : Tok) (c0 : (decide (x < -(2 ^ 63)) || decide (x ≥ 2 ^ 63)) = false) (c1 : (items.isEmpty || x == 1) = false) (c2 : (decide (x ≤ 0) || items.isEmpty) = true) :
    Meets (Builtin.«tuple.__mul__» ⟨[.ref l, .int x u], []⟩) (fun _ R s => s.heap.get? l = some { cls := .type "tuple", dict := dd, data := .seq items n, slots := sl } ∧
      R (.ok (.ret (Value.ref s.heap.objs.size))) { s with heap := s.heap.push { cls := Value.type "tuple", data := Data.seq #[] }, toks := s.toks }) :=
  .of_wp fun prog w A R s h => by
    obtain ⟨hp, g, d, tk, os⟩ := s
    obtain ⟨hl, h⟩ := h
    have f1 := AutoSeq1.idx_int
    wp_walk using wpAny_loadPart' hl
    repeat (first
      | (refine wpAny_ite_false (decide_eq_false (by rw [c0]; exact Bool.false_ne_true)) ?_; wp_walk using wpAny_loadPart' hl)
      | (refine wpAny_ite_false (decide_eq_false (by rw [c1]; exact Bool.false_ne_true)) ?_; wp_walk using wpAny_loadPart' hl)
      | (refine wpAny_ite_true (decide_eq_true c2) ?_; wp_walk using wpAny_loadPart' hl))
    exact ⟨_, rfl, h⟩
def rRepN (K : PySem.W.Frag) : R2 := fun x y H Q => ∃ l k xs, x = .ref l ∧ y = .int k ∧ SqT K H l xs ∧ -1000 ≤ k ∧ k ≤ 1000 ∧ xs.length ≤ 1000 ∧ ∀ p H', (∀ b o, H b = some o → H' b = some o) → SqT K H' p (List.replicate k.toNat xs).flatten → Q (.ref p) H'
theorem op_repN {X : Cx} : OpR X (binaryOp .Mult) (rRepN X.K) := by
  intro pins s σ H x y v u Q I rx ry h
  obtain ⟨l, k, xs, rfl, rfl, hT, h1, h2, hz, q⟩ := h
  by_cases hk : 1 ≤ k
  · exact RR.op_repZ pins s σ H _ _ v u Q I rx ry ⟨l, k, xs, rfl, rfl, hT, hk, h2, hz, q⟩
  · have c0 : (decide (k < -(2 ^ 63)) || decide (k ≥ 2 ^ 63)) = false := by
      rw [decide_eq_false (by omega), decide_eq_false (by omega)]
      rfl
    have e0 : k.toNat = 0 := by omega
    cases rx
    obtain ⟨t, rfl⟩ := ry
    obtain ⟨its, r, ⟨⟨cls, dd, data, sl⟩, ho, hc, n, hd⟩, hs⟩ := I.tuple hT
    simp only at hc hd
    subst hc hd
    by_cases hne : xs = []
    · subst hne
      cases r
      refine wpAny_binaryOp_repeat_ref (T := "tuple") (U := "int") (by decide) ⟨_, ho, rfl⟩ (fun s' => typeIs_int s' k t) noFill_tuple_mul F.fills_int_mul F.slot_int_rmul repeat_tuple F.slot_int_index.lookup
        (call_meets F.slot_int_rmul (typeIs_int s k t) F.entry_int_rmul (F.args_int_rmul_2 _ _) (int_rmul_tuple k t l #[] n dd sl)
          ⟨ho, rfl, ⟨_, ho, rfl⟩, call_meets F.slot_tuple_mul ⟨_, ho, rfl⟩ F.entry_tuple_mul (F.args_tuple_mul_2 _ _) (RR.tuple_mul0 l n dd sl k t c0) ⟨ho, ?_⟩⟩)
      exact ⟨.ref l, H, I, rfl, q l H (fun _ _ h => h) (by rw [RR.flat_nil]; exact hT)⟩
    · have hle : its.length = xs.length := r.length.symm
      have hn : its ≠ [] := fun e => hne (by
        rw [e] at hle
        exact List.eq_nil_of_length_eq_zero hle.symm)
      have hi : its.toArray.isEmpty = false := by
        cases its with
        | nil => exact absurd rfl hn
        | cons a b => rfl
      have c1 : (its.toArray.isEmpty || k == 1) = false := by
        rw [hi, Bool.false_or]
        exact beq_eq_false_iff_ne.mpr (by omega)
      have c2 : (decide (k ≤ 0) || its.toArray.isEmpty) = true := by
        rw [decide_eq_true (by omega)]
        rfl
      refine wpAny_binaryOp_repeat_ref (T := "tuple") (U := "int") (by decide) ⟨_, ho, rfl⟩ (fun s' => typeIs_int s' k t) noFill_tuple_mul F.fills_int_mul F.slot_int_rmul repeat_tuple F.slot_int_index.lookup
        (call_meets F.slot_int_rmul (typeIs_int s k t) F.entry_int_rmul (F.args_int_rmul_2 _ _) (int_rmul_tuple k t l its.toArray n dd sl)
          ⟨ho, rfl, ⟨_, ho, rfl⟩, call_meets F.slot_tuple_mul ⟨_, ho, rfl⟩ F.entry_tuple_mul (F.args_tuple_mul_2 _ _) (tuple_mulN l its.toArray n dd sl k t c0 c1 c2) ⟨ho, ?_⟩⟩)
      have hf : H s.heap.objs.size = none := I.hok.fresh (Nat.le_refl _)
      refine ⟨.ref s.heap.objs.size, _, I.laid (t' := s.toks) (o := .tup []) (fun b ob q => Heap.get?_push_of_some _ q) (Nat.le_refl _) ?_, rfl, q _ _ (fun b o e => by rw [upd_ne (ne_of_none e hf)]; exact e) (SqT.of ?_)⟩
      · exact ⟨Nat.zero_le _, [], .nil, IsTup.new _ _⟩
      · rw [upd_same, e0]
        rfl
end RN6
/-! ### list.count of a flat thing -/
namespace CF6
open PySem PySem.Spec PyProof.Rows L2
theorem cnt_eqU {x : V} : ∀ {xs : List V} {us : List Value}, Vals xs us → xs.all flatV = true → us.countP (eqU x) = xs.countP fun y => eqV y x
  | _, _, .nil, _ => rfl
  | y :: xs, u :: us, .cons r t, f => by
    rw [List.all_cons, Bool.and_eq_true] at f
    rw [List.countP_cons, List.countP_cons, eqU_of r f.1, cnt_eqU t f.2]
def rCntF (K : PySem.W.Frag) : V → List V → Hp → VK → Prop := fun x xs H Q => ∃ (p : Addr) (ys : List V) (z : V), x = .ref p ∧ xs = [z] ∧ SqL K H p ys ∧ flatV z = true ∧ ys.all flatV = true ∧ Q (.int (ys.countP fun y => eqV y z : Nat)) H
theorem mt_countF {X : Cx} : MtR X "list.count" (rCntF X.K) := by
  intro pins s σ H x xs v us Q I rx rxs h
  obtain ⟨p, ys, z, rfl, rfl, hs, fz, fy, q⟩ := h
  cases rx
  obtain ⟨u, rfl, ru⟩ := rxs.one
  obtain ⟨its, rv, ⟨⟨cls, dd, data, sl⟩, n, ho, hc, hdn, hd⟩, hlen⟩ := I.list hs
  simp only at hc hd
  subst hc hd
  refine call_meets PySem.F.slot_list_count ⟨_, ho, rfl⟩ PySem.F.entry_list_count (PySem.F.args_list_count_2 _ _)
    (SeqAt.list_countAt p its.toArray n dd sl u (eqU z)) ⟨ho, fun y hy => mem_eqAt ru fz rv fy y (by simpa using hy), .int (ys.countP fun y => eqV y z : Nat), H, I.tok _, ⟨s.toks, ?_⟩, q⟩
  rw [← cnt_eqU rv fy, List.toList_toArray]
end CF6

/-! ### repr of data: a def that is called where no repr is under way -/
namespace RG7
open PySem PySem.Spec PyProof.Rows L2
/-- a def's promise where no repr is under way -/
structure FnG (P : Program) (w : World) (K : PySem.W.Frag) (mg : Str → Option Value) (base : Heap) (k : Nat) (f : Addr) (fd : FuncData) (ps : List Str) (sp : Sp) : Prop where
  many : ∀ vs H Q E, sp vs H Q E → vs.length = ps.length
  goes : ∀ {A : Around} {outer : List Env} {s : Shared} {H : Hp} {args : Args} {us : List Value} {vs : List V} {Q : VK} {E : XK}, A.guards = some [] → Room k A → Env0 P w K mg base A outer s H → BindsTo s fd args (ps.zip us) → Vals vs us → sp vs H Q E →
    codeAny (model P w) A (.call (.ref f) args) (CR CX0 outer P w H s Q E) s
theorem FnG.of {P : Program} {w : World} {K : PySem.W.Frag} {mg : Str → Option Value} {base : Heap} {k : Nat} {f : Addr} {fd : FuncData} {ps : List Str} {sp : Sp} (F : FnOk P w K mg base CX0 k f fd ps sp) : FnG P w K mg base k f fd ps sp :=
  ⟨F.len, fun _ r e b v h => F.run _ _ _ _ _ _ _ _ _ r e b v h⟩
section
variable {P : Program} {w : World} {K : PySem.W.Frag} {mg : Str → Option Value} {base : Heap}
theorem fnG {x qual : Str} {st : Stmt} {f : Addr} {fd : FuncData} {N ps : List Str} {k : Nat} {sp : Sp} (F : Fun K x qual st f fd) (S : FnScope N ps (defScope st)) (many : ∀ vs H Q E, sp vs H Q E → vs.length = ps.length)
    (body : ∀ (cdv : Value) (A : Around) (outer : List Env) (s : Shared) (H : Hp) (vs : List V) (Q : VK) (E : XK), A.guards = some [] → Room k (A.deeper (envOfC qual (defScope st) s.heap.objs.size f cdv)) → sp vs H Q E →
      ∃ t, PSs (cxOf CX0 P w K mg base N qual (defScope st) f cdv A outer s H E).nox (defBody st) t ∧ t { nx := fun _ H' => Q .non H', rt := Q } (L2.start N vs) H) : FnG P w K mg base (k + 1) f fd ps sp := by
  obtain ⟨oc, od, kV, doc, pm, an, cdv, ct, osl, rfl, look, code⟩ := F.ex
  constructor
  · exact many
  · intro A outer s H args us vs Q E noG room e0 bd rv want
    have inK : K.In s.heap := e0.mod.kin.keeps fun b o e => (e0.bs b o e).1
    have kinds : ∀ y ∈ ps.zip us, (defScope st).names.lookup y.1 = some .local ∨ ((defScope st).names.lookup y.1 = some .cell ∧ ((cellsFrom (s.heap.objs.size + 1) (defScope st).names []).lookup y.1).isSome = true) := by
      rintro ⟨n, v⟩ hy
      cases S.par n (List.of_mem_zip hy).1 with
      | inl l => exact .inl l
      | inr l => exact .inr ⟨l, PySem.W.cellsFrom_some _ _ _ (.inl l)⟩
    apply codeAny_call_function room.depth (inK _ _ look) rfl S.co S.gen rfl (PySem.W.codeRec_of inK code)
    apply bd
    apply wpAny_newFunctionEnv_cells S.kind kinds
    rintro env rfl s1 inside
    refine ⟨(e0.mod.nolimit.keeps fun b o e => (e0.bs b o e).1).keeps inside.toInCall.keep, codeAny_func ?_⟩
    obtain ⟨t, ht, q⟩ := body cdv A outer s H vs Q E noG (room.deeper _) want
    have I := inv_start (CX := CX0) (mg := mg) (base := base) (qual := qual) (f := f) (cd := cdv) (E := E) S room.hd e0 (many _ _ _ _ want) rv inside
    refine wpAny_mono (ht.nox.run [] s1 _ H _ I q) (fun fl s' got => ?_) fun e s' got => got
    cases fl with
    | brk => exact got.elim fun _ z => z.elim fun _ z => z.2.elim
    | cont => exact got.elim fun _ z => z.elim fun _ z => z.2.elim
    | next =>
      obtain ⟨σ', H', J, q'⟩ := got
      exact ⟨V.non, H', J.os, J.bare, J.base, J.hok, rfl, q'⟩
    | ret u =>
      obtain ⟨v, σ', H', J, rel, q'⟩ := got
      exact ⟨v, H', J.os, J.bare, J.base, J.hok, rel, q'⟩
end
/-- the script's heap: only the script is told of, and only if the module has no such object -/
def only1 (a : Addr) (u : HO) : Hp := fun b => if b = a then some u else none
theorem only1_at {a : Addr} {u : HO} : only1 a u a = some u := if_pos rfl
theorem only1_no {a b : Addr} {u : HO} (h : b ≠ a) : only1 a u b = none := if_neg h
theorem only1_of {a b : Addr} {u v : HO} (h : only1 a u b = some v) : b = a ∧ v = u := by
  by_cases e : b = a
  · rw [e, only1_at] at h
    exact ⟨e, (Option.some.inj h).symm⟩
  · rw [only1_no e] at h
    cases h
/-- what a call from the claim's caller must end in -/
abbrev EndT (s₁ : Shared) : Result → Shared → Prop := fun r s' => r = .ok (.ret (.bool true)) ∧ OldK s₁.heap s'.heap ∧ s'.os = s₁.os ∧ AllBare s'.gens
/-- from a heap in which at most the script is told of -/
theorem enter {P : Program} {w : World} {K : PySem.W.Frag} {mg mb : Str → Option Value} {k : Nat} {fa a : Addr} {fd : FuncData} {x : Str} {sp : Sp} {s₁ : Shared} {vs : List Value} {H : Hp}
    (inK : K.In s₁.heap) (gl : s₁.heap.Ns mainGlobals mg) (bt : s₁.heap.Ns builtinsNs mb) (boot : ∀ y : Str, y ≠ "__name__" → mb y = bootBuiltins y) (lim : s₁.heap.NoLimit) (ng : s₁.gens = #[])
    (at_ : s₁.heap.get? a = some { cls := .type "list", data := .seq vs.toArray }) (room : Room k callerA)
    (F : ∀ base : Heap, K.In base → base.Ns mainGlobals mg → FnG P w K mg base k fa fd [x] sp) (bd : ∀ (s : Shared) (u : Value), BindsTo s fd ⟨[u], []⟩ [(x, u)])
    (frz : ∀ b u, H b = some u → b = a ∧ ∃ o xs, u = .frz o (.lst xs)) (ok : HOk P w H s₁.heap) (own : H a ≠ none → K.lookup a = none)
    (want : sp [.ref a] H (fun v _ => v = .bl true) fun _ _ _ => False) : codeAny (model P w) callerA (.call (.ref fa) ⟨[.ref a], []⟩) (EndT s₁) s₁ := by
  have told : ∀ {b o}, s₁.heap.get? b = some o → (∀ xs n, o.data = .seq xs n → False) ∨ H b = none → (hidT s₁.heap H).get? b = some o := fun {b o} e h => hidT_get e (by
    rcases h with h | h
    · cases q : H b with
      | none => rfl
      | some u =>
        have ea := (frz b u q).1
        subst ea
        rw [at_] at e
        cases e
        exact (h _ _ rfl).elim
    · exact h)
  have isNs : ∀ {b : Addr} {m : Str → Option Value}, s₁.heap.Ns b m → (hidT s₁.heap H).Ns b m := by
    rintro b m ⟨o, es, ep, e, d, r⟩
    exact ⟨o, es, ep, told e (.inl fun xs n z => by rw [d] at z; cases z), d, r⟩
  have kept : K.In (hidT s₁.heap H) := fun b o e => told (inK b o e) (.inr (by
    cases q : H b with
    | none => rfl
    | some u =>
      have ea := (frz b u q).1
      subst ea
      rw [own (by rw [q]; exact fun z => by cases z)] at e
      cases e))
  obtain ⟨mc, lim1, lim2⟩ := lim
  have start : Env0 P w K mg (hidT s₁.heap H) callerA [] s₁ H :=
    { frames := rfl, mod := ⟨kept, isNs gl, ⟨mb, isNs bt, boot⟩, ⟨mc, isNs lim1, lim2⟩⟩, bs := fun b o e => of_hidT e, bsz := Nat.le_of_eq (hidT_size _ _), funs := trivial, frf := fun b hb => (List.not_mem_nil hb).elim, hok := ok, bare := .of_eq ng }
  refine codeAny_mono ((F _ kept (isNs gl)).goes (us := [.ref a]) (vs := [.ref a]) (E := fun _ _ _ => False) (Q := fun v _ => v = .bl true) rfl room start (bd s₁ (.ref a)) (.cons rfl .nil) want) fun r s' got => ?_
  match r, got with
  | .error e, got => exact got.elim
  | .ok (.ret u), ⟨v, H', os, bare, un, ok', rel, ev⟩ =>
    have ev' : v = .bl true := ev
    subst ev'
    obtain rfl : u = Value.bool true := rel
    refine ⟨rfl, OldK.of_keep fun b o e => ?_, os, bare⟩
    cases q : H b with
    | none => exact un.keep b o e q (by exact fun z => (List.not_mem_nil z).elim) (by exact fun z => (List.not_mem_nil z).elim)
    | some u =>
      obtain ⟨_, ob, xs, eu⟩ := frz b u q
      subst eu
      obtain ⟨y1, _⟩ := ok b _ q
      obtain ⟨y2, _⟩ := ok' b _ (un.frzs b ob _ q)
      rw [e] at y1
      cases y1
      exact y2
theorem callG {P : Program} {w : World} {K : PySem.W.Frag} {mg mb : Str → Option Value} {k : Nat} {fa a : Addr} {fd : FuncData} {x : Str} {sp : Sp} {s₁ : Shared} {vs : List Value} {ns : List Int}
    (inK : K.In s₁.heap) (gl : s₁.heap.Ns mainGlobals mg) (bt : s₁.heap.Ns builtinsNs mb) (boot : ∀ y : Str, y ≠ "__name__" → mb y = bootBuiltins y) (lim : s₁.heap.NoLimit) (ng : s₁.gens = #[])
    (at_ : s₁.heap.get? a = some { cls := .type "list", data := .seq vs.toArray }) (whole : IntsAre vs ns) (few : ns.length ≤ sizeLine) (room : Room k callerA)
    (F : ∀ base : Heap, K.In base → base.Ns mainGlobals mg → FnG P w K mg base k fa fd [x] sp) (bd : ∀ (s : Shared) (u : Value), BindsTo s fd ⟨[u], []⟩ [(x, u)])
    (want : ∀ H : Hp, Only H → SqL K H a (ns.map V.int) → sp [.ref a] H (fun v _ => v = .bl true) fun _ _ _ => False) : codeAny (model P w) callerA (.call (.ref fa) ⟨[.ref a], []⟩) (EndT s₁) s₁ := by
  have rv := vals_ints whole
  have many := whole.length
  cases hk : K.lookup a with
  | some o =>
    have e := inK a o hk
    rw [at_] at e
    cases e
    refine enter (H := fun _ => none) inK gl bt boot lim ng at_ room F bd (fun b u z => by cases z) (fun b u z => by cases z) (fun z => (z rfl).elim) (want _ (fun _ => .inl rfl) (.inr ⟨_, vs.toArray, _, hk, rfl, rfl, rfl, ?_, ?_⟩))
    · rw [List.size_toArray, many]
      exact few
    · rw [List.toList_toArray]
      exact rv
  | none =>
    refine enter (H := only1 a (.frz { cls := .type "list", data := .seq vs.toArray } (.lst (ns.map V.int)))) inK gl bt boot lim ng at_ room F bd (fun b u z => ⟨(only1_of z).1, _, _, (only1_of z).2⟩) (fun b u z => ?_) (fun _ => hk) (want _ (fun b => ?_) (.inl (.inr ⟨_, only1_at⟩)))
    · obtain ⟨rfl, rfl⟩ := only1_of z
      exact ⟨at_, by rw [List.length_map]; exact few, vs, _, rv, at_⟩
    · by_cases e : b = a
      · rw [e]
        exact .inr ⟨_, _, only1_at⟩
      · exact .inl (only1_no e)
theorem walk_ofG {l : PySem.W.OpenLaw} {n k : Nat} {q : Program} {loose : List Str} {XP : (Str → Option Value) → Heap → Prop} {YP : World → Heap → Prop} {d : DefRec} {K : Params → PySem.W.Frag} {sp : World → Sp} {x : Str}
    (hn : l.most = some n) (hn2 : n ≤ sizeLine) (hdf : d.params.defaults = []) (hr : Room k callerA)
    (hY : ∀ (w : World) (h : Heap), YP w h → (K w.params).In h)
    (F : ∀ (w : World) (mg : Str → Option Value) (fa : Addr) (h : Heap), (K w.params).In h → h.Ns mainGlobals mg → mg d.name = some (.ref fa) →
      ∃ fd : FuncData, (∀ (s : Shared) (u : Value), BindsTo s fd ⟨[u], []⟩ [(x, u)]) ∧ ∀ base : Heap, (K w.params).In base → base.Ns mainGlobals mg → FnG l.prog w (K w.params) mg base k fa fd [x] (sp w))
    (hsp : ∀ (w : World) (H : Hp) (a : Addr) (ns : List Int), ns.length ≤ n → Only H → SqL (K w.params) H a (ns.map V.int) → sp w [.ref a] H (fun v _ => v = .bl true) fun _ _ _ => False) :
    PySem.W.WalkO q loose XP YP l.row.toRowW d [] (fun f vs => PySem.call f vs) :=
  Att.attach_call hn hdf fun w s₀ s₁ mg mb fa o pm cd doc a vs ns G Y ho hd hcd hmg hobj hints hlen hg => by
    have KX := hY w _ Y
    obtain ⟨fd, bd, FF⟩ := F w mg fa _ KX G.T.g hmg
    exact callG KX G.T.g G.T.b G.T.builtins G.T.nolimit hg hobj hints (Nat.le_trans hlen hn2) hr FF bd fun H hO hS => hsp w H a ns hlen hO hS
/-- data whose repr is told: k deep, n things in it -/
structure Rp (k n : Nat) (d : PyData) : Prop where
  sh : d.showable = true
  nd : d.hasDict = false
  dp : d.depth ≤ k
  lf : d.leavesShort 64 = true
  bk : d.bulk ≤ n
theorem Rp.up {k k' n n' : Nat} {d : PyData} (h : Rp k n d) (hk : k ≤ k') (hn : n ≤ n') : Rp k' n' d := ⟨h.sh, h.nd, Nat.le_trans h.dp hk, h.lf, Nat.le_trans h.bk hn⟩
theorem Rp.non : Rp 0 0 .none := ⟨rfl, rfl, Nat.le_refl _, rfl, Nat.le_refl _⟩
theorem Rp.bl (b : Bool) : Rp 0 0 (.bool b) := ⟨rfl, rfl, Nat.le_refl _, rfl, Nat.le_refl _⟩
theorem Rp.int {i : Int} (h : i.natAbs < 10 ^ 60) : Rp 0 0 (.int i) := by
  refine ⟨?_, rfl, Nat.le_refl _, ?_, Nat.le_refl _⟩
  · simp only [PyData.showable]
    refine decide_eq_true ?_
    by_cases z : i.natAbs = 0
    · rw [z]
      decide
    · exact (Nat.log2_lt z).mpr (Nat.lt_of_lt_of_le h (Nat.le_trans (by decide : 10 ^ 60 ≤ 2 ^ 200) (Nat.pow_le_pow_right (by decide) (by decide))))
  · simp only [PyData.leavesShort]
    refine decide_eq_true ?_
    have e := int_text_length_le10 (a := i) (k := 60) (by decide) h
    have e2 : (PyData.shown (.int i)).length = (toString i).length := by
      show (Str.ofString (toString i)).length = _
      exact PySem.ofString_length _
    omega
theorem Rp.all {k n : Nat} : ∀ {ds : List PyData}, (∀ d ∈ ds, Rp k n d) → PyData.showableAll ds = true ∧ PyData.hasDictAll ds = false ∧ PyData.depthAll ds ≤ k ∧ PyData.leavesShortAll 64 ds = true ∧ PyData.bulkAll ds ≤ ds.length * (n + 1)
  | [], _ => ⟨by simp [PyData.showableAll], by simp [PyData.hasDictAll], by simp [PyData.depthAll], by simp [PyData.leavesShortAll], by simp [PyData.bulkAll]⟩
  | d :: ds, h => by
    obtain ⟨a1, a2, a3, a4, a5⟩ := Rp.all (ds := ds) fun x hx => h x (List.mem_cons_of_mem _ hx)
    have b := h d List.mem_cons_self
    refine ⟨?_, ?_, ?_, ?_, ?_⟩
    · simp only [PyData.showableAll, b.sh, a1, Bool.and_true]
    · simp only [PyData.hasDictAll, b.nd, a2, Bool.or_false]
    · simp only [PyData.depthAll]
      exact Nat.max_le.mpr ⟨b.dp, a3⟩
    · simp only [PyData.leavesShortAll, b.lf, a4, Bool.and_true]
    · simp only [PyData.bulkAll, List.length_cons]
      have := b.bk
      rw [Nat.add_mul]
      omega
theorem Rp.tup {k n m : Nat} {ds : List PyData} (h : ∀ d ∈ ds, Rp k n d) (hm : ds.length * (n + 1) ≤ m) : Rp (k + 1) m (.tuple ds) := by
  obtain ⟨a1, a2, a3, a4, a5⟩ := Rp.all h
  refine ⟨?_, ?_, ?_, ?_, ?_⟩
  · simpa only [PyData.showable] using a1
  · simpa only [PyData.hasDict] using a2
  · simp only [PyData.depth]
    omega
  · simpa only [PyData.leavesShort] using a4
  · simp only [PyData.bulk]
    omega
theorem Rp.lst {k n m : Nat} {ds : List PyData} (h : ∀ d ∈ ds, Rp k n d) (hm : ds.length * (n + 1) ≤ m) : Rp (k + 1) m (.list ds) := by
  obtain ⟨a1, a2, a3, a4, a5⟩ := Rp.all h
  refine ⟨?_, ?_, ?_, ?_, ?_⟩
  · simpa only [PyData.showable] using a1
  · simpa only [PyData.hasDict] using a2
  · simp only [PyData.depth]
    omega
  · simpa only [PyData.leavesShort] using a4
  · simp only [PyData.bulk]
    omega
theorem Rp.size {k n : Nat} {d : PyData} (h : Rp k n d) (hn : n ≤ 200000) : d.shown.length ≤ sizeLine := by
  have e := PyData.shown_le_bulk 64 (by decide) d h.lf
  have := h.bk
  rw [sizeLine_eq]
  omega
/-- repr(x), x data that the heap holds, a list or a tuple -/
def rReprD (K : PySem.W.Frag) : List V → Hp → VK → Prop := fun xs H Q => ∃ (a : Addr) (d : PyData) (k n : Nat), xs = [.ref a] ∧ Dp K H (.ref a) d ∧ Rp k n d ∧ k ≤ 40 ∧ n ≤ 200000 ∧ Q (.str d.shown) H
theorem call_reprD {X : Cx} (noG : X.A.guards = some []) (hu : X.A.units + 65 < cLine) : CallR X (.builtin "repr") (rReprD X.K) := by
  intro pins s σ H xs us Q I r h
  obtain ⟨a, d, k, n, rfl, hd, rp, hk, hn, q⟩ := h
  cases r with
  | cons r1 rr =>
    cases rr
    obtain ⟨as, rd⟩ := Dp.reads I d _ _ hd r1
    cases (show _ = Value.ref a from r1)
    have dp := rp.dp
    exact repr_of_reads' rd rp.sh (fun z => by rw [rp.nd] at z; cases z) noG (by omega) (fun _ _ e => e) (fun h' u tk keep => ⟨.str d.shown, H, I.kept keep, ⟨u, rfl⟩, q⟩) (rp.size hn)
end RG7

/-! ### data with dicts: repr of anything; the start of a law that knows where sys.modules stands -/
namespace RO9
open PySem PySem.Spec PyProof.Rows L2
def kD : Key → PyData
  | .inl i => .int i
  | .inr x => .str x
mutual
inductive Od (K : PySem.W.Frag) (H : Hp) : V → PyData → Prop
  | non : Od K H .non .none
  | bl (b : Bool) : Od K H (.bl b) (.bool b)
  | int (i : Int) : Od K H (.int i) (.int i)
  | str (x : Str) : Od K H (.str x) (.str x)
  | lst {a : Addr} {xs : List V} {ds : List PyData} : H a = some (.lst xs) → OdAll K H xs ds → Od K H (.ref a) (.list ds)
  | tup {a : Addr} {xs : List V} {ds : List PyData} : SqT K H a xs → OdAll K H xs ds → Od K H (.ref a) (.tuple ds)
  | dct {a : Addr} {kvs : List (Key × V)} {ds : List PyData} : H a = some (.dK kvs) → OdAll K H (kvs.map (·.2)) ds → Od K H (.ref a) (.dict ((kvs.map fun p => kD p.1).zip ds))
inductive OdAll (K : PySem.W.Frag) (H : Hp) : List V → List PyData → Prop
  | nil : OdAll K H [] []
  | cons {v : V} {vs : List V} {d : PyData} {ds : List PyData} : Od K H v d → OdAll K H vs ds → OdAll K H (v :: vs) (d :: ds)
end
/-- where sys.modules stands, there stands no list of the law's -/
def SysK (K : PySem.W.Frag) (H : Hp) : Prop := (∃ u, H sysModules = some u ∧ ∀ xs, u ≠ .lst xs) ∨ ∃ o, K.lookup sysModules = some o
theorem SysK.same {K : PySem.W.Frag} {H H' : Hp} (h : SysK K H) (s : Same H H') : SysK K H' := h.elim (fun ⟨u, e, n⟩ => .inl ⟨u, s _ _ e, n⟩) .inr
theorem SysK.nl {K : PySem.W.Frag} {H H' : Hp} (h : SysK K H) (s : ∀ b o, (∀ ys, o ≠ HO.lst ys) → H b = some o → H' b = some o) : SysK K H' := h.elim (fun ⟨u, e, n⟩ => .inl ⟨u, s _ _ n e, n⟩) .inr
theorem OdAll.len {K : PySem.W.Frag} {H : Hp} : ∀ {vs : List V} {ds : List PyData}, OdAll K H vs ds → vs.length = ds.length
  | [], _, h => by cases h; rfl
  | _ :: vs, _, h => by
    cases h with
    | cons _ t => rw [List.length_cons, List.length_cons, OdAll.len t]
theorem zip_fst {α β : Type} : ∀ (l : List α) (m : List β), l.length = m.length → (l.zip m).map (·.1) = l
  | [], [], _ => rfl
  | a :: l, b :: m, h => by
    rw [List.zip_cons_cons, List.map_cons, zip_fst l m (by simpa using h)]
  | [], _ :: _, h => by simp at h
  | _ :: _, [], h => by simp at h
theorem zip_snd {α β : Type} : ∀ (l : List α) (m : List β), l.length = m.length → (l.zip m).map (·.2) = m
  | [], [], _ => rfl
  | a :: l, b :: m, h => by
    rw [List.zip_cons_cons, List.map_cons, zip_snd l m (by simpa using h)]
  | [], _ :: _, h => by simp at h
  | _ :: _, [], h => by simp at h
section
variable {X : Cx} {pins : List (Addr × Obj)} {σ : L2.St} {H : Hp} {s : Shared}
theorem keys_read {h : Heap} : ∀ {es : List PySem.DictEntry} {vs : List (Key × Value)} {kvs : List (Key × V)}, PySem.Pairs (mixKind X.prog X.w) es vs → KV kvs vs → ∃ as, ReadsAll h (es.map (·.key)) (kvs.map fun p => kD p.1) as ∧ sysModules ∉ as ∧ Vals (kvs.map (·.2)) (es.map (·.val))
  | _, _, _, .nil, .nil => ⟨[], .nil, by simp, .nil⟩
  | e :: es, kv :: vs, p :: kvs, .cons hk hv t, .cons r rt => by
    obtain ⟨as, h1, h2, h3⟩ := keys_read (h := h) t rt
    have hk' : keyIs kv.1 e.key = true := hk
    rw [← r.1] at hk'
    obtain ⟨k, v⟩ := p
    have rv : RelV v e.val := by rw [hv]; exact r.2
    rcases keyIs_shape hk' with ⟨i, t, rfl, e2⟩ | ⟨x, t, rfl, e2⟩
    · refine ⟨[] ++ as, ?_, by simpa using h2, ?_⟩
      · rw [List.map_cons, List.map_cons, e2]
        exact .cons (.int i t) h1
      · rw [List.map_cons, List.map_cons]
        exact .cons rv h3
    · refine ⟨[] ++ as, ?_, by simpa using h2, ?_⟩
      · rw [List.map_cons, List.map_cons, e2]
        exact .cons (.str x t) h1
      · rw [List.map_cons, List.map_cons]
        exact .cons rv h3
theorem od_reads (I : Inv X pins σ H s) (hS : SysK X.K H) {v : V} {d : PyData} (h : Od X.K H v d) : ∀ u, RelV v u → ∃ as, Reads s.heap u d as ∧ sysModules ∉ as := by
  refine Od.rec (motive_1 := fun v d _ => ∀ u, RelV v u → ∃ as, Reads s.heap u d as ∧ sysModules ∉ as) (motive_2 := fun vs ds _ => ∀ us, Vals vs us → ∃ as, ReadsAll s.heap us ds as ∧ sysModules ∉ as) ?_ ?_ ?_ ?_ ?_ ?_ ?_ ?_ ?_ h
  · intro u r
    cases r
    exact ⟨_, Reads.none, by simp⟩
  · intro b u r
    cases r
    exact ⟨_, Reads.bool b, by simp⟩
  · intro i u r
    obtain ⟨t, rfl⟩ := r
    exact ⟨_, Reads.int i t, by simp⟩
  · intro x u r
    obtain ⟨t, rfl⟩ := r
    exact ⟨_, Reads.str x t, by simp⟩
  · intro a xs ds e _ ih u r
    cases r
    obtain ⟨its, rv, ⟨o, n, ho, hc, _, hd⟩, _⟩ := I.list (SqL.of e)
    obtain ⟨as, hr, hn⟩ := ih its rv
    refine ⟨_, Reads.list ho hc hd hr, fun z => ?_⟩
    rcases List.mem_cons.mp z with z | z
    · rw [← z] at e
      rcases hS with ⟨u, eS, nS⟩ | ⟨o, eS⟩
      · rw [eS] at e
        exact nS _ (Option.some.inj e)
      · rw [(I.env0.bs _ _ (I.env0.mod.kin _ _ eS)).2] at e
        cases e
    · exact hn z
  · intro a xs ds e _ ih u r
    cases r
    obtain ⟨its, rv, ⟨o, ho, hc, n, hd⟩, _⟩ := I.tuple e
    obtain ⟨as, hr, hn⟩ := ih its rv
    exact ⟨_, Reads.tuple ho hc hd hr, hn⟩
  · intro a kvs ds e ha ih u r
    cases r
    obtain ⟨_, hm, vs, rel, o, es, ep, ho, hx, hd, _, pr, _⟩ := dk_of I.hok e
    obtain ⟨as, k1, k2, k3⟩ := keys_read (h := s.heap) pr rel
    obtain ⟨bs, v1, v2⟩ := ih _ k3
    have hl : (kvs.map fun p => kD p.1).length = ds.length := by
      rw [List.length_map, ← ha.len, List.length_map]
    refine ⟨_, Reads.dict ho hx.1 hd (by rw [zip_fst _ _ hl]; exact k1) (by rw [zip_snd _ _ hl]; exact v1), fun z => ?_⟩
    rcases List.mem_append.mp z with z | z
    · rcases List.mem_cons.mp z with z | z
      · rw [← z] at hm
        simp at hm
      · exact k2 z
    · exact v2 z
  · intro us r
    cases r
    exact ⟨_, ReadsAll.nil, by simp⟩
  · intro v vs d ds _ _ ih1 ih2 us r
    cases r with
    | cons r1 r2 =>
      obtain ⟨as, q1, n1⟩ := ih1 _ r1
      obtain ⟨bs, q2, n2⟩ := ih2 _ r2
      refine ⟨_, ReadsAll.cons q1 q2, fun z => ?_⟩
      rcases List.mem_append.mp z with z | z
      · exact n1 z
      · exact n2 z
end
/-- data whose repr is told, with dicts: k deep, n things in it -/
structure Ro (k n : Nat) (d : PyData) : Prop where
  sh : d.showable = true
  dp : d.depth ≤ k
  lf : d.leavesShort 64 = true
  bk : d.bulk ≤ n
theorem Ro.of {k n : Nat} {d : PyData} (h : RG7.Rp k n d) : Ro k n d := ⟨h.sh, h.dp, h.lf, h.bk⟩
theorem Ro.size {k n : Nat} {d : PyData} (h : Ro k n d) (hn : n ≤ 200000) : d.shown.length ≤ sizeLine := by
  have e := PyData.shown_le_bulk 64 (by decide) d h.lf
  have := h.bk
  rw [show (sizeLine : Nat) = 16777216 by decide]
  omega
/-- repr(x), x any data that the heap holds -/
def rReprO (K : PySem.W.Frag) : List V → Hp → VK → Prop := fun xs H Q => ∃ (a : Addr) (d : PyData) (k n : Nat), xs = [.ref a] ∧ SysK K H ∧ Od K H (.ref a) d ∧ Ro k n d ∧ k ≤ 40 ∧ n ≤ 200000 ∧ Q (.str d.shown) H
theorem call_reprO {X : Cx} (noG : X.A.guards = some []) (hu : X.A.units + 65 < cLine) : CallR X (.builtin "repr") (rReprO X.K) := by
  intro pins s σ H xs us Q I r h
  obtain ⟨a, d, k, n, rfl, hS, hd, rp, hk, hn, q⟩ := h
  cases r with
  | cons r1 rr =>
    cases rr
    cases (show _ = Value.ref a from r1)
    obtain ⟨as, rd, nm⟩ := od_reads I hS hd _ rfl
    have dp := rp.dp
    exact repr_of_reads' rd rp.sh (fun _ => nm) noG (by omega) (fun _ _ e => e) (fun h' u tk keep => ⟨.str d.shown, H, I.kept keep, ⟨u, rfl⟩, q⟩) (rp.size hn)
/-- what is told at a law's start: the script, and where sys.modules stands -/
def first (a : Addr) (u : Option HO) (v : Option HO) : Hp := fun b => if b = a then u else if b = sysModules then v else none
theorem first_of {a b : Addr} {u v : Option HO} {o : HO} (h : first a u v b = some o) : (b = a ∧ u = some o) ∨ (b ≠ a ∧ b = sysModules ∧ v = some o) := by
  unfold first at h
  by_cases e : b = a
  · rw [if_pos e] at h
    exact .inl ⟨e, h⟩
  · rw [if_neg e] at h
    by_cases e2 : b = sysModules
    · rw [if_pos e2] at h
      exact .inr ⟨e, e2, h⟩
    · rw [if_neg e2] at h
      cases h
/-- what may be told at the start: the script, frozen; an object that is known -/
def Start1 (a : Addr) (b : Addr) (u : HO) : Prop := (b = a ∧ ∃ o xs, u = .frz o (.lst xs)) ∨ (b = sysModules ∧ ∃ (o : Obj) (v : HO), u = .frz o v)
theorem enterS {P : Program} {w : World} {K : PySem.W.Frag} {mg mb : Str → Option Value} {k : Nat} {fa a : Addr} {fd : FuncData} {x : Str} {sp : Sp} {s₁ : Shared} {vs : List Value} {H : Hp}
    (inK : K.In s₁.heap) (gl : s₁.heap.Ns mainGlobals mg) (bt : s₁.heap.Ns builtinsNs mb) (boot : ∀ y : Str, y ≠ "__name__" → mb y = bootBuiltins y) (lim : s₁.heap.NoLimit) (ng : s₁.gens = #[])
    (at_ : s₁.heap.get? a = some { cls := .type "list", data := .seq vs.toArray }) (room : Room k callerA)
    (F : ∀ base : Heap, K.In base → base.Ns mainGlobals mg → RG7.FnG P w K mg base k fa fd [x] sp) (bd : ∀ (s : Shared) (u : Value), BindsTo s fd ⟨[u], []⟩ [(x, u)])
    (frz : ∀ b u, H b = some u → Start1 a b u) (ok : HOk P w H s₁.heap) (own : H a ≠ none → K.lookup a = none) (ownS : H sysModules ≠ none → K.lookup sysModules = none)
    (want : sp [.ref a] H (fun v _ => v = .bl true) fun _ _ _ => False) : codeAny (model P w) callerA (.call (.ref fa) ⟨[.ref a], []⟩) (RG7.EndT s₁) s₁ := by
  have told : ∀ {b o}, s₁.heap.get? b = some o → (b ≠ sysModules ∧ ∀ xs n, o.data = .seq xs n → False) ∨ H b = none → (hidT s₁.heap H).get? b = some o := fun {b o} e h => hidT_get e (by
    rcases h with ⟨h1, h⟩ | h
    · cases q : H b with
      | none => rfl
      | some u =>
        rcases frz b u q with ⟨ea, _⟩ | ⟨eb, _⟩
        · subst ea
          rw [at_] at e
          cases e
          exact (h _ _ rfl).elim
        · exact (h1 eb).elim
    · exact h)
  have isNs : ∀ {b : Addr} {m : Str → Option Value}, b ≠ sysModules → s₁.heap.Ns b m → (hidT s₁.heap H).Ns b m := by
    rintro b m hb ⟨o, es, ep, e, d, r⟩
    exact ⟨o, es, ep, told e (.inl ⟨hb, fun xs n z => by rw [d] at z; cases z⟩), d, r⟩
  have kept : K.In (hidT s₁.heap H) := fun b o e => told (inK b o e) (.inr (by
    cases q : H b with
    | none => rfl
    | some u =>
      rcases frz b u q with ⟨ea, _⟩ | ⟨eb, _⟩
      · subst ea
        rw [own (by rw [q]; exact fun z => by cases z)] at e
        cases e
      · subst eb
        rw [ownS (by rw [q]; exact fun z => by cases z)] at e
        cases e))
  obtain ⟨mc, lim1, lim2⟩ := lim
  have start : Env0 P w K mg (hidT s₁.heap H) callerA [] s₁ H :=
    { frames := rfl, mod := ⟨kept, isNs (by decide) gl, ⟨mb, isNs (by decide) bt, boot⟩, ⟨mc, isNs (by decide) lim1, lim2⟩⟩, bs := fun b o e => of_hidT e, bsz := Nat.le_of_eq (hidT_size _ _), funs := trivial, frf := fun b hb => (List.not_mem_nil hb).elim, hok := ok, bare := .of_eq ng }
  refine codeAny_mono ((F _ kept (isNs (by decide) gl)).goes (us := [.ref a]) (vs := [.ref a]) (E := fun _ _ _ => False) (Q := fun v _ => v = .bl true) rfl room start (bd s₁ (.ref a)) (.cons rfl .nil) want) fun r s' got => ?_
  match r, got with
  | .error e, got => exact got.elim
  | .ok (.ret u), ⟨v, H', os, bare, un, ok', rel, ev⟩ =>
    have ev' : v = .bl true := ev
    subst ev'
    obtain rfl : u = Value.bool true := rel
    refine ⟨rfl, OldK.of_keep fun b o e => ?_, os, bare⟩
    cases q : H b with
    | none => exact un.keep b o e q (by exact fun z => (List.not_mem_nil z).elim) (by exact fun z => (List.not_mem_nil z).elim)
    | some u =>
      rcases frz b u q with ⟨_, ob, xs, eu⟩ | ⟨eb, ob, v, eu⟩
      · subst eu
        obtain ⟨y1, _⟩ := ok b _ q
        obtain ⟨y2, _⟩ := ok' b _ (un.frzs b ob _ q)
        rw [e] at y1
        cases y1
        exact y2
      · subst eu
        obtain ⟨y1, _⟩ := ok b _ q
        obtain ⟨y2, _⟩ := ok' b _ (un.frzs b ob _ q)
        rw [e] at y1
        cases y1
        exact y2
theorem callS {P : Program} {w : World} {K : PySem.W.Frag} {mg mb : Str → Option Value} {k : Nat} {fa a : Addr} {fd : FuncData} {x : Str} {sp : Sp} {s₁ : Shared} {vs : List Value} {ns : List Int}
    (inK : K.In s₁.heap) (gl : s₁.heap.Ns mainGlobals mg) (bt : s₁.heap.Ns builtinsNs mb) (boot : ∀ y : Str, y ≠ "__name__" → mb y = bootBuiltins y) (lim : s₁.heap.NoLimit) (ng : s₁.gens = #[])
    (at_ : s₁.heap.get? a = some { cls := .type "list", data := .seq vs.toArray }) (whole : IntsAre vs ns) (few : ns.length ≤ sizeLine) (room : Room k callerA) (hos : ∃ os, s₁.heap.get? sysModules = some os)
    (F : ∀ base : Heap, K.In base → base.Ns mainGlobals mg → RG7.FnG P w K mg base k fa fd [x] sp) (bd : ∀ (s : Shared) (u : Value), BindsTo s fd ⟨[u], []⟩ [(x, u)])
    (want : ∀ H : Hp, SysK K H → SqL K H a (ns.map V.int) → sp [.ref a] H (fun v _ => v = .bl true) fun _ _ _ => False) : codeAny (model P w) callerA (.call (.ref fa) ⟨[.ref a], []⟩) (RG7.EndT s₁) s₁ := by
  have rv := vals_ints whole
  have many := whole.length
  obtain ⟨os, hos⟩ := hos
  -- what is told of either
  obtain ⟨uA, hA⟩ : ∃ uA : Option HO, uA = if K.lookup a = none then some (.frz { cls := .type "list", data := .seq vs.toArray } (.lst (ns.map V.int))) else none := ⟨_, rfl⟩
  obtain ⟨uS, hS⟩ : ∃ uS : Option HO, uS = if K.lookup sysModules = none then some (.frz os (.ext fun _ => True)) else none := ⟨_, rfl⟩
  have cA : ∀ u, uA = some u → K.lookup a = none ∧ u = .frz { cls := .type "list", data := .seq vs.toArray } (.lst (ns.map V.int)) := fun u e => by
    rw [hA] at e
    by_cases c : K.lookup a = none
    · rw [if_pos c] at e
      exact ⟨c, (Option.some.inj e).symm⟩
    · rw [if_neg c] at e
      cases e
  have cS : ∀ u, uS = some u → K.lookup sysModules = none ∧ u = .frz os (.ext fun _ => True) := fun u e => by
    rw [hS] at e
    by_cases c : K.lookup sysModules = none
    · rw [if_pos c] at e
      exact ⟨c, (Option.some.inj e).symm⟩
    · rw [if_neg c] at e
      cases e
  refine enterS (H := first a uA uS) inK gl bt boot lim ng at_ room F bd (fun b u z => ?_) (fun b u z => ?_) (fun z => ?_) (fun z => ?_) (want _ ?_ ?_)
  · rcases first_of z with ⟨e, h⟩ | ⟨_, e, h⟩
    · exact .inl ⟨e, _, _, (cA u h).2⟩
    · exact .inr ⟨e, _, _, (cS u h).2⟩
  · rcases first_of z with ⟨e, h⟩ | ⟨_, e, h⟩
    · obtain ⟨_, rfl⟩ := cA u h
      subst e
      exact ⟨at_, by rw [List.length_map]; exact few, vs, _, rv, at_⟩
    · obtain ⟨_, rfl⟩ := cS u h
      subst e
      exact ⟨hos, trivial, ⟨_, hos⟩, fun _ _ _ _ => trivial⟩
  · cases q : first a uA uS a with
    | none => exact (z q).elim
    | some u =>
      rcases first_of q with ⟨_, h⟩ | ⟨n, _⟩
      · exact (cA u h).1
      · exact (n rfl).elim
  · cases q : first a uA uS sysModules with
    | none => exact (z q).elim
    | some u =>
      rcases first_of q with ⟨e, h⟩ | ⟨_, _, h⟩
      · rw [e]
        exact (cA u h).1
      · exact (cS u h).1
  · cases hk : K.lookup sysModules with
    | some o => exact .inr ⟨o, hk⟩
    | none =>
      refine .inl ?_
      by_cases e : sysModules = a
      · refine ⟨.frz { cls := .type "list", data := .seq vs.toArray } (.lst (ns.map V.int)), ?_, fun _ z => by cases z⟩
        unfold first
        rw [if_pos e, hA, ← e, if_pos hk]
      · refine ⟨.frz os (.ext fun _ => True), ?_, fun _ z => by cases z⟩
        unfold first
        rw [if_neg e, if_pos rfl, hS, if_pos hk]
  · cases hk : K.lookup a with
    | some o =>
      have e := inK a o hk
      rw [at_] at e
      cases e
      refine .inr ⟨_, vs.toArray, _, hk, rfl, rfl, rfl, ?_, ?_⟩
      · rw [List.size_toArray, many]
        exact few
      · rw [List.toList_toArray]
        exact rv
    | none =>
      refine .inl (.inr ⟨{ cls := .type "list", data := .seq vs.toArray }, ?_⟩)
      unfold first
      rw [if_pos rfl, hA, if_pos hk]
theorem walk_ofS {l : PySem.W.OpenLaw} {n k : Nat} {q : Program} {loose : List Str} {XP : (Str → Option Value) → Heap → Prop} {YP : World → Heap → Prop} {d : DefRec} {K : Params → PySem.W.Frag} {sp : World → Sp} {x : Str}
    (hn : l.most = some n) (hn2 : n ≤ sizeLine) (hdf : d.params.defaults = []) (hr : Room k callerA) (hq : importsNone q = true)
    (hY : ∀ (w : World) (h : Heap), YP w h → (K w.params).In h)
    (F : ∀ (w : World) (mg : Str → Option Value) (fa : Addr) (h : Heap), (K w.params).In h → h.Ns mainGlobals mg → mg d.name = some (.ref fa) →
      ∃ fd : FuncData, (∀ (s : Shared) (u : Value), BindsTo s fd ⟨[u], []⟩ [(x, u)]) ∧ ∀ base : Heap, (K w.params).In base → base.Ns mainGlobals mg → RG7.FnG l.prog w (K w.params) mg base k fa fd [x] (sp w))
    (hsp : ∀ (w : World) (H : Hp) (a : Addr) (ns : List Int), ns.length ≤ n → SysK (K w.params) H → SqL (K w.params) H a (ns.map V.int) → sp w [.ref a] H (fun v _ => v = .bl true) fun _ _ _ => False) :
    PySem.W.WalkO q loose XP YP l.row.toRowW d [] (fun f vs => PySem.call f vs) :=
  Att.attach_call hn hdf fun w s₀ s₁ mg mb fa o pm cd doc a vs ns G Y ho hd hcd hmg hobj hints hlen hg => by
    have KX := hY w _ Y
    obtain ⟨fd, bd, FF⟩ := F w mg fa _ KX G.T.g hmg
    exact callS KX G.T.g G.T.b G.T.builtins G.T.nolimit hg hobj hints (Nat.le_trans hlen hn2) hr (by
      obtain ⟨mm, ⟨o, _, _, e, _⟩, _⟩ := (G.T.seer hq).mods
      exact ⟨o, e⟩) FF bd fun H hO hS => hsp w H a ns hlen hO hS
/-! ### what kind of thing it is -/
def tyD : PyData → String
  | .none => "NoneType"
  | .bool _ => "bool"
  | .int _ => "int"
  | .str _ => "str"
  | .list _ => "list"
  | .tuple _ => "tuple"
  | .dict _ => "dict"
theorem tyTup' {K : PySem.W.Frag} {H : Hp} {a : Addr} {xs : List V} (h : SqT K H a xs) : TyX K H (.ref a) (.type "tuple") := by
  rcases h with (h | ⟨o, h⟩) | h
  · exact .base (.tup h)
  · exact .fTuple h
  · obtain ⟨o, n, vs, e, c, _⟩ := h
    exact .kTuple e c
theorem Od.ty {K : PySem.W.Frag} {H : Hp} {v : V} {d : PyData} (h : Od K H v d) : TyX K H v (.type (tyD d)) := by
  cases h with
  | non => exact .base .non
  | bl b => exact .base (.bl b)
  | int i => exact .base (.int i)
  | str x => exact .base (.str x)
  | lst e _ => exact .base (.lst e)
  | tup e _ => exact tyTup' e
  | dct e _ => exact .base (.dK e)
theorem kit_tuple {K : PySem.W.Frag} (d : PyData) : PySem.W.kitOne K (.type (tyD d)) (.type "tuple") = some (match d with | .tuple _ => true | _ => false) := by
  cases d with
  | none => exact kit_ty (show kitB "NoneType" "tuple" = some false by decide +kernel)
  | bool _ => exact kit_ty (show kitB "bool" "tuple" = some false by decide +kernel)
  | int _ => exact kit_ty (show kitB "int" "tuple" = some false by decide +kernel)
  | str _ => exact kit_ty (show kitB "str" "tuple" = some false by decide +kernel)
  | list _ => exact kit_ty (show kitB "list" "tuple" = some false by decide +kernel)
  | tuple _ => exact kit_ty (show kitB "tuple" "tuple" = some true by decide +kernel)
  | dict _ => exact kit_ty (show kitB "dict" "tuple" = some false by decide +kernel)
theorem kit_int {K : PySem.W.Frag} (d : PyData) : PySem.W.kitOne K (.type (tyD d)) (.type "int") = some (match d with | .int _ => true | .bool _ => true | _ => false) := by
  cases d with
  | none => exact kit_ty (show kitB "NoneType" "int" = some false by decide +kernel)
  | bool _ => exact kit_ty (show kitB "bool" "int" = some true by decide +kernel)
  | int _ => exact kit_ty (show kitB "int" "int" = some true by decide +kernel)
  | str _ => exact kit_ty (show kitB "str" "int" = some false by decide +kernel)
  | list _ => exact kit_ty (show kitB "list" "int" = some false by decide +kernel)
  | tuple _ => exact kit_ty (show kitB "tuple" "int" = some false by decide +kernel)
  | dict _ => exact kit_ty (show kitB "dict" "int" = some false by decide +kernel)
theorem kit_bool {K : PySem.W.Frag} (d : PyData) : PySem.W.kitOne K (.type (tyD d)) (.type "bool") = some (match d with | .bool _ => true | _ => false) := by
  cases d with
  | none => exact kit_ty (show kitB "NoneType" "bool" = some false by decide +kernel)
  | bool _ => exact kit_ty (show kitB "bool" "bool" = some true by decide +kernel)
  | int _ => exact kit_ty (show kitB "int" "bool" = some false by decide +kernel)
  | str _ => exact kit_ty (show kitB "str" "bool" = some false by decide +kernel)
  | list _ => exact kit_ty (show kitB "list" "bool" = some false by decide +kernel)
  | tuple _ => exact kit_ty (show kitB "tuple" "bool" = some false by decide +kernel)
  | dict _ => exact kit_ty (show kitB "dict" "bool" = some false by decide +kernel)
/-- all but what may change stays: data stay data -/
theorem Od.mono {K : PySem.W.Frag} {H H' : Hp} {v : V} {d : PyData} (h : Od K H v d) (s : ∀ b o, H b = some o → H' b = some o) : Od K H' v d := by
  refine Od.rec (motive_1 := fun v d _ => Od K H' v d) (motive_2 := fun vs ds _ => OdAll K H' vs ds) ?_ ?_ ?_ ?_ ?_ ?_ ?_ ?_ ?_ h
  · exact .non
  · exact fun b => .bl b
  · exact fun i => .int i
  · exact fun x => .str x
  · exact fun e _ ih => .lst (s _ _ e) ih
  · exact fun e _ ih => .tup (e.elim (fun h => .inl (h.elim (fun h => .inl (s _ _ h)) fun ⟨o, h⟩ => .inr ⟨o, s _ _ h⟩)) .inr) ih
  · exact fun e _ ih => .dct (s _ _ e) ih
  · exact .nil
  · exact fun _ _ a b => .cons a b
theorem OdAll.get {K : PySem.W.Frag} {H : Hp} : ∀ {vs : List V} {ds : List PyData}, OdAll K H vs ds → ∀ {i : Nat} {v : V}, vs[i]? = some v → ∃ d, ds[i]? = some d ∧ Od K H v d
  | [], _, h, i, v, hv => by simp at hv
  | x :: vs, _, h, i, v, hv => by
    cases h with
    | cons a t =>
      cases i with
      | zero =>
        simp at hv
        subst hv
        exact ⟨_, rfl, a⟩
      | succ i =>
        simp only [List.getElem?_cons_succ] at hv ⊢
        exact OdAll.get t hv
/-- a whole number within bounds -/
def numD (lo hi : Int) : PyData → Bool
  | .int i => decide (lo ≤ i) && decide (i ≤ hi)
  | _ => false
def isI : PyData → Bool
  | .int _ => true
  | _ => false
/-! ### an instance made where the making may raise -/
section
variable {X : Cx} {CX : CXT} {k : Nat} {f C : Addr} {fd : FuncData} {ps : List Str} {sp : Sp} {E : L2.St → XK} {x : Str} {p pos : Pos} {e : Expr} {es : List Expr} {t : TA}
def tMakeS (C : Addr) (sp : Sp) (E : L2.St → XK) (t : TA) : TE := fun σ H Q => t σ H fun vs H1 => ∀ x dx, H1 x = none → H1 dx = none → dx ≠ x → sp (.ref x :: vs) (upd (upd H1 dx (.own x)) x (.ins C dx [])) (fun v H2 => v = .non ∧ Q (.ref x) H2) (E σ)
theorem run_makeS {pins : List (Addr × Obj)} {σ : L2.St} {H : Hp} {s : Shared} {Q : VK} {us : List Value} {vs : List V} (M : Mk X.K C f) (F : FnOk X.prog X.w X.K X.mg X.base CX k f fd ps sp) (hr : Room (k + 1) X.A) (hb : Binds X.K fd ps [])
    (hx : PassesAt CX X σ (E σ)) (I : Inv X pins σ H s) (r : Vals vs us)
    (h : ∀ x dx, H x = none → H dx = none → dx ≠ x → sp (.ref x :: vs) (upd (upd H dx (.own x)) x (.ins C dx [])) (fun v H2 => v = .non ∧ Q (.ref x) H2) (E σ)) :
    wpAny (model X.prog X.w) X.A (call (.ref C) us) (EP X pins σ Q) X.xe s := by
  have hq := h (s.heap.objs.size + 1) s.heap.objs.size (I.hok.fresh (Nat.le_succ _)) (I.hok.fresh (Nat.le_refl _)) (Nat.ne_of_lt (Nat.lt_succ_self _))
  have I2 := Inv.made (C := C) I
  have r2 : Vals (V.ref (s.heap.objs.size + 1) :: vs) (Value.ref (s.heap.objs.size + 1) :: us) := .cons rfl r
  have hl : (Value.ref (s.heap.objs.size + 1) :: us ++ []).length = ps.length := by
    have e := r2.length
    rw [F.len _ _ _ _ hq] at e
    rw [List.append_nil]
    exact e.symm
  have hbb := hb _ (Value.ref (s.heap.objs.size + 1) :: us) I2.kIn hl
  rw [List.append_nil] at hbb
  refine wpAny_call (make_map (f := f) I.kIn M.makes M.init (beq_iff_eq.mp M.fn) (codeAny_mono (F.run _ X.stack _ _ ⟨Value.ref (s.heap.objs.size + 1) :: us, []⟩ (Value.ref (s.heap.objs.size + 1) :: us) _ _ (E σ) (hr.make C us [])
    (I2.env0.make C us []) hbb r2 hq) fun r s' hq' => ?_))
  cases r with
  | error e => exact hx pins _ _ e s' I2 hq'
  | ok fl =>
    cases fl with
    | ret u =>
      obtain ⟨v, H', I3, rv, ev, q3⟩ := I2.after hq'
      subst ev
      exact ⟨rv, ⟨V.ref (s.heap.objs.size + 1), H', I3, rfl, q3⟩⟩
    | next => exact False.elim hq'
    | brk => exact False.elim hq'
    | cont => exact False.elim hq'
theorem pe_makeS (M : Mk X.K C f) (F : FnOk X.prog X.w X.K X.mg X.base CX k f fd ps sp) (hr : Room (k + 1) X.A) (hg : Gl X x) (hm : X.mg x = some (.ref C)) (hb : Binds X.K fd ps []) (hx : ∀ σ, PassesAt CX X σ (E σ))
    (ha : PA X (e :: es) t) (hdb : (x == ("__debug__" : Str)) = false := by decide) (he : starEach (e :: es) X.env = (false, eval e X.env) :: starEach es X.env := by rfl) (hpl : (backTo pos (starEach es X.env)).any (·.1) = false := by rfl) :
    PE X (.Call (.Name x p) (e :: es) [] pos) (tMakeS C sp E t) := by
  refine ⟨fun pins s σ H Q I h => ?_⟩
  refine wpAny_Call_Name_kw (ld_glob I hg hm ?_ hdb)
  refine PySem.W.callWith_K (h₀ := X.base) I.ok.mod.kin M.kp (thn (ha.run pos pins s σ H _ I h) fun us s1 ⟨vs, H1, I1, r, q⟩ => ⟨I1.kIn, ?_⟩) he hpl
  exact run_makeS M F hr hb (hx σ) I1 r q
end
/-- isinstance(e, c), e the caught exception, its fields in the dict at d -/
def rIsED (K : PySem.W.Frag) (D : Addr) (cls : Value) (d : Option Addr) (a : Addr) : List V → Hp → VK → Prop := fun xs H Q => ∃ (c : V) (cv : Value) (b : Bool) (dd : Addr) (fs : List (Str × V)), xs = [.ref a, c] ∧ cls = .ref D ∧ d = some dd ∧ H dd = some (.xd fs) ∧ ClsV c cv ∧ PySem.W.kitOne K (.ref D) cv = some b ∧ Q (.bl b) H
theorem call_isED {X : Cx} {a D : Addr} {oe : Obj} {cls : Value} {d : Option Addr} {pn : List (Addr × Obj)} (C : ExcC X.K D) (hz : Zc cls d oe) (hf : ∃ vs, oe.data = .fields vs) : CallR (X.suite a ((a, oe) :: pn)) (.builtin "isinstance") (rIsED X.K D cls d a) := by
  intro pins s σ H xs us Q I r h
  obtain ⟨c, cv, b, dd, fs, rfl, ec, ed, ea, hcv, e, q⟩ := h
  subst ec
  subst ed
  cases r with
  | cons rx rr =>
    cases rr with
    | cons rt rr =>
      cases rr
      cases rx
      have e2 := hcv.eq rt
      subst e2
      obtain ⟨hget, _⟩ := I.pin (a, oe) (List.mem_append.mpr (.inl List.mem_cons_self))
      obtain ⟨vs, hv⟩ := hf
      have hx : ObjOk X.prog X.w H s.heap dd (.xd fs) := I.hok dd _ ea
      obtain ⟨mA, hns, hr⟩ := hx
      obtain ⟨od, ho, hl⟩ := lookIn_ns hns
      obtain ⟨cd, hcD, _⟩ := PySem.W.any_some C.hd
      have J : PySem.W.InstAt s.heap a oe D (some od) := ⟨hget, hz.1, by unfold PySem.W.notCls; rw [hv] <;> rfl, by rw [hz.2]; exact ho⟩
      exact PySem.W.kia_one (PySem.W.kitx_exc (by rw [hcD]; rfl) C.hg C.hk C.hs C.ha C.hn C.ht C.hm) I.kIn J e (fun z => nomatch z) fun tk => ⟨.bl b, H, I.tok tk, rfl, q⟩
/-- a field where the frame is named (within a try) -/
theorem pe_fldK {X : Cx} {K : PySem.W.Frag} {e : Expr} {f : Str} {ta : TE} {pos : Pos} (h : X.K = K) (he : PE X e ta) (hb : attributeBase e f X.env (eval e X.env) = eval e X.env) : PE X (.Attribute e f pos) (tFld K ta f) := h ▸ pe_fld he hb
end RO9

/-! ### things of any kind: bounds of their repr, data without dicts -/
namespace RO9
open PySem PySem.Spec PyProof.Rows L2
def roB (k n : Nat) (d : PyData) : Bool := d.showable && decide (d.depth ≤ k) && d.leavesShort 64 && decide (d.bulk ≤ n)
theorem roOf {k n : Nat} {d : PyData} (h : roB k n d = true) : Ro k n d := by
  unfold roB at h
  simp only [Bool.and_eq_true, decide_eq_true_eq] at h
  exact ⟨h.1.1.1, h.1.1.2, h.1.2, h.2⟩
theorem Ro.up {k k' n n' : Nat} {d : PyData} (h : Ro k n d) (hk : k ≤ k') (hn : n ≤ n') : Ro k' n' d := ⟨h.sh, Nat.le_trans h.dp hk, h.lf, Nat.le_trans h.bk hn⟩
theorem Ro.all {k n : Nat} : ∀ {ds : List PyData}, (∀ d ∈ ds, Ro k n d) → PyData.showableAll ds = true ∧ PyData.depthAll ds ≤ k ∧ PyData.leavesShortAll 64 ds = true ∧ PyData.bulkAll ds ≤ ds.length * (n + 1)
  | [], _ => ⟨by simp [PyData.showableAll], by simp [PyData.depthAll], by simp [PyData.leavesShortAll], by simp [PyData.bulkAll]⟩
  | d :: ds, h => by
    obtain ⟨a1, a3, a4, a5⟩ := Ro.all (ds := ds) fun x hx => h x (List.mem_cons_of_mem _ hx)
    have b := h d List.mem_cons_self
    refine ⟨?_, ?_, ?_, ?_⟩
    · simp only [PyData.showableAll, b.sh, a1, Bool.and_true]
    · simp only [PyData.depthAll]
      exact Nat.max_le.mpr ⟨b.dp, a3⟩
    · simp only [PyData.leavesShortAll, b.lf, a4, Bool.and_true]
    · simp only [PyData.bulkAll, List.length_cons]
      have := b.bk
      rw [Nat.add_mul]
      omega
theorem Ro.tup {k n m : Nat} {ds : List PyData} (h : ∀ d ∈ ds, Ro k n d) (hm : ds.length * (n + 1) ≤ m) : Ro (k + 1) m (.tuple ds) := by
  obtain ⟨a1, a3, a4, a5⟩ := Ro.all h
  refine ⟨?_, ?_, ?_, ?_⟩
  · simpa only [PyData.showable] using a1
  · simp only [PyData.depth]
    omega
  · simpa only [PyData.leavesShort] using a4
  · simp only [PyData.bulk]
    omega
theorem Ro.lst {k n m : Nat} {ds : List PyData} (h : ∀ d ∈ ds, Ro k n d) (hm : ds.length * (n + 1) ≤ m) : Ro (k + 1) m (.list ds) := by
  obtain ⟨a1, a3, a4, a5⟩ := Ro.all h
  refine ⟨?_, ?_, ?_, ?_⟩
  · simpa only [PyData.showable] using a1
  · simp only [PyData.depth]
    omega
  · simpa only [PyData.leavesShort] using a4
  · simp only [PyData.bulk]
    omega
theorem Ro.pair {k n m q : Nat} {a b : PyData} (ha : Ro k n a) (hb : Ro k m b) (hq : n + m + 2 ≤ q) : Ro (k + 1) q (.tuple [a, b]) := by
  have h1 := ha.bk
  have h2 := hb.bk
  have h3 := ha.dp
  have h4 := hb.dp
  refine ⟨?_, ?_, ?_, ?_⟩
  · simp only [PyData.showable, PyData.showableAll, ha.sh, hb.sh, Bool.and_true]
  · simp only [PyData.depth, PyData.depthAll]
    omega
  · simp only [PyData.leavesShort, PyData.leavesShortAll, ha.lf, hb.lf, Bool.and_true]
  · simp only [PyData.bulk, PyData.bulkAll]
    omega
theorem Ro.int {i : Int} (h : -1000000000 ≤ i) (g : i ≤ 1000000000) : Ro 0 0 (.int i) := .of (.int (by omega))
theorem Ro.ints {ns : List Int} {m : Nat} (h : ∀ n ∈ ns, -1000000000 ≤ n ∧ n ≤ 1000000000) (hm : ns.length ≤ m) : Ro 1 m (.tuple (ns.map PyData.int)) := .tup (n := 0) (fun d hd => by
  obtain ⟨n, hn, rfl⟩ := List.mem_map.mp hd
  exact .int (h n hn).1 (h n hn).2) (by rw [List.length_map]; omega)
theorem Od.dp {K : PySem.W.Frag} {H : Hp} {v : V} {d : PyData} (h : Od K H v d) (n : d.hasDict = false) : Dp K H v d := by
  refine Od.rec (motive_1 := fun v d _ => d.hasDict = false → Dp K H v d) (motive_2 := fun vs ds _ => PyData.hasDictAll ds = false → DpAll K H vs ds) ?_ ?_ ?_ ?_ ?_ ?_ ?_ ?_ ?_ h n
  · exact fun _ => .non
  · exact fun b _ => .bl b
  · exact fun i _ => .int i
  · exact fun x _ => .str x
  · exact fun e _ ih n => .lst (SqL.of e) (ih (by simpa only [PyData.hasDict] using n))
  · exact fun e _ ih n => .tup e (ih (by simpa only [PyData.hasDict] using n))
  · exact fun _ _ _ n => by simp [PyData.hasDict] at n
  · exact fun _ => .nil
  · intro v vs d ds _ _ a b n
    simp only [PyData.hasDictAll, Bool.or_eq_false_iff] at n
    exact .cons (a n.1) (b n.2)
mutual
theorem Dp.od {K : PySem.W.Frag} {H : Hp} (sl : ∀ a xs, SqL K H a xs → H a = some (.lst xs)) : ∀ {v : V} {d : PyData}, Dp K H v d → Od K H v d
  | _, _, .non => .non
  | _, _, .bl b => .bl b
  | _, _, .int i => .int i
  | _, _, .str x => .str x
  | _, _, .lst e h => .lst (sl _ _ e) (DpAll.od sl h)
  | _, _, .tup e h => .tup e (DpAll.od sl h)
theorem DpAll.od {K : PySem.W.Frag} {H : Hp} (sl : ∀ a xs, SqL K H a xs → H a = some (.lst xs)) : ∀ {vs : List V} {ds : List PyData}, DpAll K H vs ds → OdAll K H vs ds
  | _, _, .nil => .nil
  | _, _, .cons a b => .cons (Dp.od sl a) (DpAll.od sl b)
end
theorem OdAll.ints {K : PySem.W.Frag} {H : Hp} : ∀ ns : List Int, OdAll K H (ns.map V.int) (ns.map PyData.int)
  | [] => .nil
  | n :: ns => .cons (.int n) (OdAll.ints ns)
theorem Od.ints {K : PySem.W.Frag} {H : Hp} {a : Addr} {ns : List Int} (h : SqT K H a (ns.map V.int)) : Od K H (.ref a) (.tuple (ns.map PyData.int)) := .tup h (OdAll.ints ns)
theorem OdAll.mono {K : PySem.W.Frag} {H H' : Hp} {vs : List V} {ds : List PyData} (h : OdAll K H vs ds) (s : ∀ b o, H b = some o → H' b = some o) : OdAll K H' vs ds := by
  refine OdAll.rec (motive_1 := fun v d _ => Od K H' v d) (motive_2 := fun vs ds _ => OdAll K H' vs ds) ?_ ?_ ?_ ?_ ?_ ?_ ?_ ?_ ?_ h
  · exact .non
  · exact fun b => .bl b
  · exact fun i => .int i
  · exact fun x => .str x
  · exact fun e _ ih => .lst (s _ _ e) ih
  · exact fun e _ ih => .tup (e.elim (fun h => .inl (h.elim (fun h => .inl (s _ _ h)) fun ⟨o, h⟩ => .inr ⟨o, s _ _ h⟩)) .inr) ih
  · exact fun e _ ih => .dct (s _ _ e) ih
  · exact .nil
  · exact fun _ _ a b => .cons a b
theorem OdAll.append {K : PySem.W.Frag} {H : Hp} {ds' : List PyData} {vs' : List V} (h' : OdAll K H vs' ds') : ∀ {vs : List V} {ds : List PyData}, OdAll K H vs ds → OdAll K H (vs ++ vs') (ds ++ ds')
  | [], _, h => by
    cases h
    exact h'
  | _ :: _, _, h => by
    cases h with
    | cons a t => exact .cons a (OdAll.append h' t)
theorem OdAll.set {K : PySem.W.Frag} {H : Hp} {v : V} {d : PyData} (hd : Od K H v d) : ∀ {vs : List V} {ds : List PyData} (i : Nat), OdAll K H vs ds → OdAll K H (vs.set i v) (ds.set i d)
  | [], _, _, h => by
    cases h
    exact .nil
  | _ :: _, _, 0, h => by
    cases h with
    | cons a t => exact .cons hd t
  | _ :: _, _, i + 1, h => by
    cases h with
    | cons a t => exact .cons a (OdAll.set hd i t)
theorem OdAll.take {K : PySem.W.Frag} {H : Hp} : ∀ {vs : List V} {ds : List PyData} (i : Nat), OdAll K H vs ds → OdAll K H (vs.take i) (ds.take i)
  | [], _, _, h => by
    cases h
    simp only [List.take_nil]
    exact .nil
  | _ :: _, _, 0, _ => .nil
  | _ :: _, _, i + 1, h => by
    cases h with
    | cons a t => exact .cons a (OdAll.take i t)
theorem OdAll.drop {K : PySem.W.Frag} {H : Hp} : ∀ {vs : List V} {ds : List PyData} (i : Nat), OdAll K H vs ds → OdAll K H (vs.drop i) (ds.drop i)
  | [], _, _, h => by
    cases h
    simp only [List.drop_nil]
    exact .nil
  | _ :: _, _, 0, h => h
  | _ :: _, _, i + 1, h => by
    cases h with
    | cons a t => exact OdAll.drop i t
theorem OdAll.rep {K : PySem.W.Frag} {H : Hp} {vs : List V} {ds : List PyData} (h : OdAll K H vs ds) : ∀ n : Nat, OdAll K H (List.replicate n vs).flatten (List.replicate n ds).flatten
  | 0 => .nil
  | n + 1 => by
    rw [List.replicate_succ, List.replicate_succ, List.flatten_cons, List.flatten_cons]
    exact OdAll.append (OdAll.rep h n) h
theorem len_flat {α : Type} (xs : List α) : ∀ n : Nat, (List.replicate n xs).flatten.length = n * xs.length
  | 0 => by simp
  | n + 1 => by
    rw [List.replicate_succ, List.flatten_cons, List.length_append, len_flat xs n, Nat.succ_mul]
    omega
theorem mem_flat {α : Type} {xs : List α} {x : α} {n : Nat} (h : x ∈ (List.replicate n xs).flatten) : x ∈ xs := by
  obtain ⟨l, hl, hx⟩ := List.mem_flatten.mp h
  rw [(List.mem_replicate.mp hl).2] at hx
  exact hx
end RO9

/-! ### the mathematics of the line -/
namespace Ln
/-- tick, turn, wait -/
abbrev Let := Int × Int × Option Int
def step (b τ u : Int) (s : List Let × Int) : List Let × Int := if s.2 > b then (s.1 ++ [(τ, u, none)], s.2) else (s.1 ++ [(τ, u, some s.2)], s.2 + 1)
def turns (b τ : Int) : Nat → List Let × Int → List Let × Int
  | 0, s => s
  | k + 1, s => step b τ (1 + (k : Int)) (turns b τ k s)
def close (c : Int) : Int := if c > 0 then c - 1 else c
def pre (b : Int) (cs : List Int) : Nat → List Let × Int
  | 0 => ([], 0)
  | i + 1 => ((turns b (i : Int) (cs.getD i 0).toNat (pre b cs i)).1, close (turns b (i : Int) (cs.getD i 0).toNat (pre b cs i)).2)
def letts (b : Int) (cs : List Int) : List Let := (pre b cs cs.length).1
def behind (b : Int) (cs : List Int) : Nat → List Int
  | 0 => []
  | i + 1 => behind b cs i ++ [(pre b cs (i + 1)).2]
theorem step_len (b τ u : Int) (s : List Let × Int) : (step b τ u s).1.length = s.1.length + 1 := by
  unfold step
  split <;> simp
theorem turns_len (b τ : Int) : ∀ (k : Nat) (s : List Let × Int), (turns b τ k s).1.length = s.1.length + k
  | 0, _ => rfl
  | k + 1, s => by
    unfold turns
    rw [step_len, turns_len b τ k s, Nat.add_assoc]
theorem turns_rng {b τ : Int} : ∀ (k : Nat) (s : List Let × Int), 0 ≤ s.2 → s.2 ≤ b + 1 → 0 ≤ (turns b τ k s).2 ∧ (turns b τ k s).2 ≤ b + 1
  | 0, s, h0, h1 => ⟨h0, h1⟩
  | k + 1, s, h0, h1 => by
    have ih := turns_rng (τ := τ) k s h0 h1
    unfold turns step
    split
    · exact ih
    · show 0 ≤ (turns b τ k s).2 + 1 ∧ (turns b τ k s).2 + 1 ≤ b + 1
      omega
theorem close_rng {b c : Int} (hb : 0 ≤ b) (h0 : 0 ≤ c) (h1 : c ≤ b + 1) : 0 ≤ close c ∧ close c ≤ b := by
  unfold close
  split <;> omega
theorem pre_rng {b : Int} (hb : 0 ≤ b) (cs : List Int) : ∀ i, 0 ≤ (pre b cs i).2 ∧ (pre b cs i).2 ≤ b
  | 0 => ⟨Int.le_refl _, hb⟩
  | i + 1 => by
    have ih := pre_rng hb cs i
    have t := turns_rng (b := b) (τ := (i : Int)) (cs.getD i 0).toNat (pre b cs i) ih.1 (by omega)
    unfold pre
    exact close_rng hb t.1 t.2
theorem pre_len {b : Int} {cs : List Int} (hc : ∀ c ∈ cs, c ≤ 4) : ∀ i, (pre b cs i).1.length ≤ 4 * i
  | 0 => Nat.le_refl _
  | i + 1 => by
    have ih := pre_len (b := b) hc i
    unfold pre
    rw [turns_len]
    have : cs.getD i 0 ≤ 4 := by
      rw [List.getD_eq_getElem?_getD]
      cases h : cs[i]? with
      | none => decide
      | some c => exact hc c (List.mem_of_getElem? h)
    omega
theorem behind_len (b : Int) (cs : List Int) : ∀ i, (behind b cs i).length = i
  | 0 => rfl
  | i + 1 => by
    unfold behind
    rw [List.length_append, behind_len b cs i]
    rfl
theorem getD_of {cs : List Int} {i : Nat} {c : Int} (h : cs[i]? = some c) : cs.getD i 0 = c := by
  rw [List.getD_eq_getElem?_getD, h]
  rfl
/-! pairs of who goes out when -/
def one (l : Let) (n : Int) : List (Int × Int) := match l.2.2 with
  | none => []
  | some w => [(l.1 + w, n)]
def outsFrom : Int → List Let → List (Int × Int)
  | _, [] => []
  | n, l :: r => one l n ++ outsFrom (n + 1) r
theorem outs_snoc : ∀ (L : List Let) (n : Int) (l : Let), outsFrom n (L ++ [l]) = outsFrom n L ++ one l (n + (L.length : Int))
  | [], n, l => by
    show one l n ++ [] = [] ++ one l (n + ((0 : Nat) : Int))
    rw [List.append_nil, List.nil_append]
    congr 1
    omega
  | x :: L, n, l => by
    show one x n ++ outsFrom (n + 1) (L ++ [l]) = (one x n ++ outsFrom (n + 1) L) ++ one l _
    rw [outs_snoc L (n + 1) l, List.append_assoc]
    congr 3
    rw [List.length_cons]
    omega
theorem one_len (l : Let) (n : Int) : (one l n).length ≤ 1 := by
  unfold one
  split <;> simp
theorem outs_len : ∀ (L : List Let) (n : Int), (outsFrom n L).length ≤ L.length
  | [], _ => Nat.le_refl _
  | l :: r, n => by
    show (one l n ++ outsFrom (n + 1) r).length ≤ r.length + 1
    have := outs_len r (n + 1)
    have := one_len l n
    rw [List.length_append]
    omega
def qp : Int → List Int → List (Int × Int)
  | _, [] => []
  | τ, n :: r => (τ, n) :: qp (τ + 1) r
theorem qp_snoc : ∀ (q : List Int) (τ n : Int), qp τ (q ++ [n]) = qp τ q ++ [(τ + (q.length : Int), n)]
  | [], τ, n => by
    show [(τ, n)] = [(τ + ((0 : Nat) : Int), n)]
    rw [show τ + ((0 : Nat) : Int) = τ by omega]
  | x :: q, τ, n => by
    show (τ, x) :: qp (τ + 1) (q ++ [n]) = (τ, x) :: (qp (τ + 1) q ++ [_])
    rw [qp_snoc q (τ + 1) n, List.length_cons]
    congr 4
    omega
/-- a queue of the law's own line, by the letters that came -/
def Led (τ : Int) (s : List Let × Int) (q : List Int) (prs : List (Int × Int)) : Prop := (q.length : Int) = s.2 ∧ prs ++ qp τ q = outsFrom 0 s.1
theorem Led.no {b τ u : Int} {s : List Let × Int} {q : List Int} {prs} (h : Led τ s q prs) (hb : s.2 > b) : Led τ (step b τ u s) q prs ∧ step b τ u s = (s.1 ++ [(τ, u, none)], s.2) := by
  have e : step b τ u s = (s.1 ++ [(τ, u, none)], s.2) := by
    unfold step
    rw [if_pos hb]
  refine ⟨?_, e⟩
  rw [e]
  refine ⟨h.1, ?_⟩
  rw [outs_snoc, ← h.2]
  show _ = _ ++ []
  rw [List.append_nil]
theorem Led.yes {b τ u : Int} {s : List Let × Int} {q : List Int} {prs} (h : Led τ s q prs) (hb : ¬ s.2 > b) : Led τ (step b τ u s) (q ++ [(s.1.length : Int)]) prs ∧ step b τ u s = (s.1 ++ [(τ, u, some s.2)], s.2 + 1) := by
  have e : step b τ u s = (s.1 ++ [(τ, u, some s.2)], s.2 + 1) := by
    unfold step
    rw [if_neg hb]
  refine ⟨?_, e⟩
  rw [e]
  refine ⟨?_, ?_⟩
  · rw [List.length_append]
    show ((q.length + 1 : Nat) : Int) = s.2 + 1
    have := h.1
    omega
  · show _ = outsFrom 0 (s.1 ++ [(τ, u, some s.2)])
    rw [outs_snoc, ← h.2, qp_snoc, ← List.append_assoc, h.1]
    show _ = _ ++ [(τ + s.2, (0 : Int) + (s.1.length : Int))]
    rw [Int.zero_add]
/-- each one goes out in its time -/
def Due (τ : Int) (L : List Let) (q : List Int) (prs : List (Int × Int)) : Prop := prs ++ qp τ q = outsFrom 0 L
theorem Due.pop {τ : Int} {L : List Let} {x : Int} {q : List Int} {prs} (h : Due τ L (x :: q) prs) : Due (τ + 1) L q (prs ++ [(τ, x)]) := by
  unfold Due at *
  rw [← h, List.append_assoc]
  rfl
theorem Due.nil {τ τ' : Int} {L : List Let} {prs} (h : Due τ L [] prs) : Due τ' L [] prs := h
theorem ticks_turns (b τ : Int) : ∀ (k : Nat) (s : List Let × Int), (turns b τ k s).1.map (·.1) = s.1.map (·.1) ++ List.replicate k τ
  | 0, s => by simp [turns]
  | k + 1, s => by
    have ih := ticks_turns b τ k s
    have e : (step b τ (1 + (k : Int)) (turns b τ k s)).1.map (·.1) = (turns b τ k s).1.map (·.1) ++ [τ] := by
      unfold step
      split <;> simp
    unfold turns
    rw [e, ih, List.append_assoc, List.replicate_succ']
def ticksOf (cs : List Int) : Nat → List Int
  | 0 => []
  | i + 1 => ticksOf cs i ++ List.replicate (cs.getD i 0).toNat (i : Int)
theorem ticks_are (b : Int) (cs : List Int) : ∀ i, (pre b cs i).1.map (·.1) = ticksOf cs i
  | 0 => rfl
  | i + 1 => by
    show (turns b (i : Int) (cs.getD i 0).toNat (pre b cs i)).1.map (·.1) = ticksOf cs i ++ _
    rw [ticks_turns, ticks_are b cs i]
theorem ticks_len {cs : List Int} (hc : ∀ c ∈ cs, c ≤ 4) (i : Nat) : (ticksOf cs i).length ≤ 4 * i := by
  rw [← ticks_are 0 cs i, List.length_map]
  exact pre_len hc i
theorem getD_past {cs : List Int} {i : Nat} (h : cs.length ≤ i) : cs.getD i 0 = 0 := by
  rw [List.getD_eq_getElem?_getD, List.getElem?_eq_none h]
  rfl
theorem pre_past {b : Int} (hb : 0 ≤ b) (cs : List Int) : ∀ d : Nat, (pre b cs (cs.length + d)).1 = letts b cs ∧ ((pre b cs (cs.length + d)).2 ≤ b - d ∨ (pre b cs (cs.length + d)).2 ≤ 0)
  | 0 => ⟨rfl, .inl (by
    have := (pre_rng hb cs cs.length).2
    show (pre b cs cs.length).2 ≤ b - ((0 : Nat) : Int)
    omega)⟩
  | d + 1 => by
    have ih := pre_past hb cs d
    have e : turns b ((cs.length + d : Nat) : Int) (cs.getD (cs.length + d) 0).toNat (pre b cs (cs.length + d)) = pre b cs (cs.length + d) := by
      rw [getD_past (by omega)]
      rfl
    have e1 : (pre b cs (cs.length + (d + 1))).1 = (turns b ((cs.length + d : Nat) : Int) (cs.getD (cs.length + d) 0).toNat (pre b cs (cs.length + d))).1 := rfl
    have e2 : (pre b cs (cs.length + (d + 1))).2 = close (turns b ((cs.length + d : Nat) : Int) (cs.getD (cs.length + d) 0).toNat (pre b cs (cs.length + d))).2 := rfl
    rw [e] at e1 e2
    refine ⟨e1.trans ih.1, ?_⟩
    rw [e2]
    unfold close
    have := ih.2
    split <;> omega
end Ln

/-! ## heaps, tuples, data, sorts -/
namespace My
open PySem PySem.Spec PyProof.Rows L2
--ANN _law_pick | cut if tape[1] < len(tape[0]): | cut
/-! ### heaps -/
theorem same_upd {H : Hp} {p : Addr} {o : HO} (h : H p = none) : Same H (upd H p o) := fun b x e => by
  rw [upd_ne (ne_of_none e h)]
  exact e
/-- all but t stays -/
def Moved (t : Addr) (H H' : Hp) : Prop := ∀ b o, b ≠ t → H b = some o → H' b = some o
theorem Moved.refl {t : Addr} {H : Hp} : Moved t H H := fun _ _ _ h => h
theorem Moved.trans {t : Addr} {H H1 H2 : Hp} (a : Moved t H H1) (b : Moved t H1 H2) : Moved t H H2 := fun c o n h => b c o n (a c o n h)
theorem Moved.upd {t : Addr} {H : Hp} {o : HO} : Moved t H (upd H t o) := fun b x n e => by
  rw [upd_ne n]
  exact e
theorem Moved.same {t : Addr} {H H' : Hp} (h : Same H H') : Moved t H H' := fun b o _ e => h b o e
theorem Moved.free {t : Addr} {H H' : Hp} (h : Moved t H H') {p : Addr} (n : p ≠ t) (e : H' p = none) : H p = none := by
  cases q : H p with
  | none => rfl
  | some o =>
    rw [h p o n q] at e
    cases e
/-! ### the tape: where the draws stand -/
def Tape (H : Hp) (t s : Addr) : Prop := ∃ (ns : List Int) (pos rest mx ct : Int), s ≠ t ∧ H t = some (.lst [.ref s, .int pos, .int rest, .int mx, .int ct]) ∧ H s = some (.lst (ns.map V.int)) ∧ 0 ≤ pos
theorem Tape.keep {t s : Addr} {H H' : Hp} (h : Tape H t s) (e : Same H H') : Tape H' t s := by
  obtain ⟨ns, a, b, c, d, h1, h2, h3, h4⟩ := h
  exact ⟨ns, a, b, c, d, h1, e _ _ h2, e _ _ h3, h4⟩
theorem Tape.ne {t s p : Addr} {H : Hp} (h : Tape H t s) (np : H p = none) : p ≠ t := fun e => by
  obtain ⟨ns, a, b, c, d, h1, h2, h3, h4⟩ := h
  rw [e, h2] at np
  cases np
theorem Tape.ne2 {t s p : Addr} {H : Hp} (h : Tape H t s) (np : H p = none) : p ≠ s := fun e => by
  obtain ⟨ns, a, b, c, d, h1, h2, h3, h4⟩ := h
  rw [e, h3] at np
  cases np
theorem Tape.but {t s r : Addr} {H : Hp} {o : HO} (h : Tape H t s) (n : r ≠ t) (n2 : r ≠ s) : Tape (upd H r o) t s := by
  obtain ⟨ns, a, b, c, d, h1, h2, h3, h4⟩ := h
  refine ⟨ns, a, b, c, d, h1, ?_, ?_, h4⟩
  · rw [upd_ne n.symm]
    exact h2
  · rw [upd_ne n2.symm]
    exact h3
section
variable {K : PySem.W.Frag} {H : Hp}
theorem tyTup {a : Addr} {xs : List V} (h : SqT K H a xs) : TyX K H (.ref a) (.type "tuple") := by
  rcases h with (h | ⟨o, h⟩) | h
  · exact .base (.tup h)
  · exact .fTuple h
  · obtain ⟨o, n, vs, e, c, _⟩ := h
    exact .kTuple e c
theorem sT {H' : Hp} {a : Addr} {xs : List V} (e : Same H H') (h : SqT K H a xs) : SqT K H' a xs := by
  rcases h with (h | ⟨o, h⟩) | h
  · exact .inl (.inl (e _ _ h))
  · exact .inl (.inr ⟨o, e _ _ h⟩)
  · exact .inr h
end
/-! ### new tuples, one for each -/
theorem small2000 {n : Nat} (h : n ≤ 2000) : n < sizeLine := by
  show n < 2 ^ 24
  omega
inductive Tups {α : Type} (f : α → List V) (H : Hp) : List Addr → List α → Prop
  | nil : Tups f H [] []
  | cons {p : Addr} {x : α} {ps : List Addr} {xs : List α} : H p = some (.tup (f x)) → Tups f H ps xs → Tups f H (p :: ps) (x :: xs)
section
variable {α : Type} {f : α → List V} {H H' : Hp}
theorem Tups.keep {ps : List Addr} {xs : List α} (h : Tups f H ps xs) (e : ∀ b ys, H b = some (.tup ys) → H' b = some (.tup ys)) : Tups f H' ps xs := by
  induction h with
  | nil => exact .nil
  | cons a _ ih => exact .cons (e _ _ a) ih
theorem Tups.same {ps : List Addr} {xs : List α} (h : Tups f H ps xs) (e : Same H H') : Tups f H' ps xs := h.keep fun b ys z => e _ _ z
theorem Tups.put {ps : List Addr} {xs : List α} (h : Tups f H ps xs) {L : Addr} {ys : List V} {o : HO} (e : H L = some (.lst ys)) : Tups f (upd H L o) ps xs := h.keep fun b zs z => by
  rw [upd_ne (fun q => by rw [q, e] at z; cases z)]
  exact z
theorem Tups.new {ps : List Addr} {xs : List α} (h : Tups f H ps xs) {p : Addr} {o : HO} (e : H p = none) : Tups f (upd H p o) ps xs := h.same (same_upd e)
theorem Tups.snoc {ps : List Addr} {xs : List α} {p : Addr} {x : α} (h : Tups f H ps xs) (e : H p = some (.tup (f x))) : Tups f H (ps ++ [p]) (xs ++ [x]) := by
  induction h with
  | nil => exact .cons e .nil
  | cons a _ ih => exact .cons a ih
theorem Tups.append {ps qs : List Addr} {xs ys : List α} (h : Tups f H ps xs) (k : Tups f H qs ys) : Tups f H (ps ++ qs) (xs ++ ys) := by
  induction h with
  | nil => exact k
  | cons a _ ih => exact .cons a ih
theorem Tups.length {ps : List Addr} {xs : List α} (h : Tups f H ps xs) : ps.length = xs.length := by
  induction h with
  | nil => rfl
  | cons a _ ih => rw [List.length_cons, List.length_cons, ih]
theorem Tups.get {ps : List Addr} {xs : List α} (h : Tups f H ps xs) : ∀ {i : Nat} {v : V}, (ps.map V.ref)[i]? = some v → ∃ p x, v = .ref p ∧ xs[i]? = some x ∧ H p = some (.tup (f x)) := by
  induction h with
  | nil =>
    intro i v h
    simp at h
  | cons a _ ih =>
    intro i v h
    cases i with
    | zero =>
      simp at h
      exact ⟨_, _, h.symm, rfl, a⟩
    | succ i =>
      simp only [List.map_cons, List.getElem?_cons_succ] at h ⊢
      exact ih h
end
def wv : Option Int → V
  | none => .non
  | some w => .int w
def pv2 (p : Int × Int) : List V := [.int p.1, .int p.2]
/-! ### data that is compared -/
def wd : Option Int → PyData
  | none => .none
  | some w => .int w
def pd2 (p : Int × Int) : PyData := .tuple [.int p.1, .int p.2]
def dInts (ns : List Int) : PyData := .list (ns.map PyData.int)
def dWs (ws : List (Option Int)) : PyData := .list (ws.map wd)
def dPrs (ps : List (Int × Int)) : PyData := .list (ps.map pd2)
section
variable {K : PySem.W.Frag} {H : Hp}
theorem dpa_ints : ∀ ns : List Int, DpAll K H (ns.map V.int) (ns.map PyData.int)
  | [] => .nil
  | n :: ns => .cons (.int n) (dpa_ints ns)
theorem dp_wd : ∀ w : Option Int, Dp K H (wv w) (wd w)
  | none => .non
  | some w => .int w
theorem dpa_ws : ∀ ws : List (Option Int), DpAll K H (ws.map wv) (ws.map wd)
  | [] => .nil
  | w :: ws => .cons (dp_wd w) (dpa_ws ws)
theorem dpa_prs {ps : List Addr} {xs : List (Int × Int)} (h : Tups pv2 H ps xs) : DpAll K H (ps.map V.ref) (xs.map pd2) := by
  induction h with
  | nil => exact .nil
  | cons a _ ih => exact .cons (.tup (SqT.of a) (.cons (.int _) (.cons (.int _) .nil))) ih
end
theorem lay_all {α : Type} {f : α → PyData} (h : ∀ x, (f x).canLay0 = true) : ∀ xs : List α, PyData.canLayAll0 (xs.map f) = true
  | [] => by simp [PyData.canLayAll0]
  | x :: xs => by
    rw [List.map_cons, PyData.canLayAll0, h x, lay_all h xs]
    rfl
theorem dep_all {α : Type} {f : α → PyData} {d : Nat} (h : ∀ x, (f x).depth ≤ d) : ∀ xs : List α, PyData.depthAll (xs.map f) ≤ d
  | [] => by simp [PyData.depthAll]
  | x :: xs => by
    have h1 := h x
    have h2 := dep_all h xs
    rw [List.map_cons, PyData.depthAll]
    omega
/-- can be laid, and is at most d deep -/
def Shp (d : Nat) (x : PyData) : Prop := x.canLay0 = true ∧ x.depth ≤ d
theorem Shp.ok {d : Nat} {x : PyData} (h : Shp d x) (hd : d ≤ 64) : SeqAt.shaped x = true := by
  show (x.canLay0 && decide (x.depth ≤ 64)) = true
  rw [Bool.and_eq_true]
  exact ⟨h.1, decide_eq_true (Nat.le_trans h.2 hd)⟩
theorem Shp.int (i : Int) : Shp 1 (.int i) := ⟨by simp [PyData.canLay0], by simp [PyData.depth]⟩
theorem Shp.wd (w : Option Int) : Shp 1 (wd w) := by
  cases w <;> exact ⟨by simp [My.wd, PyData.canLay0], by simp [My.wd, PyData.depth]⟩
theorem Shp.list {α : Type} {f : α → PyData} {d : Nat} (h : ∀ x, Shp d (f x)) (xs : List α) : Shp (d + 1) (.list (xs.map f)) := by
  have h1 := lay_all (fun x => (h x).1) xs
  have h2 := dep_all (fun x => (h x).2) xs
  exact ⟨by simp only [PyData.canLay0]; exact h1, by simp only [PyData.depth]; omega⟩
theorem Shp.tup0 : Shp 1 (.tuple []) := ⟨by simp [PyData.canLay0, PyData.canLayAll0], by simp [PyData.depth, PyData.depthAll]⟩
theorem Shp.tupC {d : Nat} {x : PyData} {xs : List PyData} (h : Shp d x) (t : Shp (d + 1) (.tuple xs)) : Shp (d + 1) (.tuple (x :: xs)) := by
  obtain ⟨a, b⟩ := h
  obtain ⟨c, e⟩ := t
  simp only [PyData.canLay0] at c
  simp only [PyData.depth] at e
  refine ⟨?_, ?_⟩
  · simp only [PyData.canLay0, PyData.canLayAll0, a, c, Bool.and_self]
  · simp only [PyData.depth, PyData.depthAll]
    omega
theorem Shp.up {d e : Nat} {x : PyData} (h : Shp d x) (le : d ≤ e) : Shp e x := ⟨h.1, Nat.le_trans h.2 le⟩
theorem Shp.pd2 (p : Int × Int) : Shp 2 (pd2 p) := .tupC (.int _) (.tupC (.int _) (Shp.tup0.up (by decide)))
theorem Shp.ints (ns : List Int) : Shp 2 (dInts ns) := .list Shp.int ns
theorem Shp.ws (ws : List (Option Int)) : Shp 2 (dWs ws) := .list Shp.wd ws
theorem Shp.prs (ps : List (Int × Int)) : Shp 3 (dPrs ps) := .list Shp.pd2 ps
theorem eqv_same {d : Nat} {x : PyData} (h : Shp d x) : PyData.eqv x x = true := SeqAt.eqv_refl x h.1
theorem iteNE {b : Bool} {A B : Prop} (hb : b = true) (h : B) : if (!b) = true then A else B := by
  subst hb
  exact iteF h
theorem ne_same {d : Nat} {x : PyData} (h : Shp d x) : V.bl (!PyData.eqv x x) = V.bl false := by
  rw [eqv_same h]
  rfl
theorem eq_same {d : Nat} {x : PyData} (h : Shp d x) : V.bl (PyData.eqv x x) = V.bl true := by
  rw [eqv_same h]

theorem flat_one {α : Type} (n : Nat) (x : α) : (List.replicate n [x]).flatten = List.replicate n x := by
  induction n with
  | zero => rfl
  | succ n ih => rw [List.replicate_succ, List.flatten_cons, ih]; rfl
theorem take_snoc {α : Type} {l : List α} {i : Nat} {x : α} (h : l[i]? = some x) : l.take (i + 1) = l.take i ++ [x] := by
  rw [List.take_add_one, h]
  rfl
theorem same_put {H H' : Hp} {p : Addr} {o : HO} (sm : Same H H') (n : H p = none) : Same H (upd H' p o) := fun b x e => (upd_ne (ne_of_none e n)).trans (sm b x e)
theorem ne_no {a b : Int} (h : a = b) : V.bl (!decide (V.int a = V.int b)) = V.bl false := by
  subst h
  rw [decide_eq_true rfl]
  rfl
theorem ixN_nat {n : Nat} {p : Int} (h0 : 0 ≤ p) (h1 : p < (n : Int)) : ixN n p = some p.toNat := by
  unfold ixN
  rw [if_pos h0, if_pos h1]
theorem atI_of {xs : List V} {p : Int} {v : V} (h0 : 0 ≤ p) (h : xs[p.toNat]? = some v) : atI xs p = some v := by
  have e := atI_nat h
  rw [show ((p.toNat : Nat) : Int) = p by omega] at e
  exact e
theorem ixTK {X : Cx} {K : PySem.W.Frag} (h : X.K = K) : IxR X (rIxT K) := h ▸ ix_tup
theorem ixLK {X : Cx} {K : PySem.W.Frag} (h : X.K = K) : IxR X (rIxL K) := h ▸ ix_list
def rLenS (K : PySem.W.Frag) : List V → Hp → VK → Prop := fun xs H Q => ∃ p ys, xs = [.ref p] ∧ (SqL K H p ys ∨ SqT K H p ys) ∧ Q (.int ys.length) H
theorem lenK {X : Cx} {K : PySem.W.Frag} (h : X.K = K) : CallR X (.builtin "len") (rLenS K) := h ▸ call_len_seq
theorem isiK {X : Cx} {K : PySem.W.Frag} (h : X.K = K) : CallR X (.builtin "isinstance") (rIsi K) := h ▸ call_isi
theorem notInK {X : Cx} {K : PySem.W.Frag} (h : X.K = K) : OpR X (compareOp .NotIn) (rIn K true) := h ▸ op_notIn_seq
theorem inK {X : Cx} {K : PySem.W.Frag} (h : X.K = K) : OpR X (compareOp .In) (rIn K false) := h ▸ op_in_seq
/-! ### tuples of ints as data -/
def fI (r : List Int) : List V := r.map V.int
def dI (r : List Int) : PyData := .tuple (r.map PyData.int)
def dT (rs : List (List Int)) : PyData := .list (rs.map dI)
theorem units65 {k : Nat} {A : Around} (r : Room k A) : A.units + 65 < cLine := by
  have := r.un
  omega
theorem Shp.tuple {α : Type} {f : α → PyData} {d : Nat} (h : ∀ x, Shp d (f x)) (xs : List α) : Shp (d + 1) (.tuple (xs.map f)) := by
  have h1 := lay_all (fun x => (h x).1) xs
  have h2 := dep_all (fun x => (h x).2) xs
  exact ⟨by simp only [PyData.canLay0]; exact h1, by simp only [PyData.depth]; omega⟩
theorem Shp.dI (r : List Int) : Shp 2 (dI r) := .tuple Shp.int r
theorem Shp.dT (rs : List (List Int)) : Shp 3 (dT rs) := .list Shp.dI rs
theorem dp_dI {K : PySem.W.Frag} {H : Hp} {p : Addr} {r : List Int} (h : SqT K H p (r.map V.int)) : Dp K H (.ref p) (My.dI r) := .tup h (dpa_ints r)
theorem dpa_dT {K : PySem.W.Frag} {H : Hp} {ps : List Addr} {rs : List (List Int)} (h : Tups fI H ps rs) : DpAll K H (ps.map V.ref) (rs.map My.dI) := by
  induction h with
  | nil => exact .nil
  | cons a _ ih => exact .cons (dp_dI (SqT.of a)) ih
theorem dp_dT {K : PySem.W.Frag} {H : Hp} {L : Addr} {ps : List Addr} {rs : List (List Int)} (e : H L = some (.lst (ps.map V.ref))) (h : Tups fI H ps rs) : Dp K H (.ref L) (My.dT rs) := .lst (SqL.of e) (dpa_dT h)
theorem eqvA : ∀ a b : List Int, PyData.eqvAll (a.map PyData.int) (b.map PyData.int) = decide (a = b)
  | [], [] => by simp [PyData.eqvAll]
  | [], _ :: _ => by simp [PyData.eqvAll]
  | _ :: _, [] => by simp [PyData.eqvAll]
  | x :: a, y :: b => by
    rw [List.map_cons, List.map_cons, PyData.eqvAll, eqvA a b]
    simp only [PyData.eqv]
    by_cases h : x = y
    · subst h
      simp
    · simp [h]
theorem eqvI (a b : List Int) : PyData.eqv (My.dI a) (My.dI b) = decide (a = b) := by
  unfold My.dI
  rw [PyData.eqv]
  exact eqvA a b
theorem not_any {rs : List (List Int)} {r : List Int} (h : r ∉ rs) : ((rs.map My.dI).any fun z => PyData.eqv z (My.dI r)) = false := by
  rw [List.any_map, List.any_eq_false]
  intro x hx
  show ¬ PyData.eqv (My.dI x) (My.dI r) = true
  rw [eqvI]
  intro z
  exact h (of_decide_eq_true z ▸ hx)
/-! ### a tuple whose object is known: its methods -/
def Frz (H : Hp) (p : Addr) (xs : List V) : Prop := ∃ o : Obj, H p = some (.frz o (.tup xs)) ∧ o.dict = none
theorem Frz.sq {K : PySem.W.Frag} {H : Hp} {p : Addr} {xs : List V} (h : Frz H p xs) : SqT K H p xs := let ⟨o, e, _⟩ := h; .inl (.inr ⟨o, e⟩)
theorem Frz.same {H H' : Hp} {p : Addr} {xs : List V} (h : Frz H p xs) (e : Same H H') : Frz H' p xs := let ⟨o, a, b⟩ := h; ⟨o, e _ _ a, b⟩
theorem Frz.moved {t : Addr} {H H' : Hp} {p : Addr} {xs : List V} (h : Frz H p xs) (n : p ≠ t) (e : Moved t H H') : Frz H' p xs := let ⟨o, a, b⟩ := h; ⟨o, e _ _ n a, b⟩
theorem Frz.of {H H' : Hp} {p : Addr} {xs : List V} (h : Frz H p xs) (e : ∀ o, H p = some o → H' p = some o) : Frz H' p xs := let ⟨o, a, b⟩ := h; ⟨o, e _ a, b⟩
theorem Frz.ne {H : Hp} {p q : Addr} {xs : List V} (h : Frz H p xs) (n : H q = none) : p ≠ q := let ⟨_, a, _⟩ := h; ne_of_none a n
theorem Frz.tape {H : Hp} {p t s : Addr} {xs : List V} (h : Frz H p xs) (tp : Tape H t s) : p ≠ t := fun e => by
  obtain ⟨o, a, _⟩ := h
  obtain ⟨_, _, _, _, _, _, e2, _⟩ := tp
  rw [e, e2] at a
  cases a
theorem call_tupleF {X : Cx} : CallR X (.type "tuple") (fun xs H Q => ∃ p ys, xs = [.ref p] ∧ SqL X.K H p ys ∧ ∀ l H', H l = none → Same H H' → Frz H' l ys → (∀ b, b ≠ l → H' b = H b) → Q (.ref l) H') := by
  intro pins s σ H xs us Q I r h
  obtain ⟨p, ys, rfl, hq, q⟩ := h
  obtain ⟨u, rfl, rx⟩ := vals1 r
  cases rx
  obtain ⟨its, r', pl, hz⟩ := I.list hq
  have hlen := r'.length
  refine call_tuple_list pl.isList (fun h' kp => ?_) (by simp only [List.size_toArray] <;> omega)
  have I1 : Inv X pins σ H { s with heap := h' } := I.kept (t' := s.toks) kp
  have I2 : Inv X pins σ (upd H h'.objs.size (.frz { cls := .type "tuple", data := .seq its.toArray } (.tup ys))) { s with heap := h'.push { cls := .type "tuple", data := .seq its.toArray } } :=
    I1.laid (t' := s.toks) (fun b o e => Heap.get?_push_of_some _ e) (Nat.le_refl _) (show ObjOk X.prog X.w _ _ _ (.frz _ (.tup ys)) from ⟨Heap.get?_push_size _ rfl, hz, its, r', IsTup.new _ _⟩)
  have nl := I1.hok.fresh (Nat.le_refl _)
  exact ⟨.ref h'.objs.size, _, I2, rfl, q _ _ nl (same_upd nl) ⟨_, upd_same, rfl⟩ fun b n => upd_ne n⟩
def tTM (r : V → List V → Hp → VK → Prop) (to : TE) (t : TA) : TE := fun σ H Q => to σ H fun x H1 => (∃ p xs, x = .ref p ∧ Frz H1 p xs) ∧ t σ H1 fun xs H2 => r x xs H2 Q
theorem pe_tm {X : Cx} {o e : Expr} {es : List Expr} {to : TE} {t : TA} {name : Str} {apos cpos : Pos} {id : String} {r : V → List V → Hp → VK → Prop} (pa : PlainAttrs "tuple") (slot : Slot "tuple" name id) (hty : typeOf (.builtin id) = pure (.type "method_descriptor")) (hm : MtR X id r) (ho : PE X o to) (ha : PA X (e :: es) t)
    (hbase : attributeBase o name X.env (eval o X.env) = eval o X.env := by rfl)
    (hfew : ((backTo cpos (starEach (e :: es) X.env)).all (fun x => !x.1) && (backToKw cpos (keywordEach [] X.env)).all (fun x => x.1.isSome)
      && decide ((e :: es).length + ([] : List Keyword).length + (if ([] : List Keyword).isEmpty then 0 else 1) < 30)) = true := by rfl)
    (hline : (apos.endLine == cpos.line) = true := by rfl) (hs : starEach (e :: es) X.env = (false, eval e X.env) :: starEach es X.env := by rfl) (hplain : (backTo cpos (starEach es X.env)).any (·.1) = false := by rfl) :
    PE X (.Call (.Attribute o name apos) (e :: es) [] cpos) (tTM r to t) := by
  refine ⟨fun pins s σ H Q I h => ?_⟩
  refine wpAny_Call_method_late hbase hfew hline rfl (thn (ho.run pins s σ H _ I h) fun v s1 ⟨x, H1, I1, r1, ty, q1⟩ => ?_)
  obtain ⟨p, xs, rfl, ob, hp, hd⟩ := ty
  cases r1
  obtain ⟨hob, _, its, _, ⟨o2, ho2, hc2, _⟩⟩ := I1.hok _ _ hp
  have eo : o2 = ob := Option.some.inj (ho2.symm.trans hob)
  subst eo
  refine ⟨"tuple", id, pa, slot, hty, ⟨_, hob, hc2⟩, fun a ea => ?_, ?_⟩
  · cases ea
    exact ⟨_, hob, hd⟩
  have hA := ha.run cpos pins s1 σ H1 _ I1 q1
  rw [hs] at hA ⊢
  refine Calls.callWith_builtin (by show (false || (backTo cpos (starEach es X.env)).any (·.1)) = false; rw [hplain] <;> rfl) (Calls.evalArgs_plain ?_)
  exact thn hA fun us s2 ⟨vs, H2, I2, r2, q2⟩ => hm pins s2 σ H2 (.ref p) vs _ us Q I2 rfl r2 q2
/-! ### t.index(k), t a tuple of ints -/
theorem flat_ints (ys : List Int) : (ys.map V.int).all flatV = true := by
  rw [List.all_map]
  exact List.all_eq_true.mpr fun _ _ => rfl
def rTIndex (K : PySem.W.Frag) : V → List V → Hp → VK → Prop := fun x xs H Q => ∃ p, ∃ ys : List Int, ∃ z j, x = .ref p ∧ xs = [.int z] ∧ SqT K H p (ys.map V.int) ∧ ys[j]? = some z ∧ (∀ m, m < j → ys[m]? ≠ some z) ∧ Q (.int (j : Nat)) H
theorem mt_tindex {X : Cx} : MtR X "tuple.index" (rTIndex X.K) := by
  intro pins s σ H x xs v us Q I rx rs h
  obtain ⟨p, ys, z, j, rfl, rfl, hq, hy, hno, q⟩ := h
  cases rx
  obtain ⟨u, rfl, t, rfl⟩ := vals1 rs
  obtain ⟨its, r, pl, hz⟩ := I.tuple hq
  obtain ⟨⟨cls, dd, dt, sl⟩, ho, hc, n, hd⟩ := pl
  simp only at hc hd
  subst hc
  subst hd
  have hl : its.toArray.size = ys.length := by rw [List.size_toArray, ← r.length, List.length_map]
  have hj : j < its.toArray.size := by rw [hl]; exact (List.getElem?_eq_some_iff.mp hy).1
  have at' : ∀ (m : Nat) (hm : m < its.toArray.size), ∃ y t', ys[m]? = some y ∧ its.toArray[m] = Value.int y t' := fun m hm => by
    have hm' : m < ys.length := by rw [← hl]; exact hm
    obtain ⟨w, hw, t', hw'⟩ := r.get (i := m) (x := .int ys[m]) (by simp [hm'])
    refine ⟨ys[m], t', List.getElem?_eq_getElem hm', ?_⟩
    have e := (List.getElem?_eq_some_iff.mp hw).2
    rw [← hw', ← e]
    simp
  refine call_meets PySem.F.slot_tuple_index ⟨_, ho, rfl⟩ PySem.F.entry_tuple_index (PySem.F.args_tuple_index_2 _ _) (TI.tuple_indexAt p its.toArray n dd sl (.int z t) (eqU (.int z)) j hj ?_ ?_)
    ⟨ho, fun w hw => mem_eqAt (x := .int z) ⟨t, rfl⟩ rfl r (flat_ints ys) w (by simpa using hw), ⟨.int (j : Nat), H, I.tok _, ⟨_, rfl⟩, q⟩⟩
  · obtain ⟨y, t', h1, h2⟩ := at' j hj
    rw [hy] at h1
    cases h1
    rw [h2]
    show (z == z) = true
    exact beq_self_eq_true z
  · intro m hm hmj
    obtain ⟨y, t', h1, h2⟩ := at' m hm
    rw [h2]
    show (y == z) = false
    exact beq_eq_false_iff_ne.mpr fun e => hno m hmj (e ▸ h1)
/-! ### sorted(xs), xs a list of tuples of d ints from 0 to B, of any length -/
/-- the ints of a tuple that H tracks -/
def intsV (H : Hp) : V → List Int
  | .ref a => match H a with
    | some (.tup xs) => xs.filterMap fun v => match v with
      | .int i => some i
      | _ => none
    | _ => []
  | _ => []
theorem ints_fI (r : List Int) : ((fI r).filterMap fun v => match v with
      | V.int i => some i
      | _ => none) = r := by
  unfold fI
  induction r with
  | nil => rfl
  | cons x r ih => simp [ih]
theorem intsV_of {H : Hp} {a : Addr} {r : List Int} (h : H a = some (.tup (fI r))) : intsV H (.ref a) = r := by
  show (match H a with
    | some (.tup xs) => xs.filterMap fun v => match v with
      | V.int i => some i
      | _ => none
    | _ => []) = r
  rw [h]
  exact ints_fI r
abbrev ltC (B : Int) (k : V → List Int) (x y : V) : Bool := decide (TS.code B (k x) < TS.code B (k y))
theorem swoC {α : Type} (f : α → Int) : SrtO.Swo fun x y => decide (f x < f y) := by
  refine ⟨fun x y h => ?_, fun x y z h1 h2 => ?_⟩
  · have a := of_decide_eq_true h
    exact decide_eq_false (by omega)
  · have a := of_decide_eq_false h1
    have b := of_decide_eq_false h2
    exact decide_eq_false (by omega)
def rSortC (K : PySem.W.Frag) (B : Int) (d : Nat) : List V → Hp → VK → Prop := fun vs H Q => ∃ (a : Addr) (ps : List Addr) (rs : List (List Int)), vs = [V.ref a] ∧ SqL K H a (ps.map V.ref) ∧ Tups fI H ps rs ∧ (∀ r ∈ rs, r.length = d ∧ TS.Bd B r) ∧
  ∀ ps' rs' p, Tups fI H ps' rs' → rs'.Perm rs → rs'.Pairwise (fun x y => TS.code B x ≤ TS.code B y) → H p = none → Q (.ref p) (upd H p (.lst (ps'.map V.ref)))
theorem tups_of {H : Hp} : ∀ {ps : List Addr}, (∀ p ∈ ps, ∃ r, H p = some (.tup (fI r))) → Tups fI H ps (ps.map fun p => intsV H (.ref p))
  | [], _ => .nil
  | p :: ps, h => by
    obtain ⟨r, hr⟩ := h p List.mem_cons_self
    refine .cons ?_ (tups_of fun q hq => h q (List.mem_cons_of_mem _ hq))
    show H p = some (.tup (fI (intsV H (.ref p))))
    rw [intsV_of hr]
    exact hr
theorem Tups.ints {H : Hp} {ps : List Addr} {rs : List (List Int)} (h : Tups fI H ps rs) : rs = ps.map fun p => intsV H (.ref p) := by
  induction h with
  | nil => rfl
  | cons a _ ih => rw [List.map_cons, intsV_of a, ← ih]
theorem Tups.mem {α : Type} {f : α → List V} {H : Hp} {ps : List Addr} {rs : List α} (h : Tups f H ps rs) : ∀ p ∈ ps, ∃ r ∈ rs, H p = some (.tup (f r)) := by
  induction h with
  | nil => exact fun _ h => absurd h (by simp)
  | cons a _ ih =>
    intro p hp
    rcases List.mem_cons.mp hp with rfl | hp
    · exact ⟨_, List.mem_cons_self, a⟩
    · obtain ⟨r, hr, e⟩ := ih p hp
      exact ⟨r, List.mem_cons_of_mem _ hr, e⟩
theorem cr_sortC {X : Cx} {B : Int} {d : Nat} (hd : 1 ≤ d) : CallR X (.builtin "sorted") (rSortC X.K B d) := by
  intro pins s σ H vs us Q I r h
  obtain ⟨a, ps, rs, rfl, hs, tu, hb, q⟩ := h
  obtain ⟨its, rv, hl, hz⟩ := I.list hs
  obtain ⟨u, rfl, ru⟩ := vals1 r
  obtain rfl : u = Value.ref a := ru
  obtain ⟨e1, e2⟩ := refs_back rv fun x m => by
    obtain ⟨t, _, e⟩ := List.mem_map.mp m
    exact ⟨t, e.symm⟩
  have key : ∀ v ∈ its, ∃ p, v = Value.ref p ∧ p ∈ ps := fun v hv => by
    obtain ⟨t, rfl⟩ := e2 v hv
    have hm : V.ref t ∈ ps.map V.ref := by rw [e1]; exact List.mem_map.mpr ⟨_, hv, rfl⟩
    obtain ⟨p, hp, e⟩ := List.mem_map.mp hm
    cases e
    exact ⟨t, rfl, hp⟩
  have tin : ∀ v ∈ its, TS.TupInts s.heap v (intsV H (backV v)) ∧ (intsV H (backV v)).length = d ∧ TS.Bd B (intsV H (backV v)) := fun v hv => by
    obtain ⟨p, rfl, hp⟩ := key v hv
    obtain ⟨r, hr, ep⟩ := tu.mem p hp
    have ei : intsV H (backV (Value.ref p)) = r := intsV_of ep
    rw [ei]
    obtain ⟨its2, r2, pt, _⟩ := I.tuple (SqT.of ep)
    have hb' := hb r hr
    exact ⟨⟨p, its2.toArray, rfl, pt, intsAre_of r2⟩, hb'.1, hb'.2⟩
  refine SrtO.sorted_ord (ltv := fun v u => decide (TS.code B (intsV H (backV v)) < TS.code B (intsV H (backV u)))) (swoC fun v => TS.code B (intsV H (backV v))) hl.isList (by rw [← rv.length]; exact hz) (fun h2 h₁ a' ha' kk => ?_) fun out h1 h2 => ?_
  · intro h' keep
    have keep2 : ∀ b o, s.heap.get? b = some o → o.cls = .type "tuple" → h'.get? b = some o := fun b o e c => keep b o (kk b o e).1 (kk b o e).2
    have tin' : ∀ v ∈ its, TS.TupInts h' v (intsV H (backV v)) ∧ (intsV H (backV v)).length = d ∧ TS.Bd B (intsV H (backV v)) := fun v hv => let ⟨x, y, z⟩ := tin v hv; ⟨x.keeps keep2, y, z⟩
    obtain ⟨fs, k1, k2, k3⟩ := TS.firsts_of (h := h') (d := d) (B := B) hd its fun v hv => ⟨_, tin' v hv⟩
    refine ⟨tuples' true, fun Q E hq => ?_, ?_⟩
    · refine PySem.W.kat_kind (T := .type "int") k1 (by omega) (fun f hm => ?_) (by rfl) ?_
      · obtain ⟨x, t, rfl⟩ := k3 f hm
        exact PySem.W.Looks.now
      · have e : (Value.type "int" != Value.type "tuple") = true := by first | decide +kernel | rfl | decide
        rw [e]
        exact hq
    · intro p q hm hm'
      obtain ⟨⟨a1, xs, x1, ⟨o1, ho1, hc1, n1, hd1⟩, i1⟩, l1, b1⟩ := tin' _ hm
      obtain ⟨⟨a2, ys, x2, ⟨o2, ho2, hc2, n2, hd2⟩, i2⟩, l2, b2⟩ := tin' _ hm'
      show wpAny _ _ (keyLt' _ p.1 q.1) (fun r s' => s' = _ ∧ r = decide (TS.code B (intsV H (backV p.1)) < TS.code B (intsV H (backV q.1)))) (fun _ _ => False) _
      generalize intsV H (backV p.1) = ns at *
      generalize intsV H (backV q.1) = ms at *
      rw [x1, x2]
      refine PySem.W.kat_lt ho1 hd1 ho2 hd2 ?_
      have el : xs.size = ys.size := by
        have z1 := i1.length
        have z2 := i2.length
        simp at z1 z2
        omega
      rw [el, decide_eq_false (Nat.lt_irrefl _)]
      exact TS.lex_ints 0 i1 i2 (by omega) b1 b2 ⟨rfl, rfl⟩
  · obtain ⟨ep, he'⟩ := PyProof.Rows.sortedAll_at s.heap its out.toArray
    have h3 : ∀ u ∈ out, ∃ p, u = Value.ref p ∧ p ∈ ps := fun u hu => key u (h2.perm.mem_iff.mp hu)
    have eo : out.map backV = (out.map fun u => match u with
      | Value.ref a => a
      | _ => 0).map V.ref := by
      rw [List.map_map]
      refine List.map_congr_left fun u hu => ?_
      obtain ⟨p, rfl, _⟩ := h3 u hu
      rfl
    have hp : (out.map backV).Perm (ps.map V.ref) := by
      rw [e1]
      exact h2.perm.map backV
    have hlen : (out.map backV).length ≤ sizeLine := by
      rw [hp.length_eq]
      exact hz
    generalize eps : (out.map fun u => match u with
      | Value.ref a => a
      | _ => 0) = ps' at eo
    have pp : ps'.Perm ps := by
      rw [eo] at hp
      have z := hp.map fun v => match v with
        | V.ref a => a
        | _ => 0
      rw [List.map_map, List.map_map] at z
      have id1 : ∀ l : List Addr, l.map ((fun v => match v with
        | V.ref a => a
        | _ => 0) ∘ V.ref) = l := fun l => by
        induction l with
        | nil => rfl
        | cons x l ih => rw [List.map_cons, ih]; rfl
      rw [id1, id1] at z
      exact z
    have tu' : Tups fI H ps' (ps'.map fun p => intsV H (.ref p)) := tups_of fun p hp => by
      obtain ⟨r, _, e⟩ := tu.mem p (pp.mem_iff.mp hp)
      exact ⟨r, e⟩
    have pw : (ps'.map fun p => intsV H (.ref p)).Pairwise (fun x y => TS.code B x ≤ TS.code B y) := by
      have z : (out.map backV).Pairwise (fun x y => TS.code B (intsV H x) ≤ TS.code B (intsV H y)) := List.pairwise_map.mpr (h1.imp fun {x y} h => Int.not_lt.mp (of_decide_eq_false h))
      rw [eo] at z
      rw [List.pairwise_map] at z ⊢
      exact z
    rw [eo] at hlen
    refine ⟨.ref _, upd H (s.heap.objs.size + 1) (.lst (ps'.map V.ref)), I.laid (t' := s.toks) (fun _ _ => PyProof.Rows.sortedAll_old) (Nat.le_succ _) ⟨hlen, out, ep, ?_, he'⟩, rfl, q ps' _ _ tu' ?_ pw (I.hok.fresh (Nat.le_succ _))⟩
    · rw [← eo]
      exact vals_back fun u hu => by
        obtain ⟨p, e, _⟩ := h3 u hu
        exact ⟨p, e⟩
    · rw [tu.ints]
      exact pp.map _
/-- there is just one such list -/
theorem code_inj {B : Int} : ∀ {d : Nat} {x y : List Int}, x.length = d → y.length = d → TS.Bd B x → TS.Bd B y → TS.code B x = TS.code B y → x = y
  | _, [], [], _, _, _, _, _ => rfl
  | _, [], _ :: _, h1, h2, _, _, _ => by
    subst h1
    cases h2
  | _, _ :: _, [], h1, h2, _, _, _ => by
    subst h2
    cases h1
  | _, a :: x, b :: y, h1, h2, b1, b2, e => by
    have hl : x.length = y.length := by
      rw [List.length_cons] at h1 h2
      omega
    rcases Int.lt_trichotomy a b with z | z | z
    · have := TS.code_lt hl b1.tail b2.tail z
      omega
    · subst z
      have e' : TS.code B x = TS.code B y := by
        have n1 := (TS.code_same (B := B) (d := a) hl).symm
        have n2 := (TS.code_same (B := B) (d := a) hl.symm).symm
        have k1 : ¬ TS.code B x < TS.code B y := fun z => by
          have := n1.mp z
          omega
        have k2 : ¬ TS.code B y < TS.code B x := fun z => by
          have := n2.mp z
          omega
        omega
      rw [code_inj (d := x.length) rfl hl.symm b1.tail b2.tail e']
    · have := TS.code_lt hl.symm b2.tail b1.tail z
      omega
theorem sorted_uniq {B : Int} {d : Nat} : ∀ {l m : List (List Int)}, l.Perm m → (∀ r ∈ m, r.length = d ∧ TS.Bd B r) → l.Pairwise (fun x y => TS.code B x ≤ TS.code B y) → m.Pairwise (fun x y => TS.code B x ≤ TS.code B y) → l = m
  | [], m, p, _, _, _ => (List.nil_perm.mp p).symm
  | x :: l, [], p, _, _, _ => absurd p.length_eq (by simp)
  | x :: l, y :: m, p, hb, a, b => by
    have a' := List.pairwise_cons.mp a
    have b' := List.pairwise_cons.mp b
    have hx : x ∈ y :: m := p.mem_iff.mp List.mem_cons_self
    have hy : y ∈ x :: l := p.mem_iff.mpr List.mem_cons_self
    have e1 : TS.code B x ≤ TS.code B y := by
      rcases List.mem_cons.mp hy with e | h
      · rw [e]
        exact Int.le_refl _
      · exact a'.1 y h
    have e2 : TS.code B y ≤ TS.code B x := by
      rcases List.mem_cons.mp hx with e | h
      · rw [e]
        exact Int.le_refl _
      · exact b'.1 x h
    have e : x = y := code_inj (hb x hx).1 (hb y List.mem_cons_self).1 (hb x hx).2 (hb y List.mem_cons_self).2 (Int.le_antisymm e1 e2)
    subst e
    rw [sorted_uniq (List.Perm.cons_inv p) (fun r hr => hb r (List.mem_cons_of_mem _ hr)) a'.2 b'.2]
end My

/-! ### the mathematics of reach -/
namespace Rch
def ins (x : Int) : List Int → List Int
  | [] => [x]
  | y :: r => if x ≤ y then x :: y :: r else y :: ins x r
def isort : List Int → List Int
  | [] => []
  | x :: r => ins x (isort r)
theorem ins_perm (x : Int) : ∀ l : List Int, (ins x l).Perm (x :: l)
  | [] => .refl _
  | y :: r => by
    unfold ins
    split
    · exact .refl _
    · exact ((ins_perm x r).cons y).trans (.swap x y r)
theorem isort_perm : ∀ l : List Int, (isort l).Perm l
  | [] => .refl _
  | x :: r => (ins_perm x (isort r)).trans ((isort_perm r).cons x)
theorem ins_sorted (x : Int) : ∀ l : List Int, l.Pairwise (· ≤ ·) → (ins x l).Pairwise (· ≤ ·)
  | [], _ => List.pairwise_singleton _ _
  | y :: r, h => by
    unfold ins
    have h' := List.pairwise_cons.mp h
    split
    · next hx =>
      refine List.pairwise_cons.mpr ⟨fun z hz => ?_, h⟩
      rcases List.mem_cons.mp hz with e | hz
      · subst e
        exact hx
      · exact Int.le_trans hx (h'.1 z hz)
    · next hx =>
      refine List.pairwise_cons.mpr ⟨fun z hz => ?_, ins_sorted x r h'.2⟩
      rcases List.mem_cons.mp ((ins_perm x r).mem_iff.mp hz) with e | hz
      · subst e
        omega
      · exact h'.1 z hz
theorem isort_sorted : ∀ l : List Int, (isort l).Pairwise (· ≤ ·)
  | [] => .nil
  | x :: r => ins_sorted x _ (isort_sorted r)
theorem uniq : ∀ {l m : List Int}, l.Perm m → l.Pairwise (· ≤ ·) → m.Pairwise (· ≤ ·) → l = m
  | [], m, p, _, _ => (List.nil_perm.mp p).symm
  | x :: l, [], p, _, _ => absurd p.length_eq (by simp)
  | x :: l, y :: m, p, a, b => by
    have a' := List.pairwise_cons.mp a
    have b' := List.pairwise_cons.mp b
    have e : x = y := by
      have h1 : x ∈ y :: m := p.mem_iff.mp List.mem_cons_self
      have h2 : y ∈ x :: l := p.mem_iff.mpr List.mem_cons_self
      rcases List.mem_cons.mp h1 with e | h1
      · exact e
      · rcases List.mem_cons.mp h2 with e | h2
        · exact e.symm
        · exact Int.le_antisymm (a'.1 y h2) (b'.1 x h1)
    subst e
    rw [uniq (List.Perm.cons_inv p) a'.2 b'.2]
theorem isort_of {l m : List Int} (p : m.Perm l) (h : m.Pairwise (· ≤ ·)) : m = isort l := uniq (p.trans (isort_perm l).symm) h (isort_sorted l)
def greedy : Int → List Int → Int
  | T, [] => T
  | T, l :: r => if l > T + 1 then T else greedy (T + l) r
def reachOf (ns : List Int) : Int := greedy 0 (isort ns)
theorem greedy_ge : ∀ (ls : List Int) (T : Int), (∀ x ∈ ls, 0 ≤ x) → T ≤ greedy T ls
  | [], T, _ => Int.le_refl _
  | l :: r, T, h => by
    unfold greedy
    have h0 := h l List.mem_cons_self
    split
    · exact Int.le_refl _
    · have := greedy_ge r (T + l) fun x hx => h x (List.mem_cons_of_mem _ hx)
      omega
theorem greedy_le : ∀ (ls : List Int) (T : Int), (∀ x ∈ ls, 0 ≤ x ∧ x ≤ 40) → greedy T ls ≤ T + 40 * (ls.length : Int)
  | [], T, _ => by
    show T ≤ T + 40 * ((0 : Nat) : Int)
    omega
  | l :: r, T, h => by
    unfold greedy
    have h0 := h l List.mem_cons_self
    rw [List.length_cons]
    split
    · omega
    · have := greedy_le r (T + l) fun x hx => h x (List.mem_cons_of_mem _ hx)
      omega
def Good (ns : List Int) : Prop := 1 ≤ ns.length ∧ ns.length ≤ 8 ∧ ∀ n ∈ ns, 1 ≤ n ∧ n ≤ 40
theorem Good.perm {l m : List Int} (g : Good l) (p : m.Perm l) : Good m := ⟨by rw [p.length_eq]; exact g.1, by rw [p.length_eq]; exact g.2.1, fun n h => g.2.2 n (p.mem_iff.mp h)⟩
theorem isort_congr {l m : List Int} (p : m.Perm l) : isort m = isort l := uniq (((isort_perm m).trans p).trans (isort_perm l).symm) (isort_sorted m) (isort_sorted l)
theorem reach_perm {l m : List Int} (p : m.Perm l) : reachOf m = reachOf l := by
  unfold reachOf
  rw [isort_congr p]
theorem reach_bd {ns : List Int} (g : Good ns) : 0 ≤ reachOf ns ∧ reachOf ns ≤ 320 := by
  have g' := g.perm (isort_perm ns)
  have h1 := greedy_ge (isort ns) 0 fun x hx => by have := g'.2.2 x hx; omega
  have h2 := greedy_le (isort ns) 0 fun x hx => by have := g'.2.2 x hx; omega
  have h3 := g'.2.1
  refine ⟨h1, ?_⟩
  show greedy 0 (isort ns) ≤ 320
  omega
/-- n is a sum of some of ls, and of a number from 0 to T -/
def reps (T : Int) : List Int → Int → Prop
  | [], n => 0 ≤ n ∧ n ≤ T
  | l :: r, n => reps T r n ∨ reps T r (n - l)
theorem reps_perm {T : Int} {l m : List Int} (p : l.Perm m) : ∀ n, reps T l n ↔ reps T m n := by
  induction p with
  | nil => exact fun _ => Iff.rfl
  | cons x _ ih =>
    intro n
    show (reps T _ n ∨ reps T _ (n - x)) ↔ (reps T _ n ∨ reps T _ (n - x))
    rw [ih n, ih (n - x)]
  | swap x y r =>
    intro n
    show ((reps T r n ∨ reps T r (n - x)) ∨ (reps T r (n - y) ∨ reps T r (n - y - x))) ↔ ((reps T r n ∨ reps T r (n - y)) ∨ (reps T r (n - x) ∨ reps T r (n - x - y)))
    rw [show n - y - x = n - x - y by omega]
    constructor
    · rintro ((a | a) | (a | a))
      · exact .inl (.inl a)
      · exact .inr (.inl a)
      · exact .inl (.inr a)
      · exact .inr (.inr a)
    · rintro ((a | a) | (a | a))
      · exact .inl (.inl a)
      · exact .inr (.inl a)
      · exact .inl (.inr a)
      · exact .inr (.inr a)
  | trans _ _ h1 h2 => exact fun n => (h1 n).trans (h2 n)
theorem reps_up {T l : Int} (h0 : 0 ≤ T) (h1 : 1 ≤ l) (h2 : l ≤ T + 1) : ∀ (r : List Int) (n : Int), reps (T + l) r n ↔ reps T (l :: r) n
  | [], n => by
    show (0 ≤ n ∧ n ≤ T + l) ↔ ((0 ≤ n ∧ n ≤ T) ∨ (0 ≤ n - l ∧ n - l ≤ T))
    omega
  | x :: r, n => by
    show (reps (T + l) r n ∨ reps (T + l) r (n - x)) ↔ _
    rw [reps_up h0 h1 h2 r n, reps_up h0 h1 h2 r (n - x)]
    exact (reps_perm (.swap l x r) n)
theorem reps_low {T : Int} : ∀ (ls : List Int) (n : Int), 0 ≤ n → n ≤ T → reps T ls n
  | [], n, a, b => ⟨a, b⟩
  | _ :: r, n, a, b => .inl (reps_low r n a b)
theorem reps_nonneg {T : Int} : ∀ (ls : List Int) (n : Int), (∀ x ∈ ls, 0 ≤ x) → reps T ls n → 0 ≤ n
  | [], n, _, h => h.1
  | l :: r, n, hp, h => by
    have h0 := hp l List.mem_cons_self
    have hr : ∀ x ∈ r, 0 ≤ x := fun x hx => hp x (List.mem_cons_of_mem _ hx)
    rcases h with h | h
    · exact reps_nonneg r n hr h
    · have := reps_nonneg r _ hr h
      omega
theorem reps_not {T : Int} (h0 : 0 ≤ T) : ∀ (ls : List Int) (n : Int), (∀ x ∈ ls, T + 1 < x) → n ≤ T + 1 → reps T ls n → n ≤ T
  | [], n, _, _, h => h.2
  | l :: r, n, hp, hn, h => by
    have hl := hp l List.mem_cons_self
    have hr : ∀ x ∈ r, T + 1 < x := fun x hx => hp x (List.mem_cons_of_mem _ hx)
    rcases h with h | h
    · exact reps_not h0 r n hr hn h
    · have := reps_nonneg r _ (fun x hx => by have := hr x hx; omega) h
      omega
theorem greedy_is : ∀ (ls : List Int) (T : Int), 0 ≤ T → (∀ x ∈ ls, 1 ≤ x) → ls.Pairwise (· ≤ ·) → (∀ n, 0 ≤ n → n ≤ greedy T ls → reps T ls n) ∧ ¬ reps T ls (greedy T ls + 1)
  | [], T, h0, _, _ => ⟨fun n a b => ⟨a, b⟩, fun h => by
    have := h.2
    unfold greedy at this
    omega⟩
  | l :: r, T, h0, hp, hs => by
    have hl := hp l List.mem_cons_self
    have hr : ∀ x ∈ r, 1 ≤ x := fun x hx => hp x (List.mem_cons_of_mem _ hx)
    have hs' := List.pairwise_cons.mp hs
    unfold greedy
    by_cases hc : l > T + 1
    · rw [if_pos hc]
      refine ⟨fun n a b => reps_low _ n a b, fun h => ?_⟩
      have := reps_not h0 (l :: r) (T + 1) (fun x hx => by
        rcases List.mem_cons.mp hx with e | hx
        · omega
        · have := hs'.1 x hx
          omega) (Int.le_refl _) h
      omega
    · rw [if_neg hc]
      have ih := greedy_is r (T + l) (by omega) hr hs'.2
      have up := reps_up h0 hl (by omega : l ≤ T + 1) r
      exact ⟨fun n a b => (up n).mp (ih.1 n a b), fun h => ih.2 ((up _).mpr h)⟩
theorem reach_is {ns : List Int} (g : Good ns) : (∀ n, 0 ≤ n → n ≤ reachOf ns → reps 0 ns n) ∧ ¬ reps 0 ns (reachOf ns + 1) := by
  have g' := g.perm (isort_perm ns)
  have k := greedy_is (isort ns) 0 (Int.le_refl _) (fun x hx => (g'.2.2 x hx).1) (isort_sorted ns)
  exact ⟨fun n a b => (reps_perm (isort_perm ns) n).mp (k.1 n a b), fun h => k.2 ((reps_perm (isort_perm ns) _).mpr h)⟩
/-! ### sums as bits -/
def sumsF (S : Nat) : List Int → Nat
  | [] => S
  | l :: r => sumsF (S ||| S * 2 ^ l.toNat) r
theorem bits_step {S : Nat} {ls : List Int} {l : Int} (hl : 0 ≤ l) (hp : ∀ x ∈ ls, 0 ≤ x) (h : ∀ n : Nat, S.testBit n = true ↔ reps 0 ls (n : Int)) (n : Nat) : (S ||| S * 2 ^ l.toNat).testBit n = true ↔ reps 0 (l :: ls) (n : Int) := by
  rw [← Nat.shiftLeft_eq, Nat.testBit_or, Nat.testBit_shiftLeft, Bool.or_eq_true, Bool.and_eq_true, decide_eq_true_eq, h n, h (n - l.toNat)]
  show _ ↔ (reps 0 ls (n : Int) ∨ reps 0 ls ((n : Int) - l))
  constructor
  · rintro (a | ⟨a, b⟩)
    · exact .inl a
    · refine .inr ?_
      rw [show (n : Int) - l = ((n - l.toNat : Nat) : Int) by omega]
      exact b
  · rintro (a | a)
    · exact .inl a
    · have := reps_nonneg ls _ hp a
      refine .inr ⟨by omega, ?_⟩
      rw [show ((n - l.toNat : Nat) : Int) = (n : Int) - l by omega]
      exact a
theorem bits_all : ∀ (ls acc : List Int) (S : Nat), (∀ x ∈ ls, 0 ≤ x) → (∀ x ∈ acc, 0 ≤ x) → (∀ n : Nat, S.testBit n = true ↔ reps 0 acc (n : Int)) → ∀ n : Nat, (sumsF S ls).testBit n = true ↔ reps 0 (ls.reverse ++ acc) (n : Int)
  | [], acc, S, _, _, h => h
  | l :: r, acc, S, hl, ha, h => by
    intro n
    rw [List.reverse_cons, List.append_assoc]
    exact bits_all r (l :: acc) _ (fun x hx => hl x (List.mem_cons_of_mem _ hx)) (fun x hx => by
      rcases List.mem_cons.mp hx with e | hx
      · subst e
        exact hl x List.mem_cons_self
      · exact ha x hx) (bits_step (hl l List.mem_cons_self) ha h) n
theorem bit_one (n : Nat) : (1 : Nat).testBit n = true ↔ reps 0 [] (n : Int) := by
  show _ ↔ (0 ≤ (n : Int) ∧ (n : Int) ≤ 0)
  cases n with
  | zero => exact ⟨fun _ => ⟨by decide, by decide⟩, fun _ => by decide⟩
  | succ n =>
    rw [Nat.testBit_succ, show 1 / 2 = 0 from rfl, Nat.zero_testBit]
    exact ⟨fun h => absurd h Bool.false_ne_true, fun h => by omega⟩
theorem sums_is {ns : List Int} (g : Good ns) (n : Nat) : (sumsF 1 ns).testBit n = true ↔ reps 0 ns (n : Int) := by
  rw [bits_all ns [] 1 (fun x hx => by have := g.2.2 x hx; omega) (fun _ h => by simp at h) bit_one n, List.append_nil]
  exact reps_perm (List.reverse_perm ns) n
/-- sums // (1 << n) % 2 -/
theorem bit_of (S n : Nat) : (((S : Nat) : Int) / (1 * 2 ^ ((n : Int).toNat))).fmod 2 = if S.testBit n then 1 else 0 := by
  rw [Int.toNat_natCast, Int.one_mul, Int.fmod_eq_emod_of_nonneg _ (by decide), show ((2 : Int) ^ n) = ((2 ^ n : Nat) : Int) by simp, ← Int.natCast_ediv, show ((2 : Int)) = ((2 : Nat) : Int) from rfl, ← Int.natCast_emod, Nat.testBit_eq_decide_div_mod_eq]
  rcases Nat.mod_two_eq_zero_or_one (S / 2 ^ n) with e | e
  · rw [e]; rfl
  · rw [e]; rfl
end Rch

/-! ### the mathematics of tables -/
namespace Tb
def len1 (ls : List Int) (k : Int) : Int := ls.getD k.toNat 0
def rsum (ls : List Int) (r : List Int) : Int := (r.map (len1 ls)).sum
def InR (ls r : List Int) : Prop := ∀ k ∈ r, 0 ≤ k ∧ k < (ls.length : Int)
def Right (ls : List Int) (rs : List (List Int)) : Prop := Rch.Good ls ∧ 1 ≤ rs.length ∧ rs.length ≤ 60 ∧ ∀ (i : Nat) (r : List Int), rs[i]? = some r → InR ls r ∧ r.length ≤ 60 ∧ rsum ls r = (i : Int) + 1
theorem len_at {ls : List Int} {k : Int} (h0 : 0 ≤ k) (h1 : k < (ls.length : Int)) : ls[k.toNat]? = some (len1 ls k) := by
  have h : k.toNat < ls.length := by omega
  unfold len1
  rw [List.getD_eq_getElem?_getD, List.getElem?_eq_getElem h]
  rfl
theorem len_pos {ls : List Int} (g : Rch.Good ls) {k : Int} (h0 : 0 ≤ k) (h1 : k < (ls.length : Int)) : 1 ≤ len1 ls k ∧ len1 ls k ≤ 40 := g.2.2 _ (List.mem_of_getElem? (len_at h0 h1))
theorem rsum_cons (ls : List Int) (k : Int) (r : List Int) : rsum ls (k :: r) = len1 ls k + rsum ls r := by
  unfold rsum
  rw [List.map_cons, List.sum_cons]
theorem rsum_snoc (ls : List Int) (r : List Int) (k : Int) : rsum ls (r ++ [k]) = rsum ls r + len1 ls k := by
  unfold rsum
  rw [List.map_append, List.sum_append]
  simp
theorem rsum_len {ls : List Int} (g : Rch.Good ls) : ∀ {r : List Int}, InR ls r → (r.length : Int) ≤ rsum ls r
  | [], _ => by simp [rsum]
  | k :: r, h => by
    have h1 := h k List.mem_cons_self
    have := (len_pos g h1.1 h1.2).1
    have ih := rsum_len g (r := r) fun x hx => h x (List.mem_cons_of_mem _ hx)
    rw [rsum_cons, List.length_cons]
    omega
/-- when gone, into which loop -/
def go (ls : List Int) : Int → List Int → List (Int × Int)
  | _, [] => []
  | g, k :: r => (g, k) :: go ls (g + len1 ls k) r
theorem go_len (ls : List Int) : ∀ (r : List Int) (g : Int), (go ls g r).length = r.length
  | [], _ => rfl
  | k :: r, g => by
    show (go ls (g + len1 ls k) r).length + 1 = r.length + 1
    rw [go_len ls r]
theorem go_take (ls : List Int) : ∀ (r : List Int) (g : Int) (j : Nat), (go ls g r)[j]? = (r[j]?).map fun k => (g + rsum ls (r.take j), k)
  | [], g, j => by simp [go]
  | k :: r, g, 0 => by
    show some (g, k) = some (g + rsum ls [], k)
    simp [rsum]
  | k :: r, g, j + 1 => by
    show (go ls (g + len1 ls k) r)[j]? = (r[j]?).map fun x => (g + rsum ls (k :: r.take j), x)
    rw [go_take ls r, rsum_cons]
    congr 1
    funext x
    rw [Int.add_assoc]
theorem go_snd (ls : List Int) : ∀ (r : List Int) (g : Int), (go ls g r).map (·.2) = r
  | [], _ => rfl
  | k :: r, g => by
    show k :: (go ls (g + len1 ls k) r).map (·.2) = k :: r
    rw [go_snd ls r]
theorem go_rng {ls : List Int} (G : Rch.Good ls) : ∀ (r : List Int) (g : Int), InR ls r → ∀ p ∈ go ls g r, g ≤ p.1 ∧ p.1 < g + rsum ls r ∧ 0 ≤ p.2 ∧ p.2 < (ls.length : Int)
  | [], _, _, p, hp => absurd hp (by simp [go])
  | k :: r, g, h, p, hp => by
    have hk := h k List.mem_cons_self
    have l1 := (len_pos G hk.1 hk.2).1
    have hr : InR ls r := fun x hx => h x (List.mem_cons_of_mem _ hx)
    have n0 := rsum_len G hr
    rw [rsum_cons]
    rcases List.mem_cons.mp hp with e | hp
    · rw [e]
      show g ≤ g ∧ g < _ ∧ 0 ≤ k ∧ k < _
      omega
    · have := go_rng G r _ hr p hp
      omega
theorem go_up {ls : List Int} (G : Rch.Good ls) : ∀ (r : List Int) (g : Int), InR ls r → (go ls g r).Pairwise fun p q => p.1 < q.1
  | [], _, _ => .nil
  | k :: r, g, h => by
    have hk := h k List.mem_cons_self
    have l1 := (len_pos G hk.1 hk.2).1
    have hr : InR ls r := fun x hx => h x (List.mem_cons_of_mem _ hx)
    refine List.pairwise_cons.mpr ⟨fun q hq => ?_, go_up G r _ hr⟩
    have := go_rng G r _ hr q hq
    show g < q.1
    omega
/-- loop, gone, left -/
def ent (w : Int) (p : Int × Int) : List Int := [p.2, p.1, w - p.1]
def ents (ls : List Int) (w : Int) (r : List Int) : List (List Int) := (go ls 0 r).map (ent w)
def all (ls : List Int) (rs : List (List Int)) : Nat → List (List Int)
  | 0 => []
  | i + 1 => all ls rs i ++ ents ls ((i : Int) + 1) (rs.getD i [])
theorem ents_len (ls : List Int) (w : Int) (r : List Int) : (ents ls w r).length = r.length := by
  unfold ents
  rw [List.length_map, go_len]
theorem getD_row {rs : List (List Int)} {i : Nat} {r : List Int} (h : rs[i]? = some r) : rs.getD i [] = r := by
  rw [List.getD_eq_getElem?_getD, h]
  rfl
theorem all_wait {ls : List Int} {rs : List (List Int)} : ∀ (i : Nat) (e : List Int), e ∈ all ls rs i → ∃ k g w : Int, e = [k, g, w - g] ∧ 1 ≤ w ∧ w ≤ i
  | 0, e, h => absurd h (by simp [all])
  | i + 1, e, h => by
    rcases List.mem_append.mp h with h | h
    · obtain ⟨k, g, w, e1, h1, h2⟩ := all_wait i e h
      exact ⟨k, g, w, e1, h1, by omega⟩
    · obtain ⟨p, _, rfl⟩ := List.mem_map.mp h
      exact ⟨p.2, p.1, (i : Int) + 1, rfl, by omega, by omega⟩
/-- each new one is new -/
theorem new_one {ls : List Int} {rs : List (List Int)} {r : List Int} (G : Rch.Good ls) (hr : InR ls r) {i j : Nat} {p : Int × Int} (hj : (go ls 0 r)[j]? = some p) : ent ((i : Int) + 1) p ∉ all ls rs i ++ ((go ls 0 r).take j).map (ent ((i : Int) + 1)) := by
  intro h
  rcases List.mem_append.mp h with h | h
  · obtain ⟨k, g, w, e, h1, h2⟩ := all_wait i _ h
    unfold ent at e
    have e1 : p.1 = g := by
      have := congrArg (fun z : List Int => z.getD 1 0) e
      exact this
    have e2 : (i : Int) + 1 - p.1 = w - g := by
      have := congrArg (fun z : List Int => z.getD 2 0) e
      exact this
    omega
  · obtain ⟨q, hq, e⟩ := List.mem_map.mp h
    have e1 : q.1 = p.1 := by
      have := congrArg (fun z : List Int => z.getD 1 0) e
      exact this
    obtain ⟨m, hm⟩ := List.mem_iff_getElem?.mp hq
    rw [List.getElem?_take] at hm
    split at hm
    · next hlt =>
      have pw := List.pairwise_iff_getElem.mp (go_up G r 0 hr)
      obtain ⟨hm', em⟩ := List.getElem?_eq_some_iff.mp hm
      obtain ⟨hj', ej⟩ := List.getElem?_eq_some_iff.mp hj
      have := pw m j hm' hj' hlt
      rw [em, ej] at this
      omega
    · cases hm
theorem ents_bd {ls : List Int} {r : List Int} {w : Int} (G : Rch.Good ls) (hr : InR ls r) (hw : rsum ls r = w) (h60 : w ≤ 60) : ∀ e ∈ ents ls w r, e.length = 3 ∧ TS.Bd 1000 e := by
  intro e he
  obtain ⟨p, hp, rfl⟩ := List.mem_map.mp he
  have h := go_rng G r 0 hr p hp
  have g1 := G.2.1
  refine ⟨rfl, fun m hm => ?_⟩
  unfold ent at hm
  simp only [List.mem_cons, List.not_mem_nil, or_false] at hm
  rcases hm with e | e | e <;> subst e <;> omega
theorem all_bd {ls : List Int} {rs : List (List Int)} (R : Right ls rs) : ∀ i, i ≤ rs.length → ∀ e ∈ all ls rs i, e.length = 3 ∧ TS.Bd 1000 e
  | 0, _, e, he => absurd he (by simp [all])
  | i + 1, hi, e, he => by
    rcases List.mem_append.mp he with he | he
    · exact all_bd R i (by omega) e he
    · have hr : rs[i]? = some rs[i] := List.getElem?_eq_getElem (by omega)
      rw [getD_row hr] at he
      obtain ⟨a, b, c⟩ := R.2.2.2 i _ hr
      have := R.2.2.1
      exact ents_bd R.1 a c (by omega) e he
theorem all_len {ls : List Int} {rs : List (List Int)} (R : Right ls rs) : ∀ i, i ≤ rs.length → (all ls rs i).length ≤ 60 * i
  | 0, _ => Nat.le_refl _
  | i + 1, hi => by
    have ih := all_len R i (by omega)
    have hr : rs[i]? = some rs[i] := List.getElem?_eq_getElem (by omega)
    obtain ⟨a, b, c⟩ := R.2.2.2 i _ hr
    show (all ls rs i ++ ents ls ((i : Int) + 1) (rs.getD i [])).length ≤ _
    rw [List.length_append, ents_len, getD_row hr]
    omega
/-- the entries of one wait, when gone ahead -/
def ofWait (w : Int) (e : List Int) : Bool := (e.getD 1 0 + e.getD 2 0) == w
def swap (e : List Int) : List Int := [e.getD 1 0, e.getD 0 0]
def sel (w : Int) (es : List (List Int)) : List (List Int) := (es.filter (ofWait w)).map swap
theorem sel_append (w : Int) (a b : List (List Int)) : sel w (a ++ b) = sel w a ++ sel w b := by
  unfold sel
  rw [List.filter_append, List.map_append]
def gl (ls r : List Int) : List (List Int) := (go ls 0 r).map fun p => [p.1, p.2]
theorem sel_yes (ls : List Int) (w : Int) (r : List Int) : sel w (ents ls w r) = gl ls r := by
  unfold sel ents gl
  rw [List.filter_eq_self.mpr, List.map_map]
  · rfl
  · intro e he
    obtain ⟨p, _, rfl⟩ := List.mem_map.mp he
    show ((p.1 + (w - p.1)) == w) = true
    rw [beq_iff_eq]
    omega
theorem sel_no {ls : List Int} {w v : Int} (r : List Int) (h : v ≠ w) : sel w (ents ls v r) = [] := by
  unfold sel ents
  rw [List.filter_eq_nil_iff.mpr, List.map_nil]
  intro e he
  obtain ⟨p, _, rfl⟩ := List.mem_map.mp he
  show ¬ ((p.1 + (v - p.1)) == w) = true
  rw [beq_iff_eq]
  omega
theorem sel_all {ls : List Int} {rs : List (List Int)} (m : Nat) : ∀ i, sel ((m : Int) + 1) (all ls rs i) = if m < i then gl ls (rs.getD m []) else []
  | 0 => by
    rw [if_neg (by omega)]
    rfl
  | i + 1 => by
    show sel _ (all ls rs i ++ ents ls ((i : Int) + 1) (rs.getD i [])) = _
    rw [sel_append, sel_all m i]
    by_cases h : m < i
    · rw [if_pos h, if_pos (by omega), sel_no _ (by omega), List.append_nil]
    · rw [if_neg h, List.nil_append]
      by_cases h2 : m = i
      · subst h2
        rw [if_pos (by omega), sel_yes]
      · rw [if_neg (by omega), sel_no _ (by omega)]
theorem gl_bd {ls : List Int} {r : List Int} (G : Rch.Good ls) (hr : InR ls r) (h60 : rsum ls r ≤ 60) : ∀ e ∈ gl ls r, e.length = 2 ∧ TS.Bd 1000 e := by
  intro e he
  obtain ⟨p, hp, rfl⟩ := List.mem_map.mp he
  have h := go_rng G r 0 hr p hp
  have g1 := G.2.1
  refine ⟨rfl, fun m hm => ?_⟩
  simp only [List.mem_cons, List.not_mem_nil, or_false] at hm
  rcases hm with e | e <;> subst e <;> omega
theorem gl_sorted {ls : List Int} {r : List Int} (G : Rch.Good ls) (hr : InR ls r) (h60 : rsum ls r ≤ 60) : (gl ls r).Pairwise fun x y => TS.code 1000 x ≤ TS.code 1000 y := by
  unfold gl
  rw [List.pairwise_map]
  refine (List.pairwise_iff_getElem.mpr fun i j hi hj hij => ?_)
  have pw := List.pairwise_iff_getElem.mp (go_up G r 0 hr) i j hi hj hij
  have b1 := go_rng G r 0 hr _ (List.getElem_mem hi)
  have b2 := go_rng G r 0 hr _ (List.getElem_mem hj)
  have g1 := G.2.1
  show (go ls 0 r)[i].1 * 1000 ^ 1 + ((go ls 0 r)[i].2 * 1000 ^ 0 + 0) ≤ (go ls 0 r)[j].1 * 1000 ^ 1 + ((go ls 0 r)[j].2 * 1000 ^ 0 + 0)
  omega
theorem sel_perm {w : Int} {a b : List (List Int)} (p : a.Perm b) : (sel w a).Perm (sel w b) := (p.filter _).map _
theorem gl_snd (ls r : List Int) : (gl ls r).map (fun e => e.getD 1 0) = r := by
  unfold gl
  rw [List.map_map]
  exact go_snd ls r 0
end Tb

/-! ## sum(t), t a tuple of ints -/
namespace My
open PySem PySem.Spec PyProof.Rows L2
section
variable {prog : Program} {w : World} {A : Around} {E : Value → Shared → Prop} {s : Shared} {l : Addr} {xs : Array (Int × Tok)}
theorem sum_tupG {Q : Value → Shared → Prop} (hh : A.handled = none) (hl : s.heap.IsTuple l (intItems xs))
    (h : ∀ h' tk t', (∀ b o, s.heap.get? b = some o → h'.get? b = some o) → Q (.int (preSum (numAt xs) xs.size) t') { s with heap := h', toks := tk }) :
    wpAny (model prog w) A (call (.builtin "sum") [.ref l]) Q E s := by
  have hll : l < s.heap.objs.size := by obtain ⟨_, q, _⟩ := hl; exact Heap.lt_size q
  refine call_sum_walkG (wpAny_pyIter_tuple hl ?_)
  refine ⟨_, _, _, _, _, _, numAt xs, rfl, Walks.tuple (A := A.in1) hh s.heap.objs.size l (Nat.ne_of_lt hll) (intItems xs), ⟨⟨_, Heap.get?_push_size _ rfl, rfl, rfl⟩, hl.push _⟩, fun b hb => ?_, (fun _ _ => intItems_at), fun h' tk t' hk => ?_⟩
  · show b < (s.heap.push _).objs.size
    rw [Heap.size_push]
    rcases List.mem_cons.mp hb with rfl | hb
    · exact Nat.lt_succ_self _
    · rw [List.mem_singleton.mp hb]
      exact Nat.lt_succ_of_lt hll
  · have := h h' tk t' fun b o e => hk b o (fun hm => by
      rw [List.mem_singleton.mp hm] at e
      exact absurd (Heap.lt_size e) (Nat.lt_irrefl _)) (Heap.get?_push_of_some _ e)
    simpa [intItems] using this
end
def rSumT (K : PySem.W.Frag) : List V → Hp → VK → Prop := fun vs H Q => ∃ (a : Addr) (ns : List Int), vs = [V.ref a] ∧ SqT K H a (ns.map V.int) ∧ Q (.int ns.sum) H
theorem cr_sumT {X : Cx} (hc : X.calm = true) : CallR X (.builtin "sum") (rSumT X.K) := by
  intro pins s σ H vs us Q I r h
  obtain ⟨a, ns, rfl, hs, q⟩ := h
  obtain ⟨its, rv, hl, _⟩ := I.tuple hs
  rw [Vals.ref1 r]
  have hi := rv.ints
  obtain ⟨xs, e⟩ := hi.allInts.items
  have hn : numsOf (intItems xs).toList = ns := by rw [← e]; exact hi.numsOf
  rw [nums_intItems] at hn
  have hl' : s.heap.IsTuple a (intItems xs) := by
    rw [← e]
    exact hl
  refine sum_tupG (I.ok.hd hc) hl' fun h' tk t' hk => ?_
  rw [preSum_eq, List.take_of_length_le (by simp), hn]
  exact ⟨.int _, H, I.kept hk, ⟨_, rfl⟩, q⟩
/-! ### t + u, both tracked, t not empty -/
def rCatP : R2 := fun x y H Q => ∃ a b xs ys, x = .ref a ∧ y = .ref b ∧ H a = some (.tup xs) ∧ H b = some (.tup ys) ∧ xs ≠ [] ∧ xs.length + ys.length ≤ sizeLine ∧ ∀ p H', Same H H' → H' p = some (.tup (xs ++ ys)) → Q (.ref p) H'
theorem op_catP {X : Cx} : OpR X (binaryOp .Add) rCatP := by
  intro pins s σ H x y v u Q I rx ry h
  obtain ⟨a, b, xs, ys, rfl, rfl, ha, hb, hne, hz, q⟩ := h
  refine op_catA pins s σ H _ _ v u Q I rx ry ⟨a, b, xs, ys, rfl, rfl, SqT.of ha, SqT.of hb, hz, fun e => absurd e hne, fun _ e => ?_, fun _ _ p np => ?_⟩
  · subst e
    refine q a H (fun _ _ h => h) ?_
    rw [List.append_nil]
    exact ha
  · exact q p _ (same_upd np) upd_same
/-! ### xs[i] read where it is changed -/
theorem pgetL {X : Cx} : PGet X (rIxL X.K) := by
  intro pins s σ H o i ov iv Q I r1 r2 h
  obtain ⟨p, xs, k, z, rfl, rfl, hq, he, q⟩ := h
  cases r1
  obtain ⟨t, rfl⟩ := r2
  obtain ⟨its, r, pl, hz⟩ := I.list hq
  obtain ⟨j, h1, h2, h3, h4, h5⟩ := atI_get he
  obtain ⟨w, ew, rw'⟩ := r.get h2
  have hl := r.length
  have hn := line63
  have fin : EP X pins σ Q w s := ⟨z, H, I, rw', q⟩
  by_cases h0 : 0 ≤ k
  · have hj : k.toNat = j := by
      rw [PySem.seqIndex_of h0 h5] at h1
      exact Option.some.inj h1
    exact wpAny_getItem_list pl.isList h0 (by omega) (by rw [hj]; simpa using ew) fin
  · have hj : (k + (its.toArray.size : Int)).toNat = j := by
      rw [PySem.seqIndex_neg (by omega) h4] at h1
      rw [List.size_toArray, ← hl]
      exact Option.some.inj h1
    exact wpAny_mono (wpAny_getItem_list_neg (Q := fun r s' => r = w ∧ EP X pins σ Q r s') pl.isList (by omega) (by rw [List.size_toArray] <;> omega) (by omega) (by rw [hj]; simpa using ew) ⟨rfl, fin⟩) (fun _ _ h => h.2) fun _ _ h => h
/-! ### zip of two lists, the second one not longer -/
theorem for_zipS {K : PySem.W.Frag} {a b : Addr} {xs ys : List V} {g : TG} {tb : TS} {D : Ends} {σ : L2.St} {H : Hp} (hl : ys.length ≤ xs.length) (Pv : Nat → L2.St → Hp → Prop) (h0 : Pv 0 σ H) (hq : ∀ i σ H, Pv i σ H → SqL K H a xs ∧ SqL K H b ys)
    (hs : ∀ (i : Nat) (x y : V) (T : Addr) (σ : L2.St) (H : Hp), xs[i]? = some x → ys[i]? = some y → Pv i σ H → H T = none → g (.ref T) σ (upd H T (.tup [x, y])) fun σ2 H2 => tb { D with nx := Pv (i + 1), ct := Pv (i + 1), bk := D.nx } σ2 H2) (hd : ∀ σ H, Pv ys.length σ H → D.nx σ H) :
    ∃ W : Nat → Nat → L2.St → Hp → Prop, (∃ m, W 0 m σ H) ∧ ∀ i m σ H, W i m σ H →
      ((Itz K a b).stop i H ∧ D.nx σ H) ∨ ((Itz K a b).go i H ∧ ∃ N : L2.St → Hp → Prop, (∀ σ' H', N σ' H' → ∃ m', m' < m ∧ W (i + 1) m' σ' H') ∧ ∀ v H', (Itz K a b).yld i H v H' → g v σ H' fun σ2 H2 => tb { D with nx := N, ct := N, bk := D.nx } σ2 H2) := by
  refine ⟨fun i m σ H => m = ys.length - i ∧ i ≤ ys.length ∧ Pv i σ H, ⟨ys.length, rfl, Nat.zero_le _, h0⟩, ?_⟩
  rintro i m σ H ⟨rfl, hi, p⟩
  obtain ⟨qx, qy⟩ := hq i σ H p
  by_cases h : i < ys.length
  · have hx : xs[i]? = some xs[i] := List.getElem?_eq_getElem (by omega)
    have hy : ys[i]? = some ys[i] := List.getElem?_eq_getElem h
    refine .inr ⟨⟨xs, ys, _, _, qx, qy, hx, hy⟩, Pv (i + 1), fun σ' H' n => ⟨ys.length - (i + 1), by omega, rfl, by omega, n⟩, ?_⟩
    rintro v H' ⟨T, x, y, rfl, nT, rfl, ex, ey⟩
    exact hs i x y T σ H (ex xs qx) (ey ys qy) p nT
  · have e : i = ys.length := by omega
    subst e
    exact .inl ⟨⟨xs, ys, qx, qy, .inr (Nat.le_refl _)⟩, hd σ H p⟩
/-! ### what stays while the tape moves -/
theorem Moved.sq {K : PySem.W.Frag} {t s : Addr} {H H' : Hp} {a : Addr} {xs : List V} (mv : Moved t H H') (tp : Tape H t s) (h : SqT K H a xs) : SqT K H' a xs := by
  obtain ⟨_, _, _, _, _, _, e2, _⟩ := tp
  rcases h with (h | ⟨o, h⟩) | h
  · exact .inl (.inl (mv _ _ (fun z => by rw [z, e2] at h; cases h) h))
  · exact .inl (.inr ⟨o, mv _ _ (fun z => by rw [z, e2] at h; cases h) h⟩)
  · exact .inr h
theorem Moved.tups {α : Type} {f : α → List V} {t s : Addr} {H H' : Hp} {ps : List Addr} {xs : List α} (mv : Moved t H H') (tp : Tape H t s) (h : Tups f H ps xs) : Tups f H' ps xs := h.keep fun b ys e => by
  obtain ⟨_, _, _, _, _, _, e2, _⟩ := tp
  exact mv _ _ (fun z => by rw [z, e2] at e; cases e) e
end My

/-! ### == and != by a def of one's own, against anything -/
namespace RE8
open PySem PySem.Spec PySem.W PyProof.Rows L2 Builtin
section
variable {prog : Program} {w : World} {A : Around} {E : Value → Shared → Prop} {s : Shared} {K : Frag} {x C L f : Addr} {h₀ : Heap} {m : Str → Option Value} {ox : Obj} {od : Option Obj} {b tb : Value}
theorem ifBoundB {M : Model} {name : Str} {id : String} {args : List Value} {Q : Option Value → Shared → Prop} (X : K.In s.heap) (I : InstAt s.heap x ox C od) (hs : findIn K (.ref C) name = some (some (.builtin id)))
    (hb : ∀ self, bindSpecial (.builtin id) self = pure (.builtin id, [self])) (h : wpAny M A (call (.builtin id) (.ref x :: args)) (fun v => Q (some v)) E s) : wpAny M A (callSpecialIfBound? (.ref x) name args) Q E s := by
  simp only [callSpecialIfBound?, bindSpecialIfBound?]
  refine wpAny_holding (wpAny_bind (wpAny_bind (wpAny_bind (I.type.here ((looks_findIn X hs).here ?_)))))
  simp only [hb]
  refine wpAny_bind (wpAny_askSetting (wpAny_ite ?_))
  have fin : wpAny M A (call (.builtin id) ([.ref x] ++ args) >>= fun v => pure (some v)) Q E s := wpAny_bind (wpAny_mono h (fun v s' h' => wpAny_pure h') fun _ _ h' => h')
  split
  · exact wpAny_bind (wpAny_pure (wpAny_pure fin))
  · exact wpAny_tryCatch (wpAny_bind (wpAny_pure (wpAny_pure fin)))
theorem ne_body (X : K.In s.heap) (I : InstAt s.heap x ox C od) (hu : A.units < cLine) (hs : findIn K (.ref C) "__eq__" = some (some (.ref f))) (hf : isFn K (.ref f) = true) {Q : Fin → Shared → Prop}
    (hcall : wpAny (model prog w) A (call (.ref f) [.ref x, b]) (fun v s' => ∃ r, v = .bool r ∧ Q (.done (.ret (.bool (!r)))) s') E s) : wpAny (model prog w) A (Builtin.«object.__ne__» ⟨[.ref x, b], []⟩) Q E s := by
  unfold Builtin.«object.__ne__»
  repeat (first
    | with_reducible refine wpAny_cRoomFor hu ?_
    | (refine wpAny_bind (m := callSpecialIfBound? (.ref x) (Str.ofString "__eq__") [b])
        (ifBound_K X I hs hf (wpAny_mono hcall (fun r s' hr => by
          obtain ⟨b, rfl, hq⟩ := hr
          repeat (first | exact hq | exact wpAny_pure hq | exact wpAny_truthy_bool hq | (refine wpAny_bind (m := truthy (.bool _)) (wpAny_truthy_bool ?_)) | wp_step)) fun _ _ e => e)))
    | wp_step)
theorem cmp_ne {Q : Value → Shared → Prop} (hu : A.units + 1 < cLine) (F : Fr h₀ L s.heap m) (X₀ : K.In h₀) (I : InstAt s.heap x ox C od) (hb : Looks (model prog w) s.heap (typeOf b) tb) (hn : notFirst K C tb = true)
    (hs : findIn K (.ref C) "__eq__" = some (some (.ref f))) (hne : findIn K (.ref C) "__ne__" = some (some (.builtin "object.__ne__"))) (hm : mroIn K C (.type "object") = some true) (hf : isFn K (.ref f) = true)
    (h : wpAny (model prog w) A.in1 (call (.ref f) [.ref x, b]) (fun v s' => ∃ r, v = .bool r ∧ Q (.bool (!r)) s') E s) : wpAny (model prog w) A (richCompare .NotEq (.ref x) b) Q E s := by
  have X := X₀.keeps F.keep
  have t2 : Looks (model prog w) s.heap (isInstance (.ref x) (.type "object")) true := I.type.andThen (looks_mroIn X hm)
  have one : wpAny (model prog w) A (tryCompare (.ref x) "__ne__" b) (fun r s' => ∃ v, r = some v ∧ Q v s') E s := by
    unfold tryCompare
    refine wpAny_bind (ifBoundB X I hne (fun self => PySem.F.cmp_object.ne.bind self) (wpAny_call (codeAny_call_builtin PySem.F.cmp_object.ne.plain PySem.F.cmpEntry_ne
      (check_slot PySem.F.cmpKind_ne PySem.F.cmpSplit_ne t2 (PySem.F.cmpArgs_ne _ _) (ne_body (A := A.in1) X I (by exact hu) hs hf (wpAny_mono h (fun v s' hv => ?_) fun _ _ e => e))))))
    obtain ⟨r, rfl, hq⟩ := hv
    exact ⟨r, rfl, wpAny_pure ⟨_, rfl, hq⟩⟩
  unfold richCompare
  simp only [oneThing_ref]
  refine wpAny_holding (wpAny_bind (wpAny_cRoomFor (Nat.lt_of_succ_lt hu) ?_))
  refine wpAny_bind (I.type.here (wpAny_bind (hb.here ?_)))
  split
  · rename_i q
    have e : subIn K tb (.ref C) = some false := by
      rcases Bool.or_eq_true_iff.mp hn with e | e
      · rw [beq_iff_eq.mp e] at q; simp at q
      · exact beq_iff_eq.mp e
    refine wpAny_bind ((looks_subIn X e).here ?_)
    simp only [Bool.false_eq_true, if_false]
    refine wpAny_bind (wpAny_mono one (fun r s' z => ?_) fun _ _ e => e)
    obtain ⟨v, rfl, hq⟩ := z
    exact wpAny_pure hq
  · refine wpAny_bind (wpAny_pure ?_)
    simp only [Bool.false_eq_true, if_false]
    refine wpAny_bind (wpAny_mono one (fun r s' z => ?_) fun _ _ e => e)
    obtain ⟨v, rfl, hq⟩ := z
    exact wpAny_pure hq
end
section
variable {X : Cx} {C f : Addr} {fd : FuncData} {ps : List Str} {sp : Sp} {n : Nat}
/-- a == y, a an instance whose class tells == by a def of its own, y anything -/
def rEqO (K : PySem.W.Frag) (C : Addr) (sp : Sp) : R2 := fun x y H Q => ∃ a dx fs t, x = V.ref a ∧ H a = some (.ins C dx fs) ∧ TyX K H y t ∧ PySem.W.notFirst K C t = true ∧ sp [.ref a, y] H (fun v H' => ∃ b, v = .bl b ∧ Q (.bl b) H') (fun _ _ _ => False)
def rNeO (K : PySem.W.Frag) (C : Addr) (sp : Sp) : R2 := fun x y H Q => ∃ a dx fs t, x = V.ref a ∧ H a = some (.ins C dx fs) ∧ TyX K H y t ∧ PySem.W.notFirst K C t = true ∧ sp [.ref a, y] H (fun v H' => ∃ b, v = .bl b ∧ Q (.bl (!b)) H') (fun _ _ _ => False)
theorem call_own {A : Around} {pins : List (Addr × Obj)} {s : Shared} {σ : L2.St} {H : Hp} {a : Addr} {y : V} {u : Value} {Q : VK} (F : FnOk X.prog X.w X.K X.mg X.base CX0 n f fd ps sp) (hb : Binds X.K fd ps []) (sb : Sub X n A) (I : Inv X pins σ H s) (ry : RelV y u)
    (hsp : sp [.ref a, y] H Q (fun _ _ _ => False)) : wpAny (model X.prog X.w) A (call (.ref f) [.ref a, u]) (EP X pins σ Q) X.xe s := by
  have e0 : Env0 X.prog X.w X.K X.mg X.base A X.stack s H := by
    have e := I.env0
    exact ⟨by rw [sb.fr]; exact e.frames, e.mod, e.bs, e.bsz, e.funs, e.frf, e.hok, e.bare⟩
  have hl := F.len _ _ _ _ hsp
  have r2 : Vals [V.ref a, y] [Value.ref a, u] := .cons rfl (.cons ry .nil)
  refine wpAny_call (codeAny_mono (F.run A X.stack s H ⟨[.ref a, u], []⟩ [.ref a, u] [.ref a, y] _ _ sb.room e0 (by
    have := hb s [.ref a, u] I.kIn (by simpa using hl)
    simpa using this) r2 hsp) fun r s' hq => ?_)
  cases r with
  | error e => exact pass0 pins σ H s e s' I hq
  | ok fl =>
    cases fl with
    | ret w =>
      obtain ⟨z, H', I', rz, ez⟩ := I.after hq
      exact ⟨z, H', I', rz, ez⟩
    | next => exact False.elim hq
    | brk => exact False.elim hq
    | cont => exact False.elim hq
theorem op_eqO (F : FnOk X.prog X.w X.K X.mg X.base CX0 n f fd ps sp) (hs : PySem.W.findIn X.K (.ref C) "__eq__" = some (some (.ref f))) (hf : PySem.W.isFn X.K (.ref f) = true) (hb : Binds X.K fd ps []) (hr : Room n X.A) : OpR X (compareOp .Eq) (rEqO X.K C sp) := by
  intro pins s σ H x y v u Q I rx ry h
  obtain ⟨a, dx, fs, t, rfl, ea, ty, nf, hsp⟩ := h
  cases rx
  obtain ⟨mA, J, _⟩ := ins_get I.hok ea
  obtain ⟨od, J, _⟩ := J.look
  obtain ⟨P, kx, hp, _⟩ := kit_of I ry ty
  obtain ⟨m, hF⟩ := I.fr
  show wpAny (model X.prog X.w) X.A (richCompare .Eq (.ref a) u) (EP X pins σ Q) X.xe s
  refine PySem.W.cmp_K (op := .Eq) (tb := t) hr.units0 hF I.ok.mod.kin J (kx.ty _ _ I.kIn hp) nf hs hf ?_
  refine wpAny_mono (call_own F hb ⟨hr, rfl⟩ I ry hsp) (fun r s' z => ?_) fun _ _ x => x
  obtain ⟨z, H', I', rz, b, rfl, q⟩ := z
  cases rz
  exact ⟨.bl b, H', I', rfl, q⟩
theorem op_neO (F : FnOk X.prog X.w X.K X.mg X.base CX0 n f fd ps sp) (hs : PySem.W.findIn X.K (.ref C) "__eq__" = some (some (.ref f))) (hne : PySem.W.findIn X.K (.ref C) "__ne__" = some (some (.builtin "object.__ne__"))) (hm : PySem.W.mroIn X.K C (.type "object") = some true) (hf : PySem.W.isFn X.K (.ref f) = true) (hb : Binds X.K fd ps []) (hr : Room (n + 1) X.A) : OpR X (compareOp .NotEq) (rNeO X.K C sp) := by
  intro pins s σ H x y v u Q I rx ry h
  obtain ⟨a, dx, fs, t, rfl, ea, ty, nf, hsp⟩ := h
  cases rx
  obtain ⟨mA, J, _⟩ := ins_get I.hok ea
  obtain ⟨od, J, _⟩ := J.look
  obtain ⟨P, kx, hp, _⟩ := kit_of I ry ty
  obtain ⟨m, hF⟩ := I.fr
  show wpAny (model X.prog X.w) X.A (richCompare .NotEq (.ref a) u) (EP X pins σ Q) X.xe s
  have sb : Sub X (n + 1) X.A := ⟨hr, rfl⟩
  refine cmp_ne (tb := t) (by have := sb.in1.room.units0; exact this) hF I.ok.mod.kin J (kx.ty _ _ I.kIn hp) nf hs hne hm hf ?_
  refine wpAny_mono (call_own F hb sb.in1 I ry hsp) (fun r s' z => ?_) fun _ _ x => x
  obtain ⟨z, H', I', rz, b, rfl, q⟩ := z
  cases rz
  exact ⟨b, rfl, .bl (!b), H', I', rfl, q⟩
end
/-- what is asked of a class whose things are looked at -/
structure InsC (K : PySem.W.Frag) (C : Addr) : Prop where
  ha : PySem.W.findIn K (.ref C) "__class__" = some (some (.builtin "object.__class__"))
  hn : PySem.W.specialIn K (.builtin "object.__class__") "__get__" = some (some (.builtin "getset_descriptor.__get__"))
  ht : PySem.W.takesIn K (.builtin "object.__class__") = some true
  hm : PySem.W.mroIn K C (.type "object") = some true
  ne : PySem.W.findIn K (.ref C) "__ne__" = some (some (.builtin "object.__ne__"))
  ic : PySem.W.isClsIn K C = true
  ty : PySem.W.typeIn K (.ref C) = some (.type "type")
theorem InsC.self {K : PySem.W.Frag} {C : Addr} (_ : InsC K C) : PySem.W.kitOne K (.ref C) (.ref C) = some true := by
  unfold PySem.W.kitOne
  rw [if_pos (by simp)]
theorem first_self (K : PySem.W.Frag) (C : Addr) : PySem.W.notFirst K C (.ref C) = true := by
  unfold PySem.W.notFirst
  simp
/-- the kinds of things that are no instance of an own class -/
def Plain (n : String) : Prop := ∃ l, PySem.fastBuiltinMro n = some l ∧ ∀ C : Addr, l.contains (Value.ref C) = false
theorem Plain.sub {n : String} (p : Plain n) (K : PySem.W.Frag) (C : Addr) : PySem.W.subIn K (.type n) (.ref C) = some false := by
  obtain ⟨l, e, h⟩ := p
  show (PySem.fastBuiltinMro n).map (·.contains (Value.ref C)) = some false
  rw [e]
  exact congrArg some (h C)
theorem Plain.first {n : String} (p : Plain n) (K : PySem.W.Frag) (C : Addr) : PySem.W.notFirst K C (.type n) = true := by
  unfold PySem.W.notFirst
  rw [p.sub K C]
  simp
theorem Plain.kit {n : String} (p : Plain n) {K : PySem.W.Frag} {C : Addr} (i : InsC K C) : PySem.W.kitOne K (.type n) (.ref C) = some false := by
  unfold PySem.W.kitOne
  rw [if_neg (by simp)]
  have h2' : (PySem.W.clsIn K C).isSome = true := i.ic
  show (if ((PySem.W.clsIn K C).isSome && PySem.W.typeIn K (.ref C) == some (.type "type")) = true then PySem.W.subIn K (.type n) (.ref C) else none) = some false
  rw [h2', i.ty, if_pos (by rfl)]
  exact p.sub K C
theorem plain_non : Plain "NoneType" := ⟨[.type "NoneType", .type "object"], by kernel_rfl, fun _ => by simp⟩
theorem plain_int : Plain "int" := ⟨[.type "int", .type "object"], by kernel_rfl, fun _ => by simp⟩
theorem plain_str : Plain "str" := ⟨[.type "str", .type "object"], by kernel_rfl, fun _ => by simp⟩
theorem plain_tup : Plain "tuple" := ⟨[.type "tuple", .type "object"], by kernel_rfl, fun _ => by simp⟩
theorem plain_lst : Plain "list" := ⟨[.type "list", .type "object"], by kernel_rfl, fun _ => by simp⟩
theorem InsC.tyOf {K : PySem.W.Frag} {C a dx : Addr} {fs : List (Str × V)} {H : Hp} (i : InsC K C) (cl : Cls K C) (e : H a = some (.ins C dx fs)) : TyX K H (.ref a) (.ref C) := .base (.ins e cl i.ha i.hn i.ht i.hm)
end RE8

/-! ### long comings: the line round by round -/
namespace Lg
open Ln
/-- so many letters come: the line, and how many are turned away -/
def add (b : Int) : Nat → Int × Int → Int × Int
  | 0, s => s
  | k + 1, s => if (add b k s).1 > b then ((add b k s).1, (add b k s).2 + 1) else ((add b k s).1 + 1, (add b k s).2)
/-- a tick: line, gone out, turned away -/
abbrev Tri := Int × Int × Int
def tk (b : Int) (c : Int) (s : Tri) : Tri := if (add b c.toNat (s.1, s.2.2)).1 > 0 then ((add b c.toNat (s.1, s.2.2)).1 - 1, s.2.1 + 1, (add b c.toNat (s.1, s.2.2)).2) else ((add b c.toNat (s.1, s.2.2)).1, s.2.1, (add b c.toNat (s.1, s.2.2)).2)
def rdN (b : Int) (cs : List Int) (s : Tri) : Nat → Tri
  | 0 => s
  | i + 1 => tk b (cs.getD i 0) (rdN b cs s i)
/-- a round from a line -/
def rd (b : Int) (cs : List Int) (l : Int) : Tri := rdN b cs (l, 0, 0) cs.length
/-! the program's own line from any line on -/
def preL (b l : Int) (cs : List Int) : Nat → List Let × Int
  | 0 => ([], l)
  | i + 1 => ((turns b (i : Int) (cs.getD i 0).toNat (preL b l cs i)).1, close (turns b (i : Int) (cs.getD i 0).toNat (preL b l cs i)).2)
def behindL (b l : Int) (cs : List Int) : Nat → List Int
  | 0 => []
  | i + 1 => behindL b l cs i ++ [(preL b l cs (i + 1)).2]
theorem preL_0 (b : Int) (cs : List Int) : ∀ i, preL b 0 cs i = pre b cs i
  | 0 => rfl
  | i + 1 => by
    unfold preL pre
    rw [preL_0 b cs i]
theorem behindL_0 (b : Int) (cs : List Int) : ∀ i, behindL b 0 cs i = behind b cs i
  | 0 => rfl
  | i + 1 => by
    unfold behindL behind
    rw [behindL_0 b cs i, preL_0]
theorem behindL_len (b l : Int) (cs : List Int) : ∀ i, (behindL b l cs i).length = i
  | 0 => rfl
  | i + 1 => by
    unfold behindL
    rw [List.length_append, behindL_len b l cs i]
    rfl
def away (L : List Let) : Int := ((L.countP fun x => x.2.2.isNone : Nat) : Int)
theorem away_snoc (L : List Let) (x : Let) : away (L ++ [x]) = away L + if x.2.2.isNone then 1 else 0 := by
  unfold away
  rw [List.countP_append, List.countP_cons, List.countP_nil]
  cases x.2.2.isNone
  · rw [if_neg Bool.false_ne_true, if_neg Bool.false_ne_true]
    omega
  · rw [if_pos rfl, if_pos rfl]
    omega
theorem turns_add (b τ : Int) (L : List Let) (l : Int) : ∀ k : Nat, add b k (l, away L) = ((turns b τ k (L, l)).2, away (turns b τ k (L, l)).1)
  | 0 => rfl
  | k + 1 => by
    have ih := turns_add b τ L l k
    unfold add turns step
    rw [ih]
    show (if (turns b τ k (L, l)).2 > b then _ else _) = _
    split
    · rw [away_snoc]
      rfl
    · rw [away_snoc]
      show _ = (_, away _ + 0)
      rw [Int.add_zero]
theorem rd_pre (b l : Int) (cs : List Int) : ∀ i : Nat, (rdN b cs (l, 0, 0) i).1 = (preL b l cs i).2 ∧ (rdN b cs (l, 0, 0) i).2.2 = away (preL b l cs i).1
  | 0 => ⟨rfl, rfl⟩
  | i + 1 => by
    obtain ⟨e1, e2⟩ := rd_pre b l cs i
    have t := turns_add b (i : Int) (preL b l cs i).1 (preL b l cs i).2 (cs.getD i 0).toNat
    unfold rdN tk preL close
    rw [e1, e2, t]
    show (if (turns b (i : Int) (cs.getD i 0).toNat (preL b l cs i)).2 > 0 then _ else _ : Tri).1 = _ ∧ (if (turns b (i : Int) (cs.getD i 0).toNat (preL b l cs i)).2 > 0 then _ else _ : Tri).2.2 = _
    split
    · exact ⟨rfl, rfl⟩
    · exact ⟨rfl, rfl⟩
/-! the line stays within the bound; nobody is lost on the way -/
theorem add_rng {b : Int} : ∀ (k : Nat) (s : Int × Int), 0 ≤ s.1 → s.1 ≤ b + 1 → 0 ≤ s.2 → 0 ≤ (add b k s).1 ∧ (add b k s).1 ≤ b + 1 ∧ 0 ≤ (add b k s).2 ∧ (add b k s).1 + (add b k s).2 = s.1 + s.2 + (k : Int)
  | 0, s, h0, h1, h2 => ⟨h0, h1, h2, by show s.1 + s.2 = s.1 + s.2 + ((0 : Nat) : Int); omega⟩
  | k + 1, s, h0, h1, h2 => by
    obtain ⟨a, b', c, d⟩ := add_rng (b := b) k s h0 h1 h2
    unfold add
    split
    · refine ⟨a, b', by show 0 ≤ _ + 1; omega, ?_⟩
      show (add b k s).1 + ((add b k s).2 + 1) = _
      omega
    · refine ⟨by show 0 ≤ _ + 1; omega, by show _ + 1 ≤ _; omega, c, ?_⟩
      show (add b k s).1 + 1 + (add b k s).2 = _
      omega
structure Ok (b came : Int) (s : Tri) : Prop where
  l0 : 0 ≤ s.1
  l1 : s.1 ≤ b
  o0 : 0 ≤ s.2.1
  a0 : 0 ≤ s.2.2
  sum : s.1 + s.2.1 + s.2.2 = came
theorem Ok.tk {b came c : Int} {s : Tri} (h : Ok b came s) (hc : 0 ≤ c) : Ok b (came + c) (tk b c s) := by
  obtain ⟨h1, h2, h3, h4, h5⟩ := h
  obtain ⟨a1, a2, a3, a4⟩ := add_rng (b := b) c.toNat (s.1, s.2.2) h1 (by show s.1 ≤ _; omega) h4
  unfold Lg.tk
  generalize add b c.toNat (s.1, s.2.2) = m at *
  have a4' : m.1 + m.2 = s.1 + s.2.2 + (c.toNat : Int) := a4
  split
  · exact ⟨by show 0 ≤ m.1 - 1; omega, by show m.1 - 1 ≤ b; omega, by show 0 ≤ s.2.1 + 1; omega, a3, by show (m.1 - 1) + (s.2.1 + 1) + m.2 = came + c; omega⟩
  · exact ⟨a1, by show m.1 ≤ b; omega, h3, a3, by show m.1 + s.2.1 + m.2 = came + c; omega⟩
def sumN (cs : List Int) (i : Nat) : Int := (cs.take i).sum
theorem sumN_succ {cs : List Int} {i : Nat} (h : i < cs.length) : sumN cs (i + 1) = sumN cs i + cs.getD i 0 := by
  unfold sumN
  rw [List.take_add_one, List.getElem?_eq_getElem h, List.sum_append, List.getD_eq_getElem?_getD, List.getElem?_eq_getElem h]
  simp
theorem Ok.rdN {b came : Int} {s : Tri} {cs : List Int} (h : Ok b came s) (hc : ∀ c ∈ cs, 0 ≤ c) : ∀ i, i ≤ cs.length → Ok b (came + sumN cs i) (rdN b cs s i)
  | 0, _ => by
    show Ok b (came + 0) s
    rw [Int.add_zero]
    exact h
  | i + 1, hi => by
    rw [sumN_succ (by omega), ← Int.add_assoc]
    refine (Ok.rdN h hc i (by omega)).tk ?_
    rw [List.getD_eq_getElem?_getD, List.getElem?_eq_getElem (by omega)]
    exact hc _ (List.getElem_mem _)
theorem rd_ok {b l : Int} {cs : List Int} (h0 : 0 ≤ l) (h1 : l ≤ b) (hc : ∀ c ∈ cs, 0 ≤ c) : Ok b (l + cs.sum) (rd b cs l) := by
  have o : Ok b l (l, 0, 0) := ⟨h0, h1, Int.le_refl _, Int.le_refl _, by show l + 0 + 0 = l; omega⟩
  have := o.rdN hc cs.length (Nat.le_refl _)
  unfold sumN at this
  rw [List.take_length] at this
  exact this
/-! many rounds -/
def it (b : Int) (cs : List Int) : Nat → Int → Tri
  | 0, l => (l, 0, 0)
  | n + 1, l => ((rd b cs (it b cs n l).1).1, (it b cs n l).2.1 + (rd b cs (it b cs n l).1).2.1, (it b cs n l).2.2 + (rd b cs (it b cs n l).1).2.2)
theorem it_ok {b l : Int} {cs : List Int} (h0 : 0 ≤ l) (h1 : l ≤ b) (hc : ∀ c ∈ cs, 0 ≤ c) : ∀ n : Nat, Ok b (l + (n : Int) * cs.sum) (it b cs n l)
  | 0 => ⟨h0, h1, Int.le_refl _, Int.le_refl _, by show l + 0 + 0 = _; simp⟩
  | n + 1 => by
    have i := it_ok h0 h1 hc n
    have r := rd_ok i.l0 i.l1 hc
    refine ⟨r.l0, r.l1, ?_, ?_, ?_⟩
    · have := i.o0
      have := r.o0
      show 0 ≤ _ + _
      omega
    · have := i.a0
      have := r.a0
      show 0 ≤ _ + _
      omega
    · have a := i.sum
      have c := r.sum
      have e : ((n + 1 : Nat) : Int) * cs.sum = (n : Int) * cs.sum + cs.sum := by
        rw [Int.natCast_add, Int.add_mul]
        simp
      rw [e]
      show (rd b cs (it b cs n l).1).1 + ((it b cs n l).2.1 + (rd b cs (it b cs n l).1).2.1) + ((it b cs n l).2.2 + (rd b cs (it b cs n l).1).2.2) = _
      generalize (n : Int) * cs.sum = m at *
      omega
theorem it_add (b : Int) (cs : List Int) (m : Nat) (l : Int) : ∀ n : Nat, it b cs (m + n) l = ((it b cs n (it b cs m l).1).1, (it b cs m l).2.1 + (it b cs n (it b cs m l).1).2.1, (it b cs m l).2.2 + (it b cs n (it b cs m l).1).2.2)
  | 0 => by
    show it b cs m l = ((it b cs m l).1, (it b cs m l).2.1 + 0, (it b cs m l).2.2 + 0)
    rw [Int.add_zero, Int.add_zero]
  | n + 1 => by
    have e := it_add b cs m l n
    show ((rd b cs (it b cs (m + n) l).1).1, (it b cs (m + n) l).2.1 + (rd b cs (it b cs (m + n) l).1).2.1, (it b cs (m + n) l).2.2 + (rd b cs (it b cs (m + n) l).1).2.2) = _
    rw [e]
    show (_, _, _) = ((rd b cs (it b cs n (it b cs m l).1).1).1, (it b cs m l).2.1 + ((it b cs n (it b cs m l).1).2.1 + (rd b cs (it b cs n (it b cs m l).1).1).2.1), (it b cs m l).2.2 + ((it b cs n (it b cs m l).1).2.2 + (rd b cs (it b cs n (it b cs m l).1).1).2.2))
    rw [← Int.add_assoc, ← Int.add_assoc]
/-- a round that leaves the line as it was is like all behind it -/
theorem it_fix {b : Int} {cs : List Int} {l : Int} (h : (rd b cs l).1 = l) : ∀ n : Nat, it b cs n l = (l, (n : Int) * (rd b cs l).2.1, (n : Int) * (rd b cs l).2.2)
  | 0 => by
    show (l, 0, 0) = _
    simp
  | n + 1 => by
    unfold it
    rw [it_fix h n]
    show ((rd b cs l).1, _ + (rd b cs l).2.1, _ + (rd b cs l).2.2) = _
    rw [h]
    have e : ∀ x : Int, (n : Int) * x + x = ((n + 1 : Nat) : Int) * x := fun x => by
      rw [Int.natCast_add, Int.add_mul]
      simp
    rw [e, e]
/-! long comings: line, came, gone out, turned away -/
abbrev Quad := Int × Int × Int × Int
def go1 (b : Int) (s : Quad) (x : List Int × Int) : Quad := ((it b x.1 x.2.toNat s.1).1, s.2.1 + x.2 * x.1.sum, s.2.2.1 + (it b x.1 x.2.toNat s.1).2.1, s.2.2.2 + (it b x.1 x.2.toNat s.1).2.2)
def tot (b : Int) (xs : List (List Int × Int)) : Quad := xs.foldl (go1 b) (0, 0, 0, 0)
def Right (k : Int) (xs : List (List Int × Int)) : Prop := xs.length ≤ 20 ∧ ∀ x ∈ xs, x.1.length ≤ 60 ∧ (∀ c ∈ x.1, 0 ≤ c ∧ c ≤ k) ∧ 0 ≤ x.2 ∧ x.2 ≤ 10 ^ 30
structure Qk (b : Int) (s : Quad) : Prop where
  l0 : 0 ≤ s.1
  l1 : s.1 ≤ b
  sum : s.2.1 = s.2.2.1 + s.2.2.2 + s.1
theorem Qk.go {b : Int} {s : Quad} {x : List Int × Int} (h : Qk b s) (hc : ∀ c ∈ x.1, 0 ≤ c) (hx : 0 ≤ x.2) : Qk b (go1 b s x) := by
  have i := it_ok h.l0 h.l1 hc x.2.toNat
  have a := i.sum
  rw [Int.toNat_of_nonneg hx] at a
  have c := h.sum
  refine ⟨i.l0, i.l1, ?_⟩
  show s.2.1 + x.2 * x.1.sum = s.2.2.1 + (it b x.1 x.2.toNat s.1).2.1 + (s.2.2.2 + (it b x.1 x.2.toNat s.1).2.2) + (it b x.1 x.2.toNat s.1).1
  generalize x.2 * x.1.sum = m at *
  omega
theorem fold_ok {b : Int} : ∀ (xs : List (List Int × Int)) (s : Quad), Qk b s → (∀ x ∈ xs, (∀ c ∈ x.1, 0 ≤ c) ∧ 0 ≤ x.2) → Qk b (xs.foldl (go1 b) s)
  | [], s, h, _ => h
  | x :: xs, s, h, hx => fold_ok xs _ (h.go (hx x (by simp)).1 (hx x (by simp)).2) fun y hy => hx y (by simp [hy])
theorem tot_ok {b k : Int} (hb : 0 ≤ b) {xs : List (List Int × Int)} (h : Right k xs) : Qk b (tot b xs) := fold_ok xs _ ⟨Int.le_refl _, hb, rfl⟩ fun x hx => ⟨fun c hc => ((h.2 x hx).2.1 c hc).1, (h.2 x hx).2.2.1⟩
/-- so many times and so many times more -/
theorem tot_part (b : Int) (cs : List Int) (m n : Int) (hm : 0 ≤ m) (hn : 0 ≤ n) (xs : List (List Int × Int)) : tot b ((cs, m) :: (cs, n) :: xs) = tot b ((cs, m + n) :: xs) := by
  have e : go1 b (go1 b (0, 0, 0, 0) (cs, m)) (cs, n) = go1 b (0, 0, 0, 0) (cs, m + n) := by
    unfold go1
    show ((it b cs n.toNat (it b cs m.toNat 0).1).1, 0 + m * cs.sum + n * cs.sum, 0 + (it b cs m.toNat 0).2.1 + (it b cs n.toNat (it b cs m.toNat 0).1).2.1, 0 + (it b cs m.toNat 0).2.2 + (it b cs n.toNat (it b cs m.toNat 0).1).2.2) =
      ((it b cs (m + n).toNat 0).1, 0 + (m + n) * cs.sum, 0 + (it b cs (m + n).toNat 0).2.1, 0 + (it b cs (m + n).toNat 0).2.2)
    rw [show (m + n).toNat = m.toNat + n.toNat by omega, it_add, Int.add_mul]
    show (_, _, _, _) = (_, _, _, _)
    rw [Int.add_assoc, Int.add_assoc, Int.add_assoc]
  show xs.foldl (go1 b) (go1 b (go1 b (0, 0, 0, 0) (cs, m)) (cs, n)) = xs.foldl (go1 b) (go1 b (0, 0, 0, 0) (cs, m + n))
  rw [e]
end Lg
namespace Lg
open Ln
theorem preL_len {b l : Int} {cs : List Int} (hc : ∀ c ∈ cs, c ≤ 4) : ∀ i, (preL b l cs i).1.length ≤ 4 * i
  | 0 => Nat.le_refl _
  | i + 1 => by
    have ih := preL_len (b := b) (l := l) hc i
    unfold preL
    rw [turns_len]
    have : cs.getD i 0 ≤ 4 := by
      rw [List.getD_eq_getElem?_getD]
      cases h : cs[i]? with
      | none => decide
      | some c => exact hc c (List.mem_of_getElem? h)
    omega
theorem preL_sum {b l : Int} {cs : List Int} (hc : ∀ c ∈ cs, 0 ≤ c) : ∀ i, i ≤ cs.length → (((preL b l cs i).1.length : Nat) : Int) = sumN cs i
  | 0, _ => rfl
  | i + 1, hi => by
    have ih := preL_sum (b := b) (l := l) hc i (by omega)
    have h0 : 0 ≤ cs.getD i 0 := by
      rw [List.getD_eq_getElem?_getD, List.getElem?_eq_getElem (by omega)]
      exact hc _ (List.getElem_mem _)
    rw [sumN_succ (by omega), ← ih]
    show (((turns b (i : Int) (cs.getD i 0).toNat (preL b l cs i)).1.length : Nat) : Int) = _
    rw [turns_len]
    omega
end Lg
namespace Lg
theorem sum_le : ∀ {cs : List Int}, (∀ c ∈ cs, 0 ≤ c ∧ c ≤ 4) → 0 ≤ cs.sum ∧ cs.sum ≤ 4 * (cs.length : Int)
  | [], _ => ⟨Int.le_refl _, Int.le_refl _⟩
  | c :: cs, h => by
    have ih := sum_le (cs := cs) fun x hx => h x (by simp [hx])
    have := h c (by simp)
    rw [List.sum_cons, List.length_cons]
    omega
end Lg

set_option Elab.async false
set_option linter.all false
set_option maxRecDepth 100000
set_option maxHeartbeats 4000000
namespace My
open PySem PySem.Spec PyProof.Rows L2
def topS (i : Nat) : Stmt := PySem.Challenge.pw_loopstore_k06_tables_judged.main.body.getD i (.Pass ⟨0, 0, 0, 0⟩)
abbrev s_is_integer : Stmt := topS 9
theorem sc_is_integer : FnScope ["thing"] ["thing"] (defScope s_is_integer) := ⟨rfl, rfl, rfl, by decide +kernel, rfl, by decide +kernel, by decide +kernel⟩
abbrev s_is_number : Stmt := topS 10
theorem sc_is_number : FnScope ["thing", "least", "most"] ["thing", "least", "most"] (defScope s_is_number) := ⟨rfl, rfl, rfl, by decide +kernel, rfl, by decide +kernel, by decide +kernel⟩
abbrev s_are_numbers : Stmt := topS 11
theorem sc_are_numbers : FnScope ["things", "least", "most", "thing"] ["things", "least", "most"] (defScope s_are_numbers) := ⟨rfl, rfl, rfl, by decide +kernel, rfl, by decide +kernel, by decide +kernel⟩
abbrev s_is_loops : Stmt := topS 12
theorem sc_is_loops : FnScope ["thing"] ["thing"] (defScope s_is_loops) := ⟨rfl, rfl, rfl, by decide +kernel, rfl, by decide +kernel, by decide +kernel⟩
abbrev s_is_row : Stmt := topS 13
theorem sc_is_row : FnScope ["loops", "thing"] ["loops", "thing"] (defScope s_is_row) := ⟨rfl, rfl, rfl, by decide +kernel, rfl, by decide +kernel, by decide +kernel⟩
abbrev s_row_sum : Stmt := topS 15
theorem sc_row_sum : FnScope ["loops", "row", "loop"] ["loops", "row"] (defScope s_row_sum) := ⟨rfl, rfl, rfl, by decide +kernel, rfl, by decide +kernel, by decide +kernel⟩
abbrev s__law_tape : Stmt := topS 18
theorem sc__law_tape : FnScope ["script"] ["script"] (defScope s__law_tape) := ⟨rfl, rfl, rfl, by decide +kernel, rfl, by decide +kernel, by decide +kernel⟩
abbrev s__law_pick : Stmt := topS 19
theorem sc__law_pick : FnScope ["tape", "size", "digit", "cell", "mixed"] ["tape", "size"] (defScope s__law_pick) := ⟨rfl, rfl, rfl, by decide +kernel, rfl, by decide +kernel, by decide +kernel⟩
abbrev s__law_loops : Stmt := topS 20
theorem sc__law_loops : FnScope ["tape", "most", "longest", "many", "found", "k"] ["tape", "most", "longest"] (defScope s__law_loops) := ⟨rfl, rfl, rfl, by decide +kernel, rfl, by decide +kernel, by decide +kernel⟩
abbrev s__law_row : Stmt := topS 21
theorem sc__law_row : FnScope ["tape", "loops", "wait", "row", "left", "again", "turn", "fitting", "k"] ["tape", "loops", "wait"] (defScope s__law_row) := ⟨rfl, rfl, rfl, by decide +kernel, rfl, by decide +kernel, by decide +kernel⟩
abbrev s__law_rows : Stmt := topS 22
theorem sc__law_rows : FnScope ["tape", "loops", "bound", "wait"] ["tape", "loops", "bound"] (defScope s__law_rows) := ⟨rfl, rfl, rfl, by decide +kernel, rfl, by decide +kernel, by decide +kernel⟩
abbrev s__law_odd : Stmt := topS 24
theorem sc__law_odd : FnScope ["tape", "things"] ["tape"] (defScope s__law_odd) := ⟨rfl, rfl, rfl, by decide +kernel, rfl, by decide +kernel, by decide +kernel⟩
abbrev s__law_is_int : Stmt := topS 25
theorem sc__law_is_int : FnScope ["thing", "least", "most"] ["thing", "least", "most"] (defScope s__law_is_int) := ⟨rfl, rfl, rfl, by decide +kernel, rfl, by decide +kernel, by decide +kernel⟩
abbrev s__law_are_ints : Stmt := topS 26
theorem sc__law_are_ints : FnScope ["thing", "many", "least", "most", "item"] ["thing", "many", "least", "most"] (defScope s__law_are_ints) := ⟨rfl, rfl, rfl, by decide +kernel, rfl, by decide +kernel, by decide +kernel⟩
abbrev s__law_fault : Stmt := topS 27
theorem sc__law_fault : FnScope ["loops", "rows", "at", "k"] ["loops", "rows"] (defScope s__law_fault) := ⟨rfl, rfl, rfl, by decide +kernel, rfl, by decide +kernel, by decide +kernel⟩
abbrev s__law_bent : Stmt := topS 28
theorem sc__law_bent : FnScope ["tape", "loops", "rows", "kind", "made", "at", "wrong", "long", "one", "number"] ["tape", "loops", "rows"] (defScope s__law_bent) := ⟨rfl, rfl, rfl, by decide +kernel, rfl, by decide +kernel, by decide +kernel⟩
abbrev s__law_tried : Stmt := topS 29
theorem sc__law_tried : FnScope ["loops", "rows", "found", "told", "e"] ["loops", "rows"] (defScope s__law_tried) := ⟨rfl, rfl, rfl, by decide +kernel, rfl, by decide +kernel, by decide +kernel⟩
abbrev s_law : Stmt := topS 30
theorem sc_law : FnScope ["script", "tape", "loops", "bound", "rows", "turn", "one", "kept", "fault", "found"] ["script"] (defScope s_law) := ⟨rfl, rfl, rfl, by decide +kernel, rfl, by decide +kernel, by decide +kernel⟩
abbrev s_BadTable___init__ : Stmt := inClass (topS 2) 0
theorem sc_BadTable___init__ : FnScope ["self", "part", "at"] ["self", "part", "at"] (defScope s_BadTable___init__) := ⟨rfl, rfl, rfl, by decide +kernel, rfl, by decide +kernel, by decide +kernel⟩
abbrev s_Table___init__ : Stmt := inClass (topS 16) 0
theorem sc_Table___init__ : FnScope ["self", "loops", "rows", "at", "row"] ["self", "loops", "rows"] (defScope s_Table___init__) := ⟨rfl, rfl, rfl, by decide +kernel, rfl, by decide +kernel, by decide +kernel⟩
structure Tx (K : PySem.W.Frag) (mg : Str → Option Value) where
  a_is_integer : Addr
  d_is_integer : FuncData
  F_is_integer : Fun K "is_integer" "is_integer" s_is_integer a_is_integer d_is_integer
  b_is_integer : Binds K d_is_integer ["thing"] []
  g_is_integer : mg "is_integer" = some (.ref a_is_integer)
  a_is_number : Addr
  d_is_number : FuncData
  F_is_number : Fun K "is_number" "is_number" s_is_number a_is_number d_is_number
  b_is_number : Binds K d_is_number ["thing", "least", "most"] []
  g_is_number : mg "is_number" = some (.ref a_is_number)
  a_are_numbers : Addr
  d_are_numbers : FuncData
  F_are_numbers : Fun K "are_numbers" "are_numbers" s_are_numbers a_are_numbers d_are_numbers
  b_are_numbers : Binds K d_are_numbers ["things", "least", "most"] []
  g_are_numbers : mg "are_numbers" = some (.ref a_are_numbers)
  a_is_loops : Addr
  d_is_loops : FuncData
  F_is_loops : Fun K "is_loops" "is_loops" s_is_loops a_is_loops d_is_loops
  b_is_loops : Binds K d_is_loops ["thing"] []
  g_is_loops : mg "is_loops" = some (.ref a_is_loops)
  a_is_row : Addr
  d_is_row : FuncData
  F_is_row : Fun K "is_row" "is_row" s_is_row a_is_row d_is_row
  b_is_row : Binds K d_is_row ["loops", "thing"] []
  g_is_row : mg "is_row" = some (.ref a_is_row)
  a_row_sum : Addr
  d_row_sum : FuncData
  F_row_sum : Fun K "row_sum" "row_sum" s_row_sum a_row_sum d_row_sum
  b_row_sum : Binds K d_row_sum ["loops", "row"] []
  g_row_sum : mg "row_sum" = some (.ref a_row_sum)
  a__law_tape : Addr
  d__law_tape : FuncData
  F__law_tape : Fun K "_law_tape" "_law_tape" s__law_tape a__law_tape d__law_tape
  b__law_tape : Binds K d__law_tape ["script"] []
  g__law_tape : mg "_law_tape" = some (.ref a__law_tape)
  a__law_pick : Addr
  d__law_pick : FuncData
  F__law_pick : Fun K "_law_pick" "_law_pick" s__law_pick a__law_pick d__law_pick
  b__law_pick : Binds K d__law_pick ["tape", "size"] []
  g__law_pick : mg "_law_pick" = some (.ref a__law_pick)
  a__law_loops : Addr
  d__law_loops : FuncData
  F__law_loops : Fun K "_law_loops" "_law_loops" s__law_loops a__law_loops d__law_loops
  b__law_loops : Binds K d__law_loops ["tape", "most", "longest"] []
  g__law_loops : mg "_law_loops" = some (.ref a__law_loops)
  a__law_row : Addr
  d__law_row : FuncData
  F__law_row : Fun K "_law_row" "_law_row" s__law_row a__law_row d__law_row
  b__law_row : Binds K d__law_row ["tape", "loops", "wait"] []
  g__law_row : mg "_law_row" = some (.ref a__law_row)
  a__law_rows : Addr
  d__law_rows : FuncData
  F__law_rows : Fun K "_law_rows" "_law_rows" s__law_rows a__law_rows d__law_rows
  b__law_rows : Binds K d__law_rows ["tape", "loops", "bound"] []
  g__law_rows : mg "_law_rows" = some (.ref a__law_rows)
  a__law_odd : Addr
  d__law_odd : FuncData
  F__law_odd : Fun K "_law_odd" "_law_odd" s__law_odd a__law_odd d__law_odd
  b__law_odd : Binds K d__law_odd ["tape"] []
  g__law_odd : mg "_law_odd" = some (.ref a__law_odd)
  a__law_is_int : Addr
  d__law_is_int : FuncData
  F__law_is_int : Fun K "_law_is_int" "_law_is_int" s__law_is_int a__law_is_int d__law_is_int
  b__law_is_int : Binds K d__law_is_int ["thing", "least", "most"] []
  g__law_is_int : mg "_law_is_int" = some (.ref a__law_is_int)
  a__law_are_ints : Addr
  d__law_are_ints : FuncData
  F__law_are_ints : Fun K "_law_are_ints" "_law_are_ints" s__law_are_ints a__law_are_ints d__law_are_ints
  b__law_are_ints : Binds K d__law_are_ints ["thing", "many", "least", "most"] []
  g__law_are_ints : mg "_law_are_ints" = some (.ref a__law_are_ints)
  a__law_fault : Addr
  d__law_fault : FuncData
  F__law_fault : Fun K "_law_fault" "_law_fault" s__law_fault a__law_fault d__law_fault
  b__law_fault : Binds K d__law_fault ["loops", "rows"] []
  g__law_fault : mg "_law_fault" = some (.ref a__law_fault)
  a__law_bent : Addr
  d__law_bent : FuncData
  F__law_bent : Fun K "_law_bent" "_law_bent" s__law_bent a__law_bent d__law_bent
  b__law_bent : Binds K d__law_bent ["tape", "loops", "rows"] []
  g__law_bent : mg "_law_bent" = some (.ref a__law_bent)
  a__law_tried : Addr
  d__law_tried : FuncData
  F__law_tried : Fun K "_law_tried" "_law_tried" s__law_tried a__law_tried d__law_tried
  b__law_tried : Binds K d__law_tried ["loops", "rows"] []
  g__law_tried : mg "_law_tried" = some (.ref a__law_tried)
  a_law : Addr
  d_law : FuncData
  F_law : Fun K "law" "law" s_law a_law d_law
  b_law : Binds K d_law ["script"] []
  g_law : mg "law" = some (.ref a_law)
  m_all : mg "all" = none
  m_bool : mg "bool" = none
  m_enumerate : mg "enumerate" = none
  m_int : mg "int" = none
  m_isinstance : mg "isinstance" = none
  m_len : mg "len" = none
  m_list : mg "list" = none
  m_range : mg "range" = none
  m_repr : mg "repr" = none
  m_sum : mg "sum" = none
  m_tuple : mg "tuple" = none
  t_MOST_BOUND : Tok
  g_MOST_BOUND : mg "MOST_BOUND" = some (.int 60 t_MOST_BOUND)
  t_MOST_ITEMS : Tok
  g_MOST_ITEMS : mg "MOST_ITEMS" = some (.int 60 t_MOST_ITEMS)
  t_MOST_LENGTH : Tok
  g_MOST_LENGTH : mg "MOST_LENGTH" = some (.int 40 t_MOST_LENGTH)
  t_MOST_LOOPS : Tok
  g_MOST_LOOPS : mg "MOST_LOOPS" = some (.int 8 t_MOST_LOOPS)
  c_BadTable : Addr
  g_BadTable : mg "BadTable" = some (.ref c_BadTable)
  c_BadText : Addr
  g_BadText : mg "BadText" = some (.ref c_BadText)
  c_LoopError : Addr
  g_LoopError : mg "LoopError" = some (.ref c_LoopError)
  c_Table : Addr
  g_Table : mg "Table" = some (.ref c_Table)
  a_BadTable___init__ : Addr
  d_BadTable___init__ : FuncData
  F_BadTable___init__ : Fun K "__init__" "BadTable.__init__" s_BadTable___init__ a_BadTable___init__ d_BadTable___init__
  b_BadTable___init__ : Binds K d_BadTable___init__ ["self", "part", "at"] []
  x_BadTable : OexC K c_BadTable
  i_BadTable : PySem.W.findIn K (.ref c_BadTable) "__init__" = some (some (.ref a_BadTable___init__))
  ti_BadTable : PySem.W.typeIn K (.ref a_BadTable___init__) = some (.type "function")
  e_BadTable : PySem.W.exmOne K (.ref c_BadTable) (.ref c_BadTable) = some true
  n_BadTable_part : PySem.W.findIn K (.ref c_BadTable) "part" = some none
  n_BadTable_at : PySem.W.findIn K (.ref c_BadTable) "at" = some none
  a_Table___init__ : Addr
  d_Table___init__ : FuncData
  F_Table___init__ : Fun K "__init__" "Table.__init__" s_Table___init__ a_Table___init__ d_Table___init__
  b_Table___init__ : Binds K d_Table___init__ ["self", "loops", "rows"] []
  mk_Table : Mk K c_Table a_Table___init__
  cl_Table : Cls K c_Table
  n_Table_loops : NoAttr K c_Table "loops"
  n_Table_rows : NoAttr K c_Table "rows"
  n_Table_bound : NoAttr K c_Table "bound"
  ec_BadTable : ExcC K c_BadTable
  ec_LoopError : ExcC K c_LoopError
  kt_BadTable_BadTable : PySem.W.kitOne K (.ref c_BadTable) (.ref c_BadTable) = some true
  kt_BadTable_LoopError : PySem.W.kitOne K (.ref c_BadTable) (.ref c_LoopError) = some true
  kt_BadTable_BadText : PySem.W.kitOne K (.ref c_BadTable) (.ref c_BadText) = some false
  xm_BadTable_LoopError : PySem.W.exmOne K (.ref c_BadTable) (.ref c_LoopError) = some true
section
variable {P : Program} {w : World} {K : PySem.W.Frag} {mg : Str → Option Value} {base : Heap}
def spTape (K : PySem.W.Frag) : Sp := fun vs H Q _ => ∃ (a : Addr) (ns : List Int), vs = [.ref a] ∧ SqL K H a (ns.map V.int) ∧ ∀ t s H', H t = none → H s = none → Same H H' → Tape H' t s → Q (.ref t) H'
theorem ok__law_tape (T : Tx K mg) : FnOk P w K mg base CX0 1 T.a__law_tape T.d__law_tape ["script"] (spTape K) := by
  refine T.F__law_tape.ok sc__law_tape (fun vs H Q E h => ?_) (fun cdv A outer s H vs Q E hr h => ?_)
  · obtain ⟨a, ns, rfl, _⟩ := h
    rfl
  · obtain ⟨a, ns, rfl, hS, q⟩ := h
    refine ⟨_, ((pss_one (ps_ret (pe_lst (pa_cons (pe_callTy call_list_of (by rfl) T.m_list (by decide +kernel) (pa_cons (pv 0) pa_nil)) (pa_cons pe_int (pa_cons pe_int (pa_cons pe_int (pa_cons pe_int pa_nil))))))))), ?_⟩
    refine ⟨.ref a, rfl, a, _, rfl, .inl hS, fun l nl => ?_⟩
    refine ⟨by show 5 ≤ sizeLine; decide, fun t nt => ?_⟩
    have nlt : l ≠ t := fun e => by
      rw [← e, upd_same] at nt
      cases nt
    have s1 : Same H (upd H l (.lst (ns.map V.int))) := same_upd nl
    refine q t l _ (Same.free s1 nt) nl (s1.trans (same_upd nt)) ⟨ns, 0, 0, 1, 0, nlt, upd_same, ?_, by decide⟩
    rw [upd_ne nlt, upd_same]
def spPick (K : PySem.W.Frag) : Sp := fun vs H Q _ => ∃ (t s : Addr) (n : Int), vs = [.ref t, .int n] ∧ (0 < n ∧ n < 2 ^ 60) ∧ Tape H t s ∧ ∀ r H', 0 ≤ r → r < n → Moved t H H' → Tape H' t s → Q (.int r) H'
theorem fm_of {a b : Int} (h : 0 < b) : 0 ≤ a.fmod b ∧ a.fmod b < b := by
  rw [Int.fmod_eq_emod_of_nonneg a (Int.le_of_lt h)]
  exact ⟨Int.emod_nonneg a (by omega), Int.emod_lt_of_pos a h⟩
theorem ok__law_pick (T : Tx K mg) : FnOk P w K mg base CX0 1 T.a__law_pick T.d__law_pick ["tape", "size"] (spPick K) := by
  refine T.F__law_pick.ok sc__law_pick (fun vs H Q E h => ?_) (fun cdv A outer s H vs Q E hr h => ?_)
  · obtain ⟨t, l, n, rfl, _⟩ := h
    rfl
  · obtain ⟨t, l, n, rfl, ⟨hn, hn2⟩, ⟨ns, pos, rest, mx, ct, hlt, ht, hl, hp⟩, q⟩ := h
    have wd : ∀ i : Int, CDivW i n := fun i => wide_div hn (b := 60) (by omega) (by decide) (by decide)
    refine ⟨_, ((pss_cons (ps_if (pt_cmpR op_gt (pe_ix ix_list (pv 0) pe_int (fun _ _ => rfl)) pe_int (nomark _)) (pss_cons (ps_set (i := 2) sc__law_pick.nd rfl (.inl rfl) (pe_op op_modN (pe_callTy call_int1 (by rfl) T.m_int (by decide +kernel) (pa_cons (pe_ix ix_list (pv 0) pe_int (fun _ _ => rfl)) pa_nil)) (pv 1)))
  (pss_cons (ps_asg (pe_op op_fdivW (pe_ix ix_list (pv 0) pe_int (fun _ _ => rfl)) (pv 1)) (pg_sub (pv 0) pe_int set_list))
  (pss_one (ps_ret (pv 2))))) pss_nil)
  (pss_cons (ps_asg (pe_op op_add (pe_ix ix_list (pv 0) pe_int (fun _ _ => rfl)) pe_int) (pg_sub (pv 0) pe_int set_list))
  (pss_cons (ps_set (i := 3) sc__law_pick.nd rfl (.inl rfl) pe_int)
  (Evl.pss_cut (ps_if (pt_cmpR op_lt (pe_ix ix_list (pv 0) pe_int (fun _ _ => rfl)) (pe_callB call_len_seq (by rfl) T.m_len PySem.boot_len (pa_cons (pe_ix ix_list (pv 0) pe_int (fun _ _ => rfl)) pa_nil)) (nomark _)) (pss_cons (ps_set (i := 3) sc__law_pick.nd rfl (.inl rfl) (pe_ix ix_list (pe_ix ix_list (pv 0) pe_int (fun _ _ => rfl)) (pe_ix ix_list (pv 0) pe_int (fun _ _ => rfl)) (fun _ _ => rfl)))
  (pss_one (ps_asg (pe_op op_add (pe_ix ix_list (pv 0) pe_int (fun _ _ => rfl)) pe_int) (pg_sub (pv 0) pe_int set_list)))) pss_nil)
  (pss_cons (ps_if (pt_cmpR op_ge (pv 3) (pe_op op_pow pe_int pe_int) (nomark _)) (pss_cons (ps_asg (pe_op op_fdivW (pv 3) (pv 1)) (pg_sub (pv 0) pe_int set_list))
  (pss_one (ps_ret (pe_op op_modN (pe_callTy call_int1 (by rfl) T.m_int (by decide +kernel) (pa_cons (pv 3) pa_nil)) (pv 1))))) pss_nil)
  (pss_cons (ps_set (i := 4) sc__law_pick.nd rfl (.inl rfl) (pe_op op_modN (pe_callTy call_int1 (by rfl) T.m_int (by decide +kernel) (pa_cons (pe_op op_add (pe_op op_add (pe_op op_mul (pe_ix ix_list (pv 0) pe_int (fun _ _ => rfl)) pe_int) (pe_op op_modN (pe_callTy call_int1 (by rfl) T.m_int (by decide +kernel) (pa_cons (pv 3) pa_nil)) pe_int)) (pe_op op_mul (pe_ix ix_list (pv 0) pe_int (fun _ _ => rfl)) pe_int)) pa_nil)) pe_int))
  (pss_cons (ps_set (i := 4) sc__law_pick.nd rfl (.inl rfl) (pe_op op_modN (pe_callTy call_int1 (by rfl) T.m_int (by decide +kernel) (pa_cons (pe_op op_mul (pv 4) (pe_op op_add (pe_op op_fdivW (pv 4) pe_int) pe_int)) pa_nil)) pe_int))
  (pss_cons (ps_asg (pv 4) (pg_sub (pv 0) pe_int set_list))
  (pss_one (ps_ret (pe_op op_modN (pe_callTy call_int1 (by rfl) T.m_int (by decide +kernel) (pa_cons (pe_op op_fdivW (pv 4) pe_int) pa_nil)) (pv 1))))))))))))), ?_⟩
    -- tape[2] > 1
    refine ⟨.ref t, rfl, t, _, 2, _, rfl, rfl, SqL.of ht, atI_nat (j := 2) rfl, _, _, rfl, rfl, _, rfl, ite2 (fun h1 => ?_) (fun h1 => ?_)⟩
    · -- digit
      refine ⟨.ref t, rfl, t, _, 2, _, rfl, rfl, SqL.of ht, atI_nat (j := 2) rfl, .inl ⟨_, rfl, ?_⟩⟩
      refine ⟨.int n, rfl, _, _, rfl, rfl, by omega, ?_⟩
      -- tape[2] = tape[2] // size
      refine ⟨.ref t, rfl, t, _, 2, _, rfl, rfl, SqL.of ht, atI_nat (j := 2) rfl, .int n, rfl, _, _, rfl, rfl, wd _, ?_⟩
      refine ⟨.ref t, rfl, t, _, 2, 2, rfl, rfl, ht, rfl, ?_⟩
      -- return digit
      refine ⟨_, rfl, ?_⟩
      refine q _ _ (fm_of hn).1 (fm_of hn).2 Moved.upd ⟨ns, pos, _, mx, ct, hlt, upd_same, ?_, hp⟩
      rw [upd_ne hlt]
      exact hl
    · -- tape[4] = tape[4] + 1
      refine ⟨.ref t, rfl, t, _, 4, _, rfl, rfl, SqL.of ht, atI_nat (j := 4) rfl, _, _, rfl, rfl, ?_⟩
      refine ⟨.ref t, rfl, t, _, 4, 4, rfl, rfl, ht, rfl, ?_⟩
      -- cell = 0; the first cut
      refine ⟨fun σ' H1 => ∃ (cell p2 : Int) (σ3 σ4 : Option V), σ' = [some (.ref t), some (.int n), σ3, some (.int cell), σ4] ∧ 0 ≤ p2 ∧ H1 t = some (.lst [.ref l, .int p2, .int rest, .int mx, .int (ct + 1)]) ∧ H1 l = some (.lst (ns.map V.int)) ∧ Moved t H H1, ?_, fun σ' H1 hm => ?_⟩
      · have hl1 : (upd H t (.lst [.ref l, .int pos, .int rest, .int mx, .int (ct + 1)])) l = some (.lst (ns.map V.int)) := by
          rw [upd_ne hlt]
          exact hl
        refine ⟨.ref t, rfl, t, _, 1, _, rfl, rfl, SqL.of upd_same, atI_nat (j := 1) rfl, .ref t, rfl, t, _, 0, _, rfl, rfl, SqL.of upd_same, atI_nat (j := 0) rfl, l, _, rfl, .inl (SqL.of hl1), _, _, rfl, rfl, _, rfl, ite2 (fun h2 => ?_) (fun h2 => ?_)⟩
        · have h3 : pos < ((ns.map V.int).length : Int) := of_decide_eq_true h2
          obtain ⟨j, rfl⟩ : ∃ j : Nat, pos = (j : Int) := ⟨pos.toNat, by omega⟩
          have hj : j < ns.length := by
            rw [List.length_map] at h3
            omega
          have gj : (ns.map V.int)[j]? = some (.int ns[j]) := by
            rw [List.getElem?_map, List.getElem?_eq_getElem hj]
            rfl
          -- cell = tape[0][tape[1]]
          refine ⟨.ref t, rfl, t, _, 0, _, rfl, rfl, SqL.of upd_same, atI_nat (j := 0) rfl, .ref t, rfl, t, _, 1, _, rfl, rfl, SqL.of upd_same, atI_nat (j := 1) rfl, l, _, _, _, rfl, rfl, SqL.of hl1, atI_nat gj, ?_⟩
          -- tape[1] = tape[1] + 1
          refine ⟨.ref t, rfl, t, _, 1, _, rfl, rfl, SqL.of upd_same, atI_nat (j := 1) rfl, _, _, rfl, rfl, ?_⟩
          refine ⟨.ref t, rfl, t, _, 1, 1, rfl, rfl, upd_same, rfl, ?_⟩
          rw [upd_upd]
          exact ⟨_, _, _, _, rfl, by omega, upd_same, (by rw [upd_ne hlt]; exact hl), Moved.upd⟩
        · exact ⟨_, _, _, _, rfl, hp, upd_same, hl1, Moved.upd⟩
      · obtain ⟨cell, p2, σ3, σ4, rfl, hp2, ht1, hl1, mv⟩ := hm
        -- cell >= 10 ** 18
        refine ⟨.int cell, rfl, 10, 18, rfl, rfl, ⟨by decide, by decide, by decide⟩, _, _, rfl, rfl, _, rfl, ite2 (fun h2 => ?_) (fun h2 => ?_)⟩
        · refine ⟨.int cell, rfl, .int n, rfl, _, _, rfl, rfl, wd _, .ref t, rfl, t, _, 2, 2, rfl, rfl, ht1, rfl, ?_⟩
          refine ⟨.int cell, rfl, .inl ⟨_, rfl, .int n, rfl, _, _, rfl, rfl, by omega, ?_⟩⟩
          refine q _ _ (fm_of hn).1 (fm_of hn).2 (mv.trans Moved.upd) ⟨ns, p2, _, mx, _, hlt, upd_same, ?_, hp2⟩
          rw [upd_ne hlt]
          exact hl1
        · -- mixed = ..
          refine ⟨.ref t, rfl, t, _, 3, _, rfl, rfl, SqL.of ht1, atI_nat (j := 3) rfl, _, _, rfl, rfl, .inr ⟨by decide, by decide⟩, ?_⟩
          refine ⟨.int cell, rfl, .inl ⟨_, rfl, _, _, rfl, rfl, (by show (2147483629 : Int) ≠ 0; decide), _, _, rfl, rfl, ?_⟩⟩
          refine ⟨.ref t, rfl, t, _, 4, _, rfl, rfl, SqL.of ht1, atI_nat (j := 4) rfl, _, _, rfl, rfl, .inr ⟨by decide, by decide⟩, _, _, rfl, rfl, ?_⟩
          refine .inl ⟨_, rfl, _, _, rfl, rfl, (by show (2147483647 : Int) ≠ 0; decide), ?_⟩
          have bm := fm_of (a := mx * 48271 + cell.fmod 2147483629 + (ct + 1) * 69621) (b := 2147483647) (by decide)
          -- mixed = int(mixed * ..) % ..
          refine ⟨_, rfl, _, rfl, _, _, rfl, rfl, ⟨by decide, by decide⟩, _, _, rfl, rfl, _, _, rfl, rfl, .inl ⟨Int.lt_of_lt_of_le (by decide) bm.1, Int.lt_trans bm.2 (by decide)⟩, .inl ⟨_, rfl, _, _, rfl, rfl, (by show (2147483399 : Int) ≠ 0; decide), ?_⟩⟩
          -- tape[3] = mixed
          refine ⟨_, rfl, .ref t, rfl, t, _, 3, 3, rfl, rfl, ht1, rfl, ?_⟩
          refine ⟨_, rfl, _, _, rfl, rfl, ⟨by decide, by decide⟩, .inl ⟨_, rfl, .int n, rfl, _, _, rfl, rfl, by omega, ?_⟩⟩
          refine q _ _ (fm_of hn).1 (fm_of hn).2 (mv.trans Moved.upd) ⟨ns, p2, _, _, _, hlt, upd_same, ?_, hp2⟩
          rw [upd_ne hlt]
          exact hl1
end

/-! ### whole numbers, numbers within bounds, tuples of them: asked of anything -/
section
variable {P : Program} {w : World} {K : PySem.W.Frag} {mg : Str → Option Value} {base : Heap}
open RO9
def spIsIntA (K : PySem.W.Frag) : Sp := fun vs H Q _ => ∃ (v : V) (d : PyData), vs = [v] ∧ Od K H v d ∧ Q (.bl (isI d)) H
theorem ok_is_integer (T : Tx K mg) : FnOk P w K mg base CX0 1 T.a_is_integer T.d_is_integer ["thing"] (spIsIntA K) := by
  refine T.F_is_integer.ok sc_is_integer (fun vs H Q E h => ?_) (fun cdv A outer s H vs Q E hr h => ?_)
  · obtain ⟨v, d, rfl, _⟩ := h
    rfl
  · obtain ⟨v, d, rfl, od, q⟩ := h
    refine ⟨_, ((pss_one (ps_ret (pe_and (pe_callB call_isi (by rfl) T.m_isinstance (by decide +kernel) (pa_cons (pv 0) (pa_cons (pe_bltn (v := .ty "int") (by rfl) T.m_int (by decide +kernel) rfl) pa_nil))) (pe_one (pe_not (pe_callB call_isi (by rfl) T.m_isinstance (by decide +kernel) (pa_cons (pv 0) (pa_cons (pe_bltn (v := .ty "bool") (by rfl) T.m_bool (by decide +kernel) rfl) pa_nil))))))))), ?_⟩
    refine ⟨v, rfl, v, .ty "int", _, _, _, rfl, .ty _, od.ty, kit_int d, _, rfl, ?_⟩
    cases d with
    | int i => exact iteT ⟨v, rfl, v, .ty "bool", _, _, _, rfl, .ty _, od.ty, kit_bool _, _, rfl, q⟩
    | bool b => exact iteT ⟨v, rfl, v, .ty "bool", _, _, _, rfl, .ty _, od.ty, kit_bool _, _, rfl, q⟩
    | none => exact iteF q
    | str _ => exact iteF q
    | list _ => exact iteF q
    | tuple _ => exact iteF q
    | dict _ => exact iteF q
def spIsNumA (K : PySem.W.Frag) : Sp := fun vs H Q _ => ∃ (v : V) (d : PyData) (a b : Int), vs = [v, .int a, .int b] ∧ Od K H v d ∧ Q (.bl (numD a b d)) H
theorem ok_is_number (T : Tx K mg) : FnOk P w K mg base CX0 2 T.a_is_number T.d_is_number ["thing", "least", "most"] (spIsNumA K) := by
  refine T.F_is_number.ok sc_is_number (fun vs H Q E h => ?_) (fun cdv A outer s H vs Q E hr h => ?_)
  · obtain ⟨v, d, a, b, rfl, _⟩ := h
    rfl
  · obtain ⟨v, d, a, b, rfl, od, q⟩ := h
    refine ⟨_, ((pss_one (ps_ret (pe_and (pe_call (ok_is_integer T) (hr.mono (by decide)) (by rfl) T.g_is_integer T.F_is_integer.kp T.b_is_integer .nil pass0 (pa_cons (pv 0) pa_nil)) (pe_one (pe_chain op_le op_le (pv 1) (pv 0) (pv 2))))))), ?_⟩
    refine ⟨v, rfl, v, d, rfl, od, _, rfl, ?_⟩
    cases d with
    | int i =>
      cases od
      refine iteT ⟨.int a, rfl, .int i, rfl, a, i, rfl, rfl, _, rfl, ?_⟩
      have q' : Q (.bl (decide (a ≤ i) && decide (i ≤ b))) H := q
      by_cases h : a ≤ i
      · rw [decide_eq_true h] at q' ⊢
        exact iteT ⟨.int b, rfl, i, b, rfl, rfl, q'⟩
      · rw [decide_eq_false h] at q' ⊢
        exact iteF q'
    | none => exact iteF q
    | bool _ => exact iteF q
    | str _ => exact iteF q
    | list _ => exact iteF q
    | tuple _ => exact iteF q
    | dict _ => exact iteF q
def spAreNumsA (K : PySem.W.Frag) : Sp := fun vs H Q _ => ∃ (a : Addr) (xs : List V) (ds : List PyData) (lo hi : Int), vs = [.ref a, .int lo, .int hi] ∧ SqT K H a xs ∧ OdAll K H xs ds ∧ ds.length ≤ 1000 ∧
  ∀ H', Same H H' → Q (.bl (ds.all (numD lo hi))) H'
theorem ok_are_numbers (T : Tx K mg) : FnOk P w K mg base CX0 3 T.a_are_numbers T.d_are_numbers ["things", "least", "most"] (spAreNumsA K) := by
  refine T.F_are_numbers.ok sc_are_numbers (fun vs H Q E h => ?_) (fun cdv A outer s H vs Q E hr h => ?_)
  · obtain ⟨a, xs, ds, lo, hi, rfl, _⟩ := h
    rfl
  · obtain ⟨a, xs, ds, lo, hi, rfl, hT, oa, hlen, q⟩ := h
    have zl := oa.len
    refine ⟨_, ((pss_one (ps_ret (pe_callB (cr_all rfl) (by rfl) T.m_all (by decide +kernel) (pa_cons (pe_lc (own := [("thing", 3)]) (g := (gName 3)) (tt := tYes) rfl sc_are_numbers.nd (pi_tup (pv 0)) (blkOk_by (own := [("thing", 3)]) (N := ["things", "least", "most", "thing"]) (sc := defScope s_are_numbers) (by decide +kernel)) (fun _ _ _ _ _ => pg_name (i := 3) sc_are_numbers.nd rfl (.inl rfl)) (fun _ _ _ _ _ => pts_nil) (fun _ _ _ _ _ => (pe_call (ok_is_number T) (hr.mono (by decide)) (by rfl) T.g_is_number T.F_is_number.kp T.b_is_number .nil pass0 (pa_cons (pv 3) (pa_cons (pv 1) (pa_cons (pv 2) pa_nil)))))) pa_nil))))), ?_⟩
    refine ⟨.ref a, rfl, a, rfl, ⟨_, hT⟩, fun D hD => lc_tup (K := K) (a := a) (xs := xs)
      (fun i H' => Same H H' ∧ H' D = some (.lst (((ds.take i).map (numD lo hi)).map V.bl)))
      ⟨same_upd hD, upd_same⟩ (fun i H' _ p => sT p.1 hT) (fun i x H' hx p => ?_) (fun H' p => ?_)⟩
    · obtain ⟨sm, eD⟩ := p
      obtain ⟨d, hd, od⟩ := oa.get hx
      have hi' : i < ds.length := (List.getElem?_eq_some_iff.mp hd).1
      refine ⟨rfl, x, rfl, .int lo, rfl, .int hi, rfl, x, d, lo, hi, rfl, od.mono sm, ?_⟩
      refine ⟨_, eD, by rw [List.length_map, List.length_map, List.length_take]; exact small1000 (by omega), same_put sm hD, ?_⟩
      rw [upd_same, take_snoc hd, List.map_append, List.map_append]
      rfl
    · obtain ⟨sm, eD⟩ := p
      rw [zl, List.take_of_length_le (Nat.le_refl _)] at eD
      refine ⟨D, _, rfl, .inl (.inl eD), ?_⟩
      have e2 : ((ds.map (numD lo hi)).all id) = ds.all (numD lo hi) := by
        rw [List.all_map]
        rfl
      rw [e2]
      exact q H' sm
end

/-! ### loops and rows: asked of anything -/
section
variable {P : Program} {w : World} {K : PySem.W.Frag} {mg : Str → Option Value} {base : Heap}
open RO9
/-- a tuple is not too long to be looked at -/
def Lim (d : PyData) : Prop := ∀ ds, d = .tuple ds → ds.length ≤ 1000
def isLoopsD : PyData → Bool
  | .tuple ds => decide (1 ≤ ds.length) && (decide (ds.length ≤ 8) && ds.all (numD 1 40))
  | _ => false
def isRowD (n : Int) : PyData → Bool
  | .tuple ds => decide (ds.length ≤ 60) && ds.all (numD 0 (n - 1))
  | _ => false
theorem ints_of {lo hi : Int} {K : PySem.W.Frag} {H : Hp} : ∀ {xs : List V} {ds : List PyData}, OdAll K H xs ds → ds.all (numD lo hi) = true → ∃ ns : List Int, xs = ns.map V.int ∧ ds = ns.map PyData.int ∧ ∀ n ∈ ns, lo ≤ n ∧ n ≤ hi
  | [], _, h, _ => by
    cases h
    exact ⟨[], rfl, rfl, fun _ h => by simp at h⟩
  | x :: xs, _, h, ha => by
    cases h with
    | @cons _ _ d ds a t =>
      rw [List.all_cons, Bool.and_eq_true] at ha
      obtain ⟨ns, e1, e2, e3⟩ := ints_of t ha.2
      have ha1 := ha.1
      cases a with
      | int i =>
        have hi' : (decide (lo ≤ i) && decide (i ≤ hi)) = true := ha1
        rw [Bool.and_eq_true] at hi'
        refine ⟨i :: ns, by rw [e1]; rfl, by rw [e2]; rfl, fun n hn => ?_⟩
        rcases List.mem_cons.mp hn with rfl | hn
        · exact ⟨of_decide_eq_true hi'.1, of_decide_eq_true hi'.2⟩
        · exact e3 n hn
      | _ => exact absurd (show false = true from ha1) Bool.false_ne_true
def spIsLoopsA (K : PySem.W.Frag) : Sp := fun vs H Q _ => ∃ (v : V) (d : PyData), vs = [v] ∧ Od K H v d ∧ Lim d ∧ ∀ H', Same H H' → Q (.bl (isLoopsD d)) H'
theorem ok_is_loops (T : Tx K mg) : FnOk P w K mg base CX0 4 T.a_is_loops T.d_is_loops ["thing"] (spIsLoopsA K) := by
  refine T.F_is_loops.ok sc_is_loops (fun vs H Q E h => ?_) (fun cdv A outer s H vs Q E hr h => ?_)
  · obtain ⟨v, d, rfl, _⟩ := h
    rfl
  · obtain ⟨v, d, rfl, od, lm, q⟩ := h
    refine ⟨_, ((pss_one (ps_ret (pe_and (pe_callB call_isi (by rfl) T.m_isinstance (by decide +kernel) (pa_cons (pv 0) (pa_cons (pe_bltn (v := .ty "tuple") (by rfl) T.m_tuple (by decide +kernel) rfl) pa_nil))) (pe_and (pe_chain op_le op_le pe_int (pe_callB call_len_seq (by rfl) T.m_len PySem.boot_len (pa_cons (pv 0) pa_nil)) (pe_glob (v := .int 8) rfl T.g_MOST_LOOPS ⟨_, rfl⟩)) (pe_one (pe_call (ok_are_numbers T) (hr.mono (by decide)) (by rfl) T.g_are_numbers T.F_are_numbers.kp T.b_are_numbers .nil pass0 (pa_cons (pv 0) (pa_cons pe_int (pa_cons (pe_glob (v := .int 40) rfl T.g_MOST_LENGTH ⟨_, rfl⟩) pa_nil)))))))))), ?_⟩
    refine ⟨v, rfl, v, .ty "tuple", _, _, _, rfl, .ty _, od.ty, kit_tuple d, _, rfl, ?_⟩
    have same : Same H H := fun _ _ e => e
    cases d with
    | tuple ds =>
      have l1000 := lm ds rfl
      cases od with
      | @tup a xs _ hT oa =>
        have zl := oa.len
        refine iteT ⟨.ref a, rfl, a, _, rfl, .inr hT, 1, _, rfl, rfl, decide ((1 : Int) ≤ ((xs.length : Nat) : Int)), rfl, ?_⟩
        by_cases c1 : (1 : Int) ≤ ((xs.length : Nat) : Int)
        · rw [decide_eq_true c1]
          refine iteT ⟨_, 8, rfl, rfl, decide (((xs.length : Nat) : Int) ≤ 8), rfl, ?_⟩
          by_cases c2 : ((xs.length : Nat) : Int) ≤ 8
          · rw [decide_eq_true c2]
            refine iteT ⟨.ref a, rfl, a, xs, ds, 1, 40, rfl, hT, oa, l1000, fun H' s' => ?_⟩
            have e : isLoopsD (.tuple ds) = ds.all (numD 1 40) := by
              show (decide (1 ≤ ds.length) && (decide (ds.length ≤ 8) && ds.all (numD 1 40))) = _
              rw [decide_eq_true (by omega), decide_eq_true (by omega)]
              rfl
            rw [← e]
            exact q H' s'
          · rw [decide_eq_false c2]
            have e : isLoopsD (.tuple ds) = false := by
              show (decide (1 ≤ ds.length) && (decide (ds.length ≤ 8) && ds.all (numD 1 40))) = _
              rw [decide_eq_false (by omega : ¬ ds.length ≤ 8), Bool.false_and, Bool.and_false]
            have q' := q H same
            rw [e] at q'
            exact iteF q'
        · rw [decide_eq_false c1]
          have e : isLoopsD (.tuple ds) = false := by
            show (decide (1 ≤ ds.length) && (decide (ds.length ≤ 8) && ds.all (numD 1 40))) = _
            rw [decide_eq_false (by omega : ¬ 1 ≤ ds.length), Bool.false_and]
          have q' := q H same
          rw [e] at q'
          exact iteF ⟨false, rfl, iteF q'⟩
    | none => exact iteF (q H same)
    | bool _ => exact iteF (q H same)
    | int _ => exact iteF (q H same)
    | str _ => exact iteF (q H same)
    | list _ => exact iteF (q H same)
    | dict _ => exact iteF (q H same)
def spIsRowA (K : PySem.W.Frag) : Sp := fun vs H Q _ => ∃ (a : Addr) (ls : List Int) (v : V) (d : PyData), vs = [.ref a, v] ∧ SqT K H a (ls.map V.int) ∧ Od K H v d ∧ Lim d ∧ ∀ H', Same H H' → Q (.bl (isRowD (ls.length : Int) d)) H'
theorem ok_is_row (T : Tx K mg) : FnOk P w K mg base CX0 4 T.a_is_row T.d_is_row ["loops", "thing"] (spIsRowA K) := by
  refine T.F_is_row.ok sc_is_row (fun vs H Q E h => ?_) (fun cdv A outer s H vs Q E hr h => ?_)
  · obtain ⟨a, ls, v, d, rfl, _⟩ := h
    rfl
  · obtain ⟨a, ls, v, d, rfl, hA, od, lm, q⟩ := h
    refine ⟨_, ((pss_one (ps_ret (pe_and (pe_callB call_isi (by rfl) T.m_isinstance (by decide +kernel) (pa_cons (pv 1) (pa_cons (pe_bltn (v := .ty "tuple") (by rfl) T.m_tuple (by decide +kernel) rfl) pa_nil))) (pe_and (pe_cmpR op_le (pe_callB call_len_seq (by rfl) T.m_len PySem.boot_len (pa_cons (pv 1) pa_nil)) (pe_glob (v := .int 60) rfl T.g_MOST_ITEMS ⟨_, rfl⟩) (nomark _)) (pe_one (pe_call (ok_are_numbers T) (hr.mono (by decide)) (by rfl) T.g_are_numbers T.F_are_numbers.kp T.b_are_numbers .nil pass0 (pa_cons (pv 1) (pa_cons pe_int (pa_cons (pe_op op_sub (pe_callB call_len_seq (by rfl) T.m_len PySem.boot_len (pa_cons (pv 0) pa_nil)) pe_int) pa_nil)))))))))), ?_⟩
    refine ⟨v, rfl, v, .ty "tuple", _, _, _, rfl, .ty _, od.ty, kit_tuple d, _, rfl, ?_⟩
    have same : Same H H := fun _ _ e => e
    cases d with
    | tuple ds =>
      have l1000 := lm ds rfl
      cases od with
      | @tup r xs _ hT oa =>
        have zl := oa.len
        refine iteT ⟨.ref r, rfl, r, _, rfl, .inr hT, _, 60, rfl, rfl, decide (((xs.length : Nat) : Int) ≤ 60), rfl, ?_⟩
        by_cases c2 : ((xs.length : Nat) : Int) ≤ 60
        · rw [decide_eq_true c2]
          refine iteT ⟨.ref r, rfl, .ref a, rfl, a, _, rfl, .inr hA, _, _, rfl, rfl, r, xs, ds, 0, (((ls.map V.int).length : Nat) : Int) - 1, rfl, hT, oa, l1000, fun H' s' => ?_⟩
          have e : isRowD (ls.length : Int) (.tuple ds) = ds.all (numD 0 ((((ls.map V.int).length : Nat) : Int) - 1)) := by
            show (decide (ds.length ≤ 60) && ds.all (numD 0 ((ls.length : Int) - 1))) = _
            rw [decide_eq_true (by omega), List.length_map]
            rfl
          rw [← e]
          exact q H' s'
        · rw [decide_eq_false c2]
          have e : isRowD (ls.length : Int) (.tuple ds) = false := by
            show (decide (ds.length ≤ 60) && ds.all (numD 0 ((ls.length : Int) - 1))) = _
            rw [decide_eq_false (by omega : ¬ ds.length ≤ 60), Bool.false_and]
          have q' := q H same
          rw [e] at q'
          exact iteF q'
    | none => exact iteF (q H same)
    | bool _ => exact iteF (q H same)
    | int _ => exact iteF (q H same)
    | str _ => exact iteF (q H same)
    | list _ => exact iteF (q H same)
    | dict _ => exact iteF (q H same)
end

/-! ### the sum of a row -/
section
variable {P : Program} {w : World} {K : PySem.W.Frag} {mg : Str → Option Value} {base : Heap}
def spRowSum (K : PySem.W.Frag) : Sp := fun vs H Q _ => ∃ (a r : Addr) (ls row : List Int), vs = [.ref a, .ref r] ∧ SqT K H a (ls.map V.int) ∧ SqT K H r (row.map V.int) ∧ Tb.InR ls row ∧ row.length ≤ 1000 ∧ ∀ H', Same H H' → Q (.int (Tb.rsum ls row)) H'
theorem ok_row_sum (T : Tx K mg) : FnOk P w K mg base CX0 1 T.a_row_sum T.d_row_sum ["loops", "row"] (spRowSum K) := by
  refine T.F_row_sum.ok sc_row_sum (fun vs H Q E h => ?_) (fun cdv A outer s H vs Q E hr h => ?_)
  · obtain ⟨a, r, ls, row, rfl, _⟩ := h
    rfl
  · obtain ⟨a, r, ls, row, rfl, hA, hR, hin, hlen, q⟩ := h
    refine ⟨_, ((pss_one (ps_ret (pe_callB (cr_sum rfl) (by rfl) T.m_sum (by decide +kernel) (pa_cons (pe_lc (own := [("loop", 2)]) (g := (gName 2)) (tt := tYes) rfl sc_row_sum.nd (pi_tup (pv 1)) (blkOk_by (own := [("loop", 2)]) (N := ["loops", "row", "loop"]) (sc := defScope s_row_sum) (by decide +kernel)) (fun _ _ _ _ _ => pg_name (i := 2) sc_row_sum.nd rfl (.inl rfl)) (fun _ _ _ _ _ => pts_nil) (fun _ _ _ _ _ => (pe_ix (ixTK (K := K) (by rfl)) (pv 0) (pv 2) (fun _ _ => rfl)))) pa_nil))))), ?_⟩
    refine ⟨.ref r, rfl, r, rfl, ⟨_, hR⟩, fun D hD => lc_tup (K := K) (a := r) (xs := row.map V.int)
      (fun i H' => Same H H' ∧ H' D = some (.lst (((row.take i).map (Tb.len1 ls)).map V.int)))
      ⟨same_upd hD, upd_same⟩ (fun i H' _ p => sT p.1 hR) (fun i x H' hx p => ?_) (fun H' p => ?_)⟩
    · obtain ⟨sm, eD⟩ := p
      rw [List.getElem?_map] at hx
      obtain ⟨n, hn, rfl⟩ := Option.map_eq_some_iff.mp hx
      have hk := hin n (List.mem_of_getElem? hn)
      have hi' : i < row.length := (List.getElem?_eq_some_iff.mp hn).1
      refine ⟨rfl, ?_⟩
      refine ⟨.ref a, rfl, .int n, rfl, a, _, _, .int (Tb.len1 ls n), rfl, rfl, sT sm hA, atI_of hk.1 ?_, ?_⟩
      · rw [List.getElem?_map, Tb.len_at hk.1 hk.2]
        rfl
      · refine ⟨_, eD, ?_, fun b o e => ?_, ?_⟩
        · rw [List.length_map, List.length_map, List.length_take]
          exact small1000 (by omega)
        · rw [upd_ne (ne_of_none e hD)]
          exact sm b o e
        · rw [upd_same, take_snoc hn, List.map_append, List.map_append]
          rfl
    · obtain ⟨sm, eD⟩ := p
      rw [List.length_map, List.take_of_length_le (Nat.le_refl _)] at eD
      exact ⟨D, _, rfl, SqL.of eD, q H' sm⟩
end

/-! ### a table made of anything -/
theorem exm_self {K : PySem.W.Frag} {S : Addr} (h1 : PySem.W.subIn K (.ref S) (.type "BaseException") = some true) (h2 : PySem.W.isClsIn K S = true) (h3 : PySem.W.typeIn K (.ref S) = some (.type "type")) (h4 : PySem.W.subIn K (.ref S) (.ref S) = some true) :
    PySem.W.exmOne K (.ref S) (.ref S) = some true := by
  have a : (PySem.W.subIn K (.ref S) (.type "BaseException") == some true) = true := by
    rw [h1]
    rfl
  have h2' : (PySem.W.clsIn K S).isSome = true := h2
  have b : ((PySem.W.clsIn K S).isSome && PySem.W.typeIn K (.ref S) == some (.type "type")) = true := by
    rw [h2', h3]
    rfl
  unfold PySem.W.exmOne
  rw [if_pos a]
  show (if _ then PySem.W.subIn K (.ref S) (.ref S) else none) = some true
  rw [if_pos b]
  exact h4
section
variable {P : Program} {w : World} {K : PySem.W.Frag} {mg : Str → Option Value} {base : Heap}
open RO9
def spBadI (K : PySem.W.Frag) (C : Addr) : Sp := fun vs H Q _ => ∃ (a : Addr) (t l : V), vs = [.ref a, t, l] ∧ H a = some (exo a C none) ∧
  ∀ dx, H dx = none → dx ≠ a → Q .non (upd (upd (upd H dx (exd dx [("part", t)])) a (exo a C (some dx))) dx (exd dx [("at", l), ("part", t)]))
theorem ok_BadTable___init__ (T : Tx K mg) : FnOk P w K mg base CX0 1 T.a_BadTable___init__ T.d_BadTable___init__ ["self", "part", "at"] (spBadI K T.c_BadTable) := by
  refine T.F_BadTable___init__.ok sc_BadTable___init__ (fun vs H Q E h => ?_) (fun cdv A outer s H vs Q E hr h => ?_)
  · obtain ⟨a, t, l, rfl, _⟩ := h
    rfl
  · obtain ⟨a, t, l, rfl, ea, q⟩ := h
    refine ⟨_, ((pss_cons (ps_ost (pv 0) (pv 1))
  (pss_one (ps_ost (pv 0) (pv 2))))), ?_⟩
    refine ⟨t, rfl, .ref a, rfl, a, T.c_BadTable, rfl, T.x_BadTable, T.n_BadTable_part, .inl ⟨ea, fun dx nd ne => ?_⟩⟩
    refine ⟨l, rfl, .ref a, rfl, a, T.c_BadTable, rfl, T.x_BadTable, T.n_BadTable_at, .inr ⟨dx, _, upd_same, (upd_ne ne).trans upd_same, by show 1 ≤ 900; decide, ?_⟩⟩
    exact q dx nd ne
theorem putF_len (f : Str) (v : V) : ∀ fs : List (Str × V), (putF f v fs).length ≤ fs.length + 1
  | [] => Nat.le_refl _
  | (g, u) :: fs => by
    unfold putF
    split
    · simp
    · have := putF_len f v fs
      simp only [List.length_cons]
      omega
def intsD (d : PyData) : List Int := match d with
  | .tuple ds => ds.map fun x => match x with | .int i => i | _ => 0
  | _ => []
/-- the row is one of the table's, behind so many others -/
def rowOk (ls : List Int) (at_ : Nat) (d : PyData) : Bool := isRowD (ls.length : Int) d && decide (Tb.rsum ls (intsD d) = (at_ : Int) + 1)
def badRow (ls : List Int) : Nat → List PyData → Option Nat
  | _, [] => none
  | i, d :: ds => if rowOk ls i d then badRow ls (i + 1) ds else some i
theorem badRow_step {ls : List Int} {ds : List PyData} {i : Nat} {d : PyData} (h : ds[i]? = some d) : badRow ls i (ds.drop i) = if rowOk ls i d then badRow ls (i + 1) (ds.drop (i + 1)) else some i := by
  obtain ⟨hi, e⟩ := List.getElem?_eq_some_iff.mp h
  rw [List.drop_eq_getElem_cons hi, e]
  rfl
theorem loops_of {K : PySem.W.Frag} {H : Hp} {v : V} {d : PyData} (od : Od K H v d) (h : isLoopsD d = true) : ∃ (a : Addr) (ls : List Int), v = .ref a ∧ d = .tuple (ls.map PyData.int) ∧ SqT K H a (ls.map V.int) ∧ 1 ≤ ls.length ∧ ls.length ≤ 8 ∧ (∀ n ∈ ls, 1 ≤ n ∧ n ≤ 40) ∧ intsD d = ls := by
  cases od with
  | @tup a xs ds hT oa =>
    have h' : (decide (1 ≤ ds.length) && (decide (ds.length ≤ 8) && ds.all (numD 1 40))) = true := h
    rw [Bool.and_eq_true, Bool.and_eq_true] at h'
    obtain ⟨h1, h2, h3⟩ := h'
    obtain ⟨ls, rfl, rfl, hb⟩ := ints_of oa h3
    have l1 := of_decide_eq_true h1
    have l2 := of_decide_eq_true h2
    rw [List.length_map] at l1 l2
    refine ⟨a, ls, rfl, rfl, hT, l1, l2, hb, ?_⟩
    show (ls.map PyData.int).map _ = ls
    rw [List.map_map]
    exact List.map_id' ls
  | _ => exact absurd (show false = true from h) Bool.false_ne_true
theorem row_of {K : PySem.W.Frag} {H : Hp} {n : Int} {v : V} {d : PyData} (od : Od K H v d) (h : isRowD n d = true) : ∃ (a : Addr) (row : List Int), v = .ref a ∧ d = .tuple (row.map PyData.int) ∧ SqT K H a (row.map V.int) ∧ row.length ≤ 60 ∧ (∀ k ∈ row, 0 ≤ k ∧ k < n) ∧ intsD d = row := by
  cases od with
  | @tup a xs ds hT oa =>
    have h' : (decide (ds.length ≤ 60) && ds.all (numD 0 (n - 1))) = true := h
    rw [Bool.and_eq_true] at h'
    obtain ⟨h2, h3⟩ := h'
    obtain ⟨ls, rfl, rfl, hb⟩ := ints_of oa h3
    have l2 := of_decide_eq_true h2
    rw [List.length_map] at l2
    refine ⟨a, ls, rfl, rfl, hT, l2, fun k hk => ?_, ?_⟩
    · have := hb k hk
      omega
    · show (ls.map PyData.int).map _ = ls
      rw [List.map_map]
      exact List.map_id' ls
  | _ => exact absurd (show false = true from h) Bool.false_ne_true
def faultD (dl dr : PyData) : Option (Str × Int) :=
  if isLoopsD dl then (match dr with
    | .tuple ds => if 1 ≤ ds.length ∧ ds.length ≤ 60 then (badRow (intsD dl) 0 ds).map fun i => ("rows", (i : Int)) else some ("rows", -1)
    | _ => some ("rows", -1))
  else some ("loops", -1)
/-- the rows are no longer than may be looked at -/
def Lim2 (d : PyData) : Prop := ∀ ds, d = .tuple ds → ds.length ≤ 1000 ∧ ∀ x ∈ ds, Lim x
def spTInitX (K : PySem.W.Frag) (C B : Addr) : Sp := fun vs H Q E => ∃ (p dx : Addr) (vl vr : V) (dl dr : PyData), vs = [.ref p, vl, vr] ∧ H p = some (.ins C dx []) ∧ Od K H vl dl ∧ Od K H vr dr ∧ Lim dl ∧ Lim2 dr ∧
  (∀ ds, faultD dl dr = none → dr = .tuple ds → ∀ H', (∀ c o, c ≠ p → H c = some o → H' c = some o) → H' p = some (.ins C dx (putF "bound" (.int (ds.length : Int)) (putF "rows" vr (putF "loops" vl [])))) → Q .non H') ∧
  (∀ part at_ d H', faultD dl dr = some (part, at_) → Same H H' → H d = none → H' d = some (.xd [("at", .int at_), ("part", .str part)]) → E (.ref B) (some d) H')
theorem ok_Table___init__ (T : Tx K mg) : FnOk P w K mg base (L2.CX P w) 5 T.a_Table___init__ T.d_Table___init__ ["self", "loops", "rows"] (spTInitX K T.c_Table T.c_BadTable) := by
  refine T.F_Table___init__.okX sc_Table___init__ (fun vs H Q E h => ?_) (fun cdv A outer s H vs Q E hr h => ?_)
  · obtain ⟨p, dx, vl, vr, dl, dr, rfl, _⟩ := h
    rfl
  · obtain ⟨p, dx, vl, vr, dl, dr, rfl, hp, ol, or_, ll, lr, qn, qe⟩ := h
    refine ⟨_, ((pss_cons (ps_if (pt_not (pt_val (pe_call (ok_is_loops T) (hr.mono (by decide)) (by rfl) T.g_is_loops T.F_is_loops.kp T.b_is_loops .nil pass0 (pa_cons (pv 1) pa_nil)))) (pss_one (ps_raise rfl (takes_of rfl rfl rfl rfl) (pmk_oex T.x_BadTable T.i_BadTable T.ti_BadTable (ok_BadTable___init__ T) (hr.mono (by decide)) T.b_BadTable___init__ .nil pass0 (by rfl) T.g_BadTable (pa_cons pe_str (pa_cons (pe_un un_neg pe_int) pa_nil))))) pss_nil)
  (pss_cons (ps_if (PW.pt (pw_or (pt_not (pt_val (pe_callB call_isi (by rfl) T.m_isinstance (by decide +kernel) (pa_cons (pv 2) (pa_cons (pe_bltn (v := .ty "tuple") (by rfl) T.m_tuple (by decide +kernel) rfl) pa_nil))))) (pw_or1 (pt_not (pt_chain op_le op_le pe_int (pe_callB call_len_seq (by rfl) T.m_len PySem.boot_len (pa_cons (pv 2) pa_nil)) (pe_glob (v := .int 60) rfl T.g_MOST_BOUND ⟨_, rfl⟩)))))) (pss_one (ps_raise rfl (takes_of rfl rfl rfl rfl) (pmk_oex T.x_BadTable T.i_BadTable T.ti_BadTable (ok_BadTable___init__ T) (hr.mono (by decide)) T.b_BadTable___init__ .nil pass0 (by rfl) T.g_BadTable (pa_cons pe_str (pa_cons (pe_un un_neg pe_int) pa_nil))))) pss_nil)
  (pss_cons (ps_for (passes_of rfl) rfl (RR.pi_enumT (by rfl) T.m_enumerate (pa_cons (pv 2) pa_nil)) (pg_tup rfl (pgs_cons (pg_name (i := 3) sc_Table___init__.nd rfl (.inl rfl)) (pgs_cons (pg_name (i := 4) sc_Table___init__.nd rfl (.inl rfl)) pgs_nil)))
   (pss_one (ps_if (PW.pt (pw_or (pt_not (pt_val (pe_call (ok_is_row T) (hr.mono (by decide)) (by rfl) T.g_is_row T.F_is_row.kp T.b_is_row .nil pass0 (pa_cons (pv 1) (pa_cons (pv 4) pa_nil))))) (pw_or1 (pt_cmpR op_ne (pe_call (ok_row_sum T) (hr.mono (by decide)) (by rfl) T.g_row_sum T.F_row_sum.kp T.b_row_sum .nil pass0 (pa_cons (pv 1) (pa_cons (pv 4) pa_nil))) (pe_op op_add (pv 3) pe_int) (nomark _))))) (pss_one (ps_raise rfl (takes_of rfl rfl rfl rfl) (pmk_oex T.x_BadTable T.i_BadTable T.ti_BadTable (ok_BadTable___init__ T) (hr.mono (by decide)) T.b_BadTable___init__ .nil pass0 (by rfl) T.g_BadTable (pa_cons pe_str (pa_cons (pv 3) pa_nil))))) pss_nil)))
  (pss_cons (ps_fld (pv 0) (pv 1) rfl)
  (pss_cons (ps_fld (pv 0) (pv 2) rfl)
  (pss_one (ps_fld (pv 0) (pe_callB call_len_seq (by rfl) T.m_len PySem.boot_len (pa_cons (pv 2) pa_nil)) rfl)))))))), ?_⟩
    -- what is raised
    have bad : ∀ (part : Str) (at_ : Int) (H2 : Hp), faultD dl dr = some (part, at_) → Same H H2 → ∀ e, H2 e = none → spBadI K T.c_BadTable [.ref e, .str part, .int at_] (upd H2 e (exo e T.c_BadTable none)) (fun v H3 => v = .non ∧ ∃ d fs, H3 e = some (exo e T.c_BadTable (some d)) ∧ H3 d = some (exd d fs) ∧ H2 d = none ∧ E (.ref T.c_BadTable) (some d) (upd (del H3 e) d (HO.xd fs))) (fun _ _ _ => False) := fun part at_ H2 hf s2 e ne => by
      refine ⟨e, .str part, .int at_, rfl, upd_same, fun dx ndx hne => ⟨rfl, dx, _, (upd_ne hne.symm).trans upd_same, upd_same, ?_, ?_⟩⟩
      · rw [upd_ne hne] at ndx
        exact ndx
      · have nd2 : H2 dx = none := by
          rw [upd_ne hne] at ndx
          exact ndx
        refine qe part at_ dx _ hf (fun b o eb => ?_) (Same.free s2 nd2) upd_same
        have eb2 := s2 _ _ eb
        have b1 : b ≠ e := ne_of_none eb2 ne
        have b2 : b ≠ dx := ne_of_none eb2 nd2
        rw [upd_ne b2, del_ne b1, upd_ne b2, upd_ne b1, upd_ne b2, upd_ne b1]
        exact eb2
    refine ⟨vl, rfl, vl, dl, rfl, ol, ll, fun H1 s1 => ⟨_, rfl, ?_⟩⟩
    cases cl : isLoopsD dl with
    | false =>
      refine iteT ⟨1, rfl, by show 2 ≤ 1000; decide, fun e ne => ?_⟩
      exact bad "loops" (-1) H1 (by unfold faultD; rw [cl]; rfl) s1 e ne
    | true =>
      refine iteF ?_
      have ty := (or_.mono s1).ty
      have notTup : (∀ ds, dr ≠ .tuple ds) → faultD dl dr = some (("rows" : Str), (-1 : Int)) := fun e => by
        unfold faultD
        rw [cl, if_pos rfl]
        cases dr <;> first | rfl | exact absurd rfl (e _)
      refine ⟨vr, rfl, vr, .ty "tuple", _, _, _, rfl, .ty _, ty, kit_tuple dr, _, rfl, ?_⟩
      cases dr with
      | tuple ds =>
        cases or_ with
        | @tup b xs _ hB oa =>
          have zl := oa.len
          obtain ⟨l1000, lims⟩ := lr ds rfl
          have hB1 := sT s1 hB
          have short : ¬ (1 ≤ ds.length ∧ ds.length ≤ 60) → faultD dl (.tuple ds) = some (("rows" : Str), (-1 : Int)) := fun h => by
            unfold faultD
            rw [cl, if_pos rfl]
            exact if_neg h
          refine iteF ⟨.ref b, rfl, b, _, rfl, .inr hB1, 1, _, rfl, rfl, decide ((1 : Int) ≤ ((xs.length : Nat) : Int)), rfl, ?_⟩
          by_cases c1 : (1 : Int) ≤ ((xs.length : Nat) : Int)
          · rw [decide_eq_true c1]
            refine iteT ⟨_, 60, rfl, rfl, decide (((xs.length : Nat) : Int) ≤ 60), rfl, ?_⟩
            by_cases c2 : ((xs.length : Nat) : Int) ≤ 60
            · rw [decide_eq_true c2]
              refine iteF ?_
              obtain ⟨a, ls, rfl, rfl, hA, z1, z8, g, els⟩ := loops_of ol cl
              have fE : faultD (.tuple (ls.map PyData.int)) (.tuple ds) = (badRow ls 0 ds).map fun i => (("rows" : Str), (i : Int)) := by
                unfold faultD
                rw [cl, if_pos rfl]
                show (if 1 ≤ ds.length ∧ ds.length ≤ 60 then _ else _) = _
                rw [if_pos ⟨by omega, by omega⟩, els]
              refine ⟨.ref b, rfl, b, _, rfl, hB1, RR.for_enumT (K := K) (xs := xs)
                (fun i σ H' => ∃ y3 y4, σ = [some (.ref p), some (.ref a), some (.ref b), y3, y4] ∧ Same H H' ∧ badRow ls 0 ds = badRow ls i (ds.drop i))
                ⟨_, _, rfl, s1, rfl⟩ (fun i σ H' _ h => ?_) (fun i x X σ H' hx h nX => ?_) (fun σ H' h => ?_)⟩
              · obtain ⟨_, _, _, sm, _⟩ := h
                exact sT sm hB
              · obtain ⟨y3, y4, rfl, sm, eb⟩ := h
                obtain ⟨d, hd, od⟩ := oa.get hx
                rw [badRow_step hd] at eb
                have sX := same_upd (o := .tup [.int (i : Nat), x]) nX
                have sm2 := sm.trans sX
                refine ⟨X, _, rfl, SqT.of upd_same, rfl, _, [_], rfl, _, [], rfl, rfl, ?_⟩
                have lm := lims d (List.mem_of_getElem? hd)
                refine ⟨.ref a, rfl, x, rfl, a, ls, x, d, rfl, sT sm2 hA, od.mono sm2, lm, fun H2 s2 => ⟨_, rfl, ?_⟩⟩
                have sm3 := sm2.trans s2
                have at_i : ∀ e : rowOk ls i d = false, faultD (.tuple (ls.map PyData.int)) (.tuple ds) = some (("rows" : Str), (i : Int)) := fun e => by
                  rw [fE, eb, e]
                  rfl
                cases cr : isRowD (ls.length : Int) d with
                | false =>
                  refine iteT (iteT ⟨.int (i : Nat), rfl, by show 2 ≤ 1000; decide, fun e ne => ?_⟩)
                  exact bad "rows" (i : Int) H2 (at_i (by unfold rowOk; rw [cr]; rfl)) sm3 e ne
                | true =>
                  obtain ⟨r, row, rfl, rfl, hR, l60, hin, er⟩ := row_of od cr
                  refine iteF ⟨.ref a, rfl, .ref r, rfl, a, r, ls, row, rfl, sT sm3 hA, sT sm3 hR, hin, by omega, fun H3 s3 => ?_⟩
                  have sm4 := sm3.trans s3
                  by_cases hs : Tb.rsum ls row = (i : Int) + 1
                  · refine ⟨_, rfl, _, _, rfl, rfl, rfl, false, ne_no hs, iteF ?_⟩
                    refine ⟨_, _, rfl, sm4, ?_⟩
                    have ok : rowOk ls i (.tuple (row.map PyData.int)) = true := by
                      unfold rowOk
                      rw [cr, er, decide_eq_true hs]
                      rfl
                    rw [eb, ok, if_pos rfl]
                  · refine ⟨_, rfl, _, _, rfl, rfl, rfl, true, ?_, iteT ⟨.int (i : Nat), rfl, by show 2 ≤ 1000; decide, fun e ne => ?_⟩⟩
                    · show V.bl (!decide (V.int (Tb.rsum ls row) = V.int ((i : Int) + 1))) = _
                      rw [decide_eq_false (fun z => hs (V.int.inj z))]
                      rfl
                    · refine bad "rows" (i : Int) H3 (at_i ?_) sm4 e ne
                      unfold rowOk
                      rw [cr, er, decide_eq_false hs]
                      rfl
              · obtain ⟨y3, y4, rfl, sm, eb⟩ := h
                have e0 : badRow ls 0 ds = none := by
                  rw [eb, zl, List.drop_length]
                  rfl
                have hp1 := sm _ _ hp
                have hab : ∀ {X : Hp} {c : Addr} {xs : List V} {o : HO} {fs : List (Str × V)}, X p = some (.ins T.c_Table dx fs) → SqT K X c xs → SqT K (upd X p o) c xs := fun {X c xs o fs} h1 h2 => by
                  rcases h2 with (h2 | ⟨z, h2⟩) | h2
                  · exact .inl (.inl (by rw [upd_ne (fun e => by rw [e, h1] at h2; cases h2)]; exact h2))
                  · exact .inl (.inr ⟨z, by rw [upd_ne (fun e => by rw [e, h1] at h2; cases h2)]; exact h2⟩)
                  · exact .inr h2
                refine ⟨.ref a, rfl, .ref p, rfl, p, T.c_Table, dx, [], rfl, hp1, T.cl_Table, T.n_Table_loops, by show 0 < 1000; decide, ?_⟩
                refine ⟨.ref b, rfl, .ref p, rfl, p, T.c_Table, dx, _, rfl, upd_same, T.cl_Table, T.n_Table_rows, by show 1 < 1000; decide, ?_⟩
                have hB3 := hab upd_same (hab hp1 (sT sm hB) (o := .ins T.c_Table dx (putF "loops" (.ref a) []))) (o := .ins T.c_Table dx (putF "rows" (.ref b) (putF "loops" (.ref a) [])))
                refine ⟨.ref b, rfl, b, _, rfl, .inr hB3, .ref p, rfl, p, T.c_Table, dx, _, rfl, upd_same, T.cl_Table, T.n_Table_bound, Nat.lt_of_le_of_lt (putF_len _ _ _) (by show 2 < 1000; decide), ?_⟩
                refine qn ds (by rw [fE, e0]; rfl) rfl _ (fun c o n e => ?_) ?_
                · rw [upd_ne n, upd_ne n, upd_ne n]
                  exact sm _ _ e
                · rw [upd_same, zl]
            · rw [decide_eq_false c2]
              refine iteT ⟨1, rfl, by show 2 ≤ 1000; decide, fun e ne => ?_⟩
              exact bad "rows" (-1) H1 (short (by omega)) s1 e ne
          · rw [decide_eq_false c1]
            refine iteF ⟨false, rfl, iteT ⟨1, rfl, by show 2 ≤ 1000; decide, fun e ne => ?_⟩⟩
            exact bad "rows" (-1) H1 (short (by omega)) s1 e ne
      | none => exact iteT (iteT ⟨1, rfl, (by show 2 ≤ 1000; decide), fun e ne => bad "rows" (-1) H1 (notTup fun _ z => by cases z) s1 e ne⟩)
      | bool _ => exact iteT (iteT ⟨1, rfl, (by show 2 ≤ 1000; decide), fun e ne => bad "rows" (-1) H1 (notTup fun _ z => by cases z) s1 e ne⟩)
      | int _ => exact iteT (iteT ⟨1, rfl, (by show 2 ≤ 1000; decide), fun e ne => bad "rows" (-1) H1 (notTup fun _ z => by cases z) s1 e ne⟩)
      | str _ => exact iteT (iteT ⟨1, rfl, (by show 2 ≤ 1000; decide), fun e ne => bad "rows" (-1) H1 (notTup fun _ z => by cases z) s1 e ne⟩)
      | list _ => exact iteT (iteT ⟨1, rfl, (by show 2 ≤ 1000; decide), fun e ne => bad "rows" (-1) H1 (notTup fun _ z => by cases z) s1 e ne⟩)
      | dict _ => exact iteT (iteT ⟨1, rfl, (by show 2 ≤ 1000; decide), fun e ne => bad "rows" (-1) H1 (notTup fun _ z => by cases z) s1 e ne⟩)
end

/-! ### a table tried -/
theorem kRL : ¬ (("rows" : Str) = "loops") := by decide +kernel
theorem kLR : ¬ (("loops" : Str) = "rows") := by decide +kernel
theorem kLB : ¬ (("loops" : Str) = "bound") := by decide +kernel
theorem kRB : ¬ (("rows" : Str) = "bound") := by decide +kernel
def tfX (a b n : V) : List (Str × V) := putF "bound" n (putF "rows" b (putF "loops" a []))
theorem tfX_loops (a b n : V) : (tfX a b n).lookup ("loops" : Str) = some a := by
  unfold tfX
  rw [lookup_putF, if_neg kLB, lookup_putF, if_neg kLR, lookup_putF, if_pos rfl]
theorem tfX_rows (a b n : V) : (tfX a b n).lookup ("rows" : Str) = some b := by
  unfold tfX
  rw [lookup_putF, if_neg kRB, lookup_putF, if_pos rfl]
theorem tfX_bound (a b n : V) : (tfX a b n).lookup ("bound" : Str) = some n := by
  unfold tfX
  rw [lookup_putF, if_pos rfl]
section
variable {P : Program} {w : World} {K : PySem.W.Frag} {mg : Str → Option Value} {base : Heap}
open RO9
def spTried (K : PySem.W.Frag) : Sp := fun vs H Q _ => ∃ (vl vr : V) (dl dr : PyData), vs = [vl, vr] ∧ Od K H vl dl ∧ Od K H vr dr ∧ Lim dl ∧ Lim2 dr ∧
  (∀ ds u H', faultD dl dr = none → dr = .tuple ds → Same H H' → H' u = some (.tup [.str "told", vl, vr, .int (ds.length : Int)]) → Q (.ref u) H') ∧
  (∀ part at_ u H', faultD dl dr = some (part, at_) → Same H H' → H' u = some (.tup [.str "bad", .str part, .int at_]) → Q (.ref u) H')
theorem ok__law_tried (T : Tx K mg) : FnOk P w K mg base CX0 7 T.a__law_tried T.d__law_tried ["loops", "rows"] (spTried K) := by
  refine T.F__law_tried.ok sc__law_tried (fun vs H Q E h => ?_) (fun cdv A outer s H vs Q E hr h => ?_)
  · obtain ⟨vl, vr, dl, dr, rfl, _⟩ := h
    rfl
  · obtain ⟨vl, vr, dl, dr, rfl, ol, or_, ll, lr, qn, qe⟩ := h
    refine ⟨_, ((pss_cons (ps_set (i := 2) sc__law_tried.nd rfl (.inl rfl) (pe_tup (pa_cons pe_str (pa_cons pe_non pa_nil))))
  (pss_cons (ps_try_as (i := 4) (Wout := fun _ _ _ _ => False) rfl rfl sc__law_tried.nd rfl rfl ⟨by rfl, by decide, .inl T.g_LoopError⟩ takes0 (fun W pn xe tk _ => (pss_cons (ps_set (i := 3) sc__law_tried.nd rfl (.inl rfl) (RO9.pe_makeS T.mk_Table (ok_Table___init__ T) (hr.mono (by decide)) (by rfl) T.g_Table T.b_Table___init__ (fun σ => passAt tk σ) (pa_cons (pv 0) (pa_cons (pv 1) pa_nil))))
  (pss_one (ps_set (i := 2) sc__law_tried.nd rfl (.inl rfl) (pe_tup (pa_cons pe_str (pa_cons (RO9.pe_fldK (K := K) (by rfl) (pv 3) (by rfl)) (pa_cons (RO9.pe_fldK (K := K) (by rfl) (pv 3) (by rfl)) (pa_cons (RO9.pe_fldK (K := K) (by rfl) (pv 3) (by rfl)) pa_nil))))))))) (fun a oe cls d pn hz hf => (pss_one (ps_if (PW.pt (pw_and (pt_val (pe_callB (RO9.call_isED T.ec_BadTable hz hf) (by rfl) T.m_isinstance (by decide +kernel) (pa_cons (pv 4) (pa_cons (pe_glob (v := .ref T.c_BadTable) rfl T.g_BadTable rfl) pa_nil)))) (pw_and1 (pt_not (pt_val (pe_callB (RO9.call_isED T.ec_BadTable hz hf) (by rfl) T.m_isinstance (by decide +kernel) (pa_cons (pv 4) (pa_cons (pe_glob (v := .ref T.c_BadText) rfl T.g_BadText rfl) pa_nil)))))))) (pss_one (ps_set (i := 2) sc__law_tried.nd rfl (.inl rfl) (pe_tup (pa_cons pe_str (pa_cons (pe_xf ⟨T.ec_BadTable.hg, T.ec_BadTable.hk, T.ec_BadTable.hs, T.ec_BadTable.hd⟩ T.n_BadTable_part hz hf (pv 4)) (pa_cons (pe_xf ⟨T.ec_BadTable.hg, T.ec_BadTable.hk, T.ec_BadTable.hs, T.ec_BadTable.hd⟩ T.n_BadTable_at hz hf (pv 4)) pa_nil)))))) pss_nil))))
  (pss_one (ps_ret (pv 2)))))), ?_⟩
    refine ⟨by show 2 ≤ sizeLine; decide, fun u0 nu0 => ?_⟩
    have s0 := same_upd (o := .tup [V.str "none", .non]) nu0
    refine ⟨vl, rfl, vr, rfl, fun x dx nx ndx nex => ?_⟩
    obtain ⟨H1, eH1⟩ : ∃ H1, H1 = upd H u0 (.tup [V.str "none", .non]) := ⟨_, rfl⟩
    rw [← eH1] at s0 nx ndx ⊢
    have sx : Same H1 (upd (upd H1 dx (.own x)) x (.ins T.c_Table dx [])) := fun b o e => by
      rw [upd_ne (ne_of_none e nx), upd_ne (ne_of_none e ndx)]
      exact e
    refine ⟨x, dx, vl, vr, dl, dr, rfl, upd_same, (ol.mono s0).mono sx, (or_.mono s0).mono sx, ll, lr, fun ds hf hdr H' kp ep => ⟨rfl, ?_⟩, fun part at_ d H' hf sm nd ed => ?_⟩
    · have s1 : Same H1 H' := fun b o e => kp b o (ne_of_none e nx) (sx b o e)
      refine ⟨.ref x, rfl, x, T.c_Table, dx, _, _, rfl, ep, T.cl_Table, T.n_Table_loops, tfX_loops _ _ _, .ref x, rfl, x, T.c_Table, dx, _, _, rfl, ep, T.cl_Table, T.n_Table_rows, tfX_rows _ _ _, .ref x, rfl, x, T.c_Table, dx, _, _, rfl, ep, T.cl_Table, T.n_Table_bound, tfX_bound _ _ _, by show 4 ≤ sizeLine; decide, fun u nu => ?_⟩
      exact ⟨.ref u, rfl, qn ds u _ hf hdr ((s0.trans s1).trans (same_upd nu)) upd_same⟩
    · refine ⟨true, T.xm_BadTable_LoopError, fun _ a0 ha0 => ?_, fun z => nomatch z⟩
      refine ⟨.ref a0, rfl, .ref T.c_BadTable, _, true, d, _, rfl, rfl, rfl, ed, .own _, T.kt_BadTable_BadTable, true, rfl, iteT ?_⟩
      refine ⟨.ref a0, rfl, .ref T.c_BadText, _, false, d, _, rfl, rfl, rfl, ed, .own _, T.kt_BadTable_BadText, false, rfl, iteT ?_⟩
      refine ⟨.ref a0, rfl, rfl, rfl, d, _, .str part, rfl, ed, rfl, .ref a0, rfl, rfl, rfl, d, _, .int at_, rfl, ed, rfl, by show 3 ≤ sizeLine; decide, fun u nu => ?_⟩
      exact ⟨.ref u, rfl, qe part at_ u _ hf (((s0.trans sx).trans sm).trans (same_upd nu)) upd_same⟩
end

/-! ### the law's own checks of anything -/
section
variable {P : Program} {w : World} {K : PySem.W.Frag} {mg : Str → Option Value} {base : Heap}
open RO9
def spLIsInt (K : PySem.W.Frag) : Sp := fun vs H Q _ => ∃ (v : V) (d : PyData) (a b : Int), vs = [v, .int a, .int b] ∧ Od K H v d ∧ Q (.bl (numD a b d)) H
theorem ok__law_is_int (T : Tx K mg) : FnOk P w K mg base CX0 1 T.a__law_is_int T.d__law_is_int ["thing", "least", "most"] (spLIsInt K) := by
  refine T.F__law_is_int.ok sc__law_is_int (fun vs H Q E h => ?_) (fun cdv A outer s H vs Q E hr h => ?_)
  · obtain ⟨v, d, a, b, rfl, _⟩ := h
    rfl
  · obtain ⟨v, d, a, b, rfl, od, q⟩ := h
    refine ⟨_, ((pss_one (ps_ret (pe_and (pe_callB call_isi (by rfl) T.m_isinstance (by decide +kernel) (pa_cons (pv 0) (pa_cons (pe_bltn (v := .ty "int") (by rfl) T.m_int (by decide +kernel) rfl) pa_nil))) (pe_and (pe_not (pe_callB call_isi (by rfl) T.m_isinstance (by decide +kernel) (pa_cons (pv 0) (pa_cons (pe_bltn (v := .ty "bool") (by rfl) T.m_bool (by decide +kernel) rfl) pa_nil)))) (pe_and (pe_cmpR op_le (pv 1) (pv 0) (nomark _)) (pe_one (pe_cmpR op_le (pv 0) (pv 2) (nomark _))))))))), ?_⟩
    refine ⟨v, rfl, v, .ty "int", _, _, _, rfl, .ty _, od.ty, kit_int d, _, rfl, ?_⟩
    cases d with
    | int i =>
      cases od
      refine iteT ⟨.int i, rfl, .int i, .ty "bool", _, _, _, rfl, .ty _, (Od.int (K := K) (H := H) i).ty, kit_bool _, _, rfl, true, rfl, iteT ?_⟩
      have q' : Q (.bl (decide (a ≤ i) && decide (i ≤ b))) H := q
      refine ⟨.int a, rfl, .int i, rfl, a, i, rfl, rfl, decide (a ≤ i), rfl, ?_⟩
      by_cases h : a ≤ i
      · rw [decide_eq_true h] at q' ⊢
        exact iteT ⟨.int i, rfl, .int b, rfl, i, b, rfl, rfl, q'⟩
      · rw [decide_eq_false h] at q' ⊢
        exact iteF q'
    | bool x => exact iteT ⟨v, rfl, v, .ty "bool", _, _, _, rfl, .ty _, od.ty, kit_bool _, _, rfl, false, rfl, iteF q⟩
    | none => exact iteF q
    | str _ => exact iteF q
    | list _ => exact iteF q
    | tuple _ => exact iteF q
    | dict _ => exact iteF q
def areIntsD (many lo hi : Int) : PyData → Bool
  | .tuple ds => decide ((ds.length : Int) ≤ many) && ds.all (numD lo hi)
  | _ => false
def spLAreInts (K : PySem.W.Frag) : Sp := fun vs H Q _ => ∃ (v : V) (d : PyData) (n a b : Int), vs = [v, .int n, .int a, .int b] ∧ Od K H v d ∧ n ≤ 1000 ∧ ∀ H', Same H H' → Q (.bl (areIntsD n a b d)) H'
theorem ok__law_are_ints (T : Tx K mg) : FnOk P w K mg base CX0 2 T.a__law_are_ints T.d__law_are_ints ["thing", "many", "least", "most"] (spLAreInts K) := by
  refine T.F__law_are_ints.ok sc__law_are_ints (fun vs H Q E h => ?_) (fun cdv A outer s H vs Q E hr h => ?_)
  · obtain ⟨v, d, n, a, b, rfl, _⟩ := h
    rfl
  · obtain ⟨v, d, n, lo, hi, rfl, od, n1000, q⟩ := h
    refine ⟨_, ((pss_cons (ps_if (PW.pt (pw_or (pt_not (pt_val (pe_callB call_isi (by rfl) T.m_isinstance (by decide +kernel) (pa_cons (pv 0) (pa_cons (pe_bltn (v := .ty "tuple") (by rfl) T.m_tuple (by decide +kernel) rfl) pa_nil))))) (pw_or1 (pt_cmpR op_gt (pe_callB call_len_seq (by rfl) T.m_len PySem.boot_len (pa_cons (pv 0) pa_nil)) (pv 1) (nomark _))))) (pss_one (ps_ret pe_bl)) pss_nil)
  (pss_one (ps_ret (pe_cmpR op_eq (pe_callB call_len_seq (by rfl) T.m_len PySem.boot_len (pa_cons (pe_lc (own := [("item", 4)]) (g := (gName 4)) rfl sc__law_are_ints.nd (pi_tup (pv 0)) (blkOk_by (own := [("item", 4)]) (N := ["thing", "many", "least", "most", "item"]) (sc := defScope s__law_are_ints) (by decide +kernel)) (fun _ _ _ _ _ => pg_name (i := 4) sc__law_are_ints.nd rfl (.inl rfl)) (fun _ _ _ _ _ => (pts_one (pt_not (pt_val (pe_call (ok__law_is_int T) (hr.mono (by decide)) (by rfl) T.g__law_is_int T.F__law_is_int.kp T.b__law_is_int .nil pass0 (pa_cons (pv 4) (pa_cons (pv 2) (pa_cons (pv 3) pa_nil)))))))) (fun _ _ _ _ _ => (pv 4))) pa_nil)) pe_int (nomark _)))))), ?_⟩
    have same : Same H H := fun _ _ e => e
    refine ⟨v, rfl, v, .ty "tuple", _, _, _, rfl, .ty _, od.ty, kit_tuple d, _, rfl, ?_⟩
    cases d with
    | tuple ds =>
      cases od with
      | @tup r xs _ hT oa =>
        have zl := oa.len
        refine iteF ⟨.ref r, rfl, r, _, rfl, .inr hT, .int n, rfl, _, _, rfl, rfl, _, rfl, ite2 (fun c => ?_) (fun c => ?_)⟩
        · have c' := of_decide_eq_true c
          have e : areIntsD n lo hi (.tuple ds) = false := by
            show (decide ((ds.length : Int) ≤ n) && ds.all (numD lo hi)) = false
            rw [decide_eq_false (by omega), Bool.false_and]
          have q' := q H same
          rw [e] at q'
          exact q'
        · have c' : ¬ (n < ((xs.length : Nat) : Int)) := fun z => c (decide_eq_true z)
          have e : areIntsD n lo hi (.tuple ds) = ds.all (numD lo hi) := by
            show (decide ((ds.length : Int) ≤ n) && ds.all (numD lo hi)) = _
            rw [decide_eq_true (by omega), Bool.true_and]
          refine ⟨.ref r, rfl, r, rfl, ⟨_, hT⟩, fun D hD => lc_tup (K := K) (a := r) (xs := xs)
            (fun i H' => ∃ ys : List V, Same H H' ∧ H' D = some (.lst ys) ∧ ys.length ≤ i ∧ ys.length = (ds.take i).countP fun x => !numD lo hi x)
            ⟨[], same_upd hD, upd_same, Nat.le_refl _, rfl⟩ (fun i H' _ p => let ⟨_, sm, _⟩ := p; sT sm hT) (fun i x H' hx p => ?_) (fun H' p => ?_)⟩
          · obtain ⟨ys, sm, eD, zy, ey⟩ := p
            obtain ⟨d, hd, od⟩ := oa.get hx
            have hi' := (List.getElem?_eq_some_iff.mp hd).1
            have en : (ds.take (i + 1)).countP (fun x => !numD lo hi x) = (ds.take i).countP (fun x => !numD lo hi x) + if numD lo hi d then 0 else 1 := by
              rw [take_snoc hd, List.countP_append, List.countP_cons, List.countP_nil]
              cases numD lo hi d <;> simp
            refine ⟨rfl, x, rfl, .int lo, rfl, .int hi, rfl, x, d, lo, hi, rfl, od.mono sm, numD lo hi d, rfl, ?_⟩
            cases b : numD lo hi d with
            | true =>
              rw [b] at en
              exact iteF ⟨ys, sm, eD, by omega, by rw [en, ey]; rfl⟩
            | false =>
              rw [b] at en
              refine iteT ⟨x, rfl, _, eD, small1000 (by omega), ys ++ [x], same_put sm hD, upd_same, by rw [List.length_append]; show ys.length + 1 ≤ i + 1; omega, ?_⟩
              rw [en, List.length_append, ey]
              rfl
          · obtain ⟨ys, sm, eD, zy, ey⟩ := p
            rw [zl, List.take_of_length_le (Nat.le_refl _)] at ey
            refine ⟨D, _, rfl, .inl (SqL.of eD), rfl, ?_⟩
            have e3 : decide (V.int ((ys.length : Nat) : Int) = V.int 0) = ds.all (numD lo hi) := by
              rw [ey]
              by_cases h : ds.all (numD lo hi) = true
              · rw [h]
                refine decide_eq_true (congrArg V.int ?_)
                have : ds.countP (fun x => !numD lo hi x) = 0 := List.countP_eq_zero.mpr fun x hx => by
                  rw [List.all_eq_true.mp h x hx]
                  decide
                rw [this]
                rfl
              · have hf : ds.all (numD lo hi) = false := by
                  cases z : ds.all (numD lo hi) with
                  | true => exact absurd z h
                  | false => rfl
                rw [hf]
                refine decide_eq_false fun z => h (List.all_eq_true.mpr fun x hx => ?_)
                have z' : (((ds.countP fun x => !numD lo hi x) : Nat) : Int) = 0 := V.int.inj z
                have z2 : ds.countP (fun x => !numD lo hi x) = 0 := by omega
                have := List.countP_eq_zero.mp z2 x hx
                cases b : numD lo hi x with
                | true => rfl
                | false =>
                  rw [b] at this
                  exact absurd rfl this
            have q' := q H' sm
            rw [e, ← e3] at q'
            exact q'
    | none => exact iteT (iteT (q H same))
    | bool _ => exact iteT (iteT (q H same))
    | int _ => exact iteT (iteT (q H same))
    | str _ => exact iteT (iteT (q H same))
    | list _ => exact iteT (iteT (q H same))
    | dict _ => exact iteT (iteT (q H same))
end

/-! ### the fault that is due -/
section
variable {P : Program} {w : World} {K : PySem.W.Frag} {mg : Str → Option Value} {base : Heap}
open RO9
theorem rowD_eq (n : Int) (d : PyData) : isRowD n d = areIntsD 60 0 (n - 1) d := by
  cases d with
  | tuple ds =>
    show (decide (ds.length ≤ 60) && _) = (decide ((ds.length : Int) ≤ 60) && _)
    congr 1
    exact decide_eq_decide.mpr ⟨fun h => by omega, fun h => by omega⟩
  | _ => rfl
theorem loopsD_eq (ds : List PyData) : isLoopsD (.tuple ds) = (areIntsD 8 1 40 (.tuple ds) && decide (1 ≤ ds.length)) := by
  show (decide (1 ≤ ds.length) && (decide (ds.length ≤ 8) && ds.all (numD 1 40))) = ((decide ((ds.length : Int) ≤ 8) && ds.all (numD 1 40)) && decide (1 ≤ ds.length))
  rw [Bool.and_comm]
  congr 2
  exact decide_eq_decide.mpr ⟨fun h => by omega, fun h => by omega⟩
def spFault (K : PySem.W.Frag) : Sp := fun vs H Q _ => ∃ (vl vr : V) (dl dr : PyData), vs = [vl, vr] ∧ Od K H vl dl ∧ Od K H vr dr ∧ Lim dl ∧ Lim2 dr ∧
  (∀ H', faultD dl dr = none → Same H H' → Q .non H') ∧
  (∀ part at_ u H', faultD dl dr = some (part, at_) → Same H H' → H u = none → H' u = some (.tup [.str part, .int at_]) → Q (.ref u) H')
theorem ok__law_fault (T : Tx K mg) : FnOk P w K mg base CX0 3 T.a__law_fault T.d__law_fault ["loops", "rows"] (spFault K) := by
  refine T.F__law_fault.ok sc__law_fault (fun vs H Q E h => ?_) (fun cdv A outer s H vs Q E hr h => ?_)
  · obtain ⟨vl, vr, dl, dr, rfl, _⟩ := h
    rfl
  · obtain ⟨vl, vr, dl, dr, rfl, ol, or_, ll, lr, qn, qe⟩ := h
    refine ⟨_, ((pss_cons (ps_if (PW.pt (pw_or (pt_not (pt_val (pe_call (ok__law_are_ints T) (hr.mono (by decide)) (by rfl) T.g__law_are_ints T.F__law_are_ints.kp T.b__law_are_ints .nil pass0 (pa_cons (pv 0) (pa_cons pe_int (pa_cons pe_int (pa_cons pe_int pa_nil))))))) (pw_or1 (pt_cmpR op_eq (pe_callB call_len_seq (by rfl) T.m_len PySem.boot_len (pa_cons (pv 0) pa_nil)) pe_int (nomark _))))) (pss_one (ps_ret (pe_tup (pa_cons pe_str (pa_cons (pe_un un_neg pe_int) pa_nil))))) pss_nil)
  (pss_cons (ps_if (PW.pt (pw_or (pt_not (pt_val (pe_callB call_isi (by rfl) T.m_isinstance (by decide +kernel) (pa_cons (pv 1) (pa_cons (pe_bltn (v := .ty "tuple") (by rfl) T.m_tuple (by decide +kernel) rfl) pa_nil))))) (pw_or (pt_cmpR op_lt (pe_callB call_len_seq (by rfl) T.m_len PySem.boot_len (pa_cons (pv 1) pa_nil)) pe_int (nomark _)) (pw_or1 (pt_cmpR op_gt (pe_callB call_len_seq (by rfl) T.m_len PySem.boot_len (pa_cons (pv 1) pa_nil)) pe_int (nomark _)))))) (pss_one (ps_ret (pe_tup (pa_cons pe_str (pa_cons (pe_un un_neg pe_int) pa_nil))))) pss_nil)
  (pss_cons (ps_for PassesOwn.never rfl (pi_range1 (by rfl) T.m_range (pa_cons (pe_callB call_len_seq (by rfl) T.m_len PySem.boot_len (pa_cons (pv 1) pa_nil)) pa_nil)) (pg_name (i := 2) sc__law_fault.nd rfl (.inl rfl))
   (pss_one (ps_if (PW.pt (pw_or (pt_not (pt_val (pe_call (ok__law_are_ints T) (hr.mono (by decide)) (by rfl) T.g__law_are_ints T.F__law_are_ints.kp T.b__law_are_ints .nil pass0 (pa_cons (pe_ix ix_tup (pv 1) (pv 2) (fun _ _ => rfl)) (pa_cons pe_int (pa_cons pe_int (pa_cons (pe_op op_sub (pe_callB call_len_seq (by rfl) T.m_len PySem.boot_len (pa_cons (pv 0) pa_nil)) pe_int) pa_nil))))))) (pw_or1 (pt_cmpR op_ne (pe_callB (cr_sum rfl) (by rfl) T.m_sum (by decide +kernel) (pa_cons (pe_lc (own := [("k", 3)]) (g := (gName 3)) (tt := tYes) rfl sc__law_fault.nd (pi_tup (pe_ix ix_tup (pv 1) (pv 2) (fun _ _ => rfl))) (blkOk_by (own := [("k", 3)]) (N := ["loops", "rows", "at", "k"]) (sc := defScope s__law_fault) (by decide +kernel)) (fun _ _ _ _ _ => pg_name (i := 3) sc__law_fault.nd rfl (.inl rfl)) (fun _ _ _ _ _ => pts_nil) (fun _ _ _ _ _ => (pe_ix (ixTK (K := K) (by rfl)) (pv 0) (pv 3) (fun _ _ => rfl)))) pa_nil)) (pe_op op_add (pv 2) pe_int) (nomark _))))) (pss_one (ps_ret (pe_tup (pa_cons pe_str (pa_cons (pv 2) pa_nil))))) pss_nil)))
  (pss_one (ps_ret pe_non)))))), ?_⟩
    -- what is told
    have tell : ∀ (part : Str) (at_ : Int) (H2 : Hp), faultD dl dr = some (part, at_) → Same H H2 → ∀ u, H2 u = none → Q (.ref u) (upd H2 u (.tup [.str part, .int at_])) := fun part at_ H2 hf s2 u nu => qe part at_ u _ hf (s2.trans (same_upd nu)) (Same.free s2 nu) upd_same
    refine ⟨vl, rfl, vl, dl, 8, 1, 40, rfl, ol, by decide, fun H1 s1 => ⟨_, rfl, ?_⟩⟩
    have noLoops : isLoopsD dl = false → faultD dl dr = some (("loops" : Str), (-1 : Int)) := fun e => by
      unfold faultD
      rw [e]
      rfl
    cases ca : areIntsD 8 1 40 dl with
    | false =>
      refine iteT (iteT ⟨_, rfl, by show 2 ≤ sizeLine; decide, fun u nu => ?_⟩)
      refine tell "loops" (-1) H1 (noLoops ?_) s1 u nu
      cases dl with
      | tuple ds => rw [loopsD_eq, ca]; rfl
      | _ => rfl
    | true =>
      refine iteF ?_
      cases cl : isLoopsD dl with
      | false =>
        cases dl with
        | tuple ds =>
          cases ol with
          | @tup a xs _ hT oa =>
            have zl := oa.len
            rw [loopsD_eq, ca, Bool.true_and] at cl
            have l0 := of_decide_eq_false cl
            have x0 : xs.length = 0 := by omega
            refine ⟨.ref a, rfl, a, _, rfl, .inr (sT s1 hT), rfl, true, ?_, iteT ⟨_, rfl, by show 2 ≤ sizeLine; decide, fun u nu => ?_⟩⟩
            · rw [x0]
              rfl
            · exact tell "loops" (-1) H1 (noLoops (by rw [loopsD_eq, ca, Bool.true_and]; exact cl)) s1 u nu
        | none => exact absurd (show false = true from ca) Bool.false_ne_true
        | bool _ => exact absurd (show false = true from ca) Bool.false_ne_true
        | int _ => exact absurd (show false = true from ca) Bool.false_ne_true
        | str _ => exact absurd (show false = true from ca) Bool.false_ne_true
        | list _ => exact absurd (show false = true from ca) Bool.false_ne_true
        | dict _ => exact absurd (show false = true from ca) Bool.false_ne_true
      | true =>
        obtain ⟨a, ls, rfl, rfl, hA, z1, z8, g, els⟩ := loops_of ol cl
        have hA1 := sT s1 hA
        refine ⟨.ref a, rfl, a, _, rfl, .inr hA1, rfl, false, ?_, iteF ?_⟩
        · show V.bl (decide (V.int (((ls.map V.int).length : Nat) : Int) = V.int 0)) = V.bl false
          rw [List.length_map, decide_eq_false (fun z => by
            have := V.int.inj z
            omega)]
        have notTup : (∀ ds, dr ≠ .tuple ds) → faultD (.tuple (ls.map PyData.int)) dr = some (("rows" : Str), (-1 : Int)) := fun e => by
          unfold faultD
          rw [cl, if_pos rfl]
          cases dr <;> first | rfl | exact absurd rfl (e _)
        have ty := (or_.mono s1).ty
        refine ⟨vr, rfl, vr, .ty "tuple", _, _, _, rfl, .ty _, ty, kit_tuple dr, _, rfl, ?_⟩
        cases dr with
        | tuple ds =>
          cases or_ with
          | @tup b xs _ hB oa =>
            have zl := oa.len
            obtain ⟨l1000, lims⟩ := lr ds rfl
            have hB1 := sT s1 hB
            have short : ¬ (1 ≤ ds.length ∧ ds.length ≤ 60) → faultD (.tuple (ls.map PyData.int)) (.tuple ds) = some (("rows" : Str), (-1 : Int)) := fun h => by
              unfold faultD
              rw [cl, if_pos rfl]
              exact if_neg h
            refine iteF ⟨.ref b, rfl, b, _, rfl, .inr hB1, _, 1, rfl, rfl, _, rfl, ite2 (fun c1 => ?_) (fun c1 => ?_)⟩
            · have c1' := of_decide_eq_true c1
              exact ⟨_, rfl, by show 2 ≤ sizeLine; decide, fun u nu => tell "rows" (-1) H1 (short (by omega)) s1 u nu⟩
            · have c1' : ¬ (((xs.length : Nat) : Int) < 1) := fun z => c1 (decide_eq_true z)
              refine ⟨.ref b, rfl, b, _, rfl, .inr hB1, _, 60, rfl, rfl, _, rfl, ite2 (fun c2 => ?_) (fun c2 => ?_)⟩
              · have c2' := of_decide_eq_true c2
                exact ⟨_, rfl, by show 2 ≤ sizeLine; decide, fun u nu => tell "rows" (-1) H1 (short (by omega)) s1 u nu⟩
              have c2' : ¬ ((60 : Int) < ((xs.length : Nat) : Int)) := fun z => c2 (decide_eq_true z)
              have fE : faultD (.tuple (ls.map PyData.int)) (.tuple ds) = (badRow ls 0 ds).map fun i => (("rows" : Str), (i : Int)) := by
                unfold faultD
                rw [cl, if_pos rfl]
                show (if 1 ≤ ds.length ∧ ds.length ≤ 60 then _ else _) = _
                rw [if_pos ⟨by omega, by omega⟩, els]
              refine ⟨.ref b, rfl, b, _, rfl, .inr hB1, _, rfl, by omega, by omega, for_range (lo := 0) (n := (((xs.length : Nat) : Int)).toNat)
                (fun i σ H' => ∃ y2 y3, σ = [some (.ref a), some (.ref b), y2, y3] ∧ Same H H' ∧ badRow ls 0 ds = badRow ls i (ds.drop i))
                ⟨_, _, rfl, s1, rfl⟩ (fun i σ H' hi h => ?_) (fun σ H' h => ?_)⟩
              · obtain ⟨y2, y3, rfl, sm, eb⟩ := h
                obtain ⟨x, hx⟩ : ∃ x, xs[i]? = some x := ⟨_, List.getElem?_eq_getElem (by omega)⟩
                obtain ⟨d, hd, od⟩ := oa.get hx
                rw [badRow_step hd] at eb
                have lm := lims d (List.mem_of_getElem? hd)
                have hB2 := sT sm hB
                have ix : ∀ {H2 : Hp}, atI xs (0 + (i : Int)) = some x := fun {_} => by
                  rw [Int.zero_add]
                  exact atI_nat hx
                have at_i : ∀ e : rowOk ls i d = false, faultD (.tuple (ls.map PyData.int)) (.tuple ds) = some (("rows" : Str), 0 + (i : Int)) := fun e => by
                  rw [fE, eb, e, Int.zero_add]
                  rfl
                refine ⟨.ref b, rfl, .int (0 + (i : Int)), rfl, b, _, _, x, rfl, rfl, hB2, ix (H2 := H), .ref a, rfl, a, _, rfl, .inr (sT sm hA), _, _, rfl, rfl, x, d, 60, 0, (((ls.map V.int).length : Nat) : Int) - 1, rfl, od.mono sm, by decide, fun H2 s2 => ⟨_, rfl, ?_⟩⟩
                have sm2 := sm.trans s2
                have er : areIntsD 60 0 ((((ls.map V.int).length : Nat) : Int) - 1) d = isRowD (ls.length : Int) d := by
                  rw [rowD_eq, List.length_map]
                rw [er]
                cases cr : isRowD (ls.length : Int) d with
                | false =>
                  refine iteT (iteT ⟨.int (0 + (i : Int)), rfl, by show 2 ≤ sizeLine; decide, fun u nu => ?_⟩)
                  exact tell "rows" (0 + (i : Int)) H2 (at_i (by unfold rowOk; rw [cr]; rfl)) sm2 u nu
                | true =>
                  obtain ⟨r, row, rfl, rfl, hR, l60, hin, ei⟩ := row_of od cr
                  refine iteF ⟨.ref b, rfl, .int (0 + (i : Int)), rfl, b, _, _, .ref r, rfl, rfl, sT sm2 hB, ix (H2 := H), r, rfl, ⟨_, sT sm2 hR⟩, fun D hD => lc_tup (K := K) (a := r) (xs := row.map V.int)
                    (fun j H3 => Same H2 H3 ∧ H3 D = some (.lst (((row.take j).map (Tb.len1 ls)).map V.int)))
                    ⟨same_upd hD, upd_same⟩ (fun j H3 _ p => sT p.1 (sT sm2 hR)) (fun j y H3 hy p => ?_) (fun H3 p => ?_)⟩
                  · obtain ⟨s3, eD⟩ := p
                    rw [List.getElem?_map] at hy
                    obtain ⟨n, hn, rfl⟩ := Option.map_eq_some_iff.mp hy
                    have hk := hin n (List.mem_of_getElem? hn)
                    have hj := (List.getElem?_eq_some_iff.mp hn).1
                    refine ⟨rfl, .ref a, rfl, .int n, rfl, a, _, _, .int (Tb.len1 ls n), rfl, rfl, sT s3 (sT sm2 hA), atI_of hk.1 (by rw [List.getElem?_map, Tb.len_at hk.1 hk.2]; rfl), ?_⟩
                    refine ⟨_, eD, by rw [List.length_map, List.length_map, List.length_take]; exact small1000 (by omega), same_put s3 hD, ?_⟩
                    rw [upd_same, take_snoc hn, List.map_append, List.map_append]
                    rfl
                  · obtain ⟨s3, eD⟩ := p
                    rw [List.length_map, List.take_of_length_le (Nat.le_refl _)] at eD
                    have sm3 := sm2.trans s3
                    refine ⟨D, _, rfl, SqL.of eD, ?_⟩
                    have sum : ((row.map (Tb.len1 ls)).sum : Int) = Tb.rsum ls row := rfl
                    by_cases hs : Tb.rsum ls row = (i : Int) + 1
                    · refine ⟨.int (0 + (i : Int)), rfl, _, _, rfl, rfl, rfl, false, ne_no (by rw [sum, hs, Int.zero_add]), iteF ?_⟩
                      refine ⟨_, _, rfl, sm3, ?_⟩
                      have ok : rowOk ls i (.tuple (row.map PyData.int)) = true := by
                        unfold rowOk
                        rw [cr, ei, decide_eq_true hs]
                        rfl
                      rw [eb, ok, if_pos rfl]
                    · refine ⟨.int (0 + (i : Int)), rfl, _, _, rfl, rfl, rfl, true, ?_, iteT ⟨.int (0 + (i : Int)), rfl, by show 2 ≤ sizeLine; decide, fun u nu => ?_⟩⟩
                      · show V.bl (!decide (V.int (row.map (Tb.len1 ls)).sum = V.int (0 + (i : Int) + 1))) = _
                        rw [decide_eq_false (fun z => hs (by
                          have := V.int.inj z
                          rw [sum, Int.zero_add] at this
                          exact this))]
                        rfl
                      · refine tell "rows" (0 + (i : Int)) H3 (at_i ?_) sm3 u nu
                        unfold rowOk
                        rw [cr, ei, decide_eq_false hs]
                        rfl
              · obtain ⟨y2, y3, rfl, sm, eb⟩ := h
                have e0 : badRow ls 0 ds = none := by
                  rw [eb, show (((xs.length : Nat) : Int)).toNat = ds.length by omega, List.drop_length]
                  rfl
                exact qn H' (by rw [fE, e0]; rfl) sm
        | none => exact iteT (iteT ⟨_, rfl, (by show 2 ≤ sizeLine; decide), fun u nu => tell "rows" (-1) H1 (notTup fun _ z => by cases z) s1 u nu⟩)
        | bool _ => exact iteT (iteT ⟨_, rfl, (by show 2 ≤ sizeLine; decide), fun u nu => tell "rows" (-1) H1 (notTup fun _ z => by cases z) s1 u nu⟩)
        | int _ => exact iteT (iteT ⟨_, rfl, (by show 2 ≤ sizeLine; decide), fun u nu => tell "rows" (-1) H1 (notTup fun _ z => by cases z) s1 u nu⟩)
        | str _ => exact iteT (iteT ⟨_, rfl, (by show 2 ≤ sizeLine; decide), fun u nu => tell "rows" (-1) H1 (notTup fun _ z => by cases z) s1 u nu⟩)
        | list _ => exact iteT (iteT ⟨_, rfl, (by show 2 ≤ sizeLine; decide), fun u nu => tell "rows" (-1) H1 (notTup fun _ z => by cases z) s1 u nu⟩)
        | dict _ => exact iteT (iteT ⟨_, rfl, (by show 2 ≤ sizeLine; decide), fun u nu => tell "rows" (-1) H1 (notTup fun _ z => by cases z) s1 u nu⟩)
end

/-! ### all but lists stays -/
def Nl (H H' : Hp) : Prop := ∀ b o, (∀ ys, o ≠ HO.lst ys) → H b = some o → H' b = some o
theorem Nl.trans {H H1 H2 : Hp} (a : Nl H H1) (b : Nl H1 H2) : Nl H H2 := fun c o n h => b c o n (a c o n h)
theorem Nl.moved {t s : Addr} {H H' : Hp} (tp : Tape H t s) (m : Moved t H H') : Nl H H' := fun b o n e => m b o (fun z => by
  obtain ⟨_, _, _, _, _, _, h2, _⟩ := tp
  rw [z, h2] at e
  exact n _ (Option.some.inj e).symm) e
theorem Nl.same {H H' : Hp} (m : Same H H') : Nl H H' := fun b o _ e => m b o e
theorem Nl.put {H : Hp} {L : Addr} {ys : List V} {o : HO} (h : H L = some (.lst ys)) : Nl H (upd H L o) := fun b o' n e => by
  rw [upd_ne (fun z => by rw [z, h] at e; exact n _ (Option.some.inj e).symm)]
  exact e
theorem sT_nl {K : PySem.W.Frag} {H H' : Hp} {a : Addr} {xs : List V} (h : SqT K H a xs) (e : Nl H H') : SqT K H' a xs :=
  h.elim (fun h => .inl (h.elim (fun h => .inl (e _ _ (fun _ z => by cases z) h)) fun ⟨o, h⟩ => .inr ⟨o, e _ _ (fun _ z => by cases z) h⟩)) fun h => .inr h

/-! ### odd things drawn -/
theorem noT {d : PyData} (h : ∀ ds, d ≠ .tuple ds) : Lim d ∧ Lim2 d := ⟨fun ds z => absurd z (h ds), fun ds z => absurd z (h ds)⟩
theorem flT {ds : List PyData} (h : ds.length ≤ 1000) (g : ∀ x ∈ ds, ∀ es, x ≠ .tuple es) : Lim (.tuple ds) ∧ Lim2 (.tuple ds) := ⟨fun es z => by cases z; exact h, fun es z => by
  cases z
  exact ⟨h, fun x hx => (noT (g x hx)).1⟩⟩
theorem rep_all {K : PySem.W.Frag} {H : Hp} (i : Int) : ∀ n : Nat, RO9.OdAll K H (List.replicate n [V.int i]).flatten (List.replicate n (PyData.int i))
  | 0 => .nil
  | n + 1 => .cons (.int i) (rep_all i n)
theorem repT {i k : Int} (hk : k ≤ 1000) (hi : -1000000000 ≤ i ∧ i ≤ 1000000000) : (Lim (.tuple (List.replicate k.toNat (.int i))) ∧ Lim2 (.tuple (List.replicate k.toNat (.int i)))) ∧ RO9.Ro 3 2000 (.tuple (List.replicate k.toNat (.int i))) :=
  ⟨flT (by rw [List.length_replicate]; omega) (fun x hx => by
    rw [(List.mem_replicate.mp hx).2]
    exact fun _ z => by cases z), (RO9.Ro.tup (k := 0) (n := 0) (fun d hd => by
      rw [(List.mem_replicate.mp hd).2]
      exact .int hi.1 hi.2) (by rw [List.length_replicate]; exact (Nat.le_refl _))).up (by decide) (by omega)⟩
theorem nT {H H' : Hp} {b : Addr} {xs : List V} (n : Nl H H') (e : H b = some (.tup xs)) : H' b = some (.tup xs) := n _ _ (fun _ z => by cases z) e
theorem nD {H H' : Hp} {b : Addr} {xs : List (Key × V)} (n : Nl H H') (e : H b = some (.dK xs)) : H' b = some (.dK xs) := n _ _ (fun _ z => by cases z) e
/-- what was new in H' behind H stays in H'' -/
def NewStays (H H' H'' : Hp) : Prop := ∀ b o, H b = none → H' b = some o → H'' b = some o
def odd1 (p1 p2 p3 p4 p5 p6 p8 p9 : Addr) : List V := [.non, .bl true, .bl false, .int 0, .int 1, .int 5, .int 61, .int (-1), .int (10 ^ Int.toNat 20), .str "", .str "2", .ref p1, .ref p2, .ref p3, .ref p4, .ref p5, .ref p6, .ref p8, .ref p9]
section
variable {P : Program} {w : World} {K : PySem.W.Frag} {mg : Str → Option Value} {base : Heap}
open RO9
def spOdd (K : PySem.W.Frag) : Sp := fun vs H Q _ => ∃ (t s : Addr), vs = [.ref t] ∧ Tape H t s ∧ ∀ (v : V) (d : PyData) H', (∀ H'', Nl H' H'' → NewStays H H' H'' → Od K H'' v d) → (Lim d ∧ Lim2 d) → Ro 3 2000 d → Moved t H H' → Tape H' t s → Q v H'
theorem ok__law_odd (T : Tx K mg) : FnOk P w K mg base CX0 2 T.a__law_odd T.d__law_odd ["tape"] (spOdd K) := by
  refine T.F__law_odd.ok sc__law_odd (fun vs H Q E h => ?_) (fun cdv A outer s H vs Q E hr h => ?_)
  · obtain ⟨t, sc, rfl, _⟩ := h
    rfl
  · obtain ⟨t, sc, rfl, tp, q⟩ := h
    refine ⟨_, ((pss_cons (ps_set (i := 1) sc__law_odd.nd rfl (.inl rfl) (pe_lst (pa_cons pe_non (pa_cons pe_bl (pa_cons pe_bl (pa_cons pe_int (pa_cons pe_int (pa_cons pe_int (pa_cons pe_int (pa_cons (pe_un un_neg pe_int) (pa_cons (pe_op op_pow pe_int pe_int) (pa_cons pe_str (pa_cons pe_str (pa_cons (pe_tup pa_nil) (pa_cons (pe_lst pa_nil) (pa_cons pe_dnewK (pa_cons (pe_tup (pa_cons pe_int pa_nil)) (pa_cons (pe_lst (pa_cons pe_int pa_nil)) (pa_cons (pe_tup (pa_cons pe_int (pa_cons pe_int pa_nil))) (pa_cons (pe_lst (pa_cons (pe_lst (pa_cons pe_int pa_nil)) (pa_cons pe_int pa_nil))) (pa_cons (pe_disp (pps_cons pe_str pe_int pps_nil) (by rfl) rfl (by simp) (by decide)) pa_nil)))))))))))))))))))))
  (pss_cons (ps_set (i := 1) sc__law_odd.nd rfl (.inl rfl) (pe_op op_cat (pv 1) (pe_lst (pa_cons (pe_tup (pa_cons pe_bl pa_nil)) (pa_cons (pe_tup (pa_cons pe_int (pa_cons pe_non pa_nil))) (pa_cons (pe_tup (pa_cons pe_int (pa_cons pe_str pa_nil))) (pa_cons (pe_tup (pa_cons (pe_tup (pa_cons pe_int (pa_cons pe_int pa_nil))) pa_nil)) (pa_cons (pe_op RN6.op_repN (pe_tup (pa_cons pe_int pa_nil)) pe_int) (pa_cons (pe_op RN6.op_repN (pe_tup (pa_cons pe_int pa_nil)) pe_int) (pa_cons (pe_tup (pa_cons pe_int pa_nil)) (pa_cons (pe_tup (pa_cons pe_int (pa_cons pe_int pa_nil))) pa_nil)))))))))))
  (pss_one (ps_ret (pe_ix ix_list (pv 1) (pe_call (ok__law_pick T) (hr.mono (by decide)) (by rfl) T.g__law_pick T.F__law_pick.kp T.b__law_pick .nil pass0 (pa_cons (pv 0) (pa_cons (pe_callB call_len_seq (by rfl) T.m_len PySem.boot_len (pa_cons (pv 1) pa_nil)) pa_nil))) (fun _ _ => rfl))))))), ?_⟩
    refine ⟨1, rfl, 10, 20, rfl, rfl, ⟨by decide, by decide, by decide⟩, Nat.zero_le _, fun p1 np1 => ?_⟩
    have s1 : Same H (upd H p1 (.tup [])) := same_upd np1
    have e1 : upd H p1 (.tup []) p1 = some (.tup []) := upd_same
    generalize upd H p1 (.tup []) = H1 at *
    refine ⟨Nat.zero_le _, fun p2 np2 => ?_⟩
    have s2 : Same H1 (upd H1 p2 (.lst [])) := same_upd np2
    have e2 : upd H1 p2 (.lst []) p2 = some (.lst []) := upd_same
    generalize upd H1 p2 (.lst []) = H2 at *
    refine fun p3 np3 => ?_
    have s3 : Same H2 (upd H2 p3 (.dK [])) := same_upd np3
    have e3 : upd H2 p3 (.dK []) p3 = some (.dK []) := upd_same
    generalize upd H2 p3 (.dK []) = H3 at *
    refine ⟨by show 1 ≤ sizeLine; decide, fun p4 np4 => ?_⟩
    have s4 : Same H3 (upd H3 p4 (.tup [V.int 1])) := same_upd np4
    have e4 : upd H3 p4 (.tup [V.int 1]) p4 = some (.tup [V.int 1]) := upd_same
    generalize upd H3 p4 (.tup [V.int 1]) = H4 at *
    refine ⟨by show 1 ≤ sizeLine; decide, fun p5 np5 => ?_⟩
    have s5 : Same H4 (upd H4 p5 (.lst [V.int 2])) := same_upd np5
    have e5 : upd H4 p5 (.lst [V.int 2]) p5 = some (.lst [V.int 2]) := upd_same
    generalize upd H4 p5 (.lst [V.int 2]) = H5 at *
    refine ⟨by show 2 ≤ sizeLine; decide, fun p6 np6 => ?_⟩
    have s6 : Same H5 (upd H5 p6 (.tup [V.int 0, .int 1])) := same_upd np6
    have e6 : upd H5 p6 (.tup [V.int 0, .int 1]) p6 = some (.tup [V.int 0, .int 1]) := upd_same
    generalize upd H5 p6 (.tup [V.int 0, .int 1]) = H6 at *
    refine ⟨by show 1 ≤ sizeLine; decide, fun p7 np7 => ?_⟩
    have s7 : Same H6 (upd H6 p7 (.lst [V.int 1])) := same_upd np7
    have e7 : upd H6 p7 (.lst [V.int 1]) p7 = some (.lst [V.int 1]) := upd_same
    generalize upd H6 p7 (.lst [V.int 1]) = H7 at *
    refine ⟨by show 2 ≤ sizeLine; decide, fun p8 np8 => ?_⟩
    have s8 : Same H7 (upd H7 p8 (.lst [V.ref p7, .int 2])) := same_upd np8
    have e8 : upd H7 p8 (.lst [V.ref p7, .int 2]) p8 = some (.lst [V.ref p7, .int 2]) := upd_same
    generalize upd H7 p8 (.lst [V.ref p7, .int 2]) = H8 at *
    refine fun p9 np9 => ⟨upd_same, [(.inr "a", .int 1)], rfl, by decide, ?_⟩
    have s9 : Same H8 (upd (upd H8 p9 (.dK [])) p9 (.dK (mergeK [] [(.inr "a", .int 1)]))) := fun b o e => by
      rw [upd_ne (ne_of_none e np9), upd_ne (ne_of_none e np9)]
      exact e
    have e9 : (upd (upd H8 p9 (.dK [])) p9 (.dK (mergeK [] [(.inr "a", .int 1)]))) p9 = some (.dK [(.inr "a", .int 1)]) := upd_same
    generalize (upd (upd H8 p9 (.dK [])) p9 (.dK (mergeK [] [(.inr "a", .int 1)]))) = H9 at *
    refine ⟨by show 19 ≤ sizeLine; decide, fun p10 np10 => ?_⟩
    dsimp only
    have s10 : Same H9 (upd H9 p10 (.lst (odd1 p1 p2 p3 p4 p5 p6 p8 p9))) := same_upd np10
    have e10 : upd H9 p10 (.lst (odd1 p1 p2 p3 p4 p5 p6 p8 p9)) p10 = some (.lst (odd1 p1 p2 p3 p4 p5 p6 p8 p9)) := upd_same
    unfold odd1 at s10 e10
    generalize upd H9 p10 (.lst [.non, .bl true, .bl false, .int 0, .int 1, .int 5, .int 61, .int (-1), .int (10 ^ Int.toNat 20), .str "", .str "2", .ref p1, .ref p2, .ref p3, .ref p4, .ref p5, .ref p6, .ref p8, .ref p9]) = H10 at *
    refine ⟨.ref p10, rfl, by show 1 ≤ sizeLine; decide, fun p11 np11 => ?_⟩
    have s11 : Same H10 (upd H10 p11 (.tup [V.bl true])) := same_upd np11
    have e11 : upd H10 p11 (.tup [V.bl true]) p11 = some (.tup [V.bl true]) := upd_same
    generalize upd H10 p11 (.tup [V.bl true]) = H11 at *
    refine ⟨by show 2 ≤ sizeLine; decide, fun p12 np12 => ?_⟩
    have s12 : Same H11 (upd H11 p12 (.tup [V.int 2, .non])) := same_upd np12
    have e12 : upd H11 p12 (.tup [V.int 2, .non]) p12 = some (.tup [V.int 2, .non]) := upd_same
    generalize upd H11 p12 (.tup [V.int 2, .non]) = H12 at *
    refine ⟨by show 2 ≤ sizeLine; decide, fun p13 np13 => ?_⟩
    have s13 : Same H12 (upd H12 p13 (.tup [V.int 1, .str "1"])) := same_upd np13
    have e13 : upd H12 p13 (.tup [V.int 1, .str "1"]) p13 = some (.tup [V.int 1, .str "1"]) := upd_same
    generalize upd H12 p13 (.tup [V.int 1, .str "1"]) = H13 at *
    refine ⟨by show 2 ≤ sizeLine; decide, fun p14 np14 => ?_⟩
    have s14 : Same H13 (upd H13 p14 (.tup [V.int 1, .int 2])) := same_upd np14
    have e14 : upd H13 p14 (.tup [V.int 1, .int 2]) p14 = some (.tup [V.int 1, .int 2]) := upd_same
    generalize upd H13 p14 (.tup [V.int 1, .int 2]) = H14 at *
    refine ⟨by show 1 ≤ sizeLine; decide, fun p15 np15 => ?_⟩
    have s15 : Same H14 (upd H14 p15 (.tup [V.ref p14])) := same_upd np15
    have e15 : upd H14 p15 (.tup [V.ref p14]) p15 = some (.tup [V.ref p14]) := upd_same
    generalize upd H14 p15 (.tup [V.ref p14]) = H15 at *
    refine ⟨by show 1 ≤ sizeLine; decide, fun p16 np16 => ?_⟩
    have s16 : Same H15 (upd H15 p16 (.tup [V.int 0])) := same_upd np16
    have e16 : upd H15 p16 (.tup [V.int 0]) p16 = some (.tup [V.int 0]) := upd_same
    generalize upd H15 p16 (.tup [V.int 0]) = H16 at *
    refine ⟨p16, 401, _, rfl, rfl, SqT.of e16, by decide, by decide, by show 1 ≤ 1000; decide, fun p17 H17 s17 h17 => ?_⟩
    refine ⟨by show 1 ≤ sizeLine; decide, fun p18 np18 => ?_⟩
    have s18 : Same H17 (upd H17 p18 (.tup [V.int 1])) := same_upd np18
    have e18 : upd H17 p18 (.tup [V.int 1]) p18 = some (.tup [V.int 1]) := upd_same
    generalize upd H17 p18 (.tup [V.int 1]) = H18 at *
    refine ⟨p18, 9, _, rfl, rfl, SqT.of e18, by decide, by decide, by show 1 ≤ 1000; decide, fun p19 H19 s19 h19 => ?_⟩
    refine ⟨by show 1 ≤ sizeLine; decide, fun p20 np20 => ?_⟩
    have s20 : Same H19 (upd H19 p20 (.tup [V.int 41])) := same_upd np20
    have e20 : upd H19 p20 (.tup [V.int 41]) p20 = some (.tup [V.int 41]) := upd_same
    generalize upd H19 p20 (.tup [V.int 41]) = H20 at *
    refine ⟨by show 2 ≤ sizeLine; decide, fun p21 np21 => ?_⟩
    have s21 : Same H20 (upd H20 p21 (.tup [V.int 1, .int 0])) := same_upd np21
    have e21 : upd H20 p21 (.tup [V.int 1, .int 0]) p21 = some (.tup [V.int 1, .int 0]) := upd_same
    generalize upd H20 p21 (.tup [V.int 1, .int 0]) = H21 at *
    refine ⟨by show 8 ≤ sizeLine; decide, fun p22 np22 => ?_⟩
    have s22 : Same H21 (upd H21 p22 (.lst [V.ref p11, .ref p12, .ref p13, .ref p15, .ref p17, .ref p19, .ref p20, .ref p21])) := same_upd np22
    have e22 : upd H21 p22 (.lst [V.ref p11, .ref p12, .ref p13, .ref p15, .ref p17, .ref p19, .ref p20, .ref p21]) p22 = some (.lst [V.ref p11, .ref p12, .ref p13, .ref p15, .ref p17, .ref p19, .ref p20, .ref p21]) := upd_same
    generalize upd H21 p22 (.lst [V.ref p11, .ref p12, .ref p13, .ref p15, .ref p17, .ref p19, .ref p20, .ref p21]) = H22 at *
    refine ⟨p10, p22, _, _, rfl, rfl, s22 _ _ (s21 _ _ (s20 _ _ (s19 _ _ (s18 _ _ (s17 _ _ (s16 _ _ (s15 _ _ (s14 _ _ (s13 _ _ (s12 _ _ (s11 _ _ e10))))))))))), e22, by show 19 + 8 ≤ sizeLine; decide, fun p23 np23 => ?_⟩
    have s23 := same_upd (o := .lst (odd1 p1 p2 p3 p4 p5 p6 p8 p9 ++ [V.ref p11, .ref p12, .ref p13, .ref p15, .ref p17, .ref p19, .ref p20, .ref p21])) np23
    have s17 : Same H16 H17 := s17
    have s19 : Same H18 H19 := s19
    have c22 := s23
    have c21 := s22.trans c22
    have c20 := s21.trans c21
    have c19 := s20.trans c20
    have c18 := s19.trans c19
    have c17 := s18.trans c18
    have c16 := s17.trans c17
    have c15 := s16.trans c16
    have c14 := s15.trans c15
    have c13 := s14.trans c14
    have c12 := s13.trans c13
    have c11 := s12.trans c12
    have c10 := s11.trans c11
    have c9 := s10.trans c10
    have c8 := s9.trans c9
    have c7 := s8.trans c8
    have c6 := s7.trans c7
    have c5 := s6.trans c6
    have c4 := s5.trans c5
    have c3 := s4.trans c4
    have c2 := s3.trans c3
    have c1 := s2.trans c2
    have c0 := s1.trans c1
    have tp23 := tp.keep c0
    have p23t : p23 ≠ t := (tp.keep (s1.trans (s2.trans (s3.trans (s4.trans (s5.trans (s6.trans (s7.trans (s8.trans (s9.trans (s10.trans (s11.trans (s12.trans (s13.trans (s14.trans (s15.trans (s16.trans (s17.trans (s18.trans (s19.trans (s20.trans (s21.trans s22)))))))))))))))))))))).ne np23
    refine ⟨.ref p23, rfl, .ref t, rfl, .ref p23, rfl, p23, _, rfl, .inl (SqL.of upd_same), t, sc, 27, rfl, ⟨by decide, by decide⟩, tp23, fun r H24 r0 r1 mv tp24 => ?_⟩
    have e23 := mv _ _ p23t (upd_same (H := H22) (o := .lst (odd1 p1 p2 p3 p4 p5 p6 p8 p9 ++ [V.ref p11, .ref p12, .ref p13, .ref p15, .ref p17, .ref p19, .ref p20, .ref p21])))
    have nl : Nl _ H24 := .moved tp23 mv
    obtain ⟨tns, tpos, trest, tmx, tct, _, ht5, _, _⟩ := id tp23
    have nt : ∀ (b : Addr) (xs : List V), upd H22 p23 (.lst (odd1 p1 p2 p3 p4 p5 p6 p8 p9 ++ [V.ref p11, .ref p12, .ref p13, .ref p15, .ref p17, .ref p19, .ref p20, .ref p21])) b = some (.lst xs) → xs.length ≠ 5 → b ≠ t := fun b xs e h z => by
      rw [z, ht5] at e
      cases e
      exact h rfl
    have E1 := nl _ _ (fun _ z => by cases z) (c1 _ _ e1)
    have E3 := nl _ _ (fun _ z => by cases z) (c3 _ _ e3)
    have E4 := nl _ _ (fun _ z => by cases z) (c4 _ _ e4)
    have E6 := nl _ _ (fun _ z => by cases z) (c6 _ _ e6)
    have E9 := nl _ _ (fun _ z => by cases z) (c9 _ _ e9)
    have E11 := nl _ _ (fun _ z => by cases z) (c11 _ _ e11)
    have E12 := nl _ _ (fun _ z => by cases z) (c12 _ _ e12)
    have E13 := nl _ _ (fun _ z => by cases z) (c13 _ _ e13)
    have E14 := nl _ _ (fun _ z => by cases z) (c14 _ _ e14)
    have E15 := nl _ _ (fun _ z => by cases z) (c15 _ _ e15)
    have E16 := nl _ _ (fun _ z => by cases z) (c16 _ _ e16)
    have E18 := nl _ _ (fun _ z => by cases z) (c18 _ _ e18)
    have E20 := nl _ _ (fun _ z => by cases z) (c20 _ _ e20)
    have E21 := nl _ _ (fun _ z => by cases z) (c21 _ _ e21)
    have E2 := mv _ _ (nt _ _ (c2 _ _ e2) (by decide)) (c2 _ _ e2)
    have E5 := mv _ _ (nt _ _ (c5 _ _ e5) (by show _ ≠ 5; simp)) (c5 _ _ e5)
    have E7 := mv _ _ (nt _ _ (c7 _ _ e7) (by show _ ≠ 5; simp)) (c7 _ _ e7)
    have E8 := mv _ _ (nt _ _ (c8 _ _ e8) (by show _ ≠ 5; simp)) (c8 _ _ e8)
    have E17 := sT_nl (sT c17 h17) nl
    have E19 := sT_nl (sT c19 h19) nl
    have f2 := s1
    have g2 := Same.free f2 np2
    have f5 := (f2.trans s2).trans (s3.trans s4)
    have g5 := Same.free f5 np5
    have f7 := f5.trans (s5.trans s6)
    have g7 := Same.free f7 np7
    have f8 := f7.trans s7
    have g8 := Same.free f8 np8
    have things : ∀ v ∈ (odd1 p1 p2 p3 p4 p5 p6 p8 p9 ++ [V.ref p11, .ref p12, .ref p13, .ref p15, .ref p17, .ref p19, .ref p20, .ref p21]), ∃ d, (∀ H'', Nl H24 H'' → NewStays H H24 H'' → Od K H'' v d) ∧ (Lim d ∧ Lim2 d) ∧ Ro 3 2000 d := by
      intro v hv
      unfold odd1 at hv
      simp only [List.mem_append, List.mem_cons, List.not_mem_nil, or_false] at hv
      rcases hv with (rfl | rfl | rfl | rfl | rfl | rfl | rfl | rfl | rfl | rfl | rfl | rfl | rfl | rfl | rfl | rfl | rfl | rfl | rfl) | (rfl | rfl | rfl | rfl | rfl | rfl | rfl | rfl)
      · exact ⟨_, fun H'' nl2 up => .non, (noT fun _ z => by cases z), roOf (by decide +kernel)⟩
      · exact ⟨_, fun H'' nl2 up => .bl _, (noT fun _ z => by cases z), roOf (by decide +kernel)⟩
      · exact ⟨_, fun H'' nl2 up => .bl _, (noT fun _ z => by cases z), roOf (by decide +kernel)⟩
      · exact ⟨_, fun H'' nl2 up => .int _, (noT fun _ z => by cases z), roOf (by decide +kernel)⟩
      · exact ⟨_, fun H'' nl2 up => .int _, (noT fun _ z => by cases z), roOf (by decide +kernel)⟩
      · exact ⟨_, fun H'' nl2 up => .int _, (noT fun _ z => by cases z), roOf (by decide +kernel)⟩
      · exact ⟨_, fun H'' nl2 up => .int _, (noT fun _ z => by cases z), roOf (by decide +kernel)⟩
      · exact ⟨_, fun H'' nl2 up => .int _, (noT fun _ z => by cases z), roOf (by decide +kernel)⟩
      · exact ⟨_, fun H'' nl2 up => .int _, (noT fun _ z => by cases z), roOf (by decide +kernel)⟩
      · exact ⟨_, fun H'' nl2 up => .str _, (noT fun _ z => by cases z), roOf (by decide +kernel)⟩
      · exact ⟨_, fun H'' nl2 up => .str _, (noT fun _ z => by cases z), roOf (by decide +kernel)⟩
      · exact ⟨_, fun H'' nl2 up => .tup (SqT.of (nT nl2 E1)) .nil, (flT (by decide) fun _ h => by simp at h), roOf (by decide +kernel)⟩
      · exact ⟨_, fun H'' nl2 up => .lst (up _ _ g2 E2) .nil, (noT fun _ z => by cases z), roOf (by decide +kernel)⟩
      · exact ⟨_, fun H'' nl2 up => .dct (nD nl2 E3) .nil, (noT fun _ z => by cases z), roOf (by decide +kernel)⟩
      · exact ⟨_, fun H'' nl2 up => .tup (SqT.of (nT nl2 E4)) (.cons (.int _) .nil), (flT (by show 1 ≤ 1000; decide) fun x h => by simp at h; subst h; exact fun _ z => by cases z), roOf (by decide +kernel)⟩
      · exact ⟨_, fun H'' nl2 up => .lst (up _ _ g5 E5) (.cons (.int _) .nil), (noT fun _ z => by cases z), roOf (by decide +kernel)⟩
      · exact ⟨_, fun H'' nl2 up => .tup (SqT.of (nT nl2 E6)) (.cons (.int _) (.cons (.int _) .nil)), (flT (by show 2 ≤ 1000; decide) fun x h => by simp at h; rcases h with rfl | rfl <;> exact fun _ z => by cases z), roOf (by decide +kernel)⟩
      · exact ⟨_, fun H'' nl2 up => .lst (up _ _ g8 E8) (.cons (.lst (up _ _ g7 E7) (.cons (.int _) .nil)) (.cons (.int _) .nil)), (noT fun _ z => by cases z), roOf (by decide +kernel)⟩
      · exact ⟨_, fun H'' nl2 up => .dct (nD nl2 E9) (.cons (.int _) .nil), (noT fun _ z => by cases z), roOf (by decide +kernel)⟩
      · exact ⟨_, fun H'' nl2 up => .tup (SqT.of (nT nl2 E11)) (.cons (.bl _) .nil), (flT (by show 1 ≤ 1000; decide) fun x h => by simp at h; subst h; exact fun _ z => by cases z), roOf (by decide +kernel)⟩
      · exact ⟨_, fun H'' nl2 up => .tup (SqT.of (nT nl2 E12)) (.cons (.int _) (.cons .non .nil)), (flT (by show 2 ≤ 1000; decide) fun x h => by simp at h; rcases h with rfl | rfl <;> exact fun _ z => by cases z), roOf (by decide +kernel)⟩
      · exact ⟨_, fun H'' nl2 up => .tup (SqT.of (nT nl2 E13)) (.cons (.int _) (.cons (.str _) .nil)), (flT (by show 2 ≤ 1000; decide) fun x h => by simp at h; rcases h with rfl | rfl <;> exact fun _ z => by cases z), roOf (by decide +kernel)⟩
      · refine ⟨_, fun H'' nl2 up => .tup (SqT.of (nT nl2 E15)) (.cons (.tup (SqT.of (nT nl2 E14)) (.cons (.int _) (.cons (.int _) .nil))) .nil), ⟨fun ds z => by cases z; decide, fun ds z => ?_⟩, roOf (by decide +kernel)⟩
        cases z
        refine ⟨by decide, fun x h => ?_⟩
        simp at h
        subst h
        exact fun ds z => by cases z; decide
      · exact ⟨_, fun H'' nl2 up => .tup (sT_nl E17 nl2) (rep_all 0 _), repT (by decide) (by decide)⟩
      · exact ⟨_, fun H'' nl2 up => .tup (sT_nl E19 nl2) (rep_all 1 _), repT (by decide) (by decide)⟩
      · exact ⟨_, fun H'' nl2 up => .tup (SqT.of (nT nl2 E20)) (.cons (.int _) .nil), (flT (by show 1 ≤ 1000; decide) fun x h => by simp at h; subst h; exact fun _ z => by cases z), roOf (by decide +kernel)⟩
      · exact ⟨_, fun H'' nl2 up => .tup (SqT.of (nT nl2 E21)) (.cons (.int _) (.cons (.int _) .nil)), (flT (by show 2 ≤ 1000; decide) fun x h => by simp at h; rcases h with rfl | rfl <;> exact fun _ z => by cases z), roOf (by decide +kernel)⟩
    have r27 : r.toNat < (odd1 p1 p2 p3 p4 p5 p6 p8 p9 ++ [V.ref p11, .ref p12, .ref p13, .ref p15, .ref p17, .ref p19, .ref p20, .ref p21]).length := by
      show r.toNat < 27
      omega
    obtain ⟨v, hv⟩ : ∃ v, (odd1 p1 p2 p3 p4 p5 p6 p8 p9 ++ [V.ref p11, .ref p12, .ref p13, .ref p15, .ref p17, .ref p19, .ref p20, .ref p21])[r.toNat]? = some v := ⟨_, List.getElem?_eq_getElem r27⟩
    obtain ⟨d, od, ll, ro⟩ := things v (List.mem_of_getElem? hv)
    refine ⟨p23, _, _, v, rfl, rfl, SqL.of e23, atI_of r0 hv, ?_⟩
    exact q v d H24 od ll ro ((Moved.same c0).trans mv) tp24
end

/-! ### a part of a tuple, as one thing -/
def rSlU (K : PySem.W.Frag) : V → Option Int → Option Int → Hp → VK → Prop := fun x lo hi H Q => ∃ a xs, x = .ref a ∧ SqT K H a xs ∧ ∀ p H', Same H H' → SqT K H' p (cutV xs lo hi) → Q (.ref p) H'
theorem sl_tupU {X : Cx} : SlR X (rSlU X.K) := by
  intro pins s σ H x v vl vu lo hi sl Q I rx hs pl pu h
  obtain ⟨a, xs, rfl, hx, q⟩ := h
  refine sl_tupA pins s σ H _ v vl vu lo hi sl Q I rx hs pl pu ⟨a, xs, rfl, hx, fun hw => ?_, fun hw p np => q p _ (same_upd np) (SqT.of upd_same)⟩
  refine q a H (fun _ _ e => e) ?_
  have e : cutV xs lo hi = xs := by
    unfold cutV
    rw [hw.1, hw.2, List.drop_zero, Nat.sub_zero]
    exact List.take_length
  rw [e]
  exact hx
theorem cut_fromL (xs : List V) {n : Nat} (h : n ≤ xs.length) : cutV xs (some (n : Int)) none = xs.drop n := by
  unfold cutV
  rw [HT.sIx_nat, HT.sIx_none, Nat.min_eq_left h]
  exact List.take_of_length_le (by rw [List.length_drop]; exact Nat.le_refl _)
theorem cut_toL (xs : List V) {n : Nat} (h : n ≤ xs.length) : cutV xs none (some (n : Int)) = xs.take n := by
  unfold cutV
  rw [HT.sIx_nat, HT.sIx_none, Nat.min_eq_left h, Nat.sub_zero, List.drop_zero]

/-! ### t + u as one thing -/
def rCatU (K : PySem.W.Frag) : R2 := fun x y H Q => ∃ a b xs ys, x = .ref a ∧ y = .ref b ∧ SqT K H a xs ∧ SqT K H b ys ∧ xs.length + ys.length ≤ sizeLine ∧ ∀ p H', Same H H' → SqT K H' p (xs ++ ys) → Q (.ref p) H'
theorem catU {X : Cx} : OpR X (binaryOp .Add) (rCatU X.K) := by
  intro pins s σ H x y v u Q I rx ry h
  obtain ⟨a, b, xs, ys, rfl, rfl, ha, hb, hz, q⟩ := h
  refine op_catA pins s σ H _ _ v u Q I rx ry ⟨a, b, xs, ys, rfl, rfl, ha, hb, hz, fun e => ?_, fun _ e => ?_, fun _ _ p np => ?_⟩
  · subst e
    exact q b H (fun _ _ h => h) hb
  · subst e
    refine q a H (fun _ _ h => h) ?_
    rw [List.append_nil]
    exact ha
  · exact q p _ (same_upd np) (SqT.of upd_same)

/-! ### a new tuple of two, known to have no dict -/
def rCatF (K : PySem.W.Frag) : R2 := fun x y H Q => ∃ a b xs ys, x = .ref a ∧ y = .ref b ∧ SqT K H a xs ∧ SqT K H b ys ∧ xs ≠ [] ∧ ys ≠ [] ∧ xs.length + ys.length ≤ sizeLine ∧ ∀ l H', H l = none → Same H H' → Frz H' l (xs ++ ys) → Q (.ref l) H'
theorem op_catF {X : Cx} : OpR X (binaryOp .Add) (rCatF X.K) := by
  intro pins s σ H x y v u Q I rx ry h
  obtain ⟨a, b, xs, ys, rfl, rfl, ha, hb, hx, hy, hz, q⟩ := h
  cases rx
  cases ry
  obtain ⟨its, r1, p1, _⟩ := I.tuple ha
  obtain ⟨its2, r2, p2, _⟩ := I.tuple hb
  refine HT.cat_tup p1 p2 (fun z => hx (r1.nil_iff.mp z)) (fun z => absurd (r2.nil_iff.mp z) hy) (fun z => ?_) (by rw [← r1.length, ← r2.length]; exact hz)
  have nl := I.hok.fresh (Nat.le_refl s.heap.objs.size)
  refine ⟨.ref s.heap.objs.size, _, I.laid (t' := s.toks) (o := .frz _ (.tup (xs ++ ys))) (fun b ob q => Heap.get?_push_of_some _ q) (Nat.le_refl _) ⟨Heap.get?_push_size _ rfl, by rw [List.length_append]; exact hz, _, r1.append r2, IsTup.new _ _⟩, rfl, q _ _ nl (same_upd nl) ⟨_, upd_same, rfl⟩⟩
/-! ### rules whose frame is named -/
def rTupS (K : PySem.W.Frag) : List V → Hp → VK → Prop := fun xs H Q => ∃ p ys, xs = [.ref p] ∧ ((SqL K H p ys ∧ ∀ l, H l = none → Q (.ref l) (upd H l (.tup ys))) ∨ (SqT K H p ys ∧ Q (.ref p) H))
theorem tupK {X : Cx} {K : PySem.W.Frag} (h : X.K = K) : CallR X (.type "tuple") (rTupS K) := h ▸ call_tuple_of
theorem pi_tupK {X : Cx} {K : PySem.W.Frag} (h : X.K = K) {tg l : Expr} {tl : TE} (hl : PE X l tl) : PI X tg l (iTup K tl) := h ▸ pi_tup hl
theorem indexK {X : Cx} {K : PySem.W.Frag} (h : X.K = K) : MtR X "list.index" (rIndex K) := h ▸ mt_index

/-! ### drawn loops and rows -/
theorem iteB {b : Bool} {A B : Prop} (h1 : b = true → A) (h2 : b = false → B) : if b = true then A else B := by
  cases b with
  | true => exact iteT (h1 rfl)
  | false => exact iteF (h2 rfl)
theorem good_set {ns : List Int} {j : Nat} {x : Int} (g : Rch.Good ns) (h1 : 1 ≤ x) (h2 : x ≤ 40) : Rch.Good (ns.set j x) := ⟨by rw [List.length_set]; exact g.1, by rw [List.length_set]; exact g.2.1, fun n hn => by
  rcases List.mem_or_eq_of_mem_set hn with hn | hn
  · exact g.2.2 n hn
  · rw [hn]
    exact ⟨h1, h2⟩⟩
theorem first_of {ls : List Int} {x : Int} (h : x ∈ ls) : ∃ j : Nat, ls[j]? = some x ∧ ∀ m, m < j → ls[m]? ≠ some x := by
  induction ls with
  | nil => exact absurd h (by simp)
  | cons y r ih =>
    by_cases e : y = x
    · exact ⟨0, by rw [e]; rfl, fun m hm => absurd hm (Nat.not_lt_zero _)⟩
    · have hr : x ∈ r := by
        rcases List.mem_cons.mp h with z | z
        · exact absurd z.symm e
        · exact z
      obtain ⟨j, h1, h2⟩ := ih hr
      refine ⟨j + 1, by rw [List.getElem?_cons_succ]; exact h1, fun m hm => ?_⟩
      cases m with
      | zero =>
        intro z
        exact e (Option.some.inj z)
      | succ m =>
        rw [List.getElem?_cons_succ]
        exact h2 m (by omega)
section
variable {P : Program} {w : World} {K : PySem.W.Frag} {mg : Str → Option Value} {base : Heap}
def spLoops (K : PySem.W.Frag) : Sp := fun vs H Q _ => ∃ (t s : Addr) (m lg : Int), vs = [.ref t, .int m, .int lg] ∧ (1 ≤ m ∧ m ≤ 8) ∧ (1 ≤ lg ∧ lg ≤ 40) ∧ Tape H t s ∧
  ∀ a (ls : List Int) H', Rch.Good ls → (ls.length : Int) ≤ m → (1 : Int) ∈ ls → a ≠ t → H a = none → Moved t H H' → Tape H' t s → Frz H' a (ls.map V.int) → Q (.ref a) H'
theorem ok__law_loops (T : Tx K mg) : FnOk P w K mg base CX0 2 T.a__law_loops T.d__law_loops ["tape", "most", "longest"] (spLoops K) := by
  refine T.F__law_loops.ok sc__law_loops (fun vs H Q E h => ?_) (fun cdv A outer s H vs Q E hr h => ?_)
  · obtain ⟨t, sc, m, lg, rfl, _⟩ := h
    rfl
  · obtain ⟨t, sc, m, lg, rfl, hm, hlg, tp, q⟩ := h
    refine ⟨_, ((pss_cons (ps_set (i := 3) sc__law_loops.nd rfl (.inl rfl) (pe_op op_add pe_int (pe_call (ok__law_pick T) (hr.mono (by decide)) (by rfl) T.g__law_pick T.F__law_pick.kp T.b__law_pick .nil pass0 (pa_cons (pv 0) (pa_cons (pv 1) pa_nil)))))
  (pss_cons (ps_setLc (i := 4) (own := [("k", 5)]) (g := (gName 5)) (tt := tYes) rfl sc__law_loops.nd rfl rfl (sw_true rfl rfl rfl (by decide +kernel)) (pi_range1 (by rfl) T.m_range (pa_cons (pv 3) pa_nil)) (blkOk_by (own := [("k", 5)]) (N := ["tape", "most", "longest", "many", "found", "k"]) (sc := defScope s__law_loops) (by decide +kernel)) (fun _ _ _ _ _ => pg_name (i := 5) sc__law_loops.nd rfl (.inl rfl)) (fun _ _ _ _ _ => pts_nil) (fun _ _ _ _ _ => (pe_op op_add pe_int (pe_call (ok__law_pick T) (hr.mono (by decide)) (by rfl) T.g__law_pick T.F__law_pick.kp T.b__law_pick .nil pass0 (pa_cons (pv 0) (pa_cons (pv 2) pa_nil))))))
  (pss_cons (ps_asg pe_int (pg_sub (pv 4) (pe_call (ok__law_pick T) (hr.mono (by decide)) (by rfl) T.g__law_pick T.F__law_pick.kp T.b__law_pick .nil pass0 (pa_cons (pv 0) (pa_cons (pv 3) pa_nil))) set_list))
  (pss_one (ps_ret (pe_callTy call_tupleF (by rfl) T.m_tuple (by decide +kernel) (pa_cons (pv 4) pa_nil)))))))), ?_⟩
    refine ⟨.ref t, rfl, .int m, rfl, t, sc, m, rfl, ⟨by omega, by omega⟩, tp, fun d H1 hd0 hd1 mv1 tp1 => ?_⟩
    refine ⟨1, d, rfl, rfl, ?_⟩
    refine ⟨.int _, rfl, _, rfl, by show -(2 ^ 62) ≤ 1 + d; omega, by show 1 + d < 2 ^ 62; omega, fun D hD => lc_range (lo := 0) (n := (1 + d).toNat)
      (fun i H' => ∃ ls : List Int, H' D = some (.lst (ls.map V.int)) ∧ ls.length = i ∧ (∀ l ∈ ls, 1 ≤ l ∧ l ≤ 40) ∧ (∀ b o, b ≠ t → b ≠ D → H b = some o → H' b = some o) ∧ Tape H' t sc)
      ⟨[], upd_same, rfl, fun _ h => by simp at h, fun b o n1 n2 e => by rw [upd_ne n2]; exact mv1 b o n1 e, tp1.keep (same_upd hD)⟩ (fun i H' hi h => ?_) (fun H' h => ?_)⟩
    · obtain ⟨ls, eD, el, hl, kp, tp'⟩ := h
      have hDt : D ≠ t := tp1.ne hD
      refine ⟨rfl, ?_⟩
      refine ⟨.ref t, rfl, .int lg, rfl, t, sc, lg, rfl, ⟨by omega, by omega⟩, tp', fun x H2 hx0 hx1 mv2 tp2 => ?_⟩
      have eD2 := mv2 D _ hDt eD
      refine ⟨1, x, rfl, rfl, _, eD2, by rw [List.length_map]; exact small1000 (by omega), ls ++ [1 + x], by rw [upd_same, List.map_append]; rfl, by rw [List.length_append, el]; rfl, fun l hm' => ?_, fun b o n1 n2 e => ?_, tp2.but hDt (tp1.ne2 hD)⟩
      · rcases List.mem_append.mp hm' with hm' | hm'
        · exact hl l hm'
        · rw [List.mem_singleton.mp hm']
          exact ⟨by omega, by omega⟩
      · rw [upd_ne n2]
        exact mv2 b o n1 (kp b o n1 n2 e)
    · obtain ⟨ls, eD, el, hl, kp, tp'⟩ := h
      have hDt : D ≠ t := tp1.ne hD
      have hDs : D ≠ sc := tp1.ne2 hD
      have g : Rch.Good ls := ⟨by omega, by omega, hl⟩
      refine ⟨.ref D, rfl, .ref t, rfl, .int _, rfl, t, sc, 1 + d, rfl, ⟨by omega, by omega⟩, tp', fun j H3 hj0 hj1 mv3 tp3 => ?_⟩
      have eD3 := mv3 D _ hDt eD
      refine ⟨D, _, j, j.toNat, rfl, rfl, eD3, by rw [List.length_map]; exact ixN_nat hj0 (by omega), ?_⟩
      refine ⟨.ref D, rfl, D, _, rfl, SqL.of upd_same, fun p H5 np s5 fz ot => ?_⟩
      have tp4 := tp3.but (o := .lst ((ls.map V.int).set j.toNat (V.int 1))) hDt hDs
      have hpt : p ≠ t := tp4.ne np
      have hpD : p ≠ D := fun e => by
        rw [e, upd_same] at np
        cases np
      have np3 : H3 p = none := by
        rw [upd_ne hpD] at np
        exact np
      have hHp : H p = none := by
        cases z : H p with
        | none => rfl
        | some o =>
          rw [mv3 p o hpt (kp p o hpt hpD z)] at np3
          cases np3
      refine q p (ls.set j.toNat 1) H5 (good_set g (by decide) (by decide)) (by rw [List.length_set]; omega) (List.mem_set (by omega) _) hpt hHp (fun b o n1 e => ?_) (tp4.keep s5) (by rw [List.map_set]; exact fz)
      have nD : b ≠ D := ne_of_none (mv1 b o n1 e) hD
      refine s5 _ _ ?_
      rw [upd_ne nD]
      exact mv3 b o n1 (kp b o n1 nD e)
def spRow (K : PySem.W.Frag) : Sp := fun vs H Q _ => ∃ (t s a : Addr) (ls : List Int) (wt : Int), vs = [.ref t, .ref a, .int wt] ∧ Tape H t s ∧ Frz H a (ls.map V.int) ∧ Rch.Good ls ∧ (1 : Int) ∈ ls ∧ 0 ≤ wt ∧ wt ≤ 60 ∧
  ∀ r (row : List Int) H', Tb.InR ls row → Tb.rsum ls row = wt → r ≠ t → H r = none → Moved t H H' → Tape H' t s → H' r = some (.tup (row.map V.int)) → Q (.ref r) H'
theorem ok__law_row (T : Tx K mg) : FnOk P w K mg base CX0 2 T.a__law_row T.d__law_row ["tape", "loops", "wait"] (spRow K) := by
  refine T.F__law_row.ok sc__law_row (fun vs H Q E h => ?_) (fun cdv A outer s H vs Q E hr h => ?_)
  · obtain ⟨t, sc, a, ls, wt, rfl, _⟩ := h
    rfl
  · obtain ⟨t, sc, a, ls, wt, rfl, tp, ea, g, h1s, hw0, hw60, q⟩ := h
    have g1 := g.1
    have g2 := g.2.1
    have hat : a ≠ t := ea.tape tp
    refine ⟨_, ((pss_cons (ps_set (i := 3) sc__law_row.nd rfl (.inr rfl) (pe_lst pa_nil))
  (pss_cons (ps_set (i := 4) sc__law_row.nd rfl (.inr rfl) (pv 2))
  (pss_cons (ps_set (i := 5) sc__law_row.nd rfl (.inr rfl) (pe_cmpR op_eq (pe_call (ok__law_pick T) (hr.mono (by decide)) (by rfl) T.g__law_pick T.F__law_pick.kp T.b__law_pick .nil pass0 (pa_cons (pv 0) (pa_cons pe_int pa_nil))) pe_int (nomark _)))
  (Evl.pss_cut (ps_for PassesOwn.never rfl (pi_range1 (by rfl) T.m_range (pa_cons pe_int pa_nil)) (pg_name (i := 6) sc__law_row.nd rfl (.inl rfl))
   (pss_cons (ps_setLc (i := 7) (own := [("k", 8)]) (g := (gName 8)) rfl sc__law_row.nd rfl rfl (sw_true rfl rfl rfl (by decide +kernel)) (pi_range1 (by rfl) T.m_range (pa_cons (pe_callB call_len_seq (by rfl) T.m_len PySem.boot_len (pa_cons (pv 1) pa_nil)) pa_nil)) (blkOk_by (own := [("k", 8)]) (N := ["tape", "loops", "wait", "row", "left", "again", "turn", "fitting", "k"]) (sc := defScope s__law_row) (by decide +kernel)) (fun _ _ _ _ _ => pg_name (i := 8) sc__law_row.nd rfl (.inl rfl)) (fun _ _ _ _ _ => (pts_one (PW.pt (pw_and (pt_cmpR op_le (pe_ix (ixTK (K := K) (by rfl)) (pv 1) (pv 8) (fun _ _ => rfl)) (pv 4) (nomark _)) (pw_and1 (PW.pt (pw_or (pt_val (pv 5)) (pw_or1 (pt_cmpR (notInK (K := K) (by rfl)) (pv 8) (pv 3) (by rfl)))))))))) (fun _ _ _ _ _ => (pv 8)))
  (pss_cons (ps_if (PW.pt (pw_or (pt_cmpR op_eq (pe_callB call_len_seq (by rfl) T.m_len PySem.boot_len (pa_cons (pv 7) pa_nil)) pe_int (nomark _)) (pw_or1 (pt_cmpR op_eq (pv 4) pe_int (nomark _))))) (pss_one ps_break) pss_nil)
  (pss_cons (ps_expr (pe_bm PySem.F.plainAttrs_list PySem.F.slot_list_append PySem.F.type_list_append mt_append (pv 3) (pa_cons (pe_ix ix_list (pv 7) (pe_call (ok__law_pick T) (hr.mono (by decide)) (by rfl) T.g__law_pick T.F__law_pick.kp T.b__law_pick .nil pass0 (pa_cons (pv 0) (pa_cons (pe_callB call_len_seq (by rfl) T.m_len PySem.boot_len (pa_cons (pv 7) pa_nil)) pa_nil))) (fun _ _ => rfl)) pa_nil)))
  (pss_one (ps_set (i := 4) sc__law_row.nd rfl (.inr rfl) (pe_op op_sub (pv 4) (pe_ix ix_tup (pv 1) (pe_ix ix_list (pv 3) (pe_un un_neg pe_int) (fun _ _ => rfl)) (fun _ _ => rfl)))))))))
  (pss_cons (ps_for PassesOwn.never rfl (pi_range1 (by rfl) T.m_range (pa_cons (pv 4) pa_nil)) (pg_name (i := 6) sc__law_row.nd rfl (.inl rfl))
   (pss_one (ps_expr (pe_bm PySem.F.plainAttrs_list PySem.F.slot_list_append PySem.F.type_list_append mt_append (pv 3) (pa_cons (pe_tm PySem.F.plainAttrs_tuple PySem.F.slot_tuple_index PySem.F.type_tuple_index mt_tindex (pv 1) (pa_cons pe_int pa_nil)) pa_nil)))))
  (pss_one (ps_ret (pe_callTy call_tuple_of (by rfl) T.m_tuple (by decide +kernel) (pa_cons (pv 3) pa_nil)))))))))), ?_⟩
    refine ⟨Nat.zero_le _, fun R nR => ?_⟩
    have hRt : R ≠ t := tp.ne nR
    have hRs : R ≠ sc := tp.ne2 nR
    have s1 := same_upd (o := .lst []) nR
    have tp0 := tp.keep s1
    refine ⟨.int wt, rfl, ?_⟩
    refine ⟨.ref t, rfl, t, sc, 12, rfl, ⟨by decide, by decide⟩, tp0, fun ag H1 hg0 hg1 mv1 tp1 => ?_⟩
    refine ⟨rfl, ?_⟩
    have hRa : a ≠ R := ea.ne nR
    refine ⟨fun σ H' => ∃ (y6 y7 y8 : Option V) (row : List Int) (lf : Int) (bb : Bool), σ = [some (.ref t), some (.ref a), some (.int wt), some (.ref R), some (.int lf), some (.bl bb), y6, y7, y8] ∧ H' R = some (.lst (row.map V.int)) ∧ Tb.InR ls row ∧ Tb.rsum ls row + lf = wt ∧ 0 ≤ lf ∧ row.length ≤ 8 ∧ (∀ b o, b ≠ t → b ≠ R → H b = some o → H' b = some o) ∧ Tape H' t sc, ?_, fun σ' H' hm => ?_⟩
    refine ⟨8, rfl, by decide, by decide, for_range (lo := 0) (n := (8 : Int).toNat)
      (fun i σ H' => ∃ (y6 y7 y8 : Option V) (row : List Int) (lf : Int) (bb : Bool), σ = [some (.ref t), some (.ref a), some (.int wt), some (.ref R), some (.int lf), some (.bl bb), y6, y7, y8] ∧ H' R = some (.lst (row.map V.int)) ∧ Tb.InR ls row ∧ Tb.rsum ls row + lf = wt ∧ 0 ≤ lf ∧ row.length ≤ i ∧ (∀ b o, b ≠ t → b ≠ R → H b = some o → H' b = some o) ∧ Tape H' t sc)
      ⟨_, _, _, [], wt, _, rfl, mv1 R _ hRt upd_same, fun k h => by simp at h, by simp [Tb.rsum], hw0, Nat.le_refl _, fun b o n1 n2 e => mv1 b o n1 (s1 _ _ e), tp1⟩ (fun i σ H' hi h => ?_) (fun σ H' h => ?_)⟩
    · obtain ⟨y6, y7, y8, row, lf, bb, rfl, eR, hin, hs, hl0, hlen, kp, tp'⟩ := h
      have ea' := ea.of (kp a · hat hRa)
      -- fitting
      refine ⟨.ref a, rfl, a, _, rfl, .inr ea'.sq, _, rfl, by rw [List.length_map]; omega, by rw [List.length_map]; omega, fun D hD => lc_range (lo := 0) (n := ((((ls.map V.int).length : Nat) : Int)).toNat)
        (fun j H2 => ∃ ks : List Int, Same H' H2 ∧ H2 D = some (.lst (ks.map V.int)) ∧ ks.length ≤ j ∧ ∀ k ∈ ks, 0 ≤ k ∧ k < (ls.length : Int) ∧ Tb.len1 ls k ≤ lf)
        ⟨[], same_upd hD, upd_same, Nat.le_refl _, fun _ h => by simp at h⟩ (fun j H2 hj h => ?_) (fun H2 h => ?_)⟩
      · obtain ⟨ks, s2, eD, zk, hk⟩ := h
        rw [List.length_map] at hj
        rw [Int.zero_add]
        have hj' : (j : Int) < (ls.length : Int) := by omega
        have keepIt : Tb.len1 ls (j : Int) ≤ lf → ∃ acc, H2 D = some (.lst acc) ∧ acc.length < sizeLine ∧ ∃ ks : List Int, Same H' (upd H2 D (.lst (acc ++ [V.int (j : Int)]))) ∧ (upd H2 D (.lst (acc ++ [V.int (j : Int)]))) D = some (.lst (ks.map V.int)) ∧ ks.length ≤ j + 1 ∧ ∀ k ∈ ks, 0 ≤ k ∧ k < (ls.length : Int) ∧ Tb.len1 ls k ≤ lf := fun hle => by
          refine ⟨_, eD, by rw [List.length_map]; exact small1000 (by omega), ks ++ [(j : Int)], same_put s2 hD, by rw [upd_same, List.map_append]; rfl, by rw [List.length_append]; show ks.length + 1 ≤ j + 1; omega, fun k hm => ?_⟩
          rcases List.mem_append.mp hm with hm | hm
          · exact hk k hm
          · rw [List.mem_singleton.mp hm]
            exact ⟨by omega, hj', hle⟩
        have skip : ∃ ks : List Int, Same H' H2 ∧ H2 D = some (.lst (ks.map V.int)) ∧ ks.length ≤ j + 1 ∧ ∀ k ∈ ks, 0 ≤ k ∧ k < (ls.length : Int) ∧ Tb.len1 ls k ≤ lf := ⟨ks, s2, eD, by omega, hk⟩
        refine ⟨rfl, ?_⟩
        refine ⟨.ref a, rfl, .int (j : Int), rfl, a, _, _, .int (Tb.len1 ls (j : Int)), rfl, rfl, (ea'.same s2).sq, atI_of (by omega) (by rw [List.getElem?_map, Tb.len_at (by omega) hj']; rfl), .int lf, rfl, _, _, rfl, rfl, _, rfl, ite2 (fun c1 => ?_) (fun c1 => ?_)⟩
        · have hle := of_decide_eq_true c1
          refine ⟨.bl bb, rfl, bb, rfl, iteB (fun c2 => ?_) (fun c2 => ?_)⟩
          · exact iteT ⟨_, rfl, keepIt hle⟩
          · refine ⟨.int (j : Int), rfl, .ref R, rfl, R, _, rfl, .inl (SqL.of (s2 _ _ eR)), rfl, flat_ints _, _, rfl, ?_⟩
            refine iteB (fun c3 => ?_) (fun c3 => ?_)
            · exact ⟨_, rfl, keepIt hle⟩
            · exact skip
        · exact iteF skip
      · obtain ⟨ks, s2, eD, zk, hk⟩ := h
        have hDt : D ≠ t := tp'.ne hD
        have hDR : D ≠ R := fun e => by
          rw [e, eR] at hD
          cases hD
        have tp2 := tp'.keep s2
        have eR2 := s2 _ _ eR
        have kp2 : ∀ b o, b ≠ t → b ≠ R → H b = some o → H2 b = some o := fun b o n1 n2 e => s2 _ _ (kp b o n1 n2 e)
        have hi8 : i < 8 := hi
        have stop : ∀ y6 y7 y8, ∃ (z6 z7 z8 : Option V) (row : List Int) (lf' : Int) (bb' : Bool), [some (V.ref t), some (.ref a), some (.int wt), some (.ref R), some (.int lf), some (.bl bb), y6, y7, y8] = [some (.ref t), some (.ref a), some (.int wt), some (.ref R), some (.int lf'), some (.bl bb'), z6, z7, z8] ∧ H2 R = some (.lst (row.map V.int)) ∧ Tb.InR ls row ∧ Tb.rsum ls row + lf' = wt ∧ 0 ≤ lf' ∧ row.length ≤ 8 ∧ (∀ b o, b ≠ t → b ≠ R → H b = some o → H2 b = some o) ∧ Tape H2 t sc := fun y6 y7 y8 => ⟨y6, y7, y8, row, lf, bb, rfl, eR2, hin, hs, hl0, by omega, kp2, tp2⟩
        refine ⟨.ref D, rfl, D, _, rfl, .inl (SqL.of eD), rfl, _, rfl, ite2 (fun c1 => ?_) (fun c1 => ?_)⟩
        · exact stop _ _ _
        · have zk1 : 1 ≤ ks.length := by
            cases ks with
            | nil => exact absurd rfl (fun z => c1 (decide_eq_true z))
            | cons x r =>
              rw [List.length_cons]
              omega
          by_cases c2 : V.int lf = V.int 0
          · exact ⟨.int lf, rfl, rfl, true, congrArg V.bl (decide_eq_true c2), iteT (stop _ _ _)⟩
          refine ⟨.int lf, rfl, rfl, false, congrArg V.bl (decide_eq_false c2), iteF ?_⟩
          -- row.append(fitting[pick])
          refine ⟨.ref R, rfl, .inl ⟨rfl, _, SqL.of eR2⟩, .ref D, rfl, .ref t, rfl, .ref D, rfl, D, _, rfl, .inl (SqL.of eD), t, sc, _, rfl, ⟨?_, ?_⟩, tp2, fun j H3 hj0 hj1 mv3 tp3 => ?_⟩
          · rw [List.length_map]
            omega
          · have : ks.length ≤ ls.length := by rw [List.length_map] at zk; omega
            rw [List.length_map]
            omega
          · rw [List.length_map] at hj1
            have eD3 := mv3 D _ hDt eD
            have eR3 := mv3 R _ hRt eR2
            have ea3 := (ea'.same s2).moved hat mv3
            have hjk : j.toNat < ks.length := by omega
            obtain ⟨k, hk'⟩ : ∃ k, k = ks[j.toNat] := ⟨_, rfl⟩
            have gk : (ks.map V.int)[j.toNat]? = some (.int k) := by
              rw [List.getElem?_map, List.getElem?_eq_getElem hjk, hk']
              rfl
            obtain ⟨b0, b1, b2⟩ := hk k (by rw [hk']; exact List.getElem_mem hjk)
            have bp := Tb.len_pos g b0 b1
            refine ⟨D, _, j, _, rfl, rfl, SqL.of eD3, atI_of hj0 gk, R, _, _, rfl, rfl, eR3, by rw [List.length_map]; exact small1000 (by omega), ?_⟩
            have ea4 : Frz (upd H3 R (.lst (row.map V.int ++ [V.int k]))) a (ls.map V.int) := ea3.of fun o e => by
              rw [upd_ne hRa]
              exact e
            -- left = left - loops[row[-1]]
            refine ⟨.int lf, rfl, .ref a, rfl, .ref R, rfl, 1, rfl, R, _, -1, _, rfl, rfl, SqL.of upd_same, atI_last _ _, a, _, k, .int (Tb.len1 ls k), rfl, rfl, ea4.sq, atI_of b0 (by rw [List.getElem?_map, Tb.len_at b0 b1]; rfl), _, _, rfl, rfl, ?_⟩
            refine ⟨_, _, _, row ++ [k], _, _, rfl, by rw [upd_same, List.map_append]; rfl, fun x hx => ?_, ?_, ?_, by rw [List.length_append]; show row.length + 1 ≤ i + 1; omega, fun b o n1 n2 e => ?_, tp3.but hRt hRs⟩
            · rcases List.mem_append.mp hx with hx | hx
              · exact hin x hx
              · rw [List.mem_singleton.mp hx]
                exact ⟨b0, b1⟩
            · rw [Tb.rsum_snoc]
              show Tb.rsum ls row + Tb.len1 ls k + (lf - Tb.len1 ls k) = wt
              omega
            · show 0 ≤ lf - Tb.len1 ls k
              omega
            · rw [upd_ne n2]
              exact mv3 b o n1 (kp2 b o n1 n2 e)
    · exact h
    · obtain ⟨y6, y7, y8, row, lf, bb, rfl, eR, hin, hs, hl0, hlen, kp, tp'⟩ := hm
      obtain ⟨jx, hjx, hjn⟩ := first_of h1s
      have hlf : lf ≤ 60 := by
        have := Tb.rsum_len g hin
        omega
      refine ⟨.int lf, rfl, lf, rfl, ?_, ?_, for_range (lo := 0) (n := lf.toNat)
        (fun i σ H' => ∃ (y6 : Option V) (row : List Int), σ = [some (.ref t), some (.ref a), some (.int wt), some (.ref R), some (.int lf), some (.bl bb), y6, y7, y8] ∧ H' R = some (.lst (row.map V.int)) ∧ Tb.InR ls row ∧ Tb.rsum ls row + (lf - (i : Int)) = wt ∧ row.length ≤ 8 + i ∧ (∀ b o, b ≠ t → b ≠ R → H b = some o → H' b = some o) ∧ Tape H' t sc)
        ⟨_, row, rfl, eR, hin, by omega, hlen, kp, tp'⟩ (fun i σ H2 hi h => ?_) (fun σ H2 h => ?_)⟩
      · have := Tb.rsum_len g hin
        omega
      · have := Tb.rsum_len g hin
        omega
      · obtain ⟨y6, row, rfl, eR, hin, hs, hlen, kp, tp'⟩ := h
        have ea' := ea.of (kp a · hat hRa)
        have hjl : jx < ls.length := (List.getElem?_eq_some_iff.mp hjx).1
        have l1 : Tb.len1 ls (jx : Int) = 1 := by
          unfold Tb.len1
          rw [Int.toNat_natCast, List.getD_eq_getElem?_getD, hjx]
          rfl
        refine ⟨.ref R, rfl, .inl ⟨rfl, _, SqL.of eR⟩,   .ref a, rfl, ⟨a, _, rfl, ea'⟩, a, ls, 1, jx, rfl, rfl, ea'.sq, hjx, hjn, R, _, _, rfl, rfl, eR, by rw [List.length_map]; exact small1000 (by omega), ?_⟩
        refine ⟨_, row ++ [(jx : Int)], rfl, by rw [upd_same, List.map_append]; rfl, fun x hx => ?_, ?_, by rw [List.length_append]; show row.length + 1 ≤ 8 + (i + 1); omega, fun b o n1 n2 e => ?_, tp'.but hRt hRs⟩
        · rcases List.mem_append.mp hx with hx | hx
          · exact hin x hx
          · rw [List.mem_singleton.mp hx]
            exact ⟨by omega, by omega⟩
        · rw [Tb.rsum_snoc, l1]
          omega
        · rw [upd_ne n2]
          exact kp b o n1 n2 e
      · obtain ⟨y6, row, rfl, eR, hin, hs, hlen, kp, tp'⟩ := h
        refine ⟨.ref R, rfl, R, _, rfl, .inl ⟨SqL.of eR, fun p np => ?_⟩⟩
        have hpt : p ≠ t := tp'.ne np
        have hpR : p ≠ R := fun e => by
          rw [e, eR] at np
          cases np
        have hHp : H p = none := by
          cases z : H p with
          | none => rfl
          | some o =>
            rw [kp p o hpt hpR z] at np
            cases np
        refine q p row _ hin (by omega) hpt hHp (fun b o n1 e => ?_) (tp'.keep (same_upd np)) upd_same
        rw [upd_ne (ne_of_none e hHp)]
        exact kp b o n1 (ne_of_none e nR) e
def spRows (K : PySem.W.Frag) : Sp := fun vs H Q _ => ∃ (t s a : Addr) (ls : List Int) (bd : Int), vs = [.ref t, .ref a, .int bd] ∧ Tape H t s ∧ Frz H a (ls.map V.int) ∧ Rch.Good ls ∧ (1 : Int) ∈ ls ∧ 1 ≤ bd ∧ bd ≤ 60 ∧
  ∀ r ps (rs : List (List Int)) H', Tb.Right ls rs → (rs.length : Int) = bd → r ≠ t → H r = none → Moved t H H' → Tape H' t s → H' r = some (.tup (ps.map V.ref)) → Tups fI H' ps rs → Q (.ref r) H'
theorem ok__law_rows (T : Tx K mg) : FnOk P w K mg base CX0 3 T.a__law_rows T.d__law_rows ["tape", "loops", "bound"] (spRows K) := by
  refine T.F__law_rows.ok sc__law_rows (fun vs H Q E h => ?_) (fun cdv A outer s H vs Q E hr h => ?_)
  · obtain ⟨t, sc, a, ls, bd, rfl, _⟩ := h
    rfl
  · obtain ⟨t, sc, a, ls, bd, rfl, tp, ea, g, h1s, hb1, hb60, q⟩ := h
    have hat : a ≠ t := ea.tape tp
    refine ⟨_, ((pss_one (ps_ret (pe_callTy call_tuple_of (by rfl) T.m_tuple (by decide +kernel) (pa_cons (pe_lc (own := [("wait", 3)]) (g := (gName 3)) (tt := tYes) rfl sc__law_rows.nd (pi_range2 (by rfl) T.m_range (pa_cons pe_int (pa_cons (pe_op op_add (pv 2) pe_int) pa_nil))) (blkOk_by (own := [("wait", 3)]) (N := ["tape", "loops", "bound", "wait"]) (sc := defScope s__law_rows) (by decide +kernel)) (fun _ _ _ _ _ => pg_name (i := 3) sc__law_rows.nd rfl (.inl rfl)) (fun _ _ _ _ _ => pts_nil) (fun _ _ _ _ _ => (pe_call (ok__law_row T) (hr.mono (by decide)) (by rfl) T.g__law_row T.F__law_row.kp T.b__law_row .nil pass0 (pa_cons (pv 0) (pa_cons (pv 1) (pa_cons (pv 3) pa_nil)))))) pa_nil))))), ?_⟩
    refine ⟨.int bd, rfl, _, _, rfl, rfl, 1, bd + 1, rfl, ⟨by omega, by omega, by omega, by omega⟩, fun D hD => lc_range (lo := 1) (n := (bd + 1 - 1).toNat)
      (fun i H' => ∃ (ps : List Addr) (rs : List (List Int)), H' D = some (.lst (ps.map V.ref)) ∧ Tups fI H' ps rs ∧ rs.length = i ∧ (∀ (j : Nat) (r : List Int), rs[j]? = some r → Tb.InR ls r ∧ Tb.rsum ls r = (j : Int) + 1) ∧ (∀ b o, b ≠ t → b ≠ D → H b = some o → H' b = some o) ∧ Tape H' t sc)
      ⟨[], [], upd_same, .nil, rfl, fun j r h => by simp at h, fun b o n1 n2 e => by rw [upd_ne n2]; exact e, tp.keep (same_upd hD)⟩ (fun i H' hi h => ?_) (fun H' h => ?_)⟩
    · obtain ⟨ps, rs, eD, tu, el, hrs, kp, tp'⟩ := h
      have hDt : D ≠ t := tp.ne hD
      have hDs : D ≠ sc := tp.ne2 hD
      have hDa : a ≠ D := ea.ne hD
      refine ⟨rfl, ?_⟩
      refine ⟨.ref t, rfl, .ref a, rfl, _, rfl, t, sc, a, ls, 1 + (i : Int), rfl, tp', ea.of (kp a · hat hDa), g, h1s, by omega, by omega, fun r row H2 hin hs hrt nr mv2 tp2 er => ?_⟩
      have eD2 := mv2 D _ hDt eD
      refine ⟨_, eD2, by rw [List.length_map, tu.length]; exact small1000 (by omega), ps ++ [r], rs ++ [row], by rw [upd_same, List.map_append]; rfl, ?_, by rw [List.length_append, el]; rfl, fun j x hx => ?_, fun b o n1 n2 e => ?_, tp2.but hDt hDs⟩
      · exact (((tu.keep fun b ys e => mv2 b _ (fun z => by
          obtain ⟨_, _, _, _, _, _, e2, _⟩ := tp'
          rw [z, e2] at e
          cases e) e)).snoc er).put eD2
      · rcases Nat.lt_or_ge j rs.length with hj | hj
        · rw [List.getElem?_append_left hj] at hx
          exact hrs j x hx
        · rw [List.getElem?_append_right hj] at hx
          have hj0 : j - rs.length = 0 := by
            have := (List.getElem?_eq_some_iff.mp hx).1
            simp at this
            omega
          rw [hj0] at hx
          simp at hx
          subst hx
          exact ⟨hin, by omega⟩
      · rw [upd_ne n2]
        exact mv2 b o n1 (kp b o n1 n2 e)
    · obtain ⟨ps, rs, eD, tu, el, hrs, kp, tp'⟩ := h
      have el' : (rs.length : Int) = bd := by omega
      refine ⟨D, _, rfl, .inl ⟨SqL.of eD, fun p np => ?_⟩⟩
      have hpt : p ≠ t := tp'.ne np
      have hpD : p ≠ D := fun e => by
        rw [e, eD] at np
        cases np
      have hHp : H p = none := by
        cases z : H p with
        | none => rfl
        | some o =>
          rw [kp p o hpt hpD z] at np
          cases np
      refine q p ps rs _ ⟨g, by omega, by omega, fun i r hr' => ?_⟩ el' hpt hHp (fun b o n1 e => ?_) (tp'.keep (same_upd np)) upd_same (tu.new np)
      · obtain ⟨x, y⟩ := hrs i r hr'
        have := Tb.rsum_len g x
        have := (List.getElem?_eq_some_iff.mp hr').1
        exact ⟨x, by omega, y⟩
      · rw [upd_ne (ne_of_none e hHp)]
        exact kp b o n1 (ne_of_none e hD) e
end

/-! ### a drawn table bent -/
section
variable {P : Program} {w : World} {K : PySem.W.Frag} {mg : Str → Option Value} {base : Heap}
open RO9
theorem odRows {K : PySem.W.Frag} {H : Hp} {ps : List Addr} {rs : List (List Int)} (h : Tups fI H ps rs) : OdAll K H (ps.map V.ref) (rs.map My.dI) := by
  induction h with
  | nil => exact .nil
  | cons a _ ih => exact .cons (Od.ints (SqT.of a)) ih
theorem row_lim {ls : List Int} {rs : List (List Int)} (R : Tb.Right ls rs) : ∀ d ∈ rs.map My.dI, (Lim d ∧ Lim2 d) ∧ Ro 3 2000 d := fun d hd => by
  obtain ⟨r, hr, rfl⟩ := List.mem_map.mp hd
  obtain ⟨i, hi, e⟩ := List.getElem_of_mem hr
  have x := R.2.2.2 i r (by rw [List.getElem?_eq_getElem hi, e])
  have l8 := R.1.2.1
  refine ⟨flT (by rw [List.length_map]; omega) fun y hy => ?_, (Ro.ints (m := 60) (fun n hn => ?_) x.2.1).up (by decide) (by decide)⟩
  · obtain ⟨n, _, rfl⟩ := List.mem_map.mp hy
    exact fun _ z => by cases z
  · have := x.1 n hn
    omega
theorem lim2_of {ds : List PyData} (h : ds.length ≤ 1000) (g : ∀ d ∈ ds, (Lim d ∧ Lim2 d) ∧ Ro 3 2000 d) : Lim2 (.tuple ds) := fun es z => by
  cases z
  exact ⟨h, fun d hd => (g d hd).1.1⟩
theorem lim2_no {d : PyData} (h : ∀ ds, d ≠ .tuple ds) : Lim2 d := fun ds z => absurd z (h ds)
theorem Tups.nlT {α : Type} {f : α → List V} {H H' : Hp} {ps : List Addr} {xs : List α} (h : Tups f H ps xs) (n : Nl H H') : Tups f H' ps xs := h.keep fun b ys e => n _ _ (fun _ z => by cases z) e
theorem odBools {K : PySem.W.Frag} {H : Hp} (f : Int → Bool) : ∀ row : List Int, OdAll K H (row.map fun n => V.bl (f n)) (row.map fun n => PyData.bool (f n))
  | [] => .nil
  | n :: row => .cons (.bl _) (odBools f row)
theorem intsThing {ns : List Int} (h : ∀ n ∈ ns, -1000000000 ≤ n ∧ n ≤ 1000000000) (hl : ns.length ≤ 1000) : (Lim (.tuple (ns.map PyData.int)) ∧ Lim2 (.tuple (ns.map PyData.int))) ∧ Ro 3 2000 (.tuple (ns.map PyData.int)) :=
  ⟨flT (by rw [List.length_map]; exact hl) (fun x hx => by
    obtain ⟨n, _, rfl⟩ := List.mem_map.mp hx
    exact fun _ z => by cases z), (Ro.ints h hl).up (by decide) (by decide)⟩
theorem eqFi {a b : Int} (h : a ≠ b) : V.bl (decide (V.int a = V.int b)) = V.bl false := congrArg V.bl (decide_eq_false fun z => h (V.int.inj z))
theorem eqTi {a b : Int} (h : a = b) : V.bl (decide (V.int a = V.int b)) = V.bl true := congrArg V.bl (decide_eq_true (congrArg V.int h))
theorem catI {K : PySem.W.Frag} {H : Hp} {p : Addr} {ns ms : List Int} {ys : List V} (h : SqT K H p (ns.map V.int ++ ys)) (e : ys = ms.map V.int) : SqT K H p ((ns ++ ms).map V.int) := by
  rw [List.map_append, ← e]
  exact h
def spBent (K : PySem.W.Frag) : Sp := fun vs H Q _ => ∃ (t s a b : Addr) (ls : List Int) (ps : List Addr) (rs : List (List Int)), vs = [.ref t, .ref a, .ref b] ∧ Tape H t s ∧ Frz H a (ls.map V.int) ∧ (1 : Int) ∈ ls ∧ SqT K H b (ps.map V.ref) ∧ Tups fI H ps rs ∧ Tb.Right ls rs ∧
  ∀ u vl vr dl dr H', Od K H' vl dl → Od K H' vr dr → Lim dl → Lim2 dr → Ro 3 2000 dl → Ro 4 150000 dr → Moved t H H' → Tape H' t s → H' u = some (.tup [vl, vr]) → Q (.ref u) H'
theorem ok__law_bent (T : Tx K mg) : FnOk P w K mg base CX0 3 T.a__law_bent T.d__law_bent ["tape", "loops", "rows"] (spBent K) := by
  refine T.F__law_bent.ok sc__law_bent (fun vs H Q E h => ?_) (fun cdv A outer s H vs Q E hr h => ?_)
  · obtain ⟨t, sc, a, b, ls, ps, rs, rfl, _⟩ := h
    rfl
  · obtain ⟨t, sc, a, b, ls, ps, rs, rfl, tp, ea, m1, eb, tu, R, q⟩ := h
    refine ⟨_, ((pss_cons (ps_set (i := 3) sc__law_bent.nd rfl (.inl rfl) (pe_call (ok__law_pick T) (hr.mono (by decide)) (by rfl) T.g__law_pick T.F__law_pick.kp T.b__law_pick .nil pass0 (pa_cons (pv 0) (pa_cons pe_int pa_nil))))
  (pss_cons (ps_set (i := 4) sc__law_bent.nd rfl (.inl rfl) (pe_callTy call_list_of (by rfl) T.m_list (by decide +kernel) (pa_cons (pv 2) pa_nil)))
  (pss_cons (ps_set (i := 5) sc__law_bent.nd rfl (.inl rfl) (pe_call (ok__law_pick T) (hr.mono (by decide)) (by rfl) T.g__law_pick T.F__law_pick.kp T.b__law_pick .nil pass0 (pa_cons (pv 0) (pa_cons (pe_callB call_len_seq (by rfl) T.m_len PySem.boot_len (pa_cons (pv 4) pa_nil)) pa_nil))))
  (pss_cons (ps_if (pt_cmpR op_eq (pv 3) pe_int (nomark _)) (pss_cons (ps_set (i := 6) sc__law_bent.nd rfl (.inl rfl) (pe_lst (pa_cons (pe_callTy call_list_of (by rfl) T.m_list (by decide +kernel) (pa_cons (pv 1) pa_nil)) (pa_cons (pe_tup pa_nil) (pa_cons (pe_op catU (pv 1) (pe_op RN6.op_repN (pe_tup (pa_cons pe_int pa_nil)) pe_int)) (pa_cons (pe_op catU (pv 1) (pe_tup (pa_cons pe_int pa_nil))) (pa_cons (pe_op catU (pv 1) (pe_tup (pa_cons pe_int pa_nil))) (pa_cons (pe_op catU (pv 1) (pe_tup (pa_cons pe_bl pa_nil))) (pa_cons pe_non (pa_cons pe_int pa_nil))))))))))
  (pss_cons (ps_expr (pe_bm PySem.F.plainAttrs_list PySem.F.slot_list_append PySem.F.type_list_append mt_append (pv 6) (pa_cons (pe_call (ok__law_odd T) (hr.mono (by decide)) (by rfl) T.g__law_odd T.F__law_odd.kp T.b__law_odd .nil pass0 (pa_cons (pv 0) pa_nil)) pa_nil)))
  (pss_one (ps_ret (pe_tup (pa_cons (pe_ix ix_list (pv 6) (pe_call (ok__law_pick T) (hr.mono (by decide)) (by rfl) T.g__law_pick T.F__law_pick.kp T.b__law_pick .nil pass0 (pa_cons (pv 0) (pa_cons pe_int pa_nil))) (fun _ _ => rfl)) (pa_cons (pv 2) pa_nil))))))) pss_nil)
  (pss_cons (ps_if (pt_cmpR op_eq (pv 3) pe_int (nomark _)) (pss_cons (ps_set (i := 7) sc__law_bent.nd rfl (.inl rfl) (pe_op RN6.op_repN (pv 2) (pe_op op_add (pe_op op_fdivW pe_int (pe_callB call_len_seq (by rfl) T.m_len PySem.boot_len (pa_cons (pv 2) pa_nil))) pe_int)))
  (pss_cons (ps_set (i := 6) sc__law_bent.nd rfl (.inl rfl) (pe_lst (pa_cons (pe_callTy call_list_of (by rfl) T.m_list (by decide +kernel) (pa_cons (pv 2) pa_nil)) (pa_cons (pe_tup pa_nil) (pa_cons (pv 7) (pa_cons pe_non (pa_cons pe_dnewK (pa_cons (pe_ix ix_tup (pv 2) pe_int (fun _ _ => rfl)) (pa_cons (pe_call (ok__law_odd T) (hr.mono (by decide)) (by rfl) T.g__law_odd T.F__law_odd.kp T.b__law_odd .nil pass0 (pa_cons (pv 0) pa_nil)) (pa_cons (pe_op catU (pv 2) (pe_tup (pa_cons (pe_tup pa_nil) pa_nil))) pa_nil))))))))))
  (pss_one (ps_ret (pe_tup (pa_cons (pv 1) (pa_cons (pe_ix ix_list (pv 6) (pe_call (ok__law_pick T) (hr.mono (by decide)) (by rfl) T.g__law_pick T.F__law_pick.kp T.b__law_pick .nil pass0 (pa_cons (pv 0) (pa_cons pe_int pa_nil))) (fun _ _ => rfl)) pa_nil))))))) pss_nil)
  (pss_cons (ps_if (pt_cmpR op_eq (pv 3) pe_int (nomark _)) (pss_cons (ps_set (i := 8) sc__law_bent.nd rfl (.inl rfl) (pe_ix ix_list (pv 4) (pv 5) (fun _ _ => rfl)))
  (pss_one (ps_asg (pe_ix ix_list (pe_lst (pa_cons (pe_callTy call_list_of (by rfl) T.m_list (by decide +kernel) (pa_cons (pv 8) pa_nil)) (pa_cons (pe_call (ok__law_odd T) (hr.mono (by decide)) (by rfl) T.g__law_odd T.F__law_odd.kp T.b__law_odd .nil pass0 (pa_cons (pv 0) pa_nil)) (pa_cons (pe_op catU (pv 8) (pe_tup (pa_cons (pe_callB call_len_seq (by rfl) T.m_len PySem.boot_len (pa_cons (pv 1) pa_nil)) pa_nil))) (pa_cons (pe_op catU (pv 8) (pe_tup (pa_cons (pe_un un_neg pe_int) pa_nil))) (pa_cons pe_non pa_nil)))))) (pe_call (ok__law_pick T) (hr.mono (by decide)) (by rfl) T.g__law_pick T.F__law_pick.kp T.b__law_pick .nil pass0 (pa_cons (pv 0) (pa_cons pe_int pa_nil))) (fun _ _ => rfl)) (pg_sub (pv 4) (pv 5) set_list)))) pss_nil)
  (pss_cons (ps_if (pt_cmpR op_eq (pv 3) pe_int (nomark _)) (pss_one (ps_asg (pe_op catU (pe_ix ix_list (pv 4) (pv 5) (fun _ _ => rfl)) (pe_tup (pa_cons (pe_tm PySem.F.plainAttrs_tuple PySem.F.slot_tuple_index PySem.F.type_tuple_index mt_tindex (pv 1) (pa_cons pe_int pa_nil)) pa_nil))) (pg_sub (pv 4) (pv 5) set_list))) pss_nil)
  (pss_cons (ps_if (pt_cmpR op_eq (pv 3) pe_int (nomark _)) (pss_one (ps_asg (pe_slice sl_tupU (pe_ix ix_list (pv 4) (pv 5) (fun _ _ => rfl)) (po_some pe_int) po_none) (pg_sub (pv 4) (pv 5) set_list))) pss_nil)
  (pss_cons (ps_if (pt_cmpR op_eq (pv 3) pe_int (nomark _)) (pss_one (ps_asg (pe_callTy call_tuple_of (by rfl) T.m_tuple (by decide +kernel) (pa_cons (pe_lc (own := [("number", 9)]) (g := (gName 9)) (tt := tYes) rfl sc__law_bent.nd (pi_tup (pe_ix ix_list (pv 4) (pv 5) (fun _ _ => rfl))) (blkOk_by (own := [("number", 9)]) (N := ["tape", "loops", "rows", "kind", "made", "at", "wrong", "long", "one", "number"]) (sc := defScope s__law_bent) (by decide +kernel)) (fun _ _ _ _ _ => pg_name (i := 9) sc__law_bent.nd rfl (.inl rfl)) (fun _ _ _ _ _ => pts_nil) (fun _ _ _ _ _ => (pe_cmpR op_eq (pv 9) pe_int (nomark _)))) pa_nil)) (pg_sub (pv 4) (pv 5) set_list))) pss_nil)
  (pss_cons (ps_if (pt_cmpR op_eq (pv 3) pe_int (nomark _)) (pss_one (ps_expr (pe_bm PySem.F.plainAttrs_list PySem.F.slot_list_insert PySem.F.type_list_insert mt_insert (pv 4) (pa_cons (pv 5) (pa_cons (pe_ix ix_list (pv 4) (pe_call (ok__law_pick T) (hr.mono (by decide)) (by rfl) T.g__law_pick T.F__law_pick.kp T.b__law_pick .nil pass0 (pa_cons (pv 0) (pa_cons (pe_callB call_len_seq (by rfl) T.m_len PySem.boot_len (pa_cons (pv 4) pa_nil)) pa_nil))) (fun _ _ => rfl)) pa_nil))))) pss_nil)
  (pss_one (ps_ret (pe_tup (pa_cons (pv 1) (pa_cons (pe_callTy call_tuple_of (by rfl) T.m_tuple (by decide +kernel) (pa_cons (pv 4) pa_nil)) pa_nil)))))))))))))))), ?_⟩
    have g := R.1
    have r1 := R.2.1
    have r60 := R.2.2.1
    have zl := tu.length
    have hat : a ≠ t := ea.tape tp
    refine ⟨.ref t, rfl, t, sc, 7, rfl, ⟨by decide, by decide⟩, tp, fun kd H1 k0 k7 mv1 tp1 => ?_⟩
    have ea1 := ea.moved hat mv1
    have nl1 : Nl H H1 := .moved tp mv1
    have eb1 := sT_nl eb nl1
    have tu1 := mv1.tups tp tu
    refine ⟨.ref b, rfl, b, _, rfl, .inr eb1, fun M nM => ?_⟩
    have sM := same_upd (o := .lst (ps.map V.ref)) nM
    have eM : upd H1 M (.lst (ps.map V.ref)) M = some (.lst (ps.map V.ref)) := upd_same
    generalize upd H1 M (.lst (ps.map V.ref)) = H2 at *
    have tp2 := tp1.keep sM
    have hMt : M ≠ t := tp1.ne nM
    have hMs : M ≠ sc := tp1.ne2 nM
    have ea2 := ea1.same sM
    have eb2 := sT sM eb1
    have tu2 := tu1.same sM
    refine ⟨.ref t, rfl, .ref M, rfl, M, _, rfl, .inl (SqL.of eM), t, sc, _, rfl, ⟨by rw [List.length_map]; omega, by rw [List.length_map]; omega⟩, tp2, fun at_ H3 a0 a1 mv3 tp3 => ?_⟩
    rw [List.length_map] at a1
    have eM3 := mv3 M _ hMt eM
    have nl3 : Nl H2 H3 := .moved tp2 mv3
    have ea3 := ea2.moved hat mv3
    have eb3 := sT_nl eb2 nl3
    have tu3 := mv3.tups tp2 tu2
    have mvA : Moved t H H3 := (mv1.trans (Moved.same sM)).trans mv3
    have odl : ∀ {H'}, Nl H3 H' → Od K H' (.ref a) (.tuple (ls.map PyData.int)) := fun n => Od.ints (sT_nl ea3.sq n)
    have rlim := row_lim R
    have lthing := intsThing (ns := ls) (fun n hn => by have := g.2.2 n hn; omega) (by have := g.2.1; omega)
    have bds : ∀ n ∈ ls, -1000000000 ≤ n ∧ n ≤ 1000000000 := fun n hn => by have := g.2.2 n hn; omega
    have gl := g.2.1
    have odr : OdAll K H3 (ps.map V.ref) (rs.map My.dI) := odRows tu3
    have rro : Ro 4 150000 (.tuple (rs.map My.dI)) := Ro.tup (k := 3) (n := 2000) (fun d hd => (rlim d hd).2) (by rw [List.length_map]; omega)
    -- the end of the ways that change a row
    have fin : ∀ (vs : List V) (ds : List PyData) (H4 : Hp), H4 M = some (.lst vs) → OdAll K H4 vs ds → ds.length ≤ 62 → (∀ d ∈ ds, (Lim d ∧ Lim2 d) ∧ Ro 3 2000 d) → Moved t H H4 → Tape H4 t sc → Nl H3 H4 →
        ∀ p, H4 p = none → ∀ u, (upd H4 p (.tup vs)) u = none → Q (.ref u) (upd (upd H4 p (.tup vs)) u (.tup [.ref a, .ref p])) := fun vs ds H4 e4 o4 z4 l4 mv4 tp4 nl4 p np u nu => by
      have s5 := same_upd (o := .tup vs) np
      have s6 := same_upd (o := .tup [V.ref a, .ref p]) nu
      have s7 := s5.trans s6
      refine q u (.ref a) (.ref p) _ _ _ (odl (nl4.trans (Nl.same s7))) (.tup (SqT.of (s6 _ _ upd_same)) (o4.mono s7)) lthing.1.1 (lim2_of (by omega) l4) lthing.2 (Ro.tup (k := 3) (n := 2000) (fun d hd => (l4 d hd).2) (by omega)) (mv4.trans (Moved.same s7)) (tp4.keep s7) upd_same
    -- a row in the place of another one
    have put : ∀ (v : V) (d : PyData) (Hk : Hp), (∀ H'', Nl Hk H'' → NewStays H3 Hk H'' → Od K H'' v d) → ((Lim d ∧ Lim2 d) ∧ Ro 3 2000 d) → Hk M = some (.lst (ps.map V.ref)) → Moved t H Hk → Tape Hk t sc → Nl H3 Hk →
        ∀ p, (upd Hk M (.lst ((ps.map V.ref).set at_.toNat v))) p = none → ∀ u, (upd (upd Hk M (.lst ((ps.map V.ref).set at_.toNat v))) p (.tup ((ps.map V.ref).set at_.toNat v))) u = none →
          Q (.ref u) (upd (upd (upd Hk M (.lst ((ps.map V.ref).set at_.toNat v))) p (.tup ((ps.map V.ref).set at_.toNat v))) u (.tup [.ref a, .ref p])) := fun v d Hk od ok ek mvk tpk nlk p np u nu => by
      have nlp : Nl Hk (upd Hk M (.lst ((ps.map V.ref).set at_.toNat v))) := Nl.put ek
      refine fin _ ((rs.map My.dI).set at_.toNat d) _ upd_same (OdAll.set (od _ nlp fun b o hb e => ?_) _ (odRows (tu3.nlT (nlk.trans nlp)))) (by rw [List.length_set, List.length_map]; omega) (fun x hx => ?_) (fun b o nb e => ?_) (tpk.but hMt hMs) (nlk.trans nlp) p np u nu
      · rw [upd_ne (fun z => by rw [z, eM3] at hb; cases hb)]
        exact e
      · rcases List.mem_or_eq_of_mem_set hx with hx | rfl
        · exact rlim x hx
        · exact ok
      · rw [upd_ne (ne_of_none (mv1 b o nb e) nM)]
        exact mvk b o nb e
    have hk : kd = 0 ∨ kd = 1 ∨ kd = 2 ∨ kd = 3 ∨ kd = 4 ∨ kd = 5 ∨ kd = 6 := by omega
    have atr : at_.toNat < rs.length := by omega
    obtain ⟨row, hrow⟩ : ∃ row, rs[at_.toNat]? = some row := ⟨_, List.getElem?_eq_getElem atr⟩
    obtain ⟨rp, hrp⟩ : ∃ rp, ps[at_.toNat]? = some rp := ⟨_, List.getElem?_eq_getElem (by omega)⟩
    have hrp' : (ps.map V.ref)[at_.toNat]? = some (V.ref rp) := by rw [List.getElem?_map, hrp]; rfl
    obtain ⟨rp2, row2, e1, e2, erp⟩ := tu3.get hrp'
    cases e1
    rw [hrow] at e2
    cases e2
    have rowR := R.2.2.2 _ _ hrow
    have rb : ∀ n ∈ row, -1000000000 ≤ n ∧ n ≤ 1000000000 := fun n hn => by have := rowR.1 n hn; omega
    have aM : ixN (ps.map V.ref).length at_ = some at_.toNat := ixN_nat a0 (by rw [List.length_map]; omega)
    rcases hk with rfl | rfl | rfl | rfl | rfl | rfl | rfl
    · refine ⟨_, rfl, rfl, true, eqTi rfl, iteT ?_⟩
      refine ⟨.ref a, rfl, a, _, rfl, .inr ea3.sq, fun X nX => ?_⟩
      have sX := same_upd (o := .lst (ls.map V.int)) nX
      have eX : upd H3 X (.lst (ls.map V.int)) X = some (.lst (ls.map V.int)) := upd_same
      generalize upd H3 X (.lst (ls.map V.int)) = H4 at *
      refine ⟨Nat.zero_le _, fun o0 no0 => ?_⟩
      have so0 := same_upd (o := .tup []) no0
      have eo0 : upd H4 o0 (.tup []) o0 = some (.tup []) := upd_same
      generalize upd H4 o0 (.tup []) = H5 at *
      have s35 := sX.trans so0
      refine ⟨.ref a, rfl, by show 1 ≤ sizeLine; decide, fun o1 no1 => ?_⟩
      have so1 := same_upd (o := .tup [V.int 1]) no1
      refine ⟨o1, 8, _, rfl, rfl, SqT.of upd_same, by decide, by decide, by show 1 ≤ 1000; decide, fun o2 H7 s7 h7 => ?_⟩
      have s37 : Same H3 H7 := (s35.trans so1).trans s7
      refine ⟨a, o2, _, _, rfl, rfl, (ea3.same s37).sq, h7, by rw [List.length_map]; show ls.length + 8 ≤ 2 ^ 24; omega, fun q1 H8 s8 hq1 => ?_⟩
      have s38 : Same H3 H8 := s37.trans s8
      refine ⟨.ref a, rfl, by show 1 ≤ sizeLine; decide, fun o3 no3 => ?_⟩
      have so3 := same_upd (o := .tup [V.int 0]) no3
      refine ⟨a, o3, _, _, rfl, rfl, (ea3.same (s38.trans so3)).sq, SqT.of upd_same, by rw [List.length_map]; show ls.length + 1 ≤ 2 ^ 24; omega, fun q2 H9 s9 hq2 => ?_⟩
      have s89 : Same H8 H9 := so3.trans s9
      have s39 := s38.trans s89
      refine ⟨.ref a, rfl, by show 1 ≤ sizeLine; decide, fun o4 no4 => ?_⟩
      have so4 := same_upd (o := .tup [V.int 41]) no4
      refine ⟨a, o4, _, _, rfl, rfl, (ea3.same (s39.trans so4)).sq, SqT.of upd_same, by rw [List.length_map]; show ls.length + 1 ≤ 2 ^ 24; omega, fun q3 H10 s10 hq3 => ?_⟩
      have s910 : Same H9 H10 := so4.trans s10
      have s310 := s39.trans s910
      refine ⟨.ref a, rfl, by show 1 ≤ sizeLine; decide, fun o5 no5 => ?_⟩
      have so5 := same_upd (o := .tup [V.bl true]) no5
      refine ⟨a, o5, _, _, rfl, rfl, (ea3.same (s310.trans so5)).sq, SqT.of upd_same, by rw [List.length_map]; show ls.length + 1 ≤ 2 ^ 24; omega, fun q4 H11 s11 hq4 => ?_⟩
      have s1011 : Same H10 H11 := so5.trans s11
      have s311 := s310.trans s1011
      refine ⟨by show 8 ≤ sizeLine; decide, fun W nW => ?_⟩
      have sW := same_upd (o := .lst [V.ref X, .ref o0, .ref q1, .ref q2, .ref q3, .ref q4, .non, .int 5]) nW
      have eW : upd H11 W (.lst [V.ref X, .ref o0, .ref q1, .ref q2, .ref q3, .ref q4, .non, .int 5]) W = some (.lst [V.ref X, .ref o0, .ref q1, .ref q2, .ref q3, .ref q4, .non, .int 5]) := upd_same
      have hWt : W ≠ t := (tp3.keep s311).ne nW
      have hWs : W ≠ sc := (tp3.keep s311).ne2 nW
      generalize upd H11 W (.lst [V.ref X, .ref o0, .ref q1, .ref q2, .ref q3, .ref q4, .non, .int 5]) = H12 at *
      have s312 := s311.trans sW
      have tp12 := tp3.keep s312
      refine ⟨.ref W, rfl, .inl ⟨rfl, _, SqL.of eW⟩, .ref t, rfl, t, sc, rfl, tp12, fun v d H13 od ll ro mv13 tp13 => ?_⟩
      have nl13 : Nl H12 H13 := .moved tp12 mv13
      have eW13 := mv13 W _ hWt eW
      refine ⟨W, _, _, rfl, rfl, eW13, by show 8 < sizeLine; decide, ?_⟩
      have nlW : Nl H13 (upd H13 W (.lst ([V.ref X, .ref o0, .ref q1, .ref q2, .ref q3, .ref q4, .non, .int 5] ++ [v]))) := Nl.put eW13
      have eW14 : upd H13 W (.lst ([V.ref X, .ref o0, .ref q1, .ref q2, .ref q3, .ref q4, .non, .int 5] ++ [v])) W = some (.lst ([V.ref X, .ref o0, .ref q1, .ref q2, .ref q3, .ref q4, .non, .int 5] ++ [v])) := upd_same
      have but : ∀ b o, b ≠ W → H13 b = some o → upd H13 W (.lst ([V.ref X, .ref o0, .ref q1, .ref q2, .ref q3, .ref q4, .non, .int 5] ++ [v])) b = some o := fun b o n e => by rw [upd_ne n]; exact e
      have tp14 := tp13.but (o := .lst ([V.ref X, .ref o0, .ref q1, .ref q2, .ref q3, .ref q4, .non, .int 5] ++ [v])) hWt hWs
      generalize upd H13 W (.lst ([V.ref X, .ref o0, .ref q1, .ref q2, .ref q3, .ref q4, .non, .int 5] ++ [v])) = H14 at *
      refine ⟨.ref W, rfl, .ref t, rfl, t, sc, 9, rfl, ⟨by decide, by decide⟩, tp14, fun r H15 r0 r1' mv15 tp15 => ?_⟩
      have nl15 : Nl H14 H15 := .moved tp14 mv15
      have eW15 := mv15 W _ hWt eW14
      have XW : X ≠ W := ne_of_none (so0 _ _ eX |> fun e => (((so1.trans s7).trans s8).trans (s89.trans (s910.trans s1011))) _ _ e) nW
      have Xt : X ≠ t := tp3.ne nX
      have s412 : Same H4 H12 := so0.trans (((so1.trans s7).trans s8).trans ((s89.trans (s910.trans s1011)).trans sW))
      have nl1215 : Nl H12 H15 := (nl13.trans nlW).trans nl15
      have things : ∀ x ∈ ([V.ref X, .ref o0, .ref q1, .ref q2, .ref q3, .ref q4, .non, .int 5] ++ [v]), ∃ d, (∀ H'', Same H15 H'' → Od K H'' x d) ∧ ((Lim d ∧ Lim2 d) ∧ Ro 3 2000 d) := by
        intro x hx
        simp only [List.mem_append, List.mem_cons, List.not_mem_nil, or_false] at hx
        rcases hx with (rfl | rfl | rfl | rfl | rfl | rfl | rfl | rfl) | rfl
        · exact ⟨.list (ls.map PyData.int), fun H'' n => .lst (n _ _ (mv15 X _ Xt (but X _ XW (mv13 X _ Xt (s412 _ _ eX))))) (OdAll.ints ls), noT (fun _ z => by cases z), (Ro.lst (k := 0) (n := 0) (fun x hx => by
            obtain ⟨m, hm, rfl⟩ := List.mem_map.mp hx
            exact .int (bds m hm).1 (bds m hm).2) (Nat.le_refl _)).up (by decide) (by rw [List.length_map]; omega)⟩
        · exact ⟨.tuple [], fun H'' n => .tup (SqT.of (n _ _ (nT nl1215 (((so1.trans s7).trans s8).trans ((s89.trans (s910.trans s1011)).trans sW) _ _ eo0)))) .nil, flT (by decide) (fun _ h => by simp at h), roOf (by decide +kernel)⟩
        · have hq1' : SqT K H8 q1 ((ls ++ List.replicate 8 1).map V.int) := catI hq1 (by decide)
          exact ⟨_, fun H'' n => Od.ints (sT n (sT_nl (sT ((s89.trans (s910.trans s1011)).trans sW) hq1') nl1215)), intsThing (fun n hn => by
            rcases List.mem_append.mp hn with hn | hn
            · exact bds n hn
            · rw [(List.mem_replicate.mp hn).2]
              decide) (by rw [List.length_append, List.length_replicate]; omega)⟩
        · have hq2' : SqT K H9 q2 ((ls ++ [0]).map V.int) := catI hq2 rfl
          exact ⟨_, fun H'' n => Od.ints (sT n (sT_nl (sT ((s910.trans s1011).trans sW) hq2') nl1215)), intsThing (fun n hn => by
            rcases List.mem_append.mp hn with hn | hn
            · exact bds n hn
            · rw [List.mem_singleton.mp hn]
              decide) (by rw [List.length_append]; show _ + 1 ≤ _; omega)⟩
        · have hq3' : SqT K H10 q3 ((ls ++ [41]).map V.int) := catI hq3 rfl
          exact ⟨_, fun H'' n => Od.ints (sT n (sT_nl (sT (s1011.trans sW) hq3') nl1215)), intsThing (fun n hn => by
            rcases List.mem_append.mp hn with hn | hn
            · exact bds n hn
            · rw [List.mem_singleton.mp hn]
              decide) (by rw [List.length_append]; show _ + 1 ≤ _; omega)⟩
        · refine ⟨.tuple (ls.map PyData.int ++ [.bool true]), fun H'' n => .tup (sT n (sT_nl (sT sW hq4) nl1215)) (OdAll.append (.cons (.bl _) .nil) (OdAll.ints ls)), flT (by rw [List.length_append, List.length_map]; show _ + 1 ≤ _; omega) (fun x hx => ?_), (Ro.tup (k := 0) (n := 0) (fun x hx => ?_) (Nat.le_refl _)).up (by decide) (by rw [List.length_append, List.length_map]; show (_ + 1) * _ ≤ _; omega)⟩
          · rcases List.mem_append.mp hx with hx | hx
            · obtain ⟨m, _, rfl⟩ := List.mem_map.mp hx
              exact fun _ z => by cases z
            · rw [List.mem_singleton.mp hx]
              exact fun _ z => by cases z
          · rcases List.mem_append.mp hx with hx | hx
            · obtain ⟨m, hm, rfl⟩ := List.mem_map.mp hx
              exact .int (bds m hm).1 (bds m hm).2
            · rw [List.mem_singleton.mp hx]
              exact .of (.bl _)
        · exact ⟨_, fun _ _ => .non, noT (fun _ z => by cases z), roOf (by decide +kernel)⟩
        · exact ⟨_, fun _ _ => .int _, noT (fun _ z => by cases z), roOf (by decide +kernel)⟩
        · refine ⟨d, fun H'' n => od H'' ((nlW.trans nl15).trans (Nl.same n)) fun b o hb e => ?_, ll, ro⟩
          exact n _ _ (mv15 b o (tp12.ne hb) (but b o (fun z => by rw [z, eW] at hb; cases hb) e))
      have r9 : r.toNat < ([V.ref X, .ref o0, .ref q1, .ref q2, .ref q3, .ref q4, .non, .int 5] ++ [v]).length := by
        show r.toNat < 9
        omega
      obtain ⟨x, hx⟩ : ∃ x, ([V.ref X, .ref o0, .ref q1, .ref q2, .ref q3, .ref q4, .non, .int 5] ++ [v])[r.toNat]? = some x := ⟨_, List.getElem?_eq_getElem r9⟩
      obtain ⟨dx, odx, okx⟩ := things x (List.mem_of_getElem? hx)
      refine ⟨W, _, r, x, rfl, rfl, SqL.of eW15, atI_of r0 hx, .ref b, rfl, by show 2 ≤ sizeLine; decide, fun u nu => ?_⟩
      have su := same_upd (o := .tup [x, .ref b]) nu
      have mvZ : Moved t H H15 := fun b o nb e => mv15 b o nb (but b o (ne_of_none (s311 _ _ (mvA b o nb e)) nW) (mv13 b o nb (s312 _ _ (mvA b o nb e))))
      have nlZ : Nl H3 (upd H15 u (.tup [x, .ref b])) := ((Nl.same s312).trans nl1215).trans (Nl.same su)
      exact q u x (.ref b) dx _ _ (odx _ su) (.tup (sT_nl eb3 nlZ) (odRows (tu3.nlT nlZ))) okx.1.1 (lim2_of (by rw [List.length_map]; omega) rlim) okx.2 rro (mvZ.trans (Moved.same su)) (tp15.keep su) upd_same
    · refine ⟨_, rfl, rfl, false, eqFi (by decide), iteF ⟨_, rfl, rfl, true, eqTi rfl, iteT ?_⟩⟩
      have zr : (ps.map V.ref).length = rs.length := by rw [List.length_map]; exact zl
      have d0 : (0 : Int) ≤ 60 / (((ps.map V.ref).length : Nat) : Int) := Int.ediv_nonneg (by decide) (by omega)
      have d1 : (60 : Int) / (((ps.map V.ref).length : Nat) : Int) ≤ 60 := Int.ediv_le_self _ (by decide)
      have d2 : (60 : Int) / (((ps.map V.ref).length : Nat) : Int) * (((ps.map V.ref).length : Nat) : Int) ≤ 60 := Int.ediv_mul_le _ (by omega)
      refine ⟨.ref b, rfl, .ref b, rfl, b, _, rfl, .inr eb3, 60, _, rfl, rfl, wide_div (b := 60) (by omega) (by omega) (by decide) (by decide), _, _, rfl, rfl, b, _, _, rfl, rfl, eb3, by omega, by omega, by omega, fun lg H4 s4 hlg => ?_⟩
      obtain ⟨kk, ekk⟩ : ∃ kk : Nat, kk = ((60 : Int) / (((ps.map V.ref).length : Nat) : Int) + 1).toNat := ⟨_, rfl⟩
      have kz : kk * rs.length ≤ 120 := by
        have : ((kk * rs.length : Nat) : Int) ≤ 120 := by
          rw [Int.natCast_mul, show (kk : Int) = (60 : Int) / (((ps.map V.ref).length : Nat) : Int) + 1 by omega, Int.add_mul, ← zr]
          omega
        omega
      have hlg' : SqT K H4 lg (List.replicate kk (ps.map V.ref)).flatten := by
        rw [ekk]
        exact hlg
      have s4 : Same H3 H4 := s4
      -- the things
      refine ⟨.ref b, rfl, b, _, rfl, .inr (sT s4 eb3), fun X nX => ?_⟩
      have sX := same_upd (o := .lst (ps.map V.ref)) nX
      have eX : upd H4 X (.lst (ps.map V.ref)) X = some (.lst (ps.map V.ref)) := upd_same
      have Xt : X ≠ t := (tp3.keep s4).ne nX
      generalize upd H4 X (.lst (ps.map V.ref)) = H5 at *
      refine ⟨Nat.zero_le _, fun o0 no0 => ?_⟩
      have so0 := same_upd (o := .tup []) no0
      have eo0 : upd H5 o0 (.tup []) o0 = some (.tup []) := upd_same
      generalize upd H5 o0 (.tup []) = H6 at *
      refine ⟨.ref lg, rfl, fun o1 no1 => ?_⟩
      have so1 := same_upd (o := .dK []) no1
      have eo1 : upd H6 o1 (.dK []) o1 = some (.dK []) := upd_same
      generalize upd H6 o1 (.dK []) = H7 at *
      have s37 : Same H3 H7 := ((s4.trans sX).trans so0).trans so1
      obtain ⟨r0p, hr0p⟩ : ∃ r0p, ps[0]? = some r0p := ⟨_, List.getElem?_eq_getElem (by omega)⟩
      have hr0 : (ps.map V.ref)[0]? = some (V.ref r0p) := by rw [List.getElem?_map, hr0p]; rfl
      obtain ⟨r0q, row0, e1, hrow0, er0⟩ := tu3.get hr0
      cases e1
      have row0R := R.2.2.2 _ _ hrow0
      have rb0 : ∀ n ∈ row0, -1000000000 ≤ n ∧ n ≤ 1000000000 := fun n hn => by have := row0R.1 n hn; omega
      have tp7 := tp3.keep s37
      refine ⟨.ref b, rfl, b, _, 0, .ref r0p, rfl, rfl, sT s37 eb3, atI_nat (j := 0) hr0, .ref t, rfl, t, sc, rfl, tp7, fun v d H8 od ll ro mv8 tp8 => ?_⟩
      have nl8 : Nl H7 H8 := .moved tp7 mv8
      have eb8 := sT_nl (sT s37 eb3) nl8
      refine ⟨.ref b, rfl, Nat.zero_le _, fun o2 no2 => ?_⟩
      have so2 := same_upd (o := .tup []) no2
      have eo2 : upd H8 o2 (.tup []) o2 = some (.tup []) := upd_same
      generalize upd H8 o2 (.tup []) = H9 at *
      refine ⟨by show 1 ≤ sizeLine; decide, fun o3 no3 => ?_⟩
      have so3 := same_upd (o := .tup [V.ref o2]) no3
      refine ⟨b, o3, _, _, rfl, rfl, sT (so2.trans so3) eb8, SqT.of upd_same, by rw [zr]; show rs.length + 1 ≤ 2 ^ 24; omega, fun z1 H11 s11 hz1 => ?_⟩
      have s911 : Same H9 H11 := so3.trans s11
      have s811 : Same H8 H11 := so2.trans s911
      refine ⟨by show 8 ≤ sizeLine; decide, fun W nW => ?_⟩
      have sW := same_upd (o := .lst [V.ref X, .ref o0, .ref lg, .non, .ref o1, .ref r0p, v, .ref z1]) nW
      have eW : upd H11 W (.lst [V.ref X, .ref o0, .ref lg, .non, .ref o1, .ref r0p, v, .ref z1]) W = some (.lst [V.ref X, .ref o0, .ref lg, .non, .ref o1, .ref r0p, v, .ref z1]) := upd_same
      have tp11 := tp8.keep s811
      have hWt : W ≠ t := tp11.ne nW
      generalize upd H11 W (.lst [V.ref X, .ref o0, .ref lg, .non, .ref o1, .ref r0p, v, .ref z1]) = H12 at *
      have s812 := s811.trans sW
      have tp12 := tp11.keep sW
      refine ⟨.ref a, rfl, .ref W, rfl, .ref t, rfl, t, sc, 8, rfl, ⟨by decide, by decide⟩, tp12, fun r H13 r0 r1' mv13 tp13 => ?_⟩
      have nl13 : Nl H12 H13 := .moved tp12 mv13
      have eW13 := mv13 W _ hWt eW
      have n37 := Nl.same s37
      have n713 : Nl H7 H13 := (nl8.trans (Nl.same s812)).trans nl13
      have n313 := n37.trans n713
      have rro60 : ∀ x ∈ rs.map My.dI, Ro 1 60 x := fun x hx => by
        obtain ⟨rw', hr', rfl⟩ := List.mem_map.mp hx
        obtain ⟨i, hi, e⟩ := List.getElem_of_mem hr'
        have y := R.2.2.2 i rw' (by rw [List.getElem?_eq_getElem hi, e])
        exact Ro.ints (fun n hn => by have := y.1 n hn; omega) y.2.1
      have things : ∀ x ∈ [V.ref X, .ref o0, .ref lg, .non, .ref o1, .ref r0p, v, .ref z1], ∃ d, (∀ H'', Same H13 H'' → Od K H'' x d) ∧ Lim2 d ∧ Ro 4 150000 d := by
        intro x hx
        simp only [List.mem_cons, List.not_mem_nil, or_false] at hx
        rcases hx with rfl | rfl | rfl | rfl | rfl | rfl | rfl | rfl
        · exact ⟨.list (rs.map My.dI), fun H'' n => .lst (n _ _ (mv13 X _ Xt (s812 _ _ (mv8 X _ Xt (so1 _ _ (so0 _ _ eX)))))) (odRows (tu3.nlT (n313.trans (Nl.same n)))), lim2_no (fun _ z => by cases z), (Ro.lst (k := 3) (n := 2000) (fun d hd => (rlim d hd).2) (Nat.le_refl _)).up (by decide) (by rw [List.length_map]; omega)⟩
        · exact ⟨.tuple [], fun H'' n => .tup (SqT.of (n _ _ (nT n713 (so1 _ _ eo0)))) .nil, (flT (by decide) (fun _ h => by simp at h)).2, (roOf (by decide +kernel) : Ro 3 2000 _).up (by decide) (by decide)⟩
        · refine ⟨.tuple (List.replicate kk (rs.map My.dI)).flatten, fun H'' n => .tup (sT n (sT_nl (sT ((sX.trans so0).trans so1) hlg') n713)) (OdAll.rep (odRows (tu3.nlT (n313.trans (Nl.same n)))) kk), lim2_of (by rw [len_flat, List.length_map]; omega) (fun d hd => rlim d (mem_flat hd)), (Ro.tup (k := 1) (n := 60) (fun d hd => rro60 d (mem_flat hd)) (Nat.le_refl _)).up (by decide) (by rw [len_flat, List.length_map]; omega)⟩
        · exact ⟨_, fun _ _ => .non, lim2_no (fun _ z => by cases z), (roOf (by decide +kernel) : Ro 3 2000 _).up (by decide) (by decide)⟩
        · exact ⟨.dict [], fun H'' n => .dct (n _ _ (nD n713 eo1)) .nil, lim2_no (fun _ z => by cases z), (roOf (by decide +kernel) : Ro 3 2000 _).up (by decide) (by decide)⟩
        · exact ⟨_, fun H'' n => Od.ints (SqT.of (n _ _ (nT n313 er0))), (intsThing rb0 (by omega)).1.2, (intsThing rb0 (by omega)).2.up (by decide) (by decide)⟩
        · exact ⟨d, fun H'' n => od H'' (((Nl.same s812).trans nl13).trans (Nl.same n)) fun b' o hb e => n _ _ (mv13 b' o (tp7.ne hb) (s812 _ _ e)), ll.2, ro.up (by decide) (by decide)⟩
        · refine ⟨.tuple (rs.map My.dI ++ [.tuple []]), fun H'' n => .tup (sT n (sT_nl (sT sW hz1) nl13)) (OdAll.append (.cons (.tup (SqT.of (n _ _ (nT nl13 ((s911.trans sW) _ _ eo2)))) .nil) .nil) (odRows (tu3.nlT (n313.trans (Nl.same n))))), lim2_of (by rw [List.length_append, List.length_map]; show _ + 1 ≤ _; omega) (fun d hd => ?_), (Ro.tup (k := 3) (n := 2000) (fun d hd => ?_) (Nat.le_refl _)).up (by decide) (by rw [List.length_append, List.length_map]; show (_ + 1) * _ ≤ _; omega)⟩
          · rcases List.mem_append.mp hd with hd | hd
            · exact rlim d hd
            · rw [List.mem_singleton.mp hd]
              exact ⟨flT (by decide) (fun _ h => by simp at h), roOf (by decide +kernel)⟩
          · rcases List.mem_append.mp hd with hd | hd
            · exact (rlim d hd).2
            · rw [List.mem_singleton.mp hd]
              exact roOf (by decide +kernel)
      have r8 : r.toNat < [V.ref X, .ref o0, .ref lg, .non, .ref o1, .ref r0p, v, .ref z1].length := by
        show r.toNat < 8
        omega
      obtain ⟨x, hx⟩ : ∃ x, [V.ref X, .ref o0, .ref lg, .non, .ref o1, .ref r0p, v, .ref z1][r.toNat]? = some x := ⟨_, List.getElem?_eq_getElem r8⟩
      obtain ⟨dx, odx, l2x, rox⟩ := things x (List.mem_of_getElem? hx)
      refine ⟨W, _, r, x, rfl, rfl, SqL.of eW13, atI_of r0 hx, by show 2 ≤ sizeLine; decide, fun u nu => ?_⟩
      have su := same_upd (o := .tup [V.ref a, x]) nu
      have mvZ : Moved t H H13 := ((((mvA.trans (Moved.same s37)).trans mv8).trans (Moved.same s812))).trans mv13
      have nlZ : Nl H3 (upd H13 u (.tup [V.ref a, x])) := n313.trans (Nl.same su)
      exact q u (.ref a) x _ dx _ (odl nlZ) (odx _ su) lthing.1.1 l2x lthing.2 rox (mvZ.trans (Moved.same su)) (tp13.keep su) upd_same
    · refine ⟨_, rfl, rfl, false, eqFi (by decide), iteF ⟨_, rfl, rfl, false, eqFi (by decide), iteF ⟨_, rfl, rfl, true, eqTi rfl, iteT ?_⟩⟩⟩
      refine ⟨.ref M, rfl, .int at_, rfl, M, _, at_, .ref rp, rfl, rfl, SqL.of eM3, atI_of a0 hrp', ?_⟩
      refine ⟨.ref rp, rfl, rp, _, rfl, .inr (SqT.of erp), fun L nL => ?_⟩
      have sL := same_upd (o := .lst (fI row)) nL
      have eL : upd H3 L (.lst (fI row)) L = some (.lst (fI row)) := upd_same
      generalize upd H3 L (.lst (fI row)) = H4 at *
      have tp4 := tp3.keep sL
      refine ⟨.ref t, rfl, t, sc, rfl, tp4, fun v d H5 od ll ro mv5 tp5 => ?_⟩
      have nl5 : Nl H4 H5 := .moved tp4 mv5
      have eL5 := mv5 L _ (tp3.ne nL) eL
      have erp5 := nT nl5 (sL _ _ erp)
      have ea5 := (ea3.same sL).moved hat mv5
      refine ⟨.ref rp, rfl, .ref a, rfl, a, _, rfl, .inr ea5.sq, by show 1 ≤ sizeLine; decide, fun o1 no1 => ?_⟩
      have so1 := same_upd (o := .tup [V.int (((ls.map V.int).length : Nat) : Int)]) no1
      refine ⟨rp, o1, _, _, rfl, rfl, SqT.of (so1 _ _ erp5), SqT.of upd_same, by show (row.map V.int).length + 1 ≤ sizeLine; rw [List.length_map]; show _ ≤ 2 ^ 24; omega, fun z1 H7 s7 hz1 => ?_⟩
      have s57 : Same H5 H7 := so1.trans s7
      refine ⟨.ref rp, rfl, 1, rfl, by show 1 ≤ sizeLine; decide, fun o2 no2 => ?_⟩
      have so2 := same_upd (o := .tup [V.int (-1)]) no2
      refine ⟨rp, o2, _, _, rfl, rfl, SqT.of (so2 _ _ (s57 _ _ erp5)), SqT.of upd_same, by show (row.map V.int).length + 1 ≤ sizeLine; rw [List.length_map]; show _ ≤ 2 ^ 24; omega, fun z2 H9 s9 hz2 => ?_⟩
      have s59 : Same H5 H9 := (s57.trans so2).trans s9
      have s79 : Same H7 H9 := so2.trans s9
      refine ⟨by show 5 ≤ sizeLine; decide, fun W nW => ?_⟩
      have sW := same_upd (o := .lst [V.ref L, v, .ref z1, .ref z2, .non]) nW
      have eW : upd H9 W (.lst [V.ref L, v, .ref z1, .ref z2, .non]) W = some (.lst [V.ref L, v, .ref z1, .ref z2, .non]) := upd_same
      have tp9 := tp5.keep s59
      have hWt : W ≠ t := tp9.ne nW
      generalize upd H9 W (.lst [V.ref L, v, .ref z1, .ref z2, .non]) = H10 at *
      have tp10 := tp9.keep sW
      refine ⟨.ref t, rfl, t, sc, 5, rfl, ⟨by decide, by decide⟩, tp10, fun r H11 r0 r1' mv11 tp11 => ?_⟩
      have nl11 : Nl H10 H11 := .moved tp10 mv11
      have eW11 := mv11 W _ hWt eW
      have s510 := s59.trans sW
      have eM11 := mv11 M _ hMt (s510 _ _ (mv5 M _ hMt (sL _ _ eM3)))
      have mvK : Moved t H H11 := (((mvA.trans (Moved.same sL)).trans mv5).trans (Moved.same s510)).trans mv11
      have nlK : Nl H3 H11 := (((Nl.same sL).trans nl5).trans (Nl.same s510)).trans nl11
      have hLt : L ≠ t := tp3.ne nL
      have things : ∀ x ∈ [V.ref L, v, .ref z1, .ref z2, .non], ∃ d, (∀ H'', Nl H11 H'' → NewStays H3 H11 H'' → Od K H'' x d) ∧ ((Lim d ∧ Lim2 d) ∧ Ro 3 2000 d) := by
        intro x hx
        simp only [List.mem_cons, List.not_mem_nil, or_false] at hx
        rcases hx with rfl | rfl | rfl | rfl | rfl
        · exact ⟨.list (row.map PyData.int), fun H'' n st => .lst (st _ _ nL (mv11 L _ hLt (s510 _ _ eL5))) (OdAll.ints row), noT (fun _ z => by cases z), (Ro.lst (k := 0) (n := 0) (fun x hx => by
            obtain ⟨m, hm, rfl⟩ := List.mem_map.mp hx
            exact .int (rb m hm).1 (rb m hm).2) (Nat.le_refl _)).up (by decide) (by rw [List.length_map]; omega)⟩
        · refine ⟨d, fun H'' n st => od H'' (((Nl.same s510).trans nl11).trans n) fun b o hb e => ?_, ll, ro⟩
          have hb3 : H3 b = none := Same.free sL hb
          have hbt : b ≠ t := tp4.ne hb
          exact st b o hb3 (mv11 b o hbt (s510 _ _ e))
        · have hz1' : SqT K H7 z1 ((row ++ [(ls.length : Int)]).map V.int) := catI hz1 (by rw [List.length_map]; rfl)
          exact ⟨_, fun H'' n st => Od.ints (sT_nl (sT (s79.trans sW) hz1') (nl11.trans n)), intsThing (fun n hn => by
            rcases List.mem_append.mp hn with hn | hn
            · exact rb n hn
            · rw [List.mem_singleton.mp hn]
              omega) (by rw [List.length_append]; show _ + 1 ≤ _; omega)⟩
        · have hz2' : SqT K H9 z2 ((row ++ [(-1 : Int)]).map V.int) := catI hz2 rfl
          exact ⟨_, fun H'' n st => Od.ints (sT_nl (sT sW hz2') (nl11.trans n)), intsThing (fun n hn => by
            rcases List.mem_append.mp hn with hn | hn
            · exact rb n hn
            · rw [List.mem_singleton.mp hn]
              decide) (by rw [List.length_append]; show _ + 1 ≤ _; omega)⟩
        · exact ⟨_, fun _ _ _ => .non, noT (fun _ z => by cases z), roOf (by decide +kernel)⟩
      have r5 : r.toNat < [V.ref L, v, .ref z1, .ref z2, .non].length := by
        show r.toNat < 5
        omega
      obtain ⟨x, hx⟩ : ∃ x, [V.ref L, v, .ref z1, .ref z2, .non][r.toNat]? = some x := ⟨_, List.getElem?_eq_getElem r5⟩
      obtain ⟨dx, odx, okx⟩ := things x (List.mem_of_getElem? hx)
      refine ⟨W, _, r, x, rfl, rfl, SqL.of eW11, atI_of r0 hx, ?_⟩
      refine ⟨.ref M, rfl, .int at_, rfl, M, _, at_, at_.toNat, rfl, rfl, eM11, aM, ?_⟩
      exact ⟨_, rfl, rfl, false, eqFi (by decide), iteF ⟨_, rfl, rfl, false, eqFi (by decide), iteF ⟨_, rfl, rfl, false, eqFi (by decide), iteF ⟨_, rfl, rfl, false, eqFi (by decide), iteF ⟨.ref a, rfl, .ref M, rfl, M, _, rfl, .inl ⟨SqL.of upd_same, fun p np => ⟨by show 2 ≤ sizeLine; decide, fun u nu => put x dx H11 odx okx eM11 mvK tp11 nlK p np u nu⟩⟩⟩⟩⟩⟩⟩
    · refine ⟨_, rfl, rfl, false, eqFi (by decide), iteF ⟨_, rfl, rfl, false, eqFi (by decide), iteF ⟨_, rfl, rfl, false, eqFi (by decide), iteF ⟨_, rfl, rfl, true, eqTi rfl, iteT ?_⟩⟩⟩⟩
      obtain ⟨jx, hjx, hjn⟩ := first_of m1
      have hj := (List.getElem?_eq_some_iff.mp hjx).1
      refine ⟨.ref M, rfl, .int at_, rfl, M, _, at_, .ref rp, rfl, rfl, SqL.of eM3, atI_of a0 hrp', ?_⟩
      refine ⟨.ref a, rfl, ⟨a, _, rfl, ea3⟩, a, ls, 1, jx, rfl, rfl, ea3.sq, hjx, hjn, by show 1 ≤ sizeLine; decide, fun o1 no1 => ?_⟩
      have so1 := same_upd (o := .tup [V.int (jx : Int)]) no1
      refine ⟨rp, o1, _, _, rfl, rfl, SqT.of (so1 _ _ erp), SqT.of upd_same, by show (row.map V.int).length + 1 ≤ sizeLine; rw [List.length_map]; show _ ≤ 2 ^ 24; omega, fun z1 H5 s5 hz1 => ?_⟩
      have s35 := so1.trans s5
      have hz1' : SqT K H5 z1 ((row ++ [(jx : Int)]).map V.int) := catI hz1 rfl
      refine ⟨.ref M, rfl, .int at_, rfl, M, _, at_, at_.toNat, rfl, rfl, s35 _ _ eM3, aM, ?_⟩
      have odx : ∀ H'', Nl H5 H'' → NewStays H3 H5 H'' → Od K H'' (.ref z1) (.tuple ((row ++ [(jx : Int)]).map PyData.int)) := fun H'' n st => Od.ints (sT_nl hz1' n)
      have okx := intsThing (ns := row ++ [(jx : Int)]) (fun n hn => by
            rcases List.mem_append.mp hn with hn | hn
            · exact rb n hn
            · rw [List.mem_singleton.mp hn]
              omega) (by rw [List.length_append]; show _ + 1 ≤ _; omega)
      exact ⟨_, rfl, rfl, false, eqFi (by decide), iteF ⟨_, rfl, rfl, false, eqFi (by decide), iteF ⟨_, rfl, rfl, false, eqFi (by decide), iteF ⟨.ref a, rfl, .ref M, rfl, M, _, rfl, .inl ⟨SqL.of upd_same, fun p np => ⟨by show 2 ≤ sizeLine; decide, fun u nu => put _ _ H5 odx okx (s35 _ _ eM3) (mvA.trans (Moved.same s35)) (tp3.keep s35) (Nl.same s35) p np u nu⟩⟩⟩⟩⟩⟩
    · refine ⟨_, rfl, rfl, false, eqFi (by decide), iteF ⟨_, rfl, rfl, false, eqFi (by decide), iteF ⟨_, rfl, rfl, false, eqFi (by decide), iteF ⟨_, rfl, rfl, false, eqFi (by decide), iteF ⟨_, rfl, rfl, true, eqTi rfl, iteT ?_⟩⟩⟩⟩⟩
      refine ⟨.ref M, rfl, .int at_, rfl, M, _, at_, .ref rp, rfl, rfl, SqL.of eM3, atI_of a0 hrp', 1, rfl, rp, _, rfl, SqT.of erp, fun z1 H5 s5 hz1 => ?_⟩
      have hz1' : SqT K H5 z1 ((row.drop 1).map V.int) := by
        have e : cutV (fI row) (some 1) none = (row.drop 1).map V.int := by
          rw [List.map_drop]
          refine cut_fromL _ (n := 1) ?_
          show 1 ≤ (row.map V.int).length
          rw [List.length_map]
          cases row with
          | nil =>
            have := rowR.2.2
            simp [Tb.rsum] at this
            omega
          | cons _ _ => simp
        rw [← e]
        exact hz1
      refine ⟨.ref M, rfl, .int at_, rfl, M, _, at_, at_.toNat, rfl, rfl, s5 _ _ eM3, aM, ?_⟩
      have odx : ∀ H'', Nl H5 H'' → NewStays H3 H5 H'' → Od K H'' (.ref z1) (.tuple ((row.drop 1).map PyData.int)) := fun H'' n st => Od.ints (sT_nl hz1' n)
      have okx := intsThing (ns := row.drop 1) (fun n hn => rb n (List.mem_of_mem_drop hn)) (by rw [List.length_drop]; omega)
      exact ⟨_, rfl, rfl, false, eqFi (by decide), iteF ⟨_, rfl, rfl, false, eqFi (by decide), iteF ⟨.ref a, rfl, .ref M, rfl, M, _, rfl, .inl ⟨SqL.of upd_same, fun p np => ⟨by show 2 ≤ sizeLine; decide, fun u nu => put _ _ H5 odx okx (s5 _ _ eM3) (mvA.trans (Moved.same s5)) (tp3.keep s5) (Nl.same s5) p np u nu⟩⟩⟩⟩⟩
    · refine ⟨_, rfl, rfl, false, eqFi (by decide), iteF ⟨_, rfl, rfl, false, eqFi (by decide), iteF ⟨_, rfl, rfl, false, eqFi (by decide), iteF ⟨_, rfl, rfl, false, eqFi (by decide), iteF ⟨_, rfl, rfl, false, eqFi (by decide), iteF ⟨_, rfl, rfl, true, eqTi rfl, iteT ?_⟩⟩⟩⟩⟩⟩
      refine ⟨.ref M, rfl, .int at_, rfl, M, _, at_, .ref rp, rfl, rfl, SqL.of eM3, atI_of a0 hrp', rp, rfl, ⟨_, SqT.of erp⟩, fun D nD => lc_tup (K := K) (a := rp) (xs := row.map V.int)
        (fun i H' => Same H3 H' ∧ H' D = some (.lst ((row.take i).map fun n => V.bl (decide (V.int n = V.int 1)))))
        ⟨same_upd nD, upd_same⟩ (fun i H' _ p => SqT.of (p.1 _ _ erp)) (fun i x H' hx p => ?_) (fun H5 p => ?_)⟩
      · obtain ⟨sm, eD⟩ := p
        rw [List.getElem?_map] at hx
        obtain ⟨n, hn, rfl⟩ := Option.map_eq_some_iff.mp hx
        have hi := (List.getElem?_eq_some_iff.mp hn).1
        refine ⟨rfl, .int n, rfl, rfl, _, eD, by rw [List.length_map, List.length_take]; exact small1000 (by omega), same_put sm nD, ?_⟩
        rw [upd_same, take_snoc hn, List.map_append]
        rfl
      · obtain ⟨s5, eD⟩ := p
        rw [List.length_map, List.take_of_length_le (Nat.le_refl _)] at eD
        refine ⟨D, _, rfl, .inl ⟨SqL.of eD, fun z1 nz1 => ?_⟩⟩
        have s6 := same_upd (o := .tup (row.map fun n => V.bl (decide (V.int n = V.int 1)))) nz1
        have e6 : upd H5 z1 (.tup (row.map fun n => V.bl (decide (V.int n = V.int 1)))) z1 = some (.tup (row.map fun n => V.bl (decide (V.int n = V.int 1)))) := upd_same
        have s36 := s5.trans s6
        refine ⟨.ref M, rfl, .int at_, rfl, M, _, at_, at_.toNat, rfl, rfl, s36 _ _ eM3, aM, ?_⟩
        have odx : ∀ H'', Nl (upd H5 z1 (.tup (row.map fun n => V.bl (decide (V.int n = V.int 1))))) H'' → NewStays H3 (upd H5 z1 (.tup (row.map fun n => V.bl (decide (V.int n = V.int 1))))) H'' → Od K H'' (.ref z1) (.tuple (row.map fun n => PyData.bool (decide (V.int n = V.int 1)))) := fun H'' n st => .tup (SqT.of (nT n e6)) (odBools _ row)
        have okx : (Lim (.tuple (row.map fun n => PyData.bool (decide (V.int n = V.int 1)))) ∧ Lim2 (.tuple (row.map fun n => PyData.bool (decide (V.int n = V.int 1))))) ∧ Ro 3 2000 (.tuple (row.map fun n => PyData.bool (decide (V.int n = V.int 1)))) := ⟨flT (by rw [List.length_map]; omega) (fun x hx => by
          obtain ⟨n, _, rfl⟩ := List.mem_map.mp hx
          exact fun _ z => by cases z), (Ro.tup (k := 0) (n := 0) (fun x hx => by
            obtain ⟨n, _, rfl⟩ := List.mem_map.mp hx
            exact .of (.bl _)) (Nat.le_refl _)).up (by decide) (by rw [List.length_map]; omega)⟩
        exact ⟨_, rfl, rfl, false, eqFi (by decide), iteF ⟨.ref a, rfl, .ref M, rfl, M, _, rfl, .inl ⟨SqL.of upd_same, fun p np => ⟨by show 2 ≤ sizeLine; decide, fun u nu => put _ _ _ odx okx (s36 _ _ eM3) (mvA.trans (Moved.same s36)) (tp3.keep s36) (Nl.same s36) p np u nu⟩⟩⟩⟩
    · refine ⟨_, rfl, rfl, false, eqFi (by decide), iteF ⟨_, rfl, rfl, false, eqFi (by decide), iteF ⟨_, rfl, rfl, false, eqFi (by decide), iteF ⟨_, rfl, rfl, false, eqFi (by decide), iteF ⟨_, rfl, rfl, false, eqFi (by decide), iteF ⟨_, rfl, rfl, false, eqFi (by decide), iteF ⟨_, rfl, rfl, true, eqTi rfl, iteT ?_⟩⟩⟩⟩⟩⟩⟩
      -- made.insert(at, made[..])
      refine ⟨.ref M, rfl, .inl ⟨rfl, _, SqL.of eM3⟩, .int at_, rfl, .ref M, rfl, .ref t, rfl, .ref M, rfl, M, _, rfl, .inl (SqL.of eM3), t, sc, _, rfl, ⟨by rw [List.length_map]; omega, by rw [List.length_map]; omega⟩, tp3, fun r H4 r0 r1' mv4 tp4 => ?_⟩
      rw [List.length_map] at r1'
      have eM4 := mv4 M _ hMt eM3
      have nl4 : Nl H3 H4 := .moved tp3 mv4
      obtain ⟨qp, hqp⟩ : ∃ qp, ps[r.toNat]? = some qp := ⟨_, List.getElem?_eq_getElem (by omega)⟩
      have hqp' : (ps.map V.ref)[r.toNat]? = some (V.ref qp) := by rw [List.getElem?_map, hqp]; rfl
      obtain ⟨qp2, qrow, e1, hqrow, eqp⟩ := tu3.get hqp'
      cases e1
      refine ⟨M, _, r, _, rfl, rfl, SqL.of eM4, atI_of r0 hqp', M, _, at_, _, rfl, rfl, eM4, by rw [List.length_map]; exact small1000 (by omega), a0, by omega, ?_⟩
      have odr4 : OdAll K H4 (ps.map V.ref) (rs.map My.dI) := odRows (mv4.tups tp3 tu3)
      have eqp4 := nT nl4 eqp
      obtain ⟨H5, eH5⟩ : ∃ H5, H5 = upd H4 M (.lst ((ps.map V.ref).take at_.toNat ++ [V.ref qp] ++ (ps.map V.ref).drop at_.toNat)) := ⟨_, rfl⟩
      rw [← eH5]
      have nl5 : Nl H4 H5 := by rw [eH5]; exact Nl.put eM4
      have eM5 : H5 M = some (.lst ((ps.map V.ref).take at_.toNat ++ [V.ref qp] ++ (ps.map V.ref).drop at_.toNat)) := by rw [eH5]; exact upd_same
      have tp5 : Tape H5 t sc := by rw [eH5]; exact tp4.but hMt hMs
      have mv5 : Moved t H H5 := fun b o nb e => by
        rw [eH5, upd_ne (ne_of_none (mv1 b o nb e) nM)]
        exact mv4 b o nb (mvA b o nb e)
      have odr5 : OdAll K H5 (ps.map V.ref) (rs.map My.dI) := odRows ((mv4.tups tp3 tu3).nlT nl5)
      have od5 := OdAll.append (OdAll.drop at_.toNat odr5) (OdAll.append (.cons (Od.ints (SqT.of (nT nl5 eqp4))) .nil) (OdAll.take at_.toNat odr5))
      refine ⟨.ref a, rfl, .ref M, rfl, M, _, rfl, .inl ⟨SqL.of eM5, fun p np => ⟨by show 2 ≤ sizeLine; decide, fun u nu => fin _ _ H5 eM5 od5 ?_ (fun d hd => ?_) mv5 tp5 (nl4.trans nl5) p np u nu⟩⟩⟩
      · simp only [List.length_append, List.length_take, List.length_drop, List.length_map, List.length_cons, List.length_nil]
        omega
      · rcases List.mem_append.mp hd with hd | hd
        · rcases List.mem_append.mp hd with hd | hd
          · exact rlim d (List.mem_of_mem_take hd)
          · rw [List.mem_singleton.mp hd]
            exact rlim _ (List.mem_map.mpr ⟨_, List.mem_of_getElem? hqrow, rfl⟩)
        · exact rlim d (List.mem_of_mem_drop hd)
end

/-! ### the law of tables judged -/
section
variable {P : Program} {w : World} {K : PySem.W.Frag} {mg : Str → Option Value} {base : Heap}
open RO9
theorem numsD_nodict {a b : Int} : ∀ {ds : List PyData}, ds.all (numD a b) = true → PyData.canLayAll0 ds = true
  | [], _ => by simp [PyData.canLayAll0]
  | d :: ds, h => by
    rw [List.all_cons, Bool.and_eq_true] at h
    have ih := numsD_nodict h.2
    have h1 := h.1
    simp only [PyData.canLayAll0, ih, Bool.and_true]
    cases d with
    | int _ => simp [PyData.canLay0]
    | _ => exact absurd (show false = true from h1) Bool.false_ne_true
theorem row_nodict {n : Int} {d : PyData} (h : isRowD n d = true) : d.canLay0 = true := by
  cases d with
  | tuple ds =>
    have h' : (decide (ds.length ≤ 60) && ds.all (numD 0 (n - 1))) = true := h
    rw [Bool.and_eq_true] at h'
    simp only [PyData.canLay0]
    exact numsD_nodict h'.2
  | _ => exact absurd (show false = true from h) Bool.false_ne_true
theorem badRow_none {ls : List Int} : ∀ {ds : List PyData} {i : Nat}, badRow ls i ds = none → PyData.canLayAll0 ds = true
  | [], _, _ => by simp [PyData.canLayAll0]
  | d :: ds, i, h => by
    have h' : (if rowOk ls i d then badRow ls (i + 1) ds else some i) = none := h
    by_cases c : rowOk ls i d = true
    · rw [if_pos c] at h'
      unfold rowOk at c
      rw [Bool.and_eq_true] at c
      simp only [PyData.canLayAll0, row_nodict c.1, badRow_none h', Bool.and_true]
    · rw [if_neg c] at h'
      cases h'
theorem told_nodict {dl dr : PyData} (h : faultD dl dr = none) : dl.canLay0 = true ∧ ∃ ds, dr = .tuple ds ∧ PyData.canLayAll0 ds = true := by
  unfold faultD at h
  by_cases c : isLoopsD dl = true
  · rw [if_pos c] at h
    refine ⟨?_, ?_⟩
    · cases dl with
      | tuple ds =>
        have h' : (decide (1 ≤ ds.length) && (decide (ds.length ≤ 8) && ds.all (numD 1 40))) = true := c
        rw [Bool.and_eq_true, Bool.and_eq_true] at h'
        simp only [PyData.canLay0]
        exact numsD_nodict h'.2.2
      | _ => exact absurd (show false = true from c) Bool.false_ne_true
    · cases dr with
      | tuple ds =>
        refine ⟨ds, rfl, ?_⟩
        have h' : (if 1 ≤ ds.length ∧ ds.length ≤ 60 then (badRow (intsD dl) 0 ds).map fun i => (("rows" : Str), (i : Int)) else some ("rows", -1)) = none := h
        by_cases c2 : 1 ≤ ds.length ∧ ds.length ≤ 60
        · rw [if_pos c2] at h'
          cases e : badRow (intsD dl) 0 ds with
          | none => exact badRow_none e
          | some _ =>
            rw [e] at h'
            cases h'
        · rw [if_neg c2] at h'
          cases h'
      | _ => exact absurd h (fun z => by cases z)
  · rw [if_neg c] at h
    cases h
theorem shp_of {k : Nat} {d : PyData} (h : d.canLay0 = true) (hd : d.depth ≤ k) : Shp k d := ⟨h, hd⟩
theorem fault_part {dl dr : PyData} {part : Str} {at_ : Int} (h : faultD dl dr = some (part, at_)) : PyData.canLay0 (.str part) = true := by
  have key : part = "loops" ∨ part = "rows" := by
    unfold faultD at h
    by_cases c : isLoopsD dl = true
    · rw [if_pos c] at h
      refine .inr ?_
      cases dr with
      | tuple ds =>
        have h' : (if 1 ≤ ds.length ∧ ds.length ≤ 60 then (badRow (intsD dl) 0 ds).map fun i => (("rows" : Str), (i : Int)) else some (("rows" : Str), (-1 : Int))) = some (part, at_) := h
        by_cases c2 : 1 ≤ ds.length ∧ ds.length ≤ 60
        · rw [if_pos c2] at h'
          obtain ⟨i, _, e⟩ := Option.map_eq_some_iff.mp h'
          cases e
          rfl
        · rw [if_neg c2] at h'
          cases h'
          rfl
      | _ =>
        have h' : some (("rows" : Str), (-1 : Int)) = some (part, at_) := h
        cases h'
        rfl
    · rw [if_neg c] at h
      cases h
      exact .inl rfl
  rcases key with rfl | rfl <;> decide +kernel
theorem neSelf (x : V) : V.bl (!decide (x = x)) = V.bl false := by
  rw [decide_eq_true rfl]
  rfl
theorem eqSelf (x : V) : V.bl (decide (x = x)) = V.bl true := by
  rw [decide_eq_true rfl]
theorem cut_ints (ls : List Int) (a b : Nat) : ∃ ms : List Int, cutV (ls.map V.int) (some (a : Int)) (some (b : Int)) = ms.map V.int ∧ (∀ n ∈ ms, n ∈ ls) ∧ ms.length ≤ b - min a ls.length := by
  refine ⟨(ls.drop (min a ls.length)).take (min b ls.length - min a ls.length), ?_, fun n hn => List.mem_of_mem_drop (List.mem_of_mem_take hn), ?_⟩
  · unfold cutV
    rw [HT.sIx_nat, HT.sIx_nat, List.length_map, List.map_take, List.map_drop]
  · rw [List.length_take]
    omega
def lawLevel : Nat := 10
def spLaw (K : PySem.W.Frag) : Sp := fun vs H Q _ => ∃ (a : Addr) (ns : List Int), vs = [.ref a] ∧ SqL K H a (ns.map V.int) ∧ ns.length ≤ 63 ∧ SysK K H ∧ ∀ H', Q (.bl true) H'
theorem ok_law (T : Tx K mg) : RG7.FnG P w K mg base 10 T.a_law T.d_law ["script"] (spLaw K) := by
  refine RG7.fnG T.F_law sc_law (fun vs H Q E h => ?_) (fun cdv A outer s H vs Q E noG hr h => ?_)
  · obtain ⟨a, ns, rfl, _⟩ := h
    rfl
  · obtain ⟨a, ns0, rfl, hS, hlen, hK, q⟩ := h
    refine ⟨_, ((pss_cons (ps_set (i := 1) sc_law.nd rfl (.inl rfl) (pe_call (ok__law_tape T) (hr.mono (by decide)) (by rfl) T.g__law_tape T.F__law_tape.kp T.b__law_tape .nil pass0 (pa_cons (pv 0) pa_nil)))
  (pss_cons (ps_set (i := 2) sc_law.nd rfl (.inl rfl) (pe_call (ok__law_loops T) (hr.mono (by decide)) (by rfl) T.g__law_loops T.F__law_loops.kp T.b__law_loops .nil pass0 (pa_cons (pv 1) (pa_cons pe_int (pa_cons pe_int pa_nil)))))
  (Evl.pss_cut (ps_if (pt_cmpR op_eq (pe_call (ok__law_pick T) (hr.mono (by decide)) (by rfl) T.g__law_pick T.F__law_pick.kp T.b__law_pick .nil pass0 (pa_cons (pv 1) (pa_cons pe_int pa_nil))) pe_int (nomark _)) (pss_one (ps_set (i := 2) sc_law.nd rfl (.inl rfl) (pe_op op_catF (pe_op catU (pe_tup (pa_cons pe_int pa_nil)) (pe_slice sl_tupU (pv 2) (po_some pe_int) (po_some pe_int))) (pe_tup (pa_cons pe_int pa_nil))))) pss_nil)
  (pss_cons (ps_set (i := 3) sc_law.nd rfl (.inl rfl) (pe_op op_add pe_int (pe_call (ok__law_pick T) (hr.mono (by decide)) (by rfl) T.g__law_pick T.F__law_pick.kp T.b__law_pick .nil pass0 (pa_cons (pv 1) (pa_cons pe_int pa_nil)))))
  (Evl.pss_cut (ps_if (pt_cmpR op_eq (pe_call (ok__law_pick T) (hr.mono (by decide)) (by rfl) T.g__law_pick T.F__law_pick.kp T.b__law_pick .nil pass0 (pa_cons (pv 1) (pa_cons pe_int pa_nil))) pe_int (nomark _)) (pss_one (ps_set (i := 3) sc_law.nd rfl (.inl rfl) pe_int)) pss_nil)
  (pss_cons (ps_set (i := 4) sc_law.nd rfl (.inl rfl) (pe_call (ok__law_rows T) (hr.mono (by decide)) (by rfl) T.g__law_rows T.F__law_rows.kp T.b__law_rows .nil pass0 (pa_cons (pv 1) (pa_cons (pv 2) (pa_cons (pv 3) pa_nil)))))
  (pss_cons (ps_for PassesOwn.never rfl (pi_range1 (by rfl) T.m_range (pa_cons pe_int pa_nil)) (pg_name (i := 5) sc_law.nd rfl (.inl rfl))
   (pss_cons (ps_set (i := 6) sc_law.nd rfl (.inl rfl) (pe_tup (pa_cons (pv 2) (pa_cons (pv 4) pa_nil))))
  (Evl.pss_cut (ps_if (pt_cmpR op_gt (pe_call (ok__law_pick T) (hr.mono (by decide)) (by rfl) T.g__law_pick T.F__law_pick.kp T.b__law_pick .nil pass0 (pa_cons (pv 1) (pa_cons pe_int pa_nil))) pe_int (nomark _)) (pss_one (ps_set (i := 6) sc_law.nd rfl (.inl rfl) (pe_call (ok__law_bent T) (hr.mono (by decide)) (by rfl) T.g__law_bent T.F__law_bent.kp T.b__law_bent .nil pass0 (pa_cons (pv 1) (pa_cons (pv 2) (pa_cons (pv 4) pa_nil)))))) pss_nil)
  (pss_cons (ps_set (i := 7) sc_law.nd rfl (.inl rfl) (pe_callB (RO9.call_reprO (by exact noG) (units65 hr)) (by rfl) T.m_repr (by decide +kernel) (pa_cons (pv 6) pa_nil)))
  (pss_cons (ps_set (i := 8) sc_law.nd rfl (.inl rfl) (pe_call (ok__law_fault T) (hr.mono (by decide)) (by rfl) T.g__law_fault T.F__law_fault.kp T.b__law_fault .nil pass0 (pa_cons (pe_ix ix_tup (pv 6) pe_int (fun _ _ => rfl)) (pa_cons (pe_ix ix_tup (pv 6) pe_int (fun _ _ => rfl)) pa_nil))))
  (pss_cons (ps_set (i := 9) sc_law.nd rfl (.inl rfl) (pe_call (ok__law_tried T) (hr.mono (by decide)) (by rfl) T.g__law_tried T.F__law_tried.kp T.b__law_tried .nil pass0 (pa_cons (pe_ix ix_tup (pv 6) pe_int (fun _ _ => rfl)) (pa_cons (pe_ix ix_tup (pv 6) pe_int (fun _ _ => rfl)) pa_nil))))
  (pss_cons (ps_if (pt_cmpR op_ne (pe_callB (RO9.call_reprO (by exact noG) (units65 hr)) (by rfl) T.m_repr (by decide +kernel) (pa_cons (pv 6) pa_nil)) (pv 7) (nomark _)) (pss_one (ps_ret pe_bl)) pss_nil)
  (pss_cons (ps_if (PW.pt (pw_and (pt_cmpR op_notN (pv 8) pe_non (nomark _)) (pw_and1 (PW.pt (pw_or (pt_cmpR (op_neD hr.units) (pv 9) (pe_op catU (pe_tup (pa_cons pe_str pa_nil)) (pv 8)) (nomark _)) (pw_or1 (pt_val (pe_callB call_isi (by rfl) T.m_isinstance (by decide +kernel) (pa_cons (pe_ix ix_tup (pv 9) pe_int (fun _ _ => rfl)) (pa_cons (pe_bltn (v := .ty "bool") (by rfl) T.m_bool (by decide +kernel) rfl) pa_nil)))))))))) (pss_one (ps_ret pe_bl)) pss_nil)
  (pss_one (ps_if (PW.pt (pw_and (pt_cmpR op_isN (pv 8) pe_non (nomark _)) (pw_and1 (pt_cmpR (op_neD hr.units) (pv 9) (pe_tup (pa_cons pe_str (pa_cons (pe_ix ix_tup (pv 6) pe_int (fun _ _ => rfl)) (pa_cons (pe_ix ix_tup (pv 6) pe_int (fun _ _ => rfl)) (pa_cons (pe_callB call_len_seq (by rfl) T.m_len PySem.boot_len (pa_cons (pe_ix ix_tup (pv 6) pe_int (fun _ _ => rfl)) pa_nil)) pa_nil))))) (nomark _))))) (pss_one (ps_ret pe_bl)) pss_nil))))))))))
  (pss_one (ps_ret pe_bl)))))))))), ?_⟩
    refine ⟨.ref a, rfl, a, ns0, rfl, hS, fun t sc H1 nt ns' sm tp => ?_⟩
    have k1 := hK.same sm
    refine ⟨.ref t, rfl, t, sc, 8, 6, rfl, ⟨by decide, by decide⟩, ⟨by decide, by decide⟩, tp, fun la0 ls0 H2 g0 l8 m0 lat0 nla0 mv2 tp2 hla0 => ?_⟩
    have k2 := k1.nl (Nl.moved tp mv2)
    refine ⟨fun σ' H' => ∃ (la : Addr) (ls : List Int), σ' = [some (.ref a), some (.ref t), some (.ref la), none, none, none, none, none, none, none] ∧ Frz H' la (ls.map V.int) ∧ Rch.Good ls ∧ (1 : Int) ∈ ls ∧ Tape H' t sc ∧ SysK K H', ?_, fun σ' H3 hm => ?_⟩
    · refine ⟨.ref t, rfl, t, sc, 10, rfl, ⟨by decide, by decide⟩, tp2, fun x H3 _ _ mv3 tp3 => ?_⟩
      have n3 : Nl H2 H3 := .moved tp2 mv3
      have k3 := k2.nl n3
      have hla3 := hla0.moved lat0 mv3
      by_cases c : x = 0
      · refine ⟨rfl, true, eqTi c, iteT ⟨by show 1 ≤ sizeLine; decide, fun o1 no1 => ?_⟩⟩
        have so1 := same_upd (o := .tup [V.int 1]) no1
        refine ⟨.ref la0, rfl, 1, rfl, 7, rfl, la0, _, rfl, (hla3.same so1).sq, fun p H4 s4 hp => ?_⟩
        obtain ⟨ms, ems, hms, lms⟩ := cut_ints ls0 1 7
        have hp : SqT K H4 p (cutV (ls0.map V.int) (some ((1 : Nat) : Int)) (some ((7 : Nat) : Int))) := hp
        rw [ems] at hp
        have l6 : ms.length ≤ 6 := by
          have := g0.1
          omega
        refine ⟨o1, p, _, _, rfl, rfl, SqT.of (s4 _ _ upd_same), hp, by rw [List.length_map]; show 1 + _ ≤ 2 ^ 24; omega, fun z H5 s5 hz => ⟨by show 1 ≤ sizeLine; decide, fun o2 no2 => ?_⟩⟩
        have so2 := same_upd (o := .tup [V.int 40]) no2
        refine ⟨z, o2, _, _, rfl, rfl, sT so2 hz, SqT.of upd_same, by simp, by simp, by rw [List.length_append, List.length_map]; show 1 + _ + 1 ≤ 2 ^ 24; omega, fun l H6 nl s6 fz => ?_⟩
        have s36 : Same H3 H6 := (((so1.trans s4).trans s5).trans so2).trans s6
        refine ⟨l, [1] ++ ms ++ [40], rfl, by rw [List.map_append, List.map_append]; exact fz, ⟨by simp, by simp; omega, fun n hn => ?_⟩, by simp, tp3.keep s36, k3.same s36⟩
        rcases List.mem_append.mp hn with hn | hn
        · rcases List.mem_append.mp hn with hn | hn
          · rw [List.mem_singleton.mp hn]
            decide
          · exact g0.2.2 n (hms n hn)
        · rw [List.mem_singleton.mp hn]
          decide
      · exact ⟨rfl, false, eqFi c, iteF ⟨la0, ls0, rfl, hla3, g0, m0, tp3, k3⟩⟩
    obtain ⟨la, ls, rfl, hla, g, m1, tp3, k3⟩ := hm
    refine ⟨.ref t, rfl, t, sc, 12, rfl, ⟨by decide, by decide⟩, tp3, fun b0 H4 hb0 hb1 mv4 tp4 => ⟨1, b0, rfl, rfl, ?_⟩⟩
    have n4 : Nl H3 H4 := .moved tp3 mv4
    have lat : la ≠ t := hla.tape tp3
    have hla4 := hla.moved lat mv4
    have k4 := k3.nl n4
    refine ⟨fun σ' H' => ∃ bd : Int, σ' = [some (.ref a), some (.ref t), some (.ref la), some (.int bd), none, none, none, none, none, none] ∧ 1 ≤ bd ∧ bd ≤ 60 ∧ Frz H' la (ls.map V.int) ∧ Tape H' t sc ∧ SysK K H', ?_, fun σ' H5 hm => ?_⟩
    · refine ⟨.ref t, rfl, t, sc, 15, rfl, ⟨by decide, by decide⟩, tp4, fun x H5 _ _ mv5 tp5 => ?_⟩
      have n5 : Nl H4 H5 := .moved tp4 mv5
      by_cases c : x = 0
      · exact ⟨rfl, true, eqTi c, iteT ⟨60, rfl, by decide, by decide, hla4.moved lat mv5, tp5, k4.nl n5⟩⟩
      · exact ⟨rfl, false, eqFi c, iteF ⟨_, rfl, by omega, by omega, hla4.moved lat mv5, tp5, k4.nl n5⟩⟩
    obtain ⟨bd, rfl, bd1, bd60, hla5, tp5, k5⟩ := hm
    refine ⟨.ref t, rfl, .ref la, rfl, .int bd, rfl, t, sc, la, ls, bd, rfl, tp5, hla5, g, m1, bd1, bd60, fun ra ps rs H6 R el rat nra mv6 tp6 era tu => ?_⟩
    have n6 : Nl H5 H6 := .moved tp5 mv6
    have hla6 := hla5.moved lat mv6
    have k6 := k5.nl n6
    have rlim := row_lim R
    have lthing := intsThing (ns := ls) (fun n hn => by have := g.2.2 n hn; omega) (by have := g.2.1; omega)
    have r60 := R.2.2.1
    refine ⟨4, rfl, by decide, by decide, for_range (lo := 0) (n := (4 : Int).toNat)
      (fun i σ H' => ∃ y5 y6 y7 y8 y9, σ = [some (.ref a), some (.ref t), some (.ref la), some (.int bd), some (.ref ra), y5, y6, y7, y8, y9] ∧ Frz H' la (ls.map V.int) ∧ SqT K H' ra (ps.map V.ref) ∧ Tups fI H' ps rs ∧ Tape H' t sc ∧ SysK K H')
      ⟨_, _, _, _, _, rfl, hla6, SqT.of era, tu, tp6, k6⟩ (fun i σ H7 hi h => ?_) (fun σ H7 h => q H7)⟩
    obtain ⟨y5, y6, y7, y8, y9, rfl, hla7, hra7, tu7, tp7, k7⟩ := h
    refine ⟨.ref la, rfl, .ref ra, rfl, by show 2 ≤ sizeLine; decide, fun u0 nu0 => ?_⟩
    have su0 := same_upd (o := .tup [V.ref la, .ref ra]) nu0
    have eu0 : upd H7 u0 (.tup [V.ref la, .ref ra]) u0 = some (.tup [V.ref la, .ref ra]) := upd_same
    generalize upd H7 u0 (.tup [V.ref la, .ref ra]) = H8 at *
    refine ⟨fun σ' H' => ∃ u vl vr dl dr z5, σ' = [some (.ref a), some (.ref t), some (.ref la), some (.int bd), some (.ref ra), z5, some (.ref u), y7, y8, y9] ∧ Od K H' vl dl ∧ Od K H' vr dr ∧ Lim dl ∧ Lim2 dr ∧ Ro 3 2000 dl ∧ Ro 4 150000 dr ∧ H' u = some (.tup [vl, vr]) ∧
      Frz H' la (ls.map V.int) ∧ SqT K H' ra (ps.map V.ref) ∧ Tups fI H' ps rs ∧ Tape H' t sc ∧ SysK K H', ?_, fun σ' H9 hm => ?_⟩
    · have tp8 := tp7.keep su0
      refine ⟨.ref t, rfl, t, sc, 4, rfl, ⟨by decide, by decide⟩, tp8, fun x H9 _ _ mv9 tp9 => ⟨x, 0, rfl, rfl, _, rfl, ite2 (fun c => ?_) (fun c => ?_)⟩⟩
      · have n9 : Nl H8 H9 := .moved tp8 mv9
        have hla9 := (hla7.same su0).moved lat mv9
        have hra9 := sT_nl (sT su0 hra7) n9
        have tu9 := (tu7.same su0).nlT n9
        refine ⟨.ref t, rfl, .ref la, rfl, .ref ra, rfl, t, sc, la, ra, ls, ps, rs, rfl, tp9, hla9, m1, hra9, tu9, R, fun u vl vr dl dr H10 ol or_ ll lr rl rr mv10 tp10 eu => ?_⟩
        have n10 : Nl H9 H10 := .moved tp9 mv10
        exact ⟨u, vl, vr, dl, dr, _, rfl, ol, or_, ll, lr, rl, rr, eu, hla9.moved lat mv10, sT_nl hra9 n10, tu9.nlT n10, tp10, ((k7.same su0).nl n9).nl n10⟩
      · have n9 : Nl H8 H9 := .moved tp8 mv9
        have hla9 := (hla7.same su0).moved lat mv9
        have hra9 := sT_nl (sT su0 hra7) n9
        have tu9 := (tu7.same su0).nlT n9
        exact ⟨u0, _, _, _, _, _, rfl, Od.ints hla9.sq, .tup hra9 (odRows tu9), lthing.1.1, lim2_of (by rw [List.length_map]; omega) rlim, lthing.2, Ro.tup (k := 3) (n := 2000) (fun d hd => (rlim d hd).2) (by rw [List.length_map]; omega), nT n9 eu0, hla9, hra9, tu9, tp9, (k7.same su0).nl n9⟩
    obtain ⟨u, vl, vr, dl, dr, z5, rfl, ol, or_, ll, lr, rl, rr, eu, hla9, hra9, tu9, tp9, k9⟩ := hm
    have rd : Ro 5 160000 (.tuple [dl, dr]) := (Ro.pair (rl.up (by decide) (Nat.le_refl _)) rr (Nat.le_refl _)).up (by decide) (by decide)
    refine ⟨.ref u, rfl, u, .tuple [dl, dr], 5, 160000, rfl, k9, .tup (SqT.of eu) (.cons ol (.cons or_ .nil)), rd, by decide, by decide, ?_⟩
    refine ⟨.ref u, rfl, u, _, 0, vl, rfl, rfl, SqT.of eu, atI_nat (j := 0) rfl, .ref u, rfl, u, _, 1, vr, rfl, rfl, SqT.of eu, atI_nat (j := 1) rfl, vl, vr, dl, dr, rfl, ol, or_, ll, lr, fun H10 hf s10 => ?_, fun part at_ f H10 hf s10 nf ef => ?_⟩
    · have eu10 := s10 _ _ eu
      refine ⟨.ref u, rfl, u, _, 0, vl, rfl, rfl, SqT.of eu10, atI_nat (j := 0) rfl, .ref u, rfl, u, _, 1, vr, rfl, rfl, SqT.of eu10, atI_nat (j := 1) rfl, vl, vr, dl, dr, rfl, ol.mono s10, or_.mono s10, ll, lr, fun ds f H11 hf2 hdr s11 ef => ?_, fun part at_ f H11 hf2 s11 ef => (by rw [hf] at hf2; cases hf2)⟩
      have s911 := s10.trans s11
      have eu11 := s911 _ _ eu
      have k11 := k9.same s911
      refine ⟨.ref u, rfl, u, .tuple [dl, dr], 5, 160000, rfl, k11, .tup (SqT.of eu11) (.cons (ol.mono s911) (.cons (or_.mono s911) .nil)), rd, by decide, by decide, _, rfl, rfl, false, neSelf _, iteF ?_⟩
      refine ⟨.non, rfl, rfl, false, neSelf _, iteF ?_⟩
      obtain ⟨cl, _⟩ := told_nodict hf
      obtain ⟨_, ds', hds, cr⟩ := told_nodict hf
      rw [hdr] at hds
      cases hds
      subst hdr
      cases or_ with
      | @tup p xs _ hT oa =>
        have zl := oa.len
        have hd1 : PyData.hasDict (.tuple ds) = false := PyData.hasDict_of_canLay _ (by simp only [PyData.canLay0]; exact cr)
        have hd2 : dl.hasDict = false := PyData.hasDict_of_canLay _ cl
        refine ⟨.non, rfl, rfl, true, eqSelf _, iteT ⟨.ref f, rfl, .ref u, rfl, u, _, 0, vl, rfl, rfl, SqT.of eu11, atI_nat (j := 0) rfl, .ref u, rfl, u, _, 1, .ref p, rfl, rfl, SqT.of eu11, atI_nat (j := 1) rfl, .ref u, rfl, u, _, 1, .ref p, rfl, rfl, SqT.of eu11, atI_nat (j := 1) rfl, p, xs, rfl, .inr (sT s911 hT), by show 4 ≤ sizeLine; decide, fun w' nw => ?_⟩⟩
        have sw := same_upd (o := .tup [V.str "told", vl, .ref p, .int (xs.length : Int)]) nw
        have dpl := ((ol.mono s911).mono sw).dp hd2
        have dpr : Dp K (upd H11 w' (.tup [V.str "told", vl, .ref p, .int (xs.length : Int)])) (.ref p) (.tuple ds) := Od.dp (.tup (sT sw (sT s911 hT)) ((oa.mono s911).mono sw)) hd1
        have shp : Shp 8 (.tuple [.str "told", dl, .tuple ds, .int (ds.length : Int)]) := ⟨by
          simp only [PyData.canLay0, PyData.canLayAll0, cl, cr, Bool.and_true, Bool.and_self]
          decide +kernel, by
          have h1 := rl.dp
          have h2 := rr.dp
          simp only [PyData.depth, PyData.depthAll] at h2 ⊢
          omega⟩
        refine ⟨.tuple [.str "told", dl, .tuple ds, .int (ds.length : Int)], .tuple [.str "told", dl, .tuple ds, .int (ds.length : Int)], .tup (SqT.of (sw _ _ ef)) (.cons (.str _) (.cons dpl (.cons dpr (.cons (.int _) .nil)))), .tup (SqT.of upd_same) (.cons (.str _) (.cons dpl (.cons dpr (.cons (by rw [zl]; exact .int _) .nil)))), shp.ok (by decide), shp.ok (by decide), false, ne_same shp, iteF ?_⟩
        have s9w := s911.trans sw
        exact ⟨_, _, _, _, _, rfl, hla9.same s9w, sT s9w hra9, tu9.same s9w, tp9.keep s9w, k9.same s9w⟩
    · have eu10 := s10 _ _ eu
      refine ⟨.ref u, rfl, u, _, 0, vl, rfl, rfl, SqT.of eu10, atI_nat (j := 0) rfl, .ref u, rfl, u, _, 1, vr, rfl, rfl, SqT.of eu10, atI_nat (j := 1) rfl, vl, vr, dl, dr, rfl, ol.mono s10, or_.mono s10, ll, lr, fun ds f' H11 hf2 hdr s11 ef' => (by rw [hf] at hf2; cases hf2), fun part' at_' f' H11 hf2 s11 ef' => ?_⟩
      rw [hf] at hf2
      cases hf2
      have s911 := s10.trans s11
      have eu11 := s911 _ _ eu
      have k11 := k9.same s911
      refine ⟨.ref u, rfl, u, .tuple [dl, dr], 5, 160000, rfl, k11, .tup (SqT.of eu11) (.cons (ol.mono s911) (.cons (or_.mono s911) .nil)), rd, by decide, by decide, _, rfl, rfl, false, neSelf _, iteF ?_⟩
      have ef11 := s11 _ _ ef
      refine ⟨.ref f, rfl, rfl, true, by rw [decide_eq_false (fun z => by cases z)]; rfl, iteT ⟨.ref f', rfl, by show 1 ≤ sizeLine; decide, fun o no => ?_⟩⟩
      have so := same_upd (o := .tup [V.str "bad"]) no
      refine ⟨.ref f, rfl, o, f, _, _, rfl, rfl, SqT.of upd_same, SqT.of (so _ _ ef11), by show 1 + 2 ≤ 2 ^ 24; decide, fun z H12 s12 hz => ?_⟩
      have s1112 := so.trans s12
      have shp : Shp 8 (.tuple [.str "bad", .str part, .int at_]) := ⟨by
        have hp := fault_part hf
        simp only [PyData.canLay0, PyData.canLayAll0] at hp ⊢
        rw [hp]
        decide +kernel, by
        simp only [PyData.depth, PyData.depthAll]
        decide⟩
      have ef12 := s1112 _ _ ef'
      refine ⟨.tuple [.str "bad", .str part, .int at_], .tuple [.str "bad", .str part, .int at_], .tup (SqT.of ef12) (.cons (.str _) (.cons (.str _) (.cons (.int _) .nil))), .tup hz (.cons (.str _) (.cons (.str _) (.cons (.int _) .nil))), shp.ok (by decide), shp.ok (by decide), false, ne_same shp, iteF ?_⟩
      refine ⟨.ref f', rfl, f', _, 2, .int at_, rfl, rfl, SqT.of ef12, atI_nat (j := 2) rfl, .int at_, .ty "bool", _, _, false, rfl, .ty _, .base (.int _), kit_ty (by decide +kernel), false, rfl, iteF ?_⟩
      have ef2 := s1112 _ _ ef11
      refine ⟨.ref f, rfl, rfl, false, by rw [decide_eq_false (fun z => by cases z)], iteF ?_⟩
      have s9w := s911.trans s1112
      exact ⟨_, _, _, _, _, rfl, hla9.same s9w, sT s9w hra9, tu9.same s9w, tp9.keep s9w, k9.same s9w⟩
end

/-! ### the end -/
theorem fin_mk {l : PySem.W.OpenLaw} {w : World} {K : PySem.W.Frag} {h : Heap} {mg : Str → Option Value} {fa f_law : Addr} (KX : K.In h) (G : h.Ns mainGlobals mg) (hmg : mg "law" = some (.ref fa)) {an : Option Addr} {kV dc pm cd ct : Value}
    (hT : ∃ T : Tx K mg, T.a_law = f_law ∧ T.d_law = PySem.W.fnOf "law" "law" (defArgs s_law) (defBody s_law) (defScope s_law) .none kV dc pm an cd ct) :
    ∃ fd : FuncData, (∀ (s : Shared) (v : Value), BindsTo s fd ⟨[v], []⟩ [("script", v)]) ∧ ∀ base : Heap, K.In base → base.Ns mainGlobals mg → RG7.FnG l.prog w K mg base lawLevel fa fd ["script"] (spLaw K) := by
  obtain ⟨T, ea, ed⟩ := hT
  have e := hmg.symm.trans T.g_law
  cases e
  exact ⟨T.d_law, fun s v => by rw [ed]; exact .of_eq rfl, fun base _ _ => ok_law T⟩

theorem all_mk {w : World} {K : PySem.W.Frag} {h : Heap} {mg : Str → Option Value} (X : K.In h) (G : h.Ns mainGlobals mg)
    {f_is_integer : Addr} {od_is_integer an_is_integer : Option Addr} {sl_is_integer : Array (Option Value)} {oc_is_integer kV_is_integer dc_is_integer pm_is_integer cd_is_integer ct_is_integer : Value}
    {f_is_number : Addr} {od_is_number an_is_number : Option Addr} {sl_is_number : Array (Option Value)} {oc_is_number kV_is_number dc_is_number pm_is_number cd_is_number ct_is_number : Value}
    {f_are_numbers : Addr} {od_are_numbers an_are_numbers : Option Addr} {sl_are_numbers : Array (Option Value)} {oc_are_numbers kV_are_numbers dc_are_numbers pm_are_numbers cd_are_numbers ct_are_numbers : Value}
    {f_is_loops : Addr} {od_is_loops an_is_loops : Option Addr} {sl_is_loops : Array (Option Value)} {oc_is_loops kV_is_loops dc_is_loops pm_is_loops cd_is_loops ct_is_loops : Value}
    {f_is_row : Addr} {od_is_row an_is_row : Option Addr} {sl_is_row : Array (Option Value)} {oc_is_row kV_is_row dc_is_row pm_is_row cd_is_row ct_is_row : Value}
    {f_row_sum : Addr} {od_row_sum an_row_sum : Option Addr} {sl_row_sum : Array (Option Value)} {oc_row_sum kV_row_sum dc_row_sum pm_row_sum cd_row_sum ct_row_sum : Value}
    {f__law_tape : Addr} {od__law_tape an__law_tape : Option Addr} {sl__law_tape : Array (Option Value)} {oc__law_tape kV__law_tape dc__law_tape pm__law_tape cd__law_tape ct__law_tape : Value}
    {f__law_pick : Addr} {od__law_pick an__law_pick : Option Addr} {sl__law_pick : Array (Option Value)} {oc__law_pick kV__law_pick dc__law_pick pm__law_pick cd__law_pick ct__law_pick : Value}
    {f__law_loops : Addr} {od__law_loops an__law_loops : Option Addr} {sl__law_loops : Array (Option Value)} {oc__law_loops kV__law_loops dc__law_loops pm__law_loops cd__law_loops ct__law_loops : Value}
    {f__law_row : Addr} {od__law_row an__law_row : Option Addr} {sl__law_row : Array (Option Value)} {oc__law_row kV__law_row dc__law_row pm__law_row cd__law_row ct__law_row : Value}
    {f__law_rows : Addr} {od__law_rows an__law_rows : Option Addr} {sl__law_rows : Array (Option Value)} {oc__law_rows kV__law_rows dc__law_rows pm__law_rows cd__law_rows ct__law_rows : Value}
    {f__law_odd : Addr} {od__law_odd an__law_odd : Option Addr} {sl__law_odd : Array (Option Value)} {oc__law_odd kV__law_odd dc__law_odd pm__law_odd cd__law_odd ct__law_odd : Value}
    {f__law_is_int : Addr} {od__law_is_int an__law_is_int : Option Addr} {sl__law_is_int : Array (Option Value)} {oc__law_is_int kV__law_is_int dc__law_is_int pm__law_is_int cd__law_is_int ct__law_is_int : Value}
    {f__law_are_ints : Addr} {od__law_are_ints an__law_are_ints : Option Addr} {sl__law_are_ints : Array (Option Value)} {oc__law_are_ints kV__law_are_ints dc__law_are_ints pm__law_are_ints cd__law_are_ints ct__law_are_ints : Value}
    {f__law_fault : Addr} {od__law_fault an__law_fault : Option Addr} {sl__law_fault : Array (Option Value)} {oc__law_fault kV__law_fault dc__law_fault pm__law_fault cd__law_fault ct__law_fault : Value}
    {f__law_bent : Addr} {od__law_bent an__law_bent : Option Addr} {sl__law_bent : Array (Option Value)} {oc__law_bent kV__law_bent dc__law_bent pm__law_bent cd__law_bent ct__law_bent : Value}
    {f__law_tried : Addr} {od__law_tried an__law_tried : Option Addr} {sl__law_tried : Array (Option Value)} {oc__law_tried kV__law_tried dc__law_tried pm__law_tried cd__law_tried ct__law_tried : Value}
    {f_law : Addr} {od_law an_law : Option Addr} {sl_law : Array (Option Value)} {oc_law kV_law dc_law pm_law cd_law ct_law : Value}
    {f_BadTable___init__ : Addr} {od_BadTable___init__ an_BadTable___init__ : Option Addr} {sl_BadTable___init__ : Array (Option Value)} {oc_BadTable___init__ kV_BadTable___init__ dc_BadTable___init__ pm_BadTable___init__ cd_BadTable___init__ ct_BadTable___init__ : Value}
    {f_Table___init__ : Addr} {od_Table___init__ an_Table___init__ : Option Addr} {sl_Table___init__ : Array (Option Value)} {oc_Table___init__ kV_Table___init__ dc_Table___init__ pm_Table___init__ cd_Table___init__ ct_Table___init__ : Value}
    {t_MOST_BOUND : Tok}
    {t_MOST_ITEMS : Tok}
    {t_MOST_LENGTH : Tok}
    {t_MOST_LOOPS : Tok}
    {c_BadTable : Addr}
    {c_BadText : Addr}
    {c_LoopError : Addr}
    {c_Table : Addr}
    (a_is_integer : PySem.W.nsIn K mainGlobals "is_integer" = some (some (.ref f_is_integer))) (l_is_integer : K.lookup f_is_integer = some ⟨oc_is_integer, od_is_integer, .func (PySem.W.fnOf "is_integer" "is_integer" (defArgs s_is_integer) (defBody s_is_integer) (defScope s_is_integer) .none kV_is_integer dc_is_integer pm_is_integer an_is_integer cd_is_integer ct_is_integer), sl_is_integer⟩) (c_is_integer : PySem.W.codeIn K cd_is_integer "is_integer" = true) (k_is_integer : PySem.W.keepIn K (.ref f_is_integer) = true)
    (a_is_number : PySem.W.nsIn K mainGlobals "is_number" = some (some (.ref f_is_number))) (l_is_number : K.lookup f_is_number = some ⟨oc_is_number, od_is_number, .func (PySem.W.fnOf "is_number" "is_number" (defArgs s_is_number) (defBody s_is_number) (defScope s_is_number) .none kV_is_number dc_is_number pm_is_number an_is_number cd_is_number ct_is_number), sl_is_number⟩) (c_is_number : PySem.W.codeIn K cd_is_number "is_number" = true) (k_is_number : PySem.W.keepIn K (.ref f_is_number) = true)
    (a_are_numbers : PySem.W.nsIn K mainGlobals "are_numbers" = some (some (.ref f_are_numbers))) (l_are_numbers : K.lookup f_are_numbers = some ⟨oc_are_numbers, od_are_numbers, .func (PySem.W.fnOf "are_numbers" "are_numbers" (defArgs s_are_numbers) (defBody s_are_numbers) (defScope s_are_numbers) .none kV_are_numbers dc_are_numbers pm_are_numbers an_are_numbers cd_are_numbers ct_are_numbers), sl_are_numbers⟩) (c_are_numbers : PySem.W.codeIn K cd_are_numbers "are_numbers" = true) (k_are_numbers : PySem.W.keepIn K (.ref f_are_numbers) = true)
    (a_is_loops : PySem.W.nsIn K mainGlobals "is_loops" = some (some (.ref f_is_loops))) (l_is_loops : K.lookup f_is_loops = some ⟨oc_is_loops, od_is_loops, .func (PySem.W.fnOf "is_loops" "is_loops" (defArgs s_is_loops) (defBody s_is_loops) (defScope s_is_loops) .none kV_is_loops dc_is_loops pm_is_loops an_is_loops cd_is_loops ct_is_loops), sl_is_loops⟩) (c_is_loops : PySem.W.codeIn K cd_is_loops "is_loops" = true) (k_is_loops : PySem.W.keepIn K (.ref f_is_loops) = true)
    (a_is_row : PySem.W.nsIn K mainGlobals "is_row" = some (some (.ref f_is_row))) (l_is_row : K.lookup f_is_row = some ⟨oc_is_row, od_is_row, .func (PySem.W.fnOf "is_row" "is_row" (defArgs s_is_row) (defBody s_is_row) (defScope s_is_row) .none kV_is_row dc_is_row pm_is_row an_is_row cd_is_row ct_is_row), sl_is_row⟩) (c_is_row : PySem.W.codeIn K cd_is_row "is_row" = true) (k_is_row : PySem.W.keepIn K (.ref f_is_row) = true)
    (a_row_sum : PySem.W.nsIn K mainGlobals "row_sum" = some (some (.ref f_row_sum))) (l_row_sum : K.lookup f_row_sum = some ⟨oc_row_sum, od_row_sum, .func (PySem.W.fnOf "row_sum" "row_sum" (defArgs s_row_sum) (defBody s_row_sum) (defScope s_row_sum) .none kV_row_sum dc_row_sum pm_row_sum an_row_sum cd_row_sum ct_row_sum), sl_row_sum⟩) (c_row_sum : PySem.W.codeIn K cd_row_sum "row_sum" = true) (k_row_sum : PySem.W.keepIn K (.ref f_row_sum) = true)
    (a__law_tape : PySem.W.nsIn K mainGlobals "_law_tape" = some (some (.ref f__law_tape))) (l__law_tape : K.lookup f__law_tape = some ⟨oc__law_tape, od__law_tape, .func (PySem.W.fnOf "_law_tape" "_law_tape" (defArgs s__law_tape) (defBody s__law_tape) (defScope s__law_tape) .none kV__law_tape dc__law_tape pm__law_tape an__law_tape cd__law_tape ct__law_tape), sl__law_tape⟩) (c__law_tape : PySem.W.codeIn K cd__law_tape "_law_tape" = true) (k__law_tape : PySem.W.keepIn K (.ref f__law_tape) = true)
    (a__law_pick : PySem.W.nsIn K mainGlobals "_law_pick" = some (some (.ref f__law_pick))) (l__law_pick : K.lookup f__law_pick = some ⟨oc__law_pick, od__law_pick, .func (PySem.W.fnOf "_law_pick" "_law_pick" (defArgs s__law_pick) (defBody s__law_pick) (defScope s__law_pick) .none kV__law_pick dc__law_pick pm__law_pick an__law_pick cd__law_pick ct__law_pick), sl__law_pick⟩) (c__law_pick : PySem.W.codeIn K cd__law_pick "_law_pick" = true) (k__law_pick : PySem.W.keepIn K (.ref f__law_pick) = true)
    (a__law_loops : PySem.W.nsIn K mainGlobals "_law_loops" = some (some (.ref f__law_loops))) (l__law_loops : K.lookup f__law_loops = some ⟨oc__law_loops, od__law_loops, .func (PySem.W.fnOf "_law_loops" "_law_loops" (defArgs s__law_loops) (defBody s__law_loops) (defScope s__law_loops) .none kV__law_loops dc__law_loops pm__law_loops an__law_loops cd__law_loops ct__law_loops), sl__law_loops⟩) (c__law_loops : PySem.W.codeIn K cd__law_loops "_law_loops" = true) (k__law_loops : PySem.W.keepIn K (.ref f__law_loops) = true)
    (a__law_row : PySem.W.nsIn K mainGlobals "_law_row" = some (some (.ref f__law_row))) (l__law_row : K.lookup f__law_row = some ⟨oc__law_row, od__law_row, .func (PySem.W.fnOf "_law_row" "_law_row" (defArgs s__law_row) (defBody s__law_row) (defScope s__law_row) .none kV__law_row dc__law_row pm__law_row an__law_row cd__law_row ct__law_row), sl__law_row⟩) (c__law_row : PySem.W.codeIn K cd__law_row "_law_row" = true) (k__law_row : PySem.W.keepIn K (.ref f__law_row) = true)
    (a__law_rows : PySem.W.nsIn K mainGlobals "_law_rows" = some (some (.ref f__law_rows))) (l__law_rows : K.lookup f__law_rows = some ⟨oc__law_rows, od__law_rows, .func (PySem.W.fnOf "_law_rows" "_law_rows" (defArgs s__law_rows) (defBody s__law_rows) (defScope s__law_rows) .none kV__law_rows dc__law_rows pm__law_rows an__law_rows cd__law_rows ct__law_rows), sl__law_rows⟩) (c__law_rows : PySem.W.codeIn K cd__law_rows "_law_rows" = true) (k__law_rows : PySem.W.keepIn K (.ref f__law_rows) = true)
    (a__law_odd : PySem.W.nsIn K mainGlobals "_law_odd" = some (some (.ref f__law_odd))) (l__law_odd : K.lookup f__law_odd = some ⟨oc__law_odd, od__law_odd, .func (PySem.W.fnOf "_law_odd" "_law_odd" (defArgs s__law_odd) (defBody s__law_odd) (defScope s__law_odd) .none kV__law_odd dc__law_odd pm__law_odd an__law_odd cd__law_odd ct__law_odd), sl__law_odd⟩) (c__law_odd : PySem.W.codeIn K cd__law_odd "_law_odd" = true) (k__law_odd : PySem.W.keepIn K (.ref f__law_odd) = true)
    (a__law_is_int : PySem.W.nsIn K mainGlobals "_law_is_int" = some (some (.ref f__law_is_int))) (l__law_is_int : K.lookup f__law_is_int = some ⟨oc__law_is_int, od__law_is_int, .func (PySem.W.fnOf "_law_is_int" "_law_is_int" (defArgs s__law_is_int) (defBody s__law_is_int) (defScope s__law_is_int) .none kV__law_is_int dc__law_is_int pm__law_is_int an__law_is_int cd__law_is_int ct__law_is_int), sl__law_is_int⟩) (c__law_is_int : PySem.W.codeIn K cd__law_is_int "_law_is_int" = true) (k__law_is_int : PySem.W.keepIn K (.ref f__law_is_int) = true)
    (a__law_are_ints : PySem.W.nsIn K mainGlobals "_law_are_ints" = some (some (.ref f__law_are_ints))) (l__law_are_ints : K.lookup f__law_are_ints = some ⟨oc__law_are_ints, od__law_are_ints, .func (PySem.W.fnOf "_law_are_ints" "_law_are_ints" (defArgs s__law_are_ints) (defBody s__law_are_ints) (defScope s__law_are_ints) .none kV__law_are_ints dc__law_are_ints pm__law_are_ints an__law_are_ints cd__law_are_ints ct__law_are_ints), sl__law_are_ints⟩) (c__law_are_ints : PySem.W.codeIn K cd__law_are_ints "_law_are_ints" = true) (k__law_are_ints : PySem.W.keepIn K (.ref f__law_are_ints) = true)
    (a__law_fault : PySem.W.nsIn K mainGlobals "_law_fault" = some (some (.ref f__law_fault))) (l__law_fault : K.lookup f__law_fault = some ⟨oc__law_fault, od__law_fault, .func (PySem.W.fnOf "_law_fault" "_law_fault" (defArgs s__law_fault) (defBody s__law_fault) (defScope s__law_fault) .none kV__law_fault dc__law_fault pm__law_fault an__law_fault cd__law_fault ct__law_fault), sl__law_fault⟩) (c__law_fault : PySem.W.codeIn K cd__law_fault "_law_fault" = true) (k__law_fault : PySem.W.keepIn K (.ref f__law_fault) = true)
    (a__law_bent : PySem.W.nsIn K mainGlobals "_law_bent" = some (some (.ref f__law_bent))) (l__law_bent : K.lookup f__law_bent = some ⟨oc__law_bent, od__law_bent, .func (PySem.W.fnOf "_law_bent" "_law_bent" (defArgs s__law_bent) (defBody s__law_bent) (defScope s__law_bent) .none kV__law_bent dc__law_bent pm__law_bent an__law_bent cd__law_bent ct__law_bent), sl__law_bent⟩) (c__law_bent : PySem.W.codeIn K cd__law_bent "_law_bent" = true) (k__law_bent : PySem.W.keepIn K (.ref f__law_bent) = true)
    (a__law_tried : PySem.W.nsIn K mainGlobals "_law_tried" = some (some (.ref f__law_tried))) (l__law_tried : K.lookup f__law_tried = some ⟨oc__law_tried, od__law_tried, .func (PySem.W.fnOf "_law_tried" "_law_tried" (defArgs s__law_tried) (defBody s__law_tried) (defScope s__law_tried) .none kV__law_tried dc__law_tried pm__law_tried an__law_tried cd__law_tried ct__law_tried), sl__law_tried⟩) (c__law_tried : PySem.W.codeIn K cd__law_tried "_law_tried" = true) (k__law_tried : PySem.W.keepIn K (.ref f__law_tried) = true)
    (a_law : PySem.W.nsIn K mainGlobals "law" = some (some (.ref f_law))) (l_law : K.lookup f_law = some ⟨oc_law, od_law, .func (PySem.W.fnOf "law" "law" (defArgs s_law) (defBody s_law) (defScope s_law) .none kV_law dc_law pm_law an_law cd_law ct_law), sl_law⟩) (c_law : PySem.W.codeIn K cd_law "law" = true) (k_law : PySem.W.keepIn K (.ref f_law) = true)
    (a_BadTable___init__ : PySem.W.findIn K (.ref c_BadTable) "__init__" = some (some (.ref f_BadTable___init__))) (i_BadTable___init__ : PySem.W.isFn K (.ref f_BadTable___init__) = true) (l_BadTable___init__ : K.lookup f_BadTable___init__ = some ⟨oc_BadTable___init__, od_BadTable___init__, .func (PySem.W.fnOf "__init__" "BadTable.__init__" (defArgs s_BadTable___init__) (defBody s_BadTable___init__) (defScope s_BadTable___init__) .none kV_BadTable___init__ dc_BadTable___init__ pm_BadTable___init__ an_BadTable___init__ cd_BadTable___init__ ct_BadTable___init__), sl_BadTable___init__⟩) (c_BadTable___init__ : PySem.W.codeIn K cd_BadTable___init__ "BadTable.__init__" = true) (k_BadTable___init__ : PySem.W.keepIn K (.ref f_BadTable___init__) = true)
    (a_Table___init__ : PySem.W.findIn K (.ref c_Table) "__init__" = some (some (.ref f_Table___init__))) (i_Table___init__ : PySem.W.isFn K (.ref f_Table___init__) = true) (l_Table___init__ : K.lookup f_Table___init__ = some ⟨oc_Table___init__, od_Table___init__, .func (PySem.W.fnOf "__init__" "Table.__init__" (defArgs s_Table___init__) (defBody s_Table___init__) (defScope s_Table___init__) .none kV_Table___init__ dc_Table___init__ pm_Table___init__ an_Table___init__ cd_Table___init__ ct_Table___init__), sl_Table___init__⟩) (c_Table___init__ : PySem.W.codeIn K cd_Table___init__ "Table.__init__" = true) (k_Table___init__ : PySem.W.keepIn K (.ref f_Table___init__) = true)
    (z_all : PySem.W.nsIn K mainGlobals "all" = some none)
    (z_bool : PySem.W.nsIn K mainGlobals "bool" = some none)
    (z_enumerate : PySem.W.nsIn K mainGlobals "enumerate" = some none)
    (z_int : PySem.W.nsIn K mainGlobals "int" = some none)
    (z_isinstance : PySem.W.nsIn K mainGlobals "isinstance" = some none)
    (z_len : PySem.W.nsIn K mainGlobals "len" = some none)
    (z_list : PySem.W.nsIn K mainGlobals "list" = some none)
    (z_range : PySem.W.nsIn K mainGlobals "range" = some none)
    (z_repr : PySem.W.nsIn K mainGlobals "repr" = some none)
    (z_sum : PySem.W.nsIn K mainGlobals "sum" = some none)
    (z_tuple : PySem.W.nsIn K mainGlobals "tuple" = some none)
    (y_MOST_BOUND : PySem.W.nsIn K mainGlobals "MOST_BOUND" = some (some (.int 60 t_MOST_BOUND)))
    (y_MOST_ITEMS : PySem.W.nsIn K mainGlobals "MOST_ITEMS" = some (some (.int 60 t_MOST_ITEMS)))
    (y_MOST_LENGTH : PySem.W.nsIn K mainGlobals "MOST_LENGTH" = some (some (.int 40 t_MOST_LENGTH)))
    (y_MOST_LOOPS : PySem.W.nsIn K mainGlobals "MOST_LOOPS" = some (some (.int 8 t_MOST_LOOPS)))
    (y_BadTable : PySem.W.nsIn K mainGlobals "BadTable" = some (some (.ref c_BadTable)))
    (y_BadText : PySem.W.nsIn K mainGlobals "BadText" = some (some (.ref c_BadText)))
    (y_LoopError : PySem.W.nsIn K mainGlobals "LoopError" = some (some (.ref c_LoopError)))
    (y_Table : PySem.W.nsIn K mainGlobals "Table" = some (some (.ref c_Table)))
    {nm_BadTable q_BadTable : Str} {N_BadTable : Addr} {bs_BadTable : List Value} {sn_BadTable : List Str} {sub_BadTable : List Value} {ab_BadTable : Bool} {col_BadTable : Option Bool} {dd_BadTable : Option Addr} {m0_BadTable m1_BadTable m2_BadTable m3_BadTable m5_BadTable : Option Value} {le_BadTable : Addr}
    (xL_BadTable : K.lookup c_BadTable = some (excClassObj nm_BadTable q_BadTable c_BadTable N_BadTable bs_BadTable [.ref le_BadTable, .type "ValueError", .type "Exception", .type "BaseException", .type "object"] true sn_BadTable sub_BadTable ab_BadTable col_BadTable dd_BadTable m0_BadTable m1_BadTable m2_BadTable m3_BadTable m5_BadTable "ValueError.__new__"))
    (sa_BadTable : PySem.W.findIn K (.ref c_BadTable) "__setattr__" = some (some (.builtin "object.__setattr__"))) (tf_BadTable : PySem.W.typeIn K (.ref f_BadTable___init__) = some (.type "function")) (kC_BadTable : PySem.W.keepIn K (.ref c_BadTable) = true) (eC_BadTable : PySem.W.subIn K (.ref c_BadTable) (.type "BaseException") = some true) (tC_BadTable : PySem.W.typeIn K (.ref c_BadTable) = some (.type "type")) (iC_BadTable : PySem.W.isClsIn K c_BadTable = true) (sC_BadTable : PySem.W.subIn K (.ref c_BadTable) (.ref c_BadTable) = some true)
    (n_BadTable_part : PySem.W.findIn K (.ref c_BadTable) "part" = some none)
    (n_BadTable_at : PySem.W.findIn K (.ref c_BadTable) "at" = some none)
    (pg_Table : PySem.W.plainGet K c_Table Str.empty = true) (hd_Table : PySem.W.hasDictIn K c_Table = true) (po_Table : PySem.W.plainOver K c_Table = true) (sa_Table : PySem.W.findIn K (.ref c_Table) "__setattr__" = some (some (.builtin "object.__setattr__"))) (mk_Table : PySem.W.makesIn K c_Table = true) (kc_Table : PySem.W.keepIn K (.ref c_Table) = true)
    (n_Table_loops : PySem.W.findIn K (.ref c_Table) "loops" = some none)
    (n_Table_rows : PySem.W.findIn K (.ref c_Table) "rows" = some none)
    (n_Table_bound : PySem.W.findIn K (.ref c_Table) "bound" = some none)
    (xg_BadTable : PySem.W.findIn K (.ref c_BadTable) "__getattribute__" = some (some (.builtin "BaseException.__getattribute__"))) (xk_BadTable : PySem.W.findIn K (.ref c_BadTable) "__getattr__" = some none) (xd_BadTable : PySem.W.hasDictIn K c_BadTable = true) (xa_BadTable : PySem.W.findIn K (.ref c_BadTable) "__class__" = some (some (.builtin "object.__class__"))) (xn_BadTable : PySem.W.specialIn K (.builtin "object.__class__") "__get__" = some (some (.builtin "getset_descriptor.__get__"))) (xt_BadTable : PySem.W.takesIn K (.builtin "object.__class__") = some true) (xm_BadTable : PySem.W.mroIn K c_BadTable (.type "object") = some true) (xs_BadTable : PySem.W.subIn K (.ref c_BadTable) (.type "BaseException") = some true)
    (xg_LoopError : PySem.W.findIn K (.ref c_LoopError) "__getattribute__" = some (some (.builtin "BaseException.__getattribute__"))) (xk_LoopError : PySem.W.findIn K (.ref c_LoopError) "__getattr__" = some none) (xd_LoopError : PySem.W.hasDictIn K c_LoopError = true) (xa_LoopError : PySem.W.findIn K (.ref c_LoopError) "__class__" = some (some (.builtin "object.__class__"))) (xn_LoopError : PySem.W.specialIn K (.builtin "object.__class__") "__get__" = some (some (.builtin "getset_descriptor.__get__"))) (xt_LoopError : PySem.W.takesIn K (.builtin "object.__class__") = some true) (xm_LoopError : PySem.W.mroIn K c_LoopError (.type "object") = some true) (xs_LoopError : PySem.W.subIn K (.ref c_LoopError) (.type "BaseException") = some true)
    (ks_BadTable_BadTable : PySem.W.subIn K (.ref c_BadTable) (.ref c_BadTable) = some true) (kc_BadTable_BadTable : PySem.W.isClsIn K c_BadTable = true) (ky_BadTable_BadTable : PySem.W.typeIn K (.ref c_BadTable) = some (.type "type"))
    (ks_BadTable_LoopError : PySem.W.subIn K (.ref c_BadTable) (.ref c_LoopError) = some true) (kc_BadTable_LoopError : PySem.W.isClsIn K c_LoopError = true) (ky_BadTable_LoopError : PySem.W.typeIn K (.ref c_LoopError) = some (.type "type"))
    (ks_BadTable_BadText : PySem.W.subIn K (.ref c_BadTable) (.ref c_BadText) = some false) (kc_BadTable_BadText : PySem.W.isClsIn K c_BadText = true) (ky_BadTable_BadText : PySem.W.typeIn K (.ref c_BadText) = some (.type "type"))
    (kn_BadTable_BadText : (Value.ref c_BadTable == Value.ref c_BadText) = false)
    : ∃ T : Tx K mg, T.a_law = f_law ∧ T.d_law = PySem.W.fnOf "law" "law" (defArgs s_law) (defBody s_law) (defScope s_law) .none kV_law dc_law pm_law an_law cd_law ct_law :=
  ⟨{ a_is_integer := f_is_integer, d_is_integer := _, F_is_integer := fun_mk (st := s_is_integer) l_is_integer c_is_integer k_is_integer, b_is_integer := (fun_mk (st := s_is_integer) l_is_integer c_is_integer k_is_integer).binds (ps := ["thing"]) (fun _ _ _ _ _ _ us hl => match us, hl with | [_], _ => rfl), g_is_integer := PySem.W.mg_of X G a_is_integer,
     a_is_number := f_is_number, d_is_number := _, F_is_number := fun_mk (st := s_is_number) l_is_number c_is_number k_is_number, b_is_number := (fun_mk (st := s_is_number) l_is_number c_is_number k_is_number).binds (ps := ["thing", "least", "most"]) (fun _ _ _ _ _ _ us hl => match us, hl with | [_, _, _], _ => rfl), g_is_number := PySem.W.mg_of X G a_is_number,
     a_are_numbers := f_are_numbers, d_are_numbers := _, F_are_numbers := fun_mk (st := s_are_numbers) l_are_numbers c_are_numbers k_are_numbers, b_are_numbers := (fun_mk (st := s_are_numbers) l_are_numbers c_are_numbers k_are_numbers).binds (ps := ["things", "least", "most"]) (fun _ _ _ _ _ _ us hl => match us, hl with | [_, _, _], _ => rfl), g_are_numbers := PySem.W.mg_of X G a_are_numbers,
     a_is_loops := f_is_loops, d_is_loops := _, F_is_loops := fun_mk (st := s_is_loops) l_is_loops c_is_loops k_is_loops, b_is_loops := (fun_mk (st := s_is_loops) l_is_loops c_is_loops k_is_loops).binds (ps := ["thing"]) (fun _ _ _ _ _ _ us hl => match us, hl with | [_], _ => rfl), g_is_loops := PySem.W.mg_of X G a_is_loops,
     a_is_row := f_is_row, d_is_row := _, F_is_row := fun_mk (st := s_is_row) l_is_row c_is_row k_is_row, b_is_row := (fun_mk (st := s_is_row) l_is_row c_is_row k_is_row).binds (ps := ["loops", "thing"]) (fun _ _ _ _ _ _ us hl => match us, hl with | [_, _], _ => rfl), g_is_row := PySem.W.mg_of X G a_is_row,
     a_row_sum := f_row_sum, d_row_sum := _, F_row_sum := fun_mk (st := s_row_sum) l_row_sum c_row_sum k_row_sum, b_row_sum := (fun_mk (st := s_row_sum) l_row_sum c_row_sum k_row_sum).binds (ps := ["loops", "row"]) (fun _ _ _ _ _ _ us hl => match us, hl with | [_, _], _ => rfl), g_row_sum := PySem.W.mg_of X G a_row_sum,
     a__law_tape := f__law_tape, d__law_tape := _, F__law_tape := fun_mk (st := s__law_tape) l__law_tape c__law_tape k__law_tape, b__law_tape := (fun_mk (st := s__law_tape) l__law_tape c__law_tape k__law_tape).binds (ps := ["script"]) (fun _ _ _ _ _ _ us hl => match us, hl with | [_], _ => rfl), g__law_tape := PySem.W.mg_of X G a__law_tape,
     a__law_pick := f__law_pick, d__law_pick := _, F__law_pick := fun_mk (st := s__law_pick) l__law_pick c__law_pick k__law_pick, b__law_pick := (fun_mk (st := s__law_pick) l__law_pick c__law_pick k__law_pick).binds (ps := ["tape", "size"]) (fun _ _ _ _ _ _ us hl => match us, hl with | [_, _], _ => rfl), g__law_pick := PySem.W.mg_of X G a__law_pick,
     a__law_loops := f__law_loops, d__law_loops := _, F__law_loops := fun_mk (st := s__law_loops) l__law_loops c__law_loops k__law_loops, b__law_loops := (fun_mk (st := s__law_loops) l__law_loops c__law_loops k__law_loops).binds (ps := ["tape", "most", "longest"]) (fun _ _ _ _ _ _ us hl => match us, hl with | [_, _, _], _ => rfl), g__law_loops := PySem.W.mg_of X G a__law_loops,
     a__law_row := f__law_row, d__law_row := _, F__law_row := fun_mk (st := s__law_row) l__law_row c__law_row k__law_row, b__law_row := (fun_mk (st := s__law_row) l__law_row c__law_row k__law_row).binds (ps := ["tape", "loops", "wait"]) (fun _ _ _ _ _ _ us hl => match us, hl with | [_, _, _], _ => rfl), g__law_row := PySem.W.mg_of X G a__law_row,
     a__law_rows := f__law_rows, d__law_rows := _, F__law_rows := fun_mk (st := s__law_rows) l__law_rows c__law_rows k__law_rows, b__law_rows := (fun_mk (st := s__law_rows) l__law_rows c__law_rows k__law_rows).binds (ps := ["tape", "loops", "bound"]) (fun _ _ _ _ _ _ us hl => match us, hl with | [_, _, _], _ => rfl), g__law_rows := PySem.W.mg_of X G a__law_rows,
     a__law_odd := f__law_odd, d__law_odd := _, F__law_odd := fun_mk (st := s__law_odd) l__law_odd c__law_odd k__law_odd, b__law_odd := (fun_mk (st := s__law_odd) l__law_odd c__law_odd k__law_odd).binds (ps := ["tape"]) (fun _ _ _ _ _ _ us hl => match us, hl with | [_], _ => rfl), g__law_odd := PySem.W.mg_of X G a__law_odd,
     a__law_is_int := f__law_is_int, d__law_is_int := _, F__law_is_int := fun_mk (st := s__law_is_int) l__law_is_int c__law_is_int k__law_is_int, b__law_is_int := (fun_mk (st := s__law_is_int) l__law_is_int c__law_is_int k__law_is_int).binds (ps := ["thing", "least", "most"]) (fun _ _ _ _ _ _ us hl => match us, hl with | [_, _, _], _ => rfl), g__law_is_int := PySem.W.mg_of X G a__law_is_int,
     a__law_are_ints := f__law_are_ints, d__law_are_ints := _, F__law_are_ints := fun_mk (st := s__law_are_ints) l__law_are_ints c__law_are_ints k__law_are_ints, b__law_are_ints := (fun_mk (st := s__law_are_ints) l__law_are_ints c__law_are_ints k__law_are_ints).binds (ps := ["thing", "many", "least", "most"]) (fun _ _ _ _ _ _ us hl => match us, hl with | [_, _, _, _], _ => rfl), g__law_are_ints := PySem.W.mg_of X G a__law_are_ints,
     a__law_fault := f__law_fault, d__law_fault := _, F__law_fault := fun_mk (st := s__law_fault) l__law_fault c__law_fault k__law_fault, b__law_fault := (fun_mk (st := s__law_fault) l__law_fault c__law_fault k__law_fault).binds (ps := ["loops", "rows"]) (fun _ _ _ _ _ _ us hl => match us, hl with | [_, _], _ => rfl), g__law_fault := PySem.W.mg_of X G a__law_fault,
     a__law_bent := f__law_bent, d__law_bent := _, F__law_bent := fun_mk (st := s__law_bent) l__law_bent c__law_bent k__law_bent, b__law_bent := (fun_mk (st := s__law_bent) l__law_bent c__law_bent k__law_bent).binds (ps := ["tape", "loops", "rows"]) (fun _ _ _ _ _ _ us hl => match us, hl with | [_, _, _], _ => rfl), g__law_bent := PySem.W.mg_of X G a__law_bent,
     a__law_tried := f__law_tried, d__law_tried := _, F__law_tried := fun_mk (st := s__law_tried) l__law_tried c__law_tried k__law_tried, b__law_tried := (fun_mk (st := s__law_tried) l__law_tried c__law_tried k__law_tried).binds (ps := ["loops", "rows"]) (fun _ _ _ _ _ _ us hl => match us, hl with | [_, _], _ => rfl), g__law_tried := PySem.W.mg_of X G a__law_tried,
     a_law := f_law, d_law := _, F_law := fun_mk (st := s_law) l_law c_law k_law, b_law := (fun_mk (st := s_law) l_law c_law k_law).binds (ps := ["script"]) (fun _ _ _ _ _ _ us hl => match us, hl with | [_], _ => rfl), g_law := PySem.W.mg_of X G a_law,
     m_all := PySem.W.mg_none_of X G z_all,
     m_bool := PySem.W.mg_none_of X G z_bool,
     m_enumerate := PySem.W.mg_none_of X G z_enumerate,
     m_int := PySem.W.mg_none_of X G z_int,
     m_isinstance := PySem.W.mg_none_of X G z_isinstance,
     m_len := PySem.W.mg_none_of X G z_len,
     m_list := PySem.W.mg_none_of X G z_list,
     m_range := PySem.W.mg_none_of X G z_range,
     m_repr := PySem.W.mg_none_of X G z_repr,
     m_sum := PySem.W.mg_none_of X G z_sum,
     m_tuple := PySem.W.mg_none_of X G z_tuple,
     t_MOST_BOUND := t_MOST_BOUND, g_MOST_BOUND := PySem.W.mg_of X G y_MOST_BOUND,
     t_MOST_ITEMS := t_MOST_ITEMS, g_MOST_ITEMS := PySem.W.mg_of X G y_MOST_ITEMS,
     t_MOST_LENGTH := t_MOST_LENGTH, g_MOST_LENGTH := PySem.W.mg_of X G y_MOST_LENGTH,
     t_MOST_LOOPS := t_MOST_LOOPS, g_MOST_LOOPS := PySem.W.mg_of X G y_MOST_LOOPS,
     c_BadTable := c_BadTable, g_BadTable := PySem.W.mg_of X G y_BadTable,
     c_BadText := c_BadText, g_BadText := PySem.W.mg_of X G y_BadText,
     c_LoopError := c_LoopError, g_LoopError := PySem.W.mg_of X G y_LoopError,
     c_Table := c_Table, g_Table := PySem.W.mg_of X G y_Table,
     a_BadTable___init__ := f_BadTable___init__, d_BadTable___init__ := _, F_BadTable___init__ := fun_mk (st := s_BadTable___init__) l_BadTable___init__ c_BadTable___init__ k_BadTable___init__, b_BadTable___init__ := (fun_mk (st := s_BadTable___init__) l_BadTable___init__ c_BadTable___init__ k_BadTable___init__).binds (ps := ["self", "part", "at"]) (fun _ _ _ _ _ _ us hl => match us, hl with | [_, _, _], _ => rfl),
     x_BadTable := ⟨⟨nm_BadTable, q_BadTable, N_BadTable, bs_BadTable, _, sn_BadTable, sub_BadTable, ab_BadTable, col_BadTable, dd_BadTable, m0_BadTable, m1_BadTable, m2_BadTable, m3_BadTable, m5_BadTable, xL_BadTable, rfl⟩, sa_BadTable, eC_BadTable, tC_BadTable, kC_BadTable⟩, i_BadTable := a_BadTable___init__, ti_BadTable := tf_BadTable, e_BadTable := exm_self eC_BadTable iC_BadTable tC_BadTable sC_BadTable,
     n_BadTable_part := n_BadTable_part,
     n_BadTable_at := n_BadTable_at,
     a_Table___init__ := f_Table___init__, d_Table___init__ := _, F_Table___init__ := fun_mk (st := s_Table___init__) l_Table___init__ c_Table___init__ k_Table___init__, b_Table___init__ := (fun_mk (st := s_Table___init__) l_Table___init__ c_Table___init__ k_Table___init__).binds (ps := ["self", "loops", "rows"]) (fun _ _ _ _ _ _ us hl => match us, hl with | [_, _, _], _ => rfl),
     mk_Table := ⟨mk_Table, a_Table___init__, i_Table___init__, kc_Table⟩,
     cl_Table := ⟨pg_Table, hd_Table, po_Table, sa_Table⟩,
     n_Table_loops := n_Table_loops,
     n_Table_rows := n_Table_rows,
     n_Table_bound := n_Table_bound,
     ec_BadTable := ⟨xg_BadTable, xk_BadTable, xs_BadTable, xd_BadTable, xa_BadTable, xn_BadTable, xt_BadTable, xm_BadTable⟩,
     ec_LoopError := ⟨xg_LoopError, xk_LoopError, xs_LoopError, xd_LoopError, xa_LoopError, xn_LoopError, xt_LoopError, xm_LoopError⟩,
     kt_BadTable_BadTable := EX6.kit_own ks_BadTable_BadTable kc_BadTable_BadTable ky_BadTable_BadTable,
     kt_BadTable_LoopError := EX6.kit_own ks_BadTable_LoopError kc_BadTable_LoopError ky_BadTable_LoopError,
     kt_BadTable_BadText := EX6.kit_ownN ks_BadTable_BadText kc_BadTable_BadText ky_BadTable_BadText kn_BadTable_BadText,
     xm_BadTable_LoopError := PySem.W.exm_ref xs_LoopError xd_LoopError ky_BadTable_LoopError ks_BadTable_LoopError }, rfl, rfl⟩
end My
open PySem PySem.W PyProof.Rows
set_option maxHeartbeats 0 in
theorem PySem.Challenge.cw_loopstore_k06_tables_judged_holds : PySem.Challenge.rw_loopstore_k06_tables_judged.Holds := by
  w_on; o_law; k_head; (case hw => w_witness2)
  k_fill
  refine RO9.walk_ofS (l := PySem.Challenge.rw_loopstore_k06_tables_judged) (n := 63) (k := My.lawLevel) (x := "script") (sp := fun w => My.spLaw _) rfl (by decide) rfl ⟨rfl, by decide, by decide⟩ (by decide +kernel) (fun w h Y => PySem.W.kIn_of Y) ?F (fun _ _ a ns hl hK hS => ⟨a, ns, rfl, hS, hl, hK, fun _ => rfl⟩)
  case F =>
    intro w mg fa h KX G hmg
    refine' My.fin_mk KX G hmg (My.all_mk (w := w) KX G ?a_is_integer ?l_is_integer ?c_is_integer ?k_is_integer ?a_is_number ?l_is_number ?c_is_number ?k_is_number ?a_are_numbers ?l_are_numbers ?c_are_numbers ?k_are_numbers ?a_is_loops ?l_is_loops ?c_is_loops ?k_is_loops ?a_is_row ?l_is_row ?c_is_row ?k_is_row ?a_row_sum ?l_row_sum ?c_row_sum ?k_row_sum ?a__law_tape ?l__law_tape ?c__law_tape ?k__law_tape ?a__law_pick ?l__law_pick ?c__law_pick ?k__law_pick ?a__law_loops ?l__law_loops ?c__law_loops ?k__law_loops ?a__law_row ?l__law_row ?c__law_row ?k__law_row ?a__law_rows ?l__law_rows ?c__law_rows ?k__law_rows ?a__law_odd ?l__law_odd ?c__law_odd ?k__law_odd ?a__law_is_int ?l__law_is_int ?c__law_is_int ?k__law_is_int ?a__law_are_ints ?l__law_are_ints ?c__law_are_ints ?k__law_are_ints ?a__law_fault ?l__law_fault ?c__law_fault ?k__law_fault ?a__law_bent ?l__law_bent ?c__law_bent ?k__law_bent ?a__law_tried ?l__law_tried ?c__law_tried ?k__law_tried ?a_law ?l_law ?c_law ?k_law ?a_BadTable___init__ ?i_BadTable___init__ ?l_BadTable___init__ ?c_BadTable___init__ ?k_BadTable___init__ ?a_Table___init__ ?i_Table___init__ ?l_Table___init__ ?c_Table___init__ ?k_Table___init__ ?z_all ?z_bool ?z_enumerate ?z_int ?z_isinstance ?z_len ?z_list ?z_range ?z_repr ?z_sum ?z_tuple ?y_MOST_BOUND ?y_MOST_ITEMS ?y_MOST_LENGTH ?y_MOST_LOOPS ?y_BadTable ?y_BadText ?y_LoopError ?y_Table ?xL_BadTable ?sa_BadTable ?tf_BadTable ?kC_BadTable ?eC_BadTable ?tC_BadTable ?iC_BadTable ?sC_BadTable ?n_BadTable_part ?n_BadTable_at ?pg_Table ?hd_Table ?po_Table ?sa_Table ?mk_Table ?kc_Table ?n_Table_loops ?n_Table_rows ?n_Table_bound ?xg_BadTable ?xk_BadTable ?xd_BadTable ?xa_BadTable ?xn_BadTable ?xt_BadTable ?xm_BadTable ?xs_BadTable ?xg_LoopError ?xk_LoopError ?xd_LoopError ?xa_LoopError ?xn_LoopError ?xt_LoopError ?xm_LoopError ?xs_LoopError ?ks_BadTable_BadTable ?kc_BadTable_BadTable ?ky_BadTable_BadTable ?ks_BadTable_LoopError ?kc_BadTable_LoopError ?ky_BadTable_LoopError ?ks_BadTable_BadText ?kc_BadTable_BadText ?ky_BadTable_BadText ?kn_BadTable_BadText)
    (case y_BadTable => k_is); (case y_BadText => k_is); (case y_LoopError => k_is); (case y_Table => k_is); (case a_is_integer => k_is); (case l_is_integer => k_is); (case c_is_integer => k_is); (case k_is_integer => k_is); (case a_is_number => k_is); (case l_is_number => k_is); (case c_is_number => k_is); (case k_is_number => k_is); (case a_are_numbers => k_is); (case l_are_numbers => k_is); (case c_are_numbers => k_is); (case k_are_numbers => k_is); (case a_is_loops => k_is); (case l_is_loops => k_is); (case c_is_loops => k_is); (case k_is_loops => k_is); (case a_is_row => k_is); (case l_is_row => k_is); (case c_is_row => k_is); (case k_is_row => k_is); (case a_row_sum => k_is); (case l_row_sum => k_is); (case c_row_sum => k_is); (case k_row_sum => k_is); (case a__law_tape => k_is); (case l__law_tape => k_is); (case c__law_tape => k_is); (case k__law_tape => k_is); (case a__law_pick => k_is); (case l__law_pick => k_is); (case c__law_pick => k_is); (case k__law_pick => k_is); (case a__law_loops => k_is); (case l__law_loops => k_is); (case c__law_loops => k_is); (case k__law_loops => k_is); (case a__law_row => k_is); (case l__law_row => k_is); (case c__law_row => k_is); (case k__law_row => k_is); (case a__law_rows => k_is); (case l__law_rows => k_is); (case c__law_rows => k_is); (case k__law_rows => k_is); (case a__law_odd => k_is); (case l__law_odd => k_is); (case c__law_odd => k_is); (case k__law_odd => k_is); (case a__law_is_int => k_is); (case l__law_is_int => k_is); (case c__law_is_int => k_is); (case k__law_is_int => k_is); (case a__law_are_ints => k_is); (case l__law_are_ints => k_is); (case c__law_are_ints => k_is); (case k__law_are_ints => k_is); (case a__law_fault => k_is); (case l__law_fault => k_is); (case c__law_fault => k_is); (case k__law_fault => k_is); (case a__law_bent => k_is); (case l__law_bent => k_is); (case c__law_bent => k_is); (case k__law_bent => k_is); (case a__law_tried => k_is); (case l__law_tried => k_is); (case c__law_tried => k_is); (case k__law_tried => k_is); (case a_law => k_is); (case l_law => k_is); (case c_law => k_is); (case k_law => k_is); (case a_BadTable___init__ => k_is); (case i_BadTable___init__ => k_is); (case l_BadTable___init__ => k_is); (case c_BadTable___init__ => k_is); (case k_BadTable___init__ => k_is); (case a_Table___init__ => k_is); (case i_Table___init__ => k_is); (case l_Table___init__ => k_is); (case c_Table___init__ => k_is); (case k_Table___init__ => k_is); (case z_all => k_is); (case z_bool => k_is); (case z_enumerate => k_is); (case z_int => k_is); (case z_isinstance => k_is); (case z_len => k_is); (case z_list => k_is); (case z_range => k_is); (case z_repr => k_is); (case z_sum => k_is); (case z_tuple => k_is); (case y_MOST_BOUND => k_is); (case y_MOST_ITEMS => k_is); (case y_MOST_LENGTH => k_is); (case y_MOST_LOOPS => k_is); (case xL_BadTable => k_is); (case sa_BadTable => k_is); (case tf_BadTable => k_is); (case kC_BadTable => k_is); (case eC_BadTable => k_is); (case tC_BadTable => k_is); (case iC_BadTable => k_is); (case sC_BadTable => k_is); (case n_BadTable_part => k_is); (case n_BadTable_at => k_is); (case pg_Table => k_is); (case hd_Table => k_is); (case po_Table => k_is); (case sa_Table => k_is); (case mk_Table => k_is); (case kc_Table => k_is); (case n_Table_loops => k_is); (case n_Table_rows => k_is); (case n_Table_bound => k_is); (case xg_BadTable => k_is); (case xk_BadTable => k_is); (case xd_BadTable => k_is); (case xa_BadTable => k_is); (case xn_BadTable => k_is); (case xt_BadTable => k_is); (case xm_BadTable => k_is); (case xs_BadTable => k_is); (case xg_LoopError => k_is); (case xk_LoopError => k_is); (case xd_LoopError => k_is); (case xa_LoopError => k_is); (case xn_LoopError => k_is); (case xt_LoopError => k_is); (case xm_LoopError => k_is); (case xs_LoopError => k_is); (case ks_BadTable_BadTable => k_is); (case kc_BadTable_BadTable => k_is); (case ky_BadTable_BadTable => k_is); (case ks_BadTable_LoopError => k_is); (case kc_BadTable_LoopError => k_is); (case ky_BadTable_LoopError => k_is); (case ks_BadTable_BadText => k_is); (case kc_BadTable_BadText => k_is); (case ky_BadTable_BadText => k_is); (case kn_BadTable_BadText => decide)

