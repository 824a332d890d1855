import PyProof.Rows.All
import Wide.All
import OpenK.AllK
import Wide.FinOn
import HandS.ForMost
import HandS.Wide
import HandS.IsInst
import HandS.TupMul
import HandS.TupAny
import HandS.SortInts
import HandS.SortRule
import HandS.Strs
import HandS.Iter
import HandS.Zip
import HandS.Deep
import HandS.More
import HandS.Style
import HandS.Exc
import HandS.ExcOwn
import HandS.ExcInit
import HandS.TryOnly
import HandS.WordsExc
import HandS.ExcField
import HandS.ExcIs
import HandS.ExcCtx
import HandS.HotCalls
import KE.KExcIs
import HandS.Dict
import HandS.DictTup
import HandS.Keys
import HandS.OwnEq
import PyProof.InstNe
import PyProof.ReprReads
import KE.DatumIndex
import PyProof.ReprBulk
import PyProof.FitsInt
import PyProof.ReprRoads
import HandS.GenBody
import HandS.GenYield
import HandS.GenCall
import HandS.GenList
import HandS.Evl
import PySem.Challenge.RW_loopstore_k01_lines_refused
set_option Elab.async false
set_option linter.all false
set_option maxRecDepth 100000
set_option maxHeartbeats 4000000
/-! ## rules that the layer lacks -/
namespace RR
open PySem PySem.Spec PyProof.Rows L2 HT
section
variable {prog : Program} {w : World} {A : Around} {E : Value → Shared → Prop} {s : Shared}
/-- a tuple's items gathered -/
theorem collect_tuple {l : Addr} {vs : List Value} {Q : List Value → Shared → Prop} (hl : IsTup s.heap l vs.toArray)
    (h : Q vs { s with heap := (s.heap.push (seqObj "list" #[] 0)).update s.heap.objs.size (Obj.mapSeq (· ++ vs.toArray)) }) (hsz : vs.length ≤ sizeLine) :
    wpAny (model prog w) A (collect (.ref l)) Q E s := by
  obtain ⟨o, ho, hc, n, hd⟩ := id hl
  unfold collect
  refine wpAny_bind (wpAny_runValue (codeAny_builtin entry_proto_collect' ?_))
  show wpAny _ _ (do again (.builtin "list.__iadd__" ⟨[← newList [], .ref l], []⟩)) _ _ s
  refine wpAny_bind (wpAny_newList (wpAny_pure ⟨Code.quiet_builtin _ (by decide +kernel), codeAny_builtin entry_list_iadd' ?_⟩))
  show wpAny _ _ (Builtin.List.listExtendWith (.ref s.heap.objs.size) (.ref l) (.ref s.heap.objs.size)) _ _ { s with heap := s.heap.push (seqObj "list" #[] 0) }
  unfold Builtin.List.listExtendWith
  have ho' : (s.heap.push (seqObj "list" #[] 0)).get? l = some o := Heap.get?_push_of_some _ ho
  refine wpAny_bind (wpAny_typeOf (T := "tuple") ⟨o, ho', hc⟩ ?_)
  have ht : (Value.type "tuple" == Value.type "tuple") = true := by rfl
  rw [if_pos (by rw [ht]; simp)]
  refine wpAny_bind (listItems_at ho' hd ?_)
  refine wpAny_bind (listItems_at (xs := #[]) (n := 0) (Heap.get?_push_size _ rfl) rfl ?_)
  rw [if_neg (by simp)]
  refine wpAny_bind (listUpdate_at (xs := #[]) (n := 0) (Heap.get?_push_size _ rfl) rfl ?_ (Nat.zero_le _) (by show (#[] ++ vs.toArray).size ≤ sizeLine + 1; simp only [Array.size_append, List.size_toArray, List.length_nil]; omega))
  refine wpAny_pure ?_
  show wpAny (model prog w) A (do
      let o ← load s.heap.objs.size
      match o.data with
      | .seq xs _ => pure xs.toList
      | _ => unsupported "internal:collect") Q E { s with heap := (s.heap.push (seqObj "list" #[] 0)).update s.heap.objs.size (Obj.mapSeq (· ++ vs.toArray)) }
  refine wpAny_bind (wpAny_load (get?_update_seq (Heap.get?_push_size _ rfl) _) ?_)
  show wpAny _ _ (pure ((#[] : Array Value) ++ vs.toArray).toList) Q E _
  rw [show ((#[] : Array Value) ++ vs.toArray).toList = vs by simp]
  exact wpAny_pure h
theorem sorted_ordT {l : Addr} {vs : List Value} {ltv : Value → Value → Bool} {Q : Value → Shared → Prop} (O : SrtO.Swo ltv) (hl : IsTup s.heap l vs.toArray) (hz : vs.length ≤ sizeLine)
    (hS : 2 ≤ vs.length → ∀ (h₁ : Heap) (a : Addr), h₁.get? a = some (seqObj "list" vs.toArray 0) → (∀ b o, s.heap.get? b = some o → b ≠ a ∧ h₁.get? b = some o) → SrtO.SortableO prog w A.in1.in1 { s with heap := h₁ } a vs ltv)
    (h : ∀ out : List Value, SrtO.Srtd ltv out → SrtO.Stb ltv out vs → Q (.ref (s.heap.objs.size + 1)) { s with heap := sortedAll s.heap vs out.toArray }) :
    wpAny (model prog w) A (call (.builtin "sorted") [.ref l]) Q E s := by
  refine Calls.call_function_entry kind_sorted plain_sorted entry_sorted (args_sorted1 _) ?_
  unfold Builtin.«sorted»
  refine wpAny_bind (m := checkCount "sorted" 1 1 _) (wpAny_pure ?_)
  refine wpAny_bind (collect_tuple hl ?_ hz)
  refine wpAny_bind (wpAny_newList ?_ hz)
  have hsz : ((s.heap.push (seqObj "list" #[] 0)).update s.heap.objs.size (Obj.mapSeq (· ++ vs.toArray))).objs.size = s.heap.objs.size + 1 := by
    rw [Heap.size_update, size_push']
  have hoL : (((s.heap.push (seqObj "list" #[] 0)).update s.heap.objs.size (Obj.mapSeq (· ++ vs.toArray))).push (seqObj "list" vs.toArray 0)).get? (s.heap.objs.size + 1) = some (seqObj "list" vs.toArray 0) := by
    rw [← hsz]; exact Heap.get?_push_size _ rfl
  have keep : ∀ b o, s.heap.get? b = some o → b ≠ s.heap.objs.size + 1 ∧ (((s.heap.push (seqObj "list" #[] 0)).update s.heap.objs.size (Obj.mapSeq (· ++ vs.toArray))).push (seqObj "list" vs.toArray 0)).get? b = some o := fun b o q => by
    have hlt : b < s.heap.objs.size := Heap.lt_size q
    refine ⟨Nat.ne_of_lt (Nat.lt_succ_of_lt hlt), Heap.get?_push_of_some _ ?_⟩
    rw [Heap.get?_update_ne _ _ _ _ (Nat.ne_of_lt hlt)]
    exact Heap.get?_push_of_some _ q
  show wpAny _ _ _ _ _ { s with heap := ((s.heap.push (seqObj "list" #[] 0)).update s.heap.objs.size (Obj.mapSeq (· ++ vs.toArray))).push (seqObj "list" vs.toArray 0) }
  rw [hsz]
  refine wpAny_bind (wpAny_holding (wpAny_call_entry slot_list_sort ⟨_, hoL, rfl⟩ entry_list_sort (SrtO.list_sort_ord O hoL hz (fun h2 => hS h2 _ _ hoL keep) fun out hs hb => ⟨_, rfl, ?_⟩) (args_list_sort _)))
  exact wpAny_pure ⟨_, rfl, h out hs hb⟩
end
def rSortedU (K : PySem.W.Frag) : List V → Hp → VK → Prop := fun vs H Q => ∃ (a : Addr) (ns : List Int), vs = [V.ref a] ∧ SqT K H a (ns.map V.int) ∧
  ∀ (ns' : List Int) (p : Addr), ns'.Perm ns → ns'.Pairwise (· ≤ ·) → H p = none → Q (.ref p) (upd H p (.lst (ns'.map V.int)))
section
variable {X : Cx}
/-- sorted(t), t a tuple of ints -/
theorem cr_sortedU : CallR X (.builtin "sorted") (rSortedU X.K) := by
  intro pins s σ H vs us Q I r h
  obtain ⟨a, ns, rfl, hs, q⟩ := h
  obtain ⟨its, rv, hl, hz⟩ := I.tuple hs
  rw [Vals.ref1 r]
  have hi := rv.ints
  refine sorted_ordT SrtO.swo_int hl (by rw [← rv.length]; exact hz) (fun h2 h₁ a' _ _ => SrtO.ints_sortable hi h2) fun out h1 h2 => ?_
  obtain ⟨k1, k2, k3⟩ := SrtO.ints_out hi h1 h2
  obtain ⟨ep, he'⟩ := PyProof.Rows.sortedAll_at s.heap its out.toArray
  have hlen : ((out.map SrtO.iv).map V.int).length ≤ sizeLine := by
    rw [List.length_map, k2.length_eq]
    rw [List.length_map] at hz
    exact hz
  exact ⟨.ref _, upd H (s.heap.objs.size + 1) (.lst ((out.map SrtO.iv).map V.int)), I.laid (t' := s.toks) (fun _ _ => PyProof.Rows.sortedAll_old) (Nat.le_succ _) ⟨hlen, out, ep, vals_of_ints k1, he'⟩, rfl, q _ _ k2 k3 (I.hok.fresh (Nat.le_succ _))⟩
end
/-! ### t[::-1] -/
theorem adj_rev (n : Nat) : Builtin.Slice.sliceAdjust none none (-1) (n : Int) = ((n : Int) - 1, -1) := rfl
theorem pl_rev (n : Nat) : Builtin.Slice.slicePlaces ((n : Int) - 1) (-1) (-1) = n := by
  unfold Builtin.Slice.slicePlaces
  have h1 : ¬ ((-1 : Int) > 0) := by omega
  simp only [h1, if_false]
  split <;> simp <;> omega
theorem pick_rev (xs : List Value) : ((List.range xs.length).filterMap fun (m : Nat) => xs.toArray[(((xs.length : Int) - 1) + (m : Int) * (-1)).toNat]?) = xs.reverse := by
  have key : ∀ m, m ≤ xs.length → ((List.range m).filterMap fun (k : Nat) => xs.toArray[(((xs.length : Int) - 1) + (k : Int) * (-1)).toNat]?) = xs.reverse.take m := by
    intro m
    induction m with
    | zero => intro _; rfl
    | succ m ih =>
      intro hm
      rw [List.range_succ, List.filterMap_append, ih (by omega), List.take_add_one]
      have e : (((xs.length : Int) - 1) + (m : Int) * (-1)).toNat = xs.length - 1 - m := by omega
      have hl : m < xs.reverse.length := by rw [List.length_reverse]; omega
      have e2 : xs.toArray[xs.length - 1 - m]? = some (xs.reverse[m]) := by
        rw [List.getElem?_toArray, List.getElem_reverse, List.getElem?_eq_getElem]
      rw [List.getElem?_eq_getElem hl]
      simp only [List.filterMap_cons, List.filterMap_nil, e, e2, Option.toList_some]
  have := key xs.length (Nat.le_refl _)
  rw [this, List.take_of_length_le (by rw [List.length_reverse]; exact Nat.le_refl _)]
section
variable {prog : Program} {w : World} {A : Around} {E : Value → Shared → Prop} {s : Shared}
theorem sliceApplied_rev {sl : Addr} {vl vu vs : Value} {n : Nat} {Q : Int × Int × Nat → Shared → Prop} (hs : s.heap.IsSliceOf sl vl vu vs) (pl : IsPart vl none) (pu : IsPart vu none) (ps : IsPart vs (some (-1)))
    (h : Q ((n : Int) - 1, -1, n) s) : wpAny (model prog w) A (Builtin.Slice.sliceApplied (.ref sl) (pure (n : Int))) Q E s := by
  obtain ⟨os, hos, hcs, hds⟩ := id hs
  unfold Builtin.Slice.sliceApplied Builtin.Slice.sliceFields
  refine wpAny_bind (wpAny_bind (wpAny_field hos hds (x := vl) rfl (wpAny_bind (wpAny_field hos hds (x := vu) rfl (wpAny_bind (wpAny_field hos hds (x := vs) rfl (wpAny_pure ?_)))))))
  refine wpAny_bind (slicePart_ ps ?_)
  show wpAny _ _ (if ((-1 : Int) == 0) = true then _ else _) _ _ s
  rw [if_neg (by decide)]
  refine wpAny_bind (slicePart_ pl (wpAny_bind (slicePart_ pu (wpAny_bind (wpAny_pure ?_)))))
  show wpAny _ _ (match Builtin.Slice.sliceAdjust none none (-1) (n : Int) with | (lo, hi) => pure (lo, (-1 : Int), Builtin.Slice.slicePlaces lo hi (-1))) _ _ s
  rw [adj_rev n]
  show wpAny _ _ (pure ((n : Int) - 1, (-1 : Int), Builtin.Slice.slicePlaces ((n : Int) - 1) (-1) (-1))) _ _ s
  rw [pl_rev]
  exact wpAny_pure h
theorem getItem_tuple_rev {t sl : Addr} {items : List Value} {vl vu vs : Value} {Q : Value → Shared → Prop} (ht : IsTup s.heap t items.toArray) (hs : s.heap.IsSliceOf sl vl vu vs) (pl : IsPart vl none) (pu : IsPart vu none) (ps : IsPart vs (some (-1)))
    (h : Q (.ref s.heap.objs.size) { s with heap := s.heap.push { cls := .type "tuple", data := .seq items.reverse.toArray } })
    (hsz : items.length ≤ sizeLine) : wpAny (model prog w) A (getItem (.ref t) (.ref sl)) Q E s := by
  have htake : sizeOk (.seq items.reverse.toArray) := by
    show items.reverse.toArray.size ≤ sizeLine
    rw [List.size_toArray, List.length_reverse]
    omega
  obtain ⟨os, hos, hcs, hds⟩ := id hs
  have hTs : s.TypeIs (.ref sl) "slice" := ⟨os, hos, hcs⟩
  unfold getItem
  try with_reducible refine wpAny_holding ?_
  first | refine wpAny_bind (wpAny_pure ?_) | skip
  refine wpAny_bind (wpAny_sequenceKey ht.typeIs (by decide) ?_)
  refine wpAny_bind (wpAny_callSpecial?_slot (name := Str.ofString "__getitem__") ht.typeIs PyProof.Rows.slot_tuple_getitem
    (wpAny_call_entry PyProof.Rows.slot_tuple_getitem ht.typeIs entry_tuple_getitem ?_ (args_tuple_getitem _ _)))
  show wpAny _ _ (Builtin.Tuple.tupleItemsOf (.ref t) >>= _) _ _ s
  refine wpAny_bind (tupleItemsOf_ ht ?_)
  refine wpAny_bind (wpAny_typeOf hTs ?_)
  rw [if_pos (by decide)]
  rw [List.size_toArray]
  refine wpAny_bind (sliceApplied_rev hs pl pu ps ?_)
  have hno : ¬ ((((items.length : Int) - 1) == 0 && (-1 : Int) == 1 && items.length == items.length) = true) := by
    rw [show ((-1 : Int) == 1) = false from rfl, Bool.and_false, Bool.false_and]
    exact Bool.false_ne_true
  show wpAny _ _ (if (((items.length : Int) - 1) == 0 && (-1 : Int) == 1 && items.length == items.length) = true then _ else _) _ _ s
  rw [if_neg hno, pick_rev]
  first
    | exact wpAny_bind (m := Builtin.Tuple.tupleExact _) (wpAny_newObj_type (wpAny_pure ⟨_, rfl, wpAny_pure h⟩) htake)
    | exact wpAny_bind (m := Builtin.Tuple.tupleExact _) (wpAny_newObj_type (wpAny_bind (wpAny_pure (wpAny_pure ⟨_, rfl, wpAny_pure h⟩))) htake)
    | exact wpAny_bind (wpAny_bind (m := Builtin.Tuple.tupleExact _) (wpAny_newObj_type (wpAny_pure (wpAny_pure ⟨_, rfl, wpAny_pure h⟩)) htake))
    | exact wpAny_bind (wpAny_bind (m := Builtin.Tuple.tupleExact _) (wpAny_newObj_type (wpAny_pure ⟨_, rfl, wpAny_pure h⟩) htake))
end
def tRevT (K : PySem.W.Frag) (te : TE) : TE := fun σ H Q => te σ H fun x H1 => ∃ a xs, x = .ref a ∧ SqT K H1 a xs ∧ ∀ p, H1 p = none → Q (.ref p) (upd H1 p (.tup xs.reverse))
section
variable {X : Cx}
theorem pe_revT {e : Expr} {te : TE} {k : Nat} {p1 p2 p3 pos : Pos} (he : PE X e te) : PE X (.Subscript e (.Slice none none (some (.UnaryOp .USub (.Constant (.int 1) k p1) p2)) p3) pos) (tRevT X.K te) := by
  refine ⟨fun pins s σ H Q I h => ?_⟩
  refine Subscript_ (thn (he.run pins s σ H _ I h) fun v s1 ⟨x, H1, I1, r1, q1⟩ => ?_)
  obtain ⟨a, xs, ex, hx, q⟩ := q1
  subst ex
  cases r1
  have hst : PO X (some (.UnaryOp .USub (.Constant (.int 1) k p1) p2)) (tPart (tUn (rU fun i => .int (-i)) (tC (.int 1)))) := po_some (pe_un un_neg pe_int)
  refine wpAny_Slice (thn (po_none.run pins s1 σ H1 (fun o H2 => o = none ∧ H2 = H1) I1 ⟨rfl, rfl⟩) fun vl s2 ⟨l, H2, I2, pl, el, e2⟩ => ?_)
  subst el e2
  refine thn (po_none.run pins s2 σ H2 (fun o H3 => o = none ∧ H3 = H2) I2 ⟨rfl, rfl⟩) fun vu s3 ⟨u, H3, I3, pu, eu, e3⟩ => ?_
  subst eu e3
  refine thn (hst.run pins s3 σ H3 (fun o H4 => o = some (-1) ∧ H4 = H3) I3 ⟨1, rfl, -1, rfl, rfl, rfl⟩) fun vs s4 ⟨o, H4, I4, ps, eo, e4⟩ => ?_
  subst eo e4
  have I5 : Inv X pins σ H4 { s4 with heap := s4.heap.push { cls := .type "slice", data := .fields #[vl, vu, vs] } } := I4.kept (t' := s4.toks) fun b ob q => Heap.get?_push_of_some _ q
  obtain ⟨its, r, ht, hz⟩ := I5.tuple hx
  have hlen := r.length
  show wpAny (model X.prog X.w) X.A (subscriptTail e (.Slice none none (some (.UnaryOp .USub (.Constant (.int 1) k p1) p2)) p3) (.ref a) (.ref s4.heap.objs.size)) (EP X pins σ Q) X.xe { s4 with heap := s4.heap.push { cls := .type "slice", data := .fields #[vl, vu, vs] } }
  refine tail_any (ops := [.ref a, .ref s4.heap.objs.size]) ht.typeIs (PyProof.Rows.slot_tuple_getitem.lookup) ?_ (by with_unfolding_all rfl)
  refine getItem_tuple_rev ht (Heap.IsSliceOf.new _ vl vu vs) pl pu ps ?_ (by rw [← hlen]; exact hz)
  refine ⟨.ref _, _, I5.laid (t' := s4.toks) (o := .tup xs.reverse) (fun b ob q => Heap.get?_push_of_some _ q) (Nat.le_refl _) ?_, rfl, q _ (I5.hok.fresh (Nat.le_refl _))⟩
  exact ⟨by rw [List.length_reverse]; exact hz, _, r.reverse, IsTup.new _ _⟩
end
/-! ### t * k, k from 1 on -/
theorem tuple_mulW1 (l : Addr) (items : Array Value) (n : Nat) (dd : Option Addr) (sl : Array (Option Value)) (u : Tok) :
    Meets (Builtin.«tuple.__mul__» ⟨[.ref l, .int 1 u], []⟩) (fun _ R s => s.heap.get? l = some { cls := .type "tuple", dict := dd, data := .seq items n, slots := sl } ∧ R (.ok (.ret (Value.ref l))) s) :=
  .of_wp fun prog w A R s h => by
    obtain ⟨hp, g, d, tk, os⟩ := s
    obtain ⟨hl, h⟩ := h
    have f1 := AutoSeq1.idx_int
    have c0 : (decide ((1 : Int) < -(2 ^ 63)) || decide ((1 : Int) ≥ 2 ^ 63)) = false := by decide
    have c1 : (items.isEmpty || (1 : Int) == 1) = true := by rw [show ((1 : Int) == 1) = true from rfl, Bool.or_true]
    wp_walk using wpAny_loadPart' hl
    repeat (first
      | (refine wpAny_ite_false (decide_eq_false (by rw [c0]; exact Bool.false_ne_true)) ?_; wp_walk using wpAny_loadPart' hl)
      | (refine wpAny_ite_true (decide_eq_true c1) ?_; wp_walk using wpAny_loadPart' hl))
    exact ⟨_, rfl, h⟩
def rRepA (K : PySem.W.Frag) : R2 := fun x y H Q => ∃ l k xs, x = .ref l ∧ y = .int k ∧ SqT K H l xs ∧ xs ≠ [] ∧ 1 ≤ k ∧ k ≤ 1000 ∧ xs.length ≤ 1000 ∧ (k = 1 → Q (.ref l) H) ∧ (k ≠ 1 → ∀ p, H p = none → Q (.ref p) (upd H p (.tup (List.replicate k.toNat xs).flatten)))
section
variable {X : Cx}
theorem op_repA : OpR X (binaryOp .Mult) (rRepA X.K) := by
  intro pins s σ H x y v u Q I rx ry h
  obtain ⟨l, k, xs, rfl, rfl, hT, hne, h1, h2, hz, q1, q2⟩ := h
  by_cases hk : k = 1
  · subst hk
    cases rx
    obtain ⟨t, rfl⟩ := ry
    obtain ⟨its, r, ⟨⟨cls, dd, data, sl⟩, ho, hc, n, hd⟩, hs⟩ := I.tuple hT
    simp only at hc hd
    subst hc hd
    refine wpAny_binaryOp_repeat_ref (T := "tuple") (U := "int") (by decide) ⟨_, ho, rfl⟩ (fun s' => typeIs_int s' 1 t) noFill_tuple_mul F.fills_int_mul F.slot_int_rmul repeat_tuple F.slot_int_index.lookup
      (call_meets F.slot_int_rmul (typeIs_int s 1 t) F.entry_int_rmul (F.args_int_rmul_2 _ _) (int_rmul_tuple 1 t l its.toArray n dd sl)
        ⟨ho, rfl, ⟨_, ho, rfl⟩, call_meets F.slot_tuple_mul ⟨_, ho, rfl⟩ F.entry_tuple_mul (F.args_tuple_mul_2 _ _) (tuple_mulW1 l its.toArray n dd sl t) ⟨ho, ?_⟩⟩)
    exact ⟨.ref l, H, I, rfl, q1 rfl⟩
  · exact op_repT pins s σ H _ _ v u Q I rx ry ⟨l, k, xs, rfl, rfl, hT, hne, by omega, h2, hz, q2 hk⟩
end
end RR

/-! ## enumerate over a tuple; an empty tuple times k -/
namespace RR
open PySem PySem.Spec PyProof.Rows L2 HT
open Sem (wp)
open AutoSeq1 (wpAny_loadPart')
section
variable {prog : Program} {w : World} {A : Around} {E : Value → Shared → Prop} {s : Shared}
theorem next_tuple_item {it t : Addr} {i : Nat} {items} {x : Value} {Q : Value → Shared → Prop} (hit : s.heap.IsTupleIter it t i)
    (ht : s.heap.IsTuple t items) (hx : items[i]? = some x)
    (hQ : ∀ h', h'.IsTupleIter it t (i + 1) → Heap.SameBut it s.heap h' → Q x { s with heap := h' }) :
    wpAny (model prog w) A (Builtin.SmallTypes.nextOf (.ref it)) Q E s := by
  obtain ⟨o, ho, hc, hd⟩ := id hit
  obtain ⟨ol, hol, _, nl, hdl⟩ := ht
  unfold Builtin.SmallTypes.nextOf
  refine wpAny_bind (wpAny_callSpecial?_slot (name := Str.ofString "__next__") hit.typeIs F.slot_tuple_iterator_next
    (wpAny_call_entry F.slot_tuple_iterator_next hit.typeIs F.entry_tuple_iterator_next ?_ (F.args_tuple_iterator_next_1 _)))
  show wpAny _ _ (field (.ref it) 0 >>= _) _ _ s
  refine wpAny_bind (wpAny_field ho hd (x := .ref t) rfl ?_)
  show wpAny _ _ (if (Value.ref t == Value.none) = true then _ else _) _ _ s
  rw [if_neg (show ¬ ((Value.ref t == Value.none) = true) from Bool.false_ne_true)]
  show wpAny _ _ (field (.ref it) 1 >>= _) _ _ s
  refine wpAny_bind (wpAny_field ho hd (x := .int i 0) rfl ?_)
  show wpAny _ _ (seqItems? (.ref t) >>= _) _ _ s
  refine wpAny_bind (wpAny_seqItems hol hdl ?_)
  simp only [Int.toNat_natCast, hx]
  refine wpAny_bind (wpAny_setField ho hd (by simp) (wpAny_pure ⟨x, rfl, wpAny_pure (hQ _ ?_ (Heap.SameBut.update ..))⟩))
  exact ⟨_, Heap.get?_update_self _ ho (Obj.isFreed_of_fields (Obj.data_mapFields hd _)), (Obj.cls_mapFields ..).trans hc, by
    rw [Obj.data_mapFields hd]; simp [rawInt]⟩
theorem next_tuple_end {it t : Addr} {i : Nat} {items} {Q : Value → Shared → Prop} (hh : A.handled = none)
    (hit : s.heap.IsTupleIter it t i) (ht : s.heap.IsTuple t items) (hx : items[i]? = none)
    (hE : ∀ h' e, Heap.ExtBut it s.heap h' → (∃ o, h'.get? e = some o ∧ o.cls = .type "StopIteration") → E (.ref e) { s with heap := h' }) :
    wpAny (model prog w) A (Builtin.SmallTypes.nextOf (.ref it)) Q E s := by
  obtain ⟨o, ho, hc, hd⟩ := id hit
  obtain ⟨ol, hol, _, nl, hdl⟩ := ht
  unfold Builtin.SmallTypes.nextOf
  refine wpAny_bind (wpAny_callSpecial?_slot (name := Str.ofString "__next__") hit.typeIs F.slot_tuple_iterator_next
    (wpAny_call_entry F.slot_tuple_iterator_next hit.typeIs F.entry_tuple_iterator_next ?_ (F.args_tuple_iterator_next_1 _)))
  show wpAny _ _ (field (.ref it) 0 >>= _) _ _ s
  refine wpAny_bind (wpAny_field ho hd (x := .ref t) rfl ?_)
  show wpAny _ _ (if (Value.ref t == Value.none) = true then _ else _) _ _ s
  rw [if_neg (show ¬ ((Value.ref t == Value.none) = true) from Bool.false_ne_true)]
  show wpAny _ _ (field (.ref it) 1 >>= _) _ _ s
  refine wpAny_bind (wpAny_field ho hd (x := .int i 0) rfl ?_)
  show wpAny _ _ (seqItems? (.ref t) >>= _) _ _ s
  refine wpAny_bind (wpAny_seqItems hol hdl ?_)
  simp only [Int.toNat_natCast, hx]
  refine wpAny_bind (wpAny_rule (wpAny_bind (wpAny_setField ho hd (by simp) ?_)))
  show wpAny _ _ (newExc (.type "StopIteration") [] >>= _) _ _ _
  refine wpAny_bind ?_
  simp only [newExc, newTuple]
  refine wpAny_bind (wpAny_newObj_type ?_ (by size_fits))
  refine wpAny_bind (m := firstArgMember _ _) (wpAny_of_eq (a := Value.none) (by first | rfl | (simp only [firstArgMember]; rfl)) ?_)
  refine wpAny_newObj_type ?_ (by size_fits)
  simp only [raiseNew]
  refine wpAny_bind (wpAny_handled ?_)
  first | rw [show A.in1.handled = none from hh] | rw [hh]
  refine wpAny_bind (wpAny_pure (wpAny_throw ?_))
  exact hE _ _ (((Heap.SameBut.update ..).extBut.push _).push _) ⟨_, Heap.get?_push_size _ rfl, rfl⟩
end
theorem tup_at {h h' : Heap} {a : Addr} {items} (x : h.IsTuple a items) (e : ∀ o, h.get? a = some o → h'.get? a = some o) : h'.IsTuple a items := let ⟨o, ho, r⟩ := x; ⟨o, e _ ho, r⟩
theorem draws_tuple {prog : Program} {w : World} {A : Around} (hh : A.handled = none) (it l : Addr) (hne : l ≠ it) (items : Array Value) :
    Draws prog w A it [it, l] items.size (fun i v => items[i]? = some v) (fun i h => h.IsTupleIter it l i ∧ h.IsTuple l items) where
  live := fun _ _ st => let ⟨o, ho, _⟩ := st.1; ⟨o, ho⟩
  frame := fun _ _ _ st hk => ⟨st.1.at fun o e => hk it (by simp) o e, tup_at st.2 fun o e => hk l (by simp) o e⟩
  item := fun i s Q E hi st hQ => by
    refine next_tuple_item st.1 st.2 (x := items[i]) (by simp [hi]) fun h' hit' hs' => ?_
    exact hQ _ h' s.toks (by simp [hi]) ⟨hit', st.2.extBut hs'.extBut hne⟩ hs'
  done := fun s Q E st hE => next_tuple_end hh st.1 st.2 (by simp) hE
theorem enumerate_newT (l : Addr) (items : Array Value) (n : Nat) (dct : Option Addr) (sl : Array (Option Value)) :
    Meets (Builtin.«enumerate.__new__» ⟨[.type "enumerate", .ref l], []⟩) (fun _ R s => s.heap.get? l = some { cls := .type "tuple", dict := dct, data := .seq items n, slots := sl } ∧
      R (.ok (.ret (.ref (s.heap.push { cls := .type "tuple_iterator", data := .fields #[.ref l, .int 0 0] }).objs.size)))
        { s with heap := (s.heap.push { cls := .type "tuple_iterator", data := .fields #[.ref l, .int 0 0] }).push { cls := .type "enumerate", data := .fields #[.none, .bool false, .ref s.heap.objs.size, rawInt 0, .none, .none] } }) :=
  .of_wp fun prog w A R s h => by
    obtain ⟨hp, g, d, tk, os⟩ := s; obtain ⟨hl, h⟩ := h
    have hsub := sub_enumerate
    have hL : Heap.IsTuple (Shared.heap ⟨hp, g, d, tk, os⟩) l items := ⟨_, hl, rfl, n, rfl⟩
    wp_walk using wpAny_loadPart' hl
    refine wpAny_stack_any fun st => wpAny_pure ?_
    split
    · rename_i c _ _ _ _ _
      cases (c == Value.type "enumerate")
      · wp_walk using wpAny_loadPart' hl, wpAny_pyIter_tuple hL
        exact ⟨_, rfl, h⟩
      · wp_walk using wpAny_loadPart' hl, wpAny_pyIter_tuple hL
        exact ⟨_, rfl, h⟩
    · wp_walk using wpAny_loadPart' hl, wpAny_pyIter_tuple hL
      exact ⟨_, rfl, h⟩
section
variable {prog : Program} {w : World} {A : Around} {E : Value → Shared → Prop} {s : Shared}
theorem call_enumerate_tuple {l : Addr} {items : Array Value} {Q : Value → Shared → Prop} (hL : s.heap.IsTuple l items)
    (h : ∀ h', IsEnum h' (s.heap.objs.size + 1) s.heap.objs.size 0 .none → h'.IsTupleIter s.heap.objs.size l 0 → h'.objs.size = s.heap.objs.size + 2 →
      (∀ b o, s.heap.get? b = some o → h'.get? b = some o) → Q (.ref (s.heap.objs.size + 1)) { s with heap := h' }) :
    wpAny (model prog w) A (call (.type "enumerate") [.ref l]) Q E s := by
  obtain ⟨⟨c, dct, dt, sl⟩, hl, hc, n, hd⟩ := hL
  replace hc : c = .type "tuple" := hc
  replace hd : dt = .seq items n := hd
  subst hc hd
  refine callType_new F.called_enumerate (by decide) (F.typeCall_enumerate_1 _) (F.newCall_enumerate_1 _) (fun obj => F.args_object_init_2 obj _) F.entry_enumerate_new
    (enumerate_newT l items n dct sl) ⟨hl, ?_⟩
  have hz : (s.heap.push { cls := .type "tuple_iterator", data := .fields #[.ref l, .int 0 0] }).objs.size = s.heap.objs.size + 1 := Heap.size_push ..
  show _ ∧ _
  rw [hz]
  have he : IsEnum ((s.heap.push { cls := .type "tuple_iterator", data := .fields #[.ref l, .int 0 0] }).push
      { cls := .type "enumerate", data := .fields #[.none, .bool false, .ref s.heap.objs.size, rawInt 0, .none, .none] }) (s.heap.objs.size + 1) s.heap.objs.size 0 .none := by
    have := Heap.get?_push_size (s.heap.push { cls := .type "tuple_iterator", data := .fields #[.ref l, .int 0 0] })
      (o := { cls := .type "enumerate", data := .fields #[.none, .bool false, .ref s.heap.objs.size, rawInt 0, .none, .none] }) rfl
    rw [hz] at this; exact this
  refine ⟨⟨_, he, rfl⟩, h _ he ⟨_, Heap.get?_push_of_some _ (Heap.get?_push_size _ rfl), rfl, rfl⟩ (by rw [Heap.size_push, hz]) fun b o x => Heap.get?_push_of_some _ (Heap.get?_push_of_some _ x)⟩
end
/-- the tuple at a, each item in a new pair -/
def IteT (K : PySem.W.Frag) (a : Addr) : It :=
  ⟨fun i H => ∃ (xs : List V) (x : V), SqT K H a xs ∧ xs[i]? = some x, fun i H v H' => ∃ T x, v = .ref T ∧ H T = none ∧ H' = upd H T (.tup [.int (i : Nat), x]) ∧ ∀ xs, SqT K H a xs → xs[i]? = some x, fun i H => ∃ xs : List V, SqT K H a xs ∧ xs.length ≤ i⟩
theorem turn_enumT {P : Program} {w : World} {K : PySem.W.Frag} {elts : List Expr} {kk : Nat} {tpos : Pos} (a e it : Addr) :
    Turn P w K (.Tuple elts kk tpos) (IteT K a) [e, it] e (fun i h => (∃ old, IsEnum h e it ((i : Nat) : Int) old) ∧ h.IsTupleIter it a i ∧ e ≠ it ∧ a ≠ it ∧ a ≠ e) where
  mem := by simp
  obj := fun i h st b hb => by
    obtain ⟨⟨old, he⟩, ⟨o, ho, hc, hd⟩, _⟩ := st
    have e' : b = e ∨ b = it := by simpa using hb
    rcases e' with z | z
    · rw [z]; exact ⟨_, he, fun v q => nomatch q⟩
    · rw [z]; exact ⟨o, ho, fun v q => by rw [hd] at q; cases q⟩
  keep := fun i h h' st k => let ⟨⟨old, he⟩, hi, hne⟩ := st; ⟨⟨old, k e (by simp) _ he⟩, hi.at fun o q => k it (by simp) o q, hne⟩
  item := by
    intro X hP hw hK hc i pins s σ H E I hf st hg
    subst hP hw hK
    obtain ⟨⟨old, he⟩, hit, hne, hai, hae⟩ := st
    obtain ⟨xs, x, hq, hx⟩ := hg
    obtain ⟨its, rv, p, hz⟩ := I.tuple hq
    obtain ⟨u, hu, ru⟩ := rv.get hx
    have hel : e < s.heap.objs.size := Heap.lt_size he
    have hil : it < s.heap.objs.size := by obtain ⟨_, q, _⟩ := hit; exact Heap.lt_size q
    have hlt : i < its.toArray.size := by
      have := (List.getElem?_eq_some_iff.mp hu).1
      simpa using this
    refine wpAny_pyNext_enum_itemD (draws_tuple (prog := X.prog) (w := X.w) (A := X.A.in1) (show X.A.in1.handled = none from I.ok.hd hc) it a hai its.toArray) he ⟨hit, (show s.heap.IsTuple a its.toArray from p)⟩ hlt hne (by simp [hne, Ne.symm hae]) fun y h' tk hy ho hst' hT hsz hk => ?_
    have hyu : y = u := by
      have h2 : its.toArray[i]? = some u := by simpa using hu
      exact Option.some.inj (hy.symm.trans h2)
    subst hyu
    refine ⟨_, rfl, wpAny_letOwnedTupleGo_enum (s := { s with heap := h', toks := tk + 1 }) ho fun h'' he' sb => ?_⟩
    have hT2 : h''.get? s.heap.objs.size = some { cls := .type "tuple", data := .seq #[.int i tk, y] } := (sb.2 _ (Nat.ne_of_gt hel)).trans hT
    have new : ObjOk X.prog X.w (upd H s.heap.objs.size (.tup [.int (i : Nat), x])) h'' s.heap.objs.size (.tup [.int (i : Nat), x]) :=
      ⟨by show 2 ≤ sizeLine; decide, [.int i tk, y], .cons ⟨_, rfl⟩ (.cons ru .nil), ⟨_, hT2, rfl, _, rfl⟩⟩
    have I1 : Inv X pins σ (upd H s.heap.objs.size (.tup [.int (i : Nat), x])) { s with heap := h'', toks := tk + 1 } :=
      I.turnedNew (ch := [e, it]) (fun b ob hb q => (sb.2 b (fun z => hb (by simp [z]))).trans (hk b ob (fun z => hb (by simp [z])) (fun z => hb (by simp [z])) q)) hf (Nat.le_refl _) new
    refine ⟨.ref s.heap.objs.size, _, I1, rfl, ⟨_, x, rfl, I.hok.fresh (Nat.le_refl _), rfl, fun ys hy => by rw [I.tuple_inj hy hq]; exact hx⟩, ⟨⟨y, ?_⟩, hst'.1.at fun o q => (sb.2 it (Ne.symm hne)).trans q, hne, hai, hae⟩, fun b hb => ?_⟩
    · have e1 : ((i + 1 : Nat) : Int) = (i : Int) + 1 := by omega
      rw [e1]; exact he'
    · have hb' : b < s.heap.objs.size := by
        have e' : b = e ∨ b = it := by simpa using hb
        rcases e' with z | z
        · rw [z]; exact hel
        · rw [z]; exact hil
      rw [upd_ne (Nat.ne_of_lt hb')]
      exact (hf b hb).1
  done := by
    intro X hP hw hK hc i pins s σ H E I hf st hg
    subst hP hw hK
    obtain ⟨⟨old, he⟩, hit, hne, hai, hae⟩ := st
    obtain ⟨xs, hq, hx⟩ := hg
    obtain ⟨its, rv, p, hz⟩ := I.tuple hq
    obtain ⟨f0, f1, f2, f3, f4, f5⟩ := hf it (by simp)
    have hl := rv.length
    have hT : s.TypeIs (.ref e) "enumerate" := ⟨_, he, rfl⟩
    unfold pyNext
    refine wpAny_bind (wpAny_attempt (wpAny_callSpecial?_slot (name := Str.ofString "__next__") hT F.slot_enumerate_next
      (wpAny_call_entry F.slot_enumerate_next hT F.entry_enumerate_next ?_ (F.args_enumerate_next_1 _))))
    show wpAny _ _ (field (.ref e) 2 >>= _) _ _ _
    refine wpAny_bind (wpAny_field he rfl (x := .ref it) rfl ?_)
    refine wpAny_bind (next_tuple_end (I.ok.hd hc) hit (show s.heap.IsTuple a its.toArray from p) (by simp; omega) fun h' x eb hx' => ?_)
    obtain ⟨o, ho, hc'⟩ := hx'
    refine wpAny_bind (wpAny_isInstance (T := "StopIteration") (b := true) ⟨o, ho, hc'⟩ isSubtype_stop ?_)
    exact wpAny_pure ⟨rfl, I.turned (t' := s.toks) (fun b o hb q => eb b o hb q) f0 f1 f3 f4 f5⟩
  self := fun A i s Q E st h => let ⟨⟨_, he⟩, _⟩ := st; wpAny_pyIter_enum he h
def iEnumT (K : PySem.W.Frag) (ta : TA) : TI := fun σ H R => ta σ H fun vs H1 => ∃ a xs, vs = [.ref a] ∧ SqT K H1 a xs ∧ R (IteT K a) H1
theorem pi_enumT {X : Cx} {e : Expr} {ta : TA} {p pos tpos : Pos} {elts : List Expr} {kk : Nat} (hg : Gl X "enumerate") (hm : X.mg "enumerate" = none) (ha : PA X [e] ta) (hs : starEach [e] X.env = [(false, eval e X.env)] := by rfl) :
    PI X (.Tuple elts kk tpos) (.Call (.Name "enumerate" p) [e] [] pos) (iEnumT X.K ta) := by
  refine ⟨fun pins s σ H R I h => ?_⟩
  refine Call_ (ld_blt I hg hm boot_enumerate (PyProof.Rows.callWith_type1 (thn (ha.run pos pins s σ H _ I h) fun us s1 ⟨vs, H1, I1, r1, q1⟩ => ?_) hs rfl))
  obtain ⟨a, xs, ex, hq, q⟩ := q1
  subst ex
  cases r1 with
  | cons r rr =>
    cases rr
    cases r
    obtain ⟨its, rv, p', hz⟩ := I1.tuple hq
    have hp : s1.heap.IsTuple a its.toArray := p'
    have hal : a < s1.heap.objs.size := by obtain ⟨_, q, _⟩ := hp; exact Heap.lt_size q
    refine call_enumerate_tuple hp fun h' he hit hsz hk => wpAny_pyIter_enum he ?_
    have I2 : Inv X pins σ H1 { s1 with heap := h' } := I1.kept (t' := s1.toks) hk
    refine ⟨s1.heap.objs.size + 1, [s1.heap.objs.size + 1, s1.heap.objs.size], _, _, H1, rfl, I2, turn_enumT a (s1.heap.objs.size + 1) s1.heap.objs.size, ⟨⟨.none, he⟩, hit, Nat.succ_ne_self _, Nat.ne_of_lt hal, Nat.ne_of_lt (Nat.lt_succ_of_lt hal)⟩, fun b hb => ?_, q⟩
    have e' : b = s1.heap.objs.size + 1 ∨ b = s1.heap.objs.size := by simpa using hb
    have hle : s1.heap.objs.size ≤ b := by
      rcases e' with z | z
      · rw [z]; exact Nat.le_add_right _ _
      · rw [z]; exact Nat.le_refl _
    exact I1.fpOk hle (I1.hok.fresh hle)
theorem for_enumT {K : PySem.W.Frag} {a : Addr} {xs : List V} {g : TG} {tb : TS} {D : Ends} {σ : L2.St} {H : Hp} (Pv : Nat → L2.St → Hp → Prop) (h0 : Pv 0 σ H) (hl : ∀ i σ H, i ≤ xs.length → Pv i σ H → SqT K H a xs)
    (hs : ∀ i x T σ H, xs[i]? = some x → Pv i σ H → H T = none → g (.ref T) σ (upd H T (.tup [.int (i : Nat), x])) fun σ2 H2 => tb { D with nx := Pv (i + 1), ct := Pv (i + 1), bk := D.nx } σ2 H2) (hd : ∀ σ H, Pv xs.length σ H → D.nx σ H) :
    ∃ W : Nat → Nat → L2.St → Hp → Prop, (∃ m, W 0 m σ H) ∧ ∀ i m σ H, W i m σ H →
      ((IteT K a).stop i H ∧ D.nx σ H) ∨ ((IteT K a).go i H ∧ ∃ N : L2.St → Hp → Prop, (∀ σ' H', N σ' H' → ∃ m', m' < m ∧ W (i + 1) m' σ' H') ∧ ∀ x H', (IteT K a).yld i H x H' → g x σ H' fun σ2 H2 => tb { D with nx := N, ct := N, bk := D.nx } σ2 H2) := by
  refine ⟨fun i m σ H => m = xs.length - i ∧ i ≤ xs.length ∧ Pv i σ H, ⟨xs.length, by simp, Nat.zero_le _, h0⟩, ?_⟩
  rintro i m σ H ⟨rfl, hi, p⟩
  have hL := hl i σ H hi p
  by_cases h : i < xs.length
  · refine .inr ⟨⟨xs, xs[i], hL, List.getElem?_eq_getElem h⟩, Pv (i + 1), fun σ' H' n => ⟨xs.length - (i + 1), by omega, rfl, by omega, n⟩, ?_⟩
    rintro v H' ⟨T, x, rfl, nT, rfl, hx⟩
    exact hs i x T σ H (hx xs hL) p nT
  · have e : i = xs.length := by omega
    subst e
    exact .inl ⟨⟨xs, hL, Nat.le_refl _⟩, hd σ H p⟩
theorem for_enumL {K : PySem.W.Frag} {a : Addr} {xs : List V} {g : TG} {tb : TS} {D : Ends} {σ : L2.St} {H : Hp} (Pv : Nat → L2.St → Hp → Prop) (h0 : Pv 0 σ H) (hl : ∀ i σ H, i ≤ xs.length → Pv i σ H → SqL K H a xs)
    (hs : ∀ i x T σ H, xs[i]? = some x → Pv i σ H → H T = none → g (.ref T) σ (upd H T (.tup [.int (i : Nat), x])) fun σ2 H2 => tb { D with nx := Pv (i + 1), ct := Pv (i + 1), bk := D.nx } σ2 H2) (hd : ∀ σ H, Pv xs.length σ H → D.nx σ H) :
    ∃ W : Nat → Nat → L2.St → Hp → Prop, (∃ m, W 0 m σ H) ∧ ∀ i m σ H, W i m σ H →
      ((Ite K a).stop i H ∧ D.nx σ H) ∨ ((Ite K a).go i H ∧ ∃ N : L2.St → Hp → Prop, (∀ σ' H', N σ' H' → ∃ m', m' < m ∧ W (i + 1) m' σ' H') ∧ ∀ x H', (Ite K a).yld i H x H' → g x σ H' fun σ2 H2 => tb { D with nx := N, ct := N, bk := D.nx } σ2 H2) := by
  refine ⟨fun i m σ H => m = xs.length - i ∧ i ≤ xs.length ∧ Pv i σ H, ⟨xs.length, by simp, Nat.zero_le _, h0⟩, ?_⟩
  rintro i m σ H ⟨rfl, hi, p⟩
  have hL := hl i σ H hi p
  by_cases h : i < xs.length
  · refine .inr ⟨⟨xs, xs[i], hL, List.getElem?_eq_getElem h⟩, Pv (i + 1), fun σ' H' n => ⟨xs.length - (i + 1), by omega, rfl, by omega, n⟩, ?_⟩
    rintro v H' ⟨T, x, rfl, nT, rfl, hx⟩
    exact hs i x T σ H (hx xs hL) p nT
  · have e : i = xs.length := by omega
    subst e
    exact .inl ⟨⟨xs, hL, Nat.le_refl _⟩, hd σ H p⟩
/-! ### () * k -/
theorem tuple_mul0 (l : Addr) (n : Nat) (dd : Option Addr) (sl : Array (Option Value)) (x : Int) (u : Tok) (c0 : (decide (x < -(2 ^ 63)) || decide (x ≥ 2 ^ 63)) = false) :
    Meets (Builtin.«tuple.__mul__» ⟨[.ref l, .int x u], []⟩) (fun _ R s => s.heap.get? l = some { cls := .type "tuple", dict := dd, data := .seq #[] n, slots := sl } ∧ R (.ok (.ret (Value.ref l))) s) :=
  .of_wp fun prog w A R s h => by
    obtain ⟨hp, g, d, tk, os⟩ := s
    obtain ⟨hl, h⟩ := h
    have f1 := AutoSeq1.idx_int
    have c1 : ((#[] : Array Value).isEmpty || x == 1) = true := rfl
    wp_walk using wpAny_loadPart' hl
    repeat (first
      | (refine wpAny_ite_false (decide_eq_false (by rw [c0]; exact Bool.false_ne_true)) ?_; wp_walk using wpAny_loadPart' hl)
      | (refine wpAny_ite_true (decide_eq_true c1) ?_; wp_walk using wpAny_loadPart' hl))
    exact ⟨_, rfl, h⟩
def rRepZ (K : PySem.W.Frag) : R2 := fun x y H Q => ∃ l k xs, x = .ref l ∧ y = .int k ∧ SqT K H l xs ∧ 1 ≤ k ∧ k ≤ 1000 ∧ xs.length ≤ 1000 ∧ ∀ p H', (∀ b o, H b = some o → H' b = some o) → SqT K H' p (List.replicate k.toNat xs).flatten → Q (.ref p) H'
theorem flat_nil {α : Type} (k : Nat) : (List.replicate k ([] : List α)).flatten = [] := by
  induction k with
  | zero => rfl
  | succ k ih => rw [List.replicate_succ, List.flatten_cons, ih]; rfl
theorem op_repZ {X : Cx} : OpR X (binaryOp .Mult) (rRepZ X.K) := by
  intro pins s σ H x y v u Q I rx ry h
  obtain ⟨l, k, xs, rfl, rfl, hT, h1, h2, hz, q⟩ := h
  by_cases hne : xs = []
  · subst hne
    cases rx
    obtain ⟨t, rfl⟩ := ry
    obtain ⟨its, r, ⟨⟨cls, dd, data, sl⟩, ho, hc, n, hd⟩, hs⟩ := I.tuple hT
    simp only at hc hd
    subst hc hd
    cases r
    have c0 : (decide (k < -(2 ^ 63)) || decide (k ≥ 2 ^ 63)) = false := by
      rw [decide_eq_false (by omega), decide_eq_false (by omega)]
      rfl
    refine wpAny_binaryOp_repeat_ref (T := "tuple") (U := "int") (by decide) ⟨_, ho, rfl⟩ (fun s' => typeIs_int s' k t) noFill_tuple_mul F.fills_int_mul F.slot_int_rmul repeat_tuple F.slot_int_index.lookup
      (call_meets F.slot_int_rmul (typeIs_int s k t) F.entry_int_rmul (F.args_int_rmul_2 _ _) (int_rmul_tuple k t l #[] n dd sl)
        ⟨ho, rfl, ⟨_, ho, rfl⟩, call_meets F.slot_tuple_mul ⟨_, ho, rfl⟩ F.entry_tuple_mul (F.args_tuple_mul_2 _ _) (tuple_mul0 l n dd sl k t c0) ⟨ho, ?_⟩⟩)
    exact ⟨.ref l, H, I, rfl, q l H (fun _ _ h => h) (by rw [flat_nil]; exact hT)⟩
  · refine op_repA pins s σ H _ _ v u Q I rx ry ⟨l, k, xs, rfl, rfl, hT, hne, h1, h2, hz, fun e => ?_, fun e p np => ?_⟩
    · refine q l H (fun _ _ h => h) ?_
      subst e
      show SqT X.K H l ([xs]).flatten
      simpa using hT
    · refine q p _ (fun b o e => by rw [upd_ne (ne_of_none e np)]; exact e) (SqT.of upd_same)
end RR

/-! ### exceptions of own classes as values: made, asked for their class -/
namespace EX6
open PySem PySem.Spec PyProof.Rows L2
/-- C(e, ..) as a value, C an exception class with its own __init__ -/
def tNewE (C : Addr) (sp : Sp) (dvs : List V) (ta : TA) : TE := fun σ H Q => ta σ H fun vs H1 => vs.length ≤ 1000 ∧ ∀ a, H1 a = none → sp (.ref a :: (vs ++ dvs)) (upd H1 a (exo a C none)) (fun v H2 => v = .non ∧ Q (.ref a) H2) (fun _ _ _ => False)
theorem pe_newE {X : Cx} {CX : CXT} {x : Str} {C fI : Addr} {k : Nat} {fd : FuncData} {ps : List Str} {sp : Sp} {ds : List Value} {dvs : List V} {e : Expr} {es : List Expr} {ta : TA} {p pos : Pos} (T : OexC X.K C) (iC : PySem.W.findIn X.K (.ref C) "__init__" = some (some (.ref fI))) (tI : PySem.W.typeIn X.K (.ref fI) = some (.type "function"))
    (F1 : FnOk X.prog X.w X.K X.mg X.base CX k fI fd ps sp) (hr : Room (k + 1) X.A) (hb : Binds X.K fd ps ds) (hd : Vals dvs ds) (hx : Passes CX X (fun _ _ _ => False)) (hg : Gl X x) (hm : X.mg x = some (.ref C)) (ha : PA X (e :: es) ta)
    (hdb : (x == ("__debug__" : Str)) = false := by decide) (he : starEach (e :: es) X.env = (false, eval e X.env) :: starEach es X.env := by rfl) (hpl : (backTo pos (starEach es X.env)).any (·.1) = false := by rfl) :
    PE X (.Call (.Name x p) (e :: es) [] pos) (tNewE C sp dvs ta) := by
  refine ⟨fun pins s σ H Q I h => ?_⟩
  obtain ⟨nm, q, N, bs, bm, sn, sub, ab, col, dd, k0, k1, k2, k3, k5, hC, hbm⟩ := T.cls
  refine wpAny_Call_Name_kw (ld_glob I hg hm ?_ hdb)
  refine PySem.W.callWith_K (h₀ := X.base) I.ok.mod.kin T.kC (thn (ha.run pos pins s σ H _ I h) fun us s1 ⟨vs, H1, I1, r1, hz, q1⟩ => ⟨I1.kIn, ?_⟩) he hpl
  show wpAny _ _ (call (.ref C) us) _ _ _
  obtain ⟨hp, g, dr, tk, os⟩ := s1
  have hsz : hp.objs.size ≤ hp.objs.size + 1 := Nat.le_succ _
  have hn : H1 (hp.objs.size + 1) = none := I1.hok.fresh hsz
  have hq := q1 (hp.objs.size + 1) hn
  have kk : ∀ b o, hp.get? b = some o → ((hp.push (PySem.W.kdv_tup us)).push (PySem.HandSPX.excO C hp.objs.size)).get? b = some o := fun b o e => Heap.get?_push_of_some _ (Heap.get?_push_of_some _ e)
  have hget : ((hp.push (PySem.W.kdv_tup us)).push (PySem.HandSPX.excO C hp.objs.size)).get? (hp.objs.size + 1) = some (PySem.HandSPX.excO C hp.objs.size) := by heap_get
  have I2 : Inv X pins σ (upd H1 (hp.objs.size + 1) (exo (hp.objs.size + 1) C none)) ⟨(hp.push (PySem.W.kdv_tup us)).push (PySem.HandSPX.excO C hp.objs.size), g, dr, tk, os⟩ :=
    I1.laid (t' := tk) (a := hp.objs.size + 1) (o := exo (hp.objs.size + 1) C none) (h' := (hp.push (PySem.W.kdv_tup us)).push (PySem.HandSPX.excO C hp.objs.size)) kk hsz (exo_ok hget)
  have r2 : Vals (V.ref (hp.objs.size + 1) :: (vs ++ dvs)) (Value.ref (hp.objs.size + 1) :: (us ++ ds)) := .cons rfl (r1.append hd)
  have hl : (Value.ref (hp.objs.size + 1) :: us ++ ds).length = ps.length := by
    have e := r2.length
    rw [F1.len _ _ _ _ hq] at e
    exact e.symm
  have hus : us.length ≤ sizeLine := by
    rw [← Paired.length r1, sizeLine_eq]
    omega
  refine wpAny_call (PySem.HandSPX.call_own F.excBase_ValueError (fun Y => PySem.HandSPX.refsVE_contains Y bm hbm) (I1.kIn _ _ hC) (PySem.W.looks_findIn I1.kIn iC) (fun self => PySem.W.bind_fn I1.kIn self tI) hus
    (codeAny_mono (F1.run _ X.stack _ _ ⟨Value.ref (hp.objs.size + 1) :: us, []⟩ (Value.ref (hp.objs.size + 1) :: (us ++ ds)) _ _ (fun _ _ _ => False) (hr.make C us []) (I2.env0.make C us []) (hb _ (Value.ref (hp.objs.size + 1) :: us) I2.kIn hl) r2 hq) fun r s' hq' => ?_))
  cases r with
  | error er => exact hx pins σ _ _ er s' I2 hq'
  | ok fl =>
    cases fl with
    | ret u =>
      obtain ⟨v, H', I3, rv, ev, q3⟩ := I2.after hq'
      subst ev
      exact ⟨rv, ⟨V.ref (hp.objs.size + 1), H', I3, rfl, q3⟩⟩
    | next => exact False.elim hq'
    | brk => exact False.elim hq'
    | cont => exact False.elim hq'
/-- isinstance(e, c), e an exception of the own class at C that stands in the heap with its dict -/
def rIsX (K : PySem.W.Frag) (C : Addr) : List V → Hp → VK → Prop := fun xs H Q => ∃ (a d : Addr) (fs : List (Str × V)) (c : V) (cv : Value) (b : Bool), xs = [.ref a, c] ∧ H a = some (exo a C (some d)) ∧ H d = some (exd d fs) ∧ ClsV c cv ∧ PySem.W.kitOne K (.ref C) cv = some b ∧ Q (.bl b) H
theorem call_isX {X : Cx} {C : Addr} (E : ExcC X.K C) : CallR X (.builtin "isinstance") (rIsX X.K C) := by
  intro pins s σ H xs us Q I r h
  obtain ⟨a, d, fs, c, cv, b, rfl, ea, ed, k, e, q⟩ := h
  obtain ⟨u1, u2, rfl, r1, r2⟩ := vals2 r
  have e2 := k.eq r2
  subst e2
  cases (show u1 = Value.ref a from r1)
  obtain ⟨⟨t1, hget⟩, _⟩ := I.hok a _ ea
  obtain ⟨⟨mA, hns, _⟩, _⟩ := I.hok d _ ed
  obtain ⟨od, ho, _⟩ := lookIn_ns hns
  obtain ⟨cd, hcD, _⟩ := PySem.W.any_some E.hd
  have J : PySem.W.InstAt s.heap a ({ cls := .ref C, dict := some d, data := .fields #[.ref t1, .none, .none, .none, .bool false, .none] } : Obj) C (some od) := ⟨hget, rfl, rfl, ho⟩
  exact PySem.W.kia_one (PySem.W.kitx_exc (by rw [hcD]; rfl) E.hg E.hk E.hs E.ha E.hn E.ht E.hm) I.kIn J e (fun z => nomatch z) fun tk => ⟨.bl b, H, I.tok tk, rfl, q⟩
theorem kit_own {K : PySem.W.Frag} {a b : Addr} (h1 : PySem.W.subIn K (.ref a) (.ref b) = some true) (h2 : PySem.W.isClsIn K b = true) (h3 : PySem.W.typeIn K (.ref b) = some (.type "type")) : PySem.W.kitOne K (.ref a) (.ref b) = some true := by
  unfold PySem.W.kitOne
  split
  · rfl
  · have h2' : (PySem.W.clsIn K b).isSome = true := h2
    show (if ((PySem.W.clsIn K b).isSome && PySem.W.typeIn K (.ref b) == some (.type "type")) = true then PySem.W.subIn K (.ref a) (.ref b) else none) = some true
    rw [h2', h3, if_pos (by rfl)]
    exact h1
theorem kit_ownN {K : PySem.W.Frag} {a b : Addr} (h1 : PySem.W.subIn K (.ref a) (.ref b) = some false) (h2 : PySem.W.isClsIn K b = true) (h3 : PySem.W.typeIn K (.ref b) = some (.type "type")) (h4 : (Value.ref a == Value.ref b) = false) : PySem.W.kitOne K (.ref a) (.ref b) = some false := by
  unfold PySem.W.kitOne
  rw [h4, if_neg Bool.false_ne_true]
  have h2' : (PySem.W.clsIn K b).isSome = true := h2
  show (if ((PySem.W.clsIn K b).isSome && PySem.W.typeIn K (.ref b) == some (.type "type")) = true then PySem.W.subIn K (.ref a) (.ref b) else none) = some false
  rw [h2', h3, if_pos (by rfl)]
  exact h1
end EX6
/-! ### a tuple times an int of any sign -/
namespace RN6
open PySem PySem.Spec PyProof.Rows L2
theorem tuple_mulN (l : Addr) (items : Array Value) (n : Nat) (dd : Option Addr) (sl : Array (Option Value)) (x : Int) (u : Tok) (c0 : (decide (x < -(2 ^ 63)) || decide (x ≥ 2 ^ 63)) = false) (c1 : (items.isEmpty || x == 1) = false) (c2 : (decide (x ≤ 0) || items.isEmpty) = true) :
    Meets (Builtin.«tuple.__mul__» ⟨[.ref l, .int x u], []⟩) (fun _ R s => s.heap.get? l = some { cls := .type "tuple", dict := dd, data := .seq items n, slots := sl } ∧
      R (.ok (.ret (Value.ref s.heap.objs.size))) { s with heap := s.heap.push { cls := Value.type "tuple", data := Data.seq #[] }, toks := s.toks }) :=
  .of_wp fun prog w A R s h => by
    obtain ⟨hp, g, d, tk, os⟩ := s
    obtain ⟨hl, h⟩ := h
    have f1 := AutoSeq1.idx_int
    wp_walk using wpAny_loadPart' hl
    repeat (first
      | (refine wpAny_ite_false (decide_eq_false (by rw [c0]; exact Bool.false_ne_true)) ?_; wp_walk using wpAny_loadPart' hl)
      | (refine wpAny_ite_false (decide_eq_false (by rw [c1]; exact Bool.false_ne_true)) ?_; wp_walk using wpAny_loadPart' hl)
      | (refine wpAny_ite_true (decide_eq_true c2) ?_; wp_walk using wpAny_loadPart' hl))
    exact ⟨_, rfl, h⟩
def rRepN (K : PySem.W.Frag) : R2 := fun x y H Q => ∃ l k xs, x = .ref l ∧ y = .int k ∧ SqT K H l xs ∧ -1000 ≤ k ∧ k ≤ 1000 ∧ xs.length ≤ 1000 ∧ ∀ p H', (∀ b o, H b = some o → H' b = some o) → SqT K H' p (List.replicate k.toNat xs).flatten → Q (.ref p) H'
theorem op_repN {X : Cx} : OpR X (binaryOp .Mult) (rRepN X.K) := by
  intro pins s σ H x y v u Q I rx ry h
  obtain ⟨l, k, xs, rfl, rfl, hT, h1, h2, hz, q⟩ := h
  by_cases hk : 1 ≤ k
  · exact RR.op_repZ pins s σ H _ _ v u Q I rx ry ⟨l, k, xs, rfl, rfl, hT, hk, h2, hz, q⟩
  · have c0 : (decide (k < -(2 ^ 63)) || decide (k ≥ 2 ^ 63)) = false := by
      rw [decide_eq_false (by omega), decide_eq_false (by omega)]
      rfl
    have e0 : k.toNat = 0 := by omega
    cases rx
    obtain ⟨t, rfl⟩ := ry
    obtain ⟨its, r, ⟨⟨cls, dd, data, sl⟩, ho, hc, n, hd⟩, hs⟩ := I.tuple hT
    simp only at hc hd
    subst hc hd
    by_cases hne : xs = []
    · subst hne
      cases r
      refine wpAny_binaryOp_repeat_ref (T := "tuple") (U := "int") (by decide) ⟨_, ho, rfl⟩ (fun s' => typeIs_int s' k t) noFill_tuple_mul F.fills_int_mul F.slot_int_rmul repeat_tuple F.slot_int_index.lookup
        (call_meets F.slot_int_rmul (typeIs_int s k t) F.entry_int_rmul (F.args_int_rmul_2 _ _) (int_rmul_tuple k t l #[] n dd sl)
          ⟨ho, rfl, ⟨_, ho, rfl⟩, call_meets F.slot_tuple_mul ⟨_, ho, rfl⟩ F.entry_tuple_mul (F.args_tuple_mul_2 _ _) (RR.tuple_mul0 l n dd sl k t c0) ⟨ho, ?_⟩⟩)
      exact ⟨.ref l, H, I, rfl, q l H (fun _ _ h => h) (by rw [RR.flat_nil]; exact hT)⟩
    · have hle : its.length = xs.length := r.length.symm
      have hn : its ≠ [] := fun e => hne (by
        rw [e] at hle
        exact List.eq_nil_of_length_eq_zero hle.symm)
      have hi : its.toArray.isEmpty = false := by
        cases its with
        | nil => exact absurd rfl hn
        | cons a b => rfl
      have c1 : (its.toArray.isEmpty || k == 1) = false := by
        rw [hi, Bool.false_or]
        exact beq_eq_false_iff_ne.mpr (by omega)
      have c2 : (decide (k ≤ 0) || its.toArray.isEmpty) = true := by
        rw [decide_eq_true (by omega)]
        rfl
      refine wpAny_binaryOp_repeat_ref (T := "tuple") (U := "int") (by decide) ⟨_, ho, rfl⟩ (fun s' => typeIs_int s' k t) noFill_tuple_mul F.fills_int_mul F.slot_int_rmul repeat_tuple F.slot_int_index.lookup
        (call_meets F.slot_int_rmul (typeIs_int s k t) F.entry_int_rmul (F.args_int_rmul_2 _ _) (int_rmul_tuple k t l its.toArray n dd sl)
          ⟨ho, rfl, ⟨_, ho, rfl⟩, call_meets F.slot_tuple_mul ⟨_, ho, rfl⟩ F.entry_tuple_mul (F.args_tuple_mul_2 _ _) (tuple_mulN l its.toArray n dd sl k t c0 c1 c2) ⟨ho, ?_⟩⟩)
      have hf : H s.heap.objs.size = none := I.hok.fresh (Nat.le_refl _)
      refine ⟨.ref s.heap.objs.size, _, I.laid (t' := s.toks) (o := .tup []) (fun b ob q => Heap.get?_push_of_some _ q) (Nat.le_refl _) ?_, rfl, q _ _ (fun b o e => by rw [upd_ne (ne_of_none e hf)]; exact e) (SqT.of ?_)⟩
      · exact ⟨Nat.zero_le _, [], .nil, IsTup.new _ _⟩
      · rw [upd_same, e0]
        rfl
end RN6
/-! ### list.count of a flat thing -/
namespace CF6
open PySem PySem.Spec PyProof.Rows L2
theorem cnt_eqU {x : V} : ∀ {xs : List V} {us : List Value}, Vals xs us → xs.all flatV = true → us.countP (eqU x) = xs.countP fun y => eqV y x
  | _, _, .nil, _ => rfl
  | y :: xs, u :: us, .cons r t, f => by
    rw [List.all_cons, Bool.and_eq_true] at f
    rw [List.countP_cons, List.countP_cons, eqU_of r f.1, cnt_eqU t f.2]
def rCntF (K : PySem.W.Frag) : V → List V → Hp → VK → Prop := fun x xs H Q => ∃ (p : Addr) (ys : List V) (z : V), x = .ref p ∧ xs = [z] ∧ SqL K H p ys ∧ flatV z = true ∧ ys.all flatV = true ∧ Q (.int (ys.countP fun y => eqV y z : Nat)) H
theorem mt_countF {X : Cx} : MtR X "list.count" (rCntF X.K) := by
  intro pins s σ H x xs v us Q I rx rxs h
  obtain ⟨p, ys, z, rfl, rfl, hs, fz, fy, q⟩ := h
  cases rx
  obtain ⟨u, rfl, ru⟩ := rxs.one
  obtain ⟨its, rv, ⟨⟨cls, dd, data, sl⟩, n, ho, hc, hdn, hd⟩, hlen⟩ := I.list hs
  simp only at hc hd
  subst hc hd
  refine call_meets PySem.F.slot_list_count ⟨_, ho, rfl⟩ PySem.F.entry_list_count (PySem.F.args_list_count_2 _ _)
    (SeqAt.list_countAt p its.toArray n dd sl u (eqU z)) ⟨ho, fun y hy => mem_eqAt ru fz rv fy y (by simpa using hy), .int (ys.countP fun y => eqV y z : Nat), H, I.tok _, ⟨s.toks, ?_⟩, q⟩
  rw [← cnt_eqU rv fy, List.toList_toArray]
end CF6

/-! ### repr of data: a def that is called where no repr is under way -/
namespace RG7
open PySem PySem.Spec PyProof.Rows L2
/-- a def's promise where no repr is under way -/
structure FnG (P : Program) (w : World) (K : PySem.W.Frag) (mg : Str → Option Value) (base : Heap) (k : Nat) (f : Addr) (fd : FuncData) (ps : List Str) (sp : Sp) : Prop where
  many : ∀ vs H Q E, sp vs H Q E → vs.length = ps.length
  goes : ∀ {A : Around} {outer : List Env} {s : Shared} {H : Hp} {args : Args} {us : List Value} {vs : List V} {Q : VK} {E : XK}, A.guards = some [] → Room k A → Env0 P w K mg base A outer s H → BindsTo s fd args (ps.zip us) → Vals vs us → sp vs H Q E →
    codeAny (model P w) A (.call (.ref f) args) (CR CX0 outer P w H s Q E) s
theorem FnG.of {P : Program} {w : World} {K : PySem.W.Frag} {mg : Str → Option Value} {base : Heap} {k : Nat} {f : Addr} {fd : FuncData} {ps : List Str} {sp : Sp} (F : FnOk P w K mg base CX0 k f fd ps sp) : FnG P w K mg base k f fd ps sp :=
  ⟨F.len, fun _ r e b v h => F.run _ _ _ _ _ _ _ _ _ r e b v h⟩
section
variable {P : Program} {w : World} {K : PySem.W.Frag} {mg : Str → Option Value} {base : Heap}
theorem fnG {x qual : Str} {st : Stmt} {f : Addr} {fd : FuncData} {N ps : List Str} {k : Nat} {sp : Sp} (F : Fun K x qual st f fd) (S : FnScope N ps (defScope st)) (many : ∀ vs H Q E, sp vs H Q E → vs.length = ps.length)
    (body : ∀ (cdv : Value) (A : Around) (outer : List Env) (s : Shared) (H : Hp) (vs : List V) (Q : VK) (E : XK), A.guards = some [] → Room k (A.deeper (envOfC qual (defScope st) s.heap.objs.size f cdv)) → sp vs H Q E →
      ∃ t, PSs (cxOf CX0 P w K mg base N qual (defScope st) f cdv A outer s H E).nox (defBody st) t ∧ t { nx := fun _ H' => Q .non H', rt := Q } (L2.start N vs) H) : FnG P w K mg base (k + 1) f fd ps sp := by
  obtain ⟨oc, od, kV, doc, pm, an, cdv, ct, osl, rfl, look, code⟩ := F.ex
  constructor
  · exact many
  · intro A outer s H args us vs Q E noG room e0 bd rv want
    have inK : K.In s.heap := e0.mod.kin.keeps fun b o e => (e0.bs b o e).1
    have kinds : ∀ y ∈ ps.zip us, (defScope st).names.lookup y.1 = some .local ∨ ((defScope st).names.lookup y.1 = some .cell ∧ ((cellsFrom (s.heap.objs.size + 1) (defScope st).names []).lookup y.1).isSome = true) := by
      rintro ⟨n, v⟩ hy
      cases S.par n (List.of_mem_zip hy).1 with
      | inl l => exact .inl l
      | inr l => exact .inr ⟨l, PySem.W.cellsFrom_some _ _ _ (.inl l)⟩
    apply codeAny_call_function room.depth (inK _ _ look) rfl S.co S.gen rfl (PySem.W.codeRec_of inK code)
    apply bd
    apply wpAny_newFunctionEnv_cells S.kind kinds
    rintro env rfl s1 inside
    refine ⟨(e0.mod.nolimit.keeps fun b o e => (e0.bs b o e).1).keeps inside.toInCall.keep, codeAny_func ?_⟩
    obtain ⟨t, ht, q⟩ := body cdv A outer s H vs Q E noG (room.deeper _) want
    have I := inv_start (CX := CX0) (mg := mg) (base := base) (qual := qual) (f := f) (cd := cdv) (E := E) S room.hd e0 (many _ _ _ _ want) rv inside
    refine wpAny_mono (ht.nox.run [] s1 _ H _ I q) (fun fl s' got => ?_) fun e s' got => got
    cases fl with
    | brk => exact got.elim fun _ z => z.elim fun _ z => z.2.elim
    | cont => exact got.elim fun _ z => z.elim fun _ z => z.2.elim
    | next =>
      obtain ⟨σ', H', J, q'⟩ := got
      exact ⟨V.non, H', J.os, J.bare, J.base, J.hok, rfl, q'⟩
    | ret u =>
      obtain ⟨v, σ', H', J, rel, q'⟩ := got
      exact ⟨v, H', J.os, J.bare, J.base, J.hok, rel, q'⟩
end
/-- the script's heap: only the script is told of, and only if the module has no such object -/
def only1 (a : Addr) (u : HO) : Hp := fun b => if b = a then some u else none
theorem only1_at {a : Addr} {u : HO} : only1 a u a = some u := if_pos rfl
theorem only1_no {a b : Addr} {u : HO} (h : b ≠ a) : only1 a u b = none := if_neg h
theorem only1_of {a b : Addr} {u v : HO} (h : only1 a u b = some v) : b = a ∧ v = u := by
  by_cases e : b = a
  · rw [e, only1_at] at h
    exact ⟨e, (Option.some.inj h).symm⟩
  · rw [only1_no e] at h
    cases h
/-- what a call from the claim's caller must end in -/
abbrev EndT (s₁ : Shared) : Result → Shared → Prop := fun r s' => r = .ok (.ret (.bool true)) ∧ OldK s₁.heap s'.heap ∧ s'.os = s₁.os ∧ AllBare s'.gens
/-- from a heap in which at most the script is told of -/
theorem enter {P : Program} {w : World} {K : PySem.W.Frag} {mg mb : Str → Option Value} {k : Nat} {fa a : Addr} {fd : FuncData} {x : Str} {sp : Sp} {s₁ : Shared} {vs : List Value} {H : Hp}
    (inK : K.In s₁.heap) (gl : s₁.heap.Ns mainGlobals mg) (bt : s₁.heap.Ns builtinsNs mb) (boot : ∀ y : Str, y ≠ "__name__" → mb y = bootBuiltins y) (lim : s₁.heap.NoLimit) (ng : s₁.gens = #[])
    (at_ : s₁.heap.get? a = some { cls := .type "list", data := .seq vs.toArray }) (room : Room k callerA)
    (F : ∀ base : Heap, K.In base → base.Ns mainGlobals mg → FnG P w K mg base k fa fd [x] sp) (bd : ∀ (s : Shared) (u : Value), BindsTo s fd ⟨[u], []⟩ [(x, u)])
    (frz : ∀ b u, H b = some u → b = a ∧ ∃ o xs, u = .frz o (.lst xs)) (ok : HOk P w H s₁.heap) (own : H a ≠ none → K.lookup a = none)
    (want : sp [.ref a] H (fun v _ => v = .bl true) fun _ _ _ => False) : codeAny (model P w) callerA (.call (.ref fa) ⟨[.ref a], []⟩) (EndT s₁) s₁ := by
  have told : ∀ {b o}, s₁.heap.get? b = some o → (∀ xs n, o.data = .seq xs n → False) ∨ H b = none → (hidT s₁.heap H).get? b = some o := fun {b o} e h => hidT_get e (by
    rcases h with h | h
    · cases q : H b with
      | none => rfl
      | some u =>
        have ea := (frz b u q).1
        subst ea
        rw [at_] at e
        cases e
        exact (h _ _ rfl).elim
    · exact h)
  have isNs : ∀ {b : Addr} {m : Str → Option Value}, s₁.heap.Ns b m → (hidT s₁.heap H).Ns b m := by
    rintro b m ⟨o, es, ep, e, d, r⟩
    exact ⟨o, es, ep, told e (.inl fun xs n z => by rw [d] at z; cases z), d, r⟩
  have kept : K.In (hidT s₁.heap H) := fun b o e => told (inK b o e) (.inr (by
    cases q : H b with
    | none => rfl
    | some u =>
      have ea := (frz b u q).1
      subst ea
      rw [own (by rw [q]; exact fun z => by cases z)] at e
      cases e))
  obtain ⟨mc, lim1, lim2⟩ := lim
  have start : Env0 P w K mg (hidT s₁.heap H) callerA [] s₁ H :=
    { frames := rfl, mod := ⟨kept, isNs gl, ⟨mb, isNs bt, boot⟩, ⟨mc, isNs lim1, lim2⟩⟩, bs := fun b o e => of_hidT e, bsz := Nat.le_of_eq (hidT_size _ _), funs := trivial, frf := fun b hb => (List.not_mem_nil hb).elim, hok := ok, bare := .of_eq ng }
  refine codeAny_mono ((F _ kept (isNs gl)).goes (us := [.ref a]) (vs := [.ref a]) (E := fun _ _ _ => False) (Q := fun v _ => v = .bl true) rfl room start (bd s₁ (.ref a)) (.cons rfl .nil) want) fun r s' got => ?_
  match r, got with
  | .error e, got => exact got.elim
  | .ok (.ret u), ⟨v, H', os, bare, un, ok', rel, ev⟩ =>
    have ev' : v = .bl true := ev
    subst ev'
    obtain rfl : u = Value.bool true := rel
    refine ⟨rfl, OldK.of_keep fun b o e => ?_, os, bare⟩
    cases q : H b with
    | none => exact un.keep b o e q (by exact fun z => (List.not_mem_nil z).elim) (by exact fun z => (List.not_mem_nil z).elim)
    | some u =>
      obtain ⟨_, ob, xs, eu⟩ := frz b u q
      subst eu
      obtain ⟨y1, _⟩ := ok b _ q
      obtain ⟨y2, _⟩ := ok' b _ (un.frzs b ob _ q)
      rw [e] at y1
      cases y1
      exact y2
theorem callG {P : Program} {w : World} {K : PySem.W.Frag} {mg mb : Str → Option Value} {k : Nat} {fa a : Addr} {fd : FuncData} {x : Str} {sp : Sp} {s₁ : Shared} {vs : List Value} {ns : List Int}
    (inK : K.In s₁.heap) (gl : s₁.heap.Ns mainGlobals mg) (bt : s₁.heap.Ns builtinsNs mb) (boot : ∀ y : Str, y ≠ "__name__" → mb y = bootBuiltins y) (lim : s₁.heap.NoLimit) (ng : s₁.gens = #[])
    (at_ : s₁.heap.get? a = some { cls := .type "list", data := .seq vs.toArray }) (whole : IntsAre vs ns) (few : ns.length ≤ sizeLine) (room : Room k callerA)
    (F : ∀ base : Heap, K.In base → base.Ns mainGlobals mg → FnG P w K mg base k fa fd [x] sp) (bd : ∀ (s : Shared) (u : Value), BindsTo s fd ⟨[u], []⟩ [(x, u)])
    (want : ∀ H : Hp, Only H → SqL K H a (ns.map V.int) → sp [.ref a] H (fun v _ => v = .bl true) fun _ _ _ => False) : codeAny (model P w) callerA (.call (.ref fa) ⟨[.ref a], []⟩) (EndT s₁) s₁ := by
  have rv := vals_ints whole
  have many := whole.length
  cases hk : K.lookup a with
  | some o =>
    have e := inK a o hk
    rw [at_] at e
    cases e
    refine enter (H := fun _ => none) inK gl bt boot lim ng at_ room F bd (fun b u z => by cases z) (fun b u z => by cases z) (fun z => (z rfl).elim) (want _ (fun _ => .inl rfl) (.inr ⟨_, vs.toArray, _, hk, rfl, rfl, rfl, ?_, ?_⟩))
    · rw [List.size_toArray, many]
      exact few
    · rw [List.toList_toArray]
      exact rv
  | none =>
    refine enter (H := only1 a (.frz { cls := .type "list", data := .seq vs.toArray } (.lst (ns.map V.int)))) inK gl bt boot lim ng at_ room F bd (fun b u z => ⟨(only1_of z).1, _, _, (only1_of z).2⟩) (fun b u z => ?_) (fun _ => hk) (want _ (fun b => ?_) (.inl (.inr ⟨_, only1_at⟩)))
    · obtain ⟨rfl, rfl⟩ := only1_of z
      exact ⟨at_, by rw [List.length_map]; exact few, vs, _, rv, at_⟩
    · by_cases e : b = a
      · rw [e]
        exact .inr ⟨_, _, only1_at⟩
      · exact .inl (only1_no e)
theorem walk_ofG {l : PySem.W.OpenLaw} {n k : Nat} {q : Program} {loose : List Str} {XP : (Str → Option Value) → Heap → Prop} {YP : World → Heap → Prop} {d : DefRec} {K : Params → PySem.W.Frag} {sp : World → Sp} {x : Str}
    (hn : l.most = some n) (hn2 : n ≤ sizeLine) (hdf : d.params.defaults = []) (hr : Room k callerA)
    (hY : ∀ (w : World) (h : Heap), YP w h → (K w.params).In h)
    (F : ∀ (w : World) (mg : Str → Option Value) (fa : Addr) (h : Heap), (K w.params).In h → h.Ns mainGlobals mg → mg d.name = some (.ref fa) →
      ∃ fd : FuncData, (∀ (s : Shared) (u : Value), BindsTo s fd ⟨[u], []⟩ [(x, u)]) ∧ ∀ base : Heap, (K w.params).In base → base.Ns mainGlobals mg → FnG l.prog w (K w.params) mg base k fa fd [x] (sp w))
    (hsp : ∀ (w : World) (H : Hp) (a : Addr) (ns : List Int), ns.length ≤ n → Only H → SqL (K w.params) H a (ns.map V.int) → sp w [.ref a] H (fun v _ => v = .bl true) fun _ _ _ => False) :
    PySem.W.WalkO q loose XP YP l.row.toRowW d [] (fun f vs => PySem.call f vs) :=
  Att.attach_call hn hdf fun w s₀ s₁ mg mb fa o pm cd doc a vs ns G Y ho hd hcd hmg hobj hints hlen hg => by
    have KX := hY w _ Y
    obtain ⟨fd, bd, FF⟩ := F w mg fa _ KX G.T.g hmg
    exact callG KX G.T.g G.T.b G.T.builtins G.T.nolimit hg hobj hints (Nat.le_trans hlen hn2) hr FF bd fun H hO hS => hsp w H a ns hlen hO hS
/-- data whose repr is told: k deep, n things in it -/
structure Rp (k n : Nat) (d : PyData) : Prop where
  sh : d.showable = true
  nd : d.hasDict = false
  dp : d.depth ≤ k
  lf : d.leavesShort 64 = true
  bk : d.bulk ≤ n
theorem Rp.up {k k' n n' : Nat} {d : PyData} (h : Rp k n d) (hk : k ≤ k') (hn : n ≤ n') : Rp k' n' d := ⟨h.sh, h.nd, Nat.le_trans h.dp hk, h.lf, Nat.le_trans h.bk hn⟩
theorem Rp.non : Rp 0 0 .none := ⟨rfl, rfl, Nat.le_refl _, rfl, Nat.le_refl _⟩
theorem Rp.bl (b : Bool) : Rp 0 0 (.bool b) := ⟨rfl, rfl, Nat.le_refl _, rfl, Nat.le_refl _⟩
theorem Rp.int {i : Int} (h : i.natAbs < 10 ^ 60) : Rp 0 0 (.int i) := by
  refine ⟨?_, rfl, Nat.le_refl _, ?_, Nat.le_refl _⟩
  · simp only [PyData.showable]
    refine decide_eq_true ?_
    by_cases z : i.natAbs = 0
    · rw [z]
      decide
    · exact (Nat.log2_lt z).mpr (Nat.lt_of_lt_of_le h (Nat.le_trans (by decide : 10 ^ 60 ≤ 2 ^ 200) (Nat.pow_le_pow_right (by decide) (by decide))))
  · simp only [PyData.leavesShort]
    refine decide_eq_true ?_
    have e := int_text_length_le10 (a := i) (k := 60) (by decide) h
    have e2 : (PyData.shown (.int i)).length = (toString i).length := by
      show (Str.ofString (toString i)).length = _
      exact PySem.ofString_length _
    omega
theorem Rp.all {k n : Nat} : ∀ {ds : List PyData}, (∀ d ∈ ds, Rp k n d) → PyData.showableAll ds = true ∧ PyData.hasDictAll ds = false ∧ PyData.depthAll ds ≤ k ∧ PyData.leavesShortAll 64 ds = true ∧ PyData.bulkAll ds ≤ ds.length * (n + 1)
  | [], _ => ⟨by simp [PyData.showableAll], by simp [PyData.hasDictAll], by simp [PyData.depthAll], by simp [PyData.leavesShortAll], by simp [PyData.bulkAll]⟩
  | d :: ds, h => by
    obtain ⟨a1, a2, a3, a4, a5⟩ := Rp.all (ds := ds) fun x hx => h x (List.mem_cons_of_mem _ hx)
    have b := h d List.mem_cons_self
    refine ⟨?_, ?_, ?_, ?_, ?_⟩
    · simp only [PyData.showableAll, b.sh, a1, Bool.and_true]
    · simp only [PyData.hasDictAll, b.nd, a2, Bool.or_false]
    · simp only [PyData.depthAll]
      exact Nat.max_le.mpr ⟨b.dp, a3⟩
    · simp only [PyData.leavesShortAll, b.lf, a4, Bool.and_true]
    · simp only [PyData.bulkAll, List.length_cons]
      have := b.bk
      rw [Nat.add_mul]
      omega
theorem Rp.tup {k n m : Nat} {ds : List PyData} (h : ∀ d ∈ ds, Rp k n d) (hm : ds.length * (n + 1) ≤ m) : Rp (k + 1) m (.tuple ds) := by
  obtain ⟨a1, a2, a3, a4, a5⟩ := Rp.all h
  refine ⟨?_, ?_, ?_, ?_, ?_⟩
  · simpa only [PyData.showable] using a1
  · simpa only [PyData.hasDict] using a2
  · simp only [PyData.depth]
    omega
  · simpa only [PyData.leavesShort] using a4
  · simp only [PyData.bulk]
    omega
theorem Rp.lst {k n m : Nat} {ds : List PyData} (h : ∀ d ∈ ds, Rp k n d) (hm : ds.length * (n + 1) ≤ m) : Rp (k + 1) m (.list ds) := by
  obtain ⟨a1, a2, a3, a4, a5⟩ := Rp.all h
  refine ⟨?_, ?_, ?_, ?_, ?_⟩
  · simpa only [PyData.showable] using a1
  · simpa only [PyData.hasDict] using a2
  · simp only [PyData.depth]
    omega
  · simpa only [PyData.leavesShort] using a4
  · simp only [PyData.bulk]
    omega
theorem Rp.size {k n : Nat} {d : PyData} (h : Rp k n d) (hn : n ≤ 200000) : d.shown.length ≤ sizeLine := by
  have e := PyData.shown_le_bulk 64 (by decide) d h.lf
  have := h.bk
  rw [sizeLine_eq]
  omega
/-- repr(x), x data that the heap holds, a list or a tuple -/
def rReprD (K : PySem.W.Frag) : List V → Hp → VK → Prop := fun xs H Q => ∃ (a : Addr) (d : PyData) (k n : Nat), xs = [.ref a] ∧ Dp K H (.ref a) d ∧ Rp k n d ∧ k ≤ 40 ∧ n ≤ 200000 ∧ Q (.str d.shown) H
theorem call_reprD {X : Cx} (noG : X.A.guards = some []) (hu : X.A.units + 65 < cLine) : CallR X (.builtin "repr") (rReprD X.K) := by
  intro pins s σ H xs us Q I r h
  obtain ⟨a, d, k, n, rfl, hd, rp, hk, hn, q⟩ := h
  cases r with
  | cons r1 rr =>
    cases rr
    obtain ⟨as, rd⟩ := Dp.reads I d _ _ hd r1
    cases (show _ = Value.ref a from r1)
    have dp := rp.dp
    exact repr_of_reads' rd rp.sh (fun z => by rw [rp.nd] at z; cases z) noG (by omega) (fun _ _ e => e) (fun h' u tk keep => ⟨.str d.shown, H, I.kept keep, ⟨u, rfl⟩, q⟩) (rp.size hn)
end RG7

/-! ### data with dicts: repr of anything; the start of a law that knows where sys.modules stands -/
namespace RO9
open PySem PySem.Spec PyProof.Rows L2
def kD : Key → PyData
  | .inl i => .int i
  | .inr x => .str x
mutual
inductive Od (K : PySem.W.Frag) (H : Hp) : V → PyData → Prop
  | non : Od K H .non .none
  | bl (b : Bool) : Od K H (.bl b) (.bool b)
  | int (i : Int) : Od K H (.int i) (.int i)
  | str (x : Str) : Od K H (.str x) (.str x)
  | lst {a : Addr} {xs : List V} {ds : List PyData} : H a = some (.lst xs) → OdAll K H xs ds → Od K H (.ref a) (.list ds)
  | tup {a : Addr} {xs : List V} {ds : List PyData} : SqT K H a xs → OdAll K H xs ds → Od K H (.ref a) (.tuple ds)
  | dct {a : Addr} {kvs : List (Key × V)} {ds : List PyData} : H a = some (.dK kvs) → OdAll K H (kvs.map (·.2)) ds → Od K H (.ref a) (.dict ((kvs.map fun p => kD p.1).zip ds))
inductive OdAll (K : PySem.W.Frag) (H : Hp) : List V → List PyData → Prop
  | nil : OdAll K H [] []
  | cons {v : V} {vs : List V} {d : PyData} {ds : List PyData} : Od K H v d → OdAll K H vs ds → OdAll K H (v :: vs) (d :: ds)
end
/-- where sys.modules stands, there stands no list of the law's -/
def SysK (K : PySem.W.Frag) (H : Hp) : Prop := (∃ u, H sysModules = some u ∧ ∀ xs, u ≠ .lst xs) ∨ ∃ o, K.lookup sysModules = some o
theorem SysK.same {K : PySem.W.Frag} {H H' : Hp} (h : SysK K H) (s : Same H H') : SysK K H' := h.elim (fun ⟨u, e, n⟩ => .inl ⟨u, s _ _ e, n⟩) .inr
theorem SysK.nl {K : PySem.W.Frag} {H H' : Hp} (h : SysK K H) (s : ∀ b o, (∀ ys, o ≠ HO.lst ys) → H b = some o → H' b = some o) : SysK K H' := h.elim (fun ⟨u, e, n⟩ => .inl ⟨u, s _ _ n e, n⟩) .inr
theorem OdAll.len {K : PySem.W.Frag} {H : Hp} : ∀ {vs : List V} {ds : List PyData}, OdAll K H vs ds → vs.length = ds.length
  | [], _, h => by cases h; rfl
  | _ :: vs, _, h => by
    cases h with
    | cons _ t => rw [List.length_cons, List.length_cons, OdAll.len t]
theorem zip_fst {α β : Type} : ∀ (l : List α) (m : List β), l.length = m.length → (l.zip m).map (·.1) = l
  | [], [], _ => rfl
  | a :: l, b :: m, h => by
    rw [List.zip_cons_cons, List.map_cons, zip_fst l m (by simpa using h)]
  | [], _ :: _, h => by simp at h
  | _ :: _, [], h => by simp at h
theorem zip_snd {α β : Type} : ∀ (l : List α) (m : List β), l.length = m.length → (l.zip m).map (·.2) = m
  | [], [], _ => rfl
  | a :: l, b :: m, h => by
    rw [List.zip_cons_cons, List.map_cons, zip_snd l m (by simpa using h)]
  | [], _ :: _, h => by simp at h
  | _ :: _, [], h => by simp at h
section
variable {X : Cx} {pins : List (Addr × Obj)} {σ : L2.St} {H : Hp} {s : Shared}
theorem keys_read {h : Heap} : ∀ {es : List PySem.DictEntry} {vs : List (Key × Value)} {kvs : List (Key × V)}, PySem.Pairs (mixKind X.prog X.w) es vs → KV kvs vs → ∃ as, ReadsAll h (es.map (·.key)) (kvs.map fun p => kD p.1) as ∧ sysModules ∉ as ∧ Vals (kvs.map (·.2)) (es.map (·.val))
  | _, _, _, .nil, .nil => ⟨[], .nil, by simp, .nil⟩
  | e :: es, kv :: vs, p :: kvs, .cons hk hv t, .cons r rt => by
    obtain ⟨as, h1, h2, h3⟩ := keys_read (h := h) t rt
    have hk' : keyIs kv.1 e.key = true := hk
    rw [← r.1] at hk'
    obtain ⟨k, v⟩ := p
    have rv : RelV v e.val := by rw [hv]; exact r.2
    rcases keyIs_shape hk' with ⟨i, t, rfl, e2⟩ | ⟨x, t, rfl, e2⟩
    · refine ⟨[] ++ as, ?_, by simpa using h2, ?_⟩
      · rw [List.map_cons, List.map_cons, e2]
        exact .cons (.int i t) h1
      · rw [List.map_cons, List.map_cons]
        exact .cons rv h3
    · refine ⟨[] ++ as, ?_, by simpa using h2, ?_⟩
      · rw [List.map_cons, List.map_cons, e2]
        exact .cons (.str x t) h1
      · rw [List.map_cons, List.map_cons]
        exact .cons rv h3
theorem od_reads (I : Inv X pins σ H s) (hS : SysK X.K H) {v : V} {d : PyData} (h : Od X.K H v d) : ∀ u, RelV v u → ∃ as, Reads s.heap u d as ∧ sysModules ∉ as := by
  refine Od.rec (motive_1 := fun v d _ => ∀ u, RelV v u → ∃ as, Reads s.heap u d as ∧ sysModules ∉ as) (motive_2 := fun vs ds _ => ∀ us, Vals vs us → ∃ as, ReadsAll s.heap us ds as ∧ sysModules ∉ as) ?_ ?_ ?_ ?_ ?_ ?_ ?_ ?_ ?_ h
  · intro u r
    cases r
    exact ⟨_, Reads.none, by simp⟩
  · intro b u r
    cases r
    exact ⟨_, Reads.bool b, by simp⟩
  · intro i u r
    obtain ⟨t, rfl⟩ := r
    exact ⟨_, Reads.int i t, by simp⟩
  · intro x u r
    obtain ⟨t, rfl⟩ := r
    exact ⟨_, Reads.str x t, by simp⟩
  · intro a xs ds e _ ih u r
    cases r
    obtain ⟨its, rv, ⟨o, n, ho, hc, _, hd⟩, _⟩ := I.list (SqL.of e)
    obtain ⟨as, hr, hn⟩ := ih its rv
    refine ⟨_, Reads.list ho hc hd hr, fun z => ?_⟩
    rcases List.mem_cons.mp z with z | z
    · rw [← z] at e
      rcases hS with ⟨u, eS, nS⟩ | ⟨o, eS⟩
      · rw [eS] at e
        exact nS _ (Option.some.inj e)
      · rw [(I.env0.bs _ _ (I.env0.mod.kin _ _ eS)).2] at e
        cases e
    · exact hn z
  · intro a xs ds e _ ih u r
    cases r
    obtain ⟨its, rv, ⟨o, ho, hc, n, hd⟩, _⟩ := I.tuple e
    obtain ⟨as, hr, hn⟩ := ih its rv
    exact ⟨_, Reads.tuple ho hc hd hr, hn⟩
  · intro a kvs ds e ha ih u r
    cases r
    obtain ⟨_, hm, vs, rel, o, es, ep, ho, hx, hd, _, pr, _⟩ := dk_of I.hok e
    obtain ⟨as, k1, k2, k3⟩ := keys_read (h := s.heap) pr rel
    obtain ⟨bs, v1, v2⟩ := ih _ k3
    have hl : (kvs.map fun p => kD p.1).length = ds.length := by
      rw [List.length_map, ← ha.len, List.length_map]
    refine ⟨_, Reads.dict ho hx.1 hd (by rw [zip_fst _ _ hl]; exact k1) (by rw [zip_snd _ _ hl]; exact v1), fun z => ?_⟩
    rcases List.mem_append.mp z with z | z
    · rcases List.mem_cons.mp z with z | z
      · rw [← z] at hm
        simp at hm
      · exact k2 z
    · exact v2 z
  · intro us r
    cases r
    exact ⟨_, ReadsAll.nil, by simp⟩
  · intro v vs d ds _ _ ih1 ih2 us r
    cases r with
    | cons r1 r2 =>
      obtain ⟨as, q1, n1⟩ := ih1 _ r1
      obtain ⟨bs, q2, n2⟩ := ih2 _ r2
      refine ⟨_, ReadsAll.cons q1 q2, fun z => ?_⟩
      rcases List.mem_append.mp z with z | z
      · exact n1 z
      · exact n2 z
end
/-- data whose repr is told, with dicts: k deep, n things in it -/
structure Ro (k n : Nat) (d : PyData) : Prop where
  sh : d.showable = true
  dp : d.depth ≤ k
  lf : d.leavesShort 64 = true
  bk : d.bulk ≤ n
theorem Ro.of {k n : Nat} {d : PyData} (h : RG7.Rp k n d) : Ro k n d := ⟨h.sh, h.dp, h.lf, h.bk⟩
theorem Ro.size {k n : Nat} {d : PyData} (h : Ro k n d) (hn : n ≤ 200000) : d.shown.length ≤ sizeLine := by
  have e := PyData.shown_le_bulk 64 (by decide) d h.lf
  have := h.bk
  rw [show (sizeLine : Nat) = 16777216 by decide]
  omega
/-- repr(x), x any data that the heap holds -/
def rReprO (K : PySem.W.Frag) : List V → Hp → VK → Prop := fun xs H Q => ∃ (a : Addr) (d : PyData) (k n : Nat), xs = [.ref a] ∧ SysK K H ∧ Od K H (.ref a) d ∧ Ro k n d ∧ k ≤ 40 ∧ n ≤ 200000 ∧ Q (.str d.shown) H
theorem call_reprO {X : Cx} (noG : X.A.guards = some []) (hu : X.A.units + 65 < cLine) : CallR X (.builtin "repr") (rReprO X.K) := by
  intro pins s σ H xs us Q I r h
  obtain ⟨a, d, k, n, rfl, hS, hd, rp, hk, hn, q⟩ := h
  cases r with
  | cons r1 rr =>
    cases rr
    cases (show _ = Value.ref a from r1)
    obtain ⟨as, rd, nm⟩ := od_reads I hS hd _ rfl
    have dp := rp.dp
    exact repr_of_reads' rd rp.sh (fun _ => nm) noG (by omega) (fun _ _ e => e) (fun h' u tk keep => ⟨.str d.shown, H, I.kept keep, ⟨u, rfl⟩, q⟩) (rp.size hn)
/-- what is told at a law's start: the script, and where sys.modules stands -/
def first (a : Addr) (u : Option HO) (v : Option HO) : Hp := fun b => if b = a then u else if b = sysModules then v else none
theorem first_of {a b : Addr} {u v : Option HO} {o : HO} (h : first a u v b = some o) : (b = a ∧ u = some o) ∨ (b ≠ a ∧ b = sysModules ∧ v = some o) := by
  unfold first at h
  by_cases e : b = a
  · rw [if_pos e] at h
    exact .inl ⟨e, h⟩
  · rw [if_neg e] at h
    by_cases e2 : b = sysModules
    · rw [if_pos e2] at h
      exact .inr ⟨e, e2, h⟩
    · rw [if_neg e2] at h
      cases h
/-- what may be told at the start: the script, frozen; an object that is known -/
def Start1 (a : Addr) (b : Addr) (u : HO) : Prop := (b = a ∧ ∃ o xs, u = .frz o (.lst xs)) ∨ (b = sysModules ∧ ∃ (o : Obj) (v : HO), u = .frz o v)
theorem enterS {P : Program} {w : World} {K : PySem.W.Frag} {mg mb : Str → Option Value} {k : Nat} {fa a : Addr} {fd : FuncData} {x : Str} {sp : Sp} {s₁ : Shared} {vs : List Value} {H : Hp}
    (inK : K.In s₁.heap) (gl : s₁.heap.Ns mainGlobals mg) (bt : s₁.heap.Ns builtinsNs mb) (boot : ∀ y : Str, y ≠ "__name__" → mb y = bootBuiltins y) (lim : s₁.heap.NoLimit) (ng : s₁.gens = #[])
    (at_ : s₁.heap.get? a = some { cls := .type "list", data := .seq vs.toArray }) (room : Room k callerA)
    (F : ∀ base : Heap, K.In base → base.Ns mainGlobals mg → RG7.FnG P w K mg base k fa fd [x] sp) (bd : ∀ (s : Shared) (u : Value), BindsTo s fd ⟨[u], []⟩ [(x, u)])
    (frz : ∀ b u, H b = some u → Start1 a b u) (ok : HOk P w H s₁.heap) (own : H a ≠ none → K.lookup a = none) (ownS : H sysModules ≠ none → K.lookup sysModules = none)
    (want : sp [.ref a] H (fun v _ => v = .bl true) fun _ _ _ => False) : codeAny (model P w) callerA (.call (.ref fa) ⟨[.ref a], []⟩) (RG7.EndT s₁) s₁ := by
  have told : ∀ {b o}, s₁.heap.get? b = some o → (b ≠ sysModules ∧ ∀ xs n, o.data = .seq xs n → False) ∨ H b = none → (hidT s₁.heap H).get? b = some o := fun {b o} e h => hidT_get e (by
    rcases h with ⟨h1, h⟩ | h
    · cases q : H b with
      | none => rfl
      | some u =>
        rcases frz b u q with ⟨ea, _⟩ | ⟨eb, _⟩
        · subst ea
          rw [at_] at e
          cases e
          exact (h _ _ rfl).elim
        · exact (h1 eb).elim
    · exact h)
  have isNs : ∀ {b : Addr} {m : Str → Option Value}, b ≠ sysModules → s₁.heap.Ns b m → (hidT s₁.heap H).Ns b m := by
    rintro b m hb ⟨o, es, ep, e, d, r⟩
    exact ⟨o, es, ep, told e (.inl ⟨hb, fun xs n z => by rw [d] at z; cases z⟩), d, r⟩
  have kept : K.In (hidT s₁.heap H) := fun b o e => told (inK b o e) (.inr (by
    cases q : H b with
    | none => rfl
    | some u =>
      rcases frz b u q with ⟨ea, _⟩ | ⟨eb, _⟩
      · subst ea
        rw [own (by rw [q]; exact fun z => by cases z)] at e
        cases e
      · subst eb
        rw [ownS (by rw [q]; exact fun z => by cases z)] at e
        cases e))
  obtain ⟨mc, lim1, lim2⟩ := lim
  have start : Env0 P w K mg (hidT s₁.heap H) callerA [] s₁ H :=
    { frames := rfl, mod := ⟨kept, isNs (by decide) gl, ⟨mb, isNs (by decide) bt, boot⟩, ⟨mc, isNs (by decide) lim1, lim2⟩⟩, bs := fun b o e => of_hidT e, bsz := Nat.le_of_eq (hidT_size _ _), funs := trivial, frf := fun b hb => (List.not_mem_nil hb).elim, hok := ok, bare := .of_eq ng }
  refine codeAny_mono ((F _ kept (isNs (by decide) gl)).goes (us := [.ref a]) (vs := [.ref a]) (E := fun _ _ _ => False) (Q := fun v _ => v = .bl true) rfl room start (bd s₁ (.ref a)) (.cons rfl .nil) want) fun r s' got => ?_
  match r, got with
  | .error e, got => exact got.elim
  | .ok (.ret u), ⟨v, H', os, bare, un, ok', rel, ev⟩ =>
    have ev' : v = .bl true := ev
    subst ev'
    obtain rfl : u = Value.bool true := rel
    refine ⟨rfl, OldK.of_keep fun b o e => ?_, os, bare⟩
    cases q : H b with
    | none => exact un.keep b o e q (by exact fun z => (List.not_mem_nil z).elim) (by exact fun z => (List.not_mem_nil z).elim)
    | some u =>
      rcases frz b u q with ⟨_, ob, xs, eu⟩ | ⟨eb, ob, v, eu⟩
      · subst eu
        obtain ⟨y1, _⟩ := ok b _ q
        obtain ⟨y2, _⟩ := ok' b _ (un.frzs b ob _ q)
        rw [e] at y1
        cases y1
        exact y2
      · subst eu
        obtain ⟨y1, _⟩ := ok b _ q
        obtain ⟨y2, _⟩ := ok' b _ (un.frzs b ob _ q)
        rw [e] at y1
        cases y1
        exact y2
theorem callS {P : Program} {w : World} {K : PySem.W.Frag} {mg mb : Str → Option Value} {k : Nat} {fa a : Addr} {fd : FuncData} {x : Str} {sp : Sp} {s₁ : Shared} {vs : List Value} {ns : List Int}
    (inK : K.In s₁.heap) (gl : s₁.heap.Ns mainGlobals mg) (bt : s₁.heap.Ns builtinsNs mb) (boot : ∀ y : Str, y ≠ "__name__" → mb y = bootBuiltins y) (lim : s₁.heap.NoLimit) (ng : s₁.gens = #[])
    (at_ : s₁.heap.get? a = some { cls := .type "list", data := .seq vs.toArray }) (whole : IntsAre vs ns) (few : ns.length ≤ sizeLine) (room : Room k callerA) (hos : ∃ os, s₁.heap.get? sysModules = some os)
    (F : ∀ base : Heap, K.In base → base.Ns mainGlobals mg → RG7.FnG P w K mg base k fa fd [x] sp) (bd : ∀ (s : Shared) (u : Value), BindsTo s fd ⟨[u], []⟩ [(x, u)])
    (want : ∀ H : Hp, SysK K H → SqL K H a (ns.map V.int) → sp [.ref a] H (fun v _ => v = .bl true) fun _ _ _ => False) : codeAny (model P w) callerA (.call (.ref fa) ⟨[.ref a], []⟩) (RG7.EndT s₁) s₁ := by
  have rv := vals_ints whole
  have many := whole.length
  obtain ⟨os, hos⟩ := hos
  -- what is told of either
  obtain ⟨uA, hA⟩ : ∃ uA : Option HO, uA = if K.lookup a = none then some (.frz { cls := .type "list", data := .seq vs.toArray } (.lst (ns.map V.int))) else none := ⟨_, rfl⟩
  obtain ⟨uS, hS⟩ : ∃ uS : Option HO, uS = if K.lookup sysModules = none then some (.frz os (.ext fun _ => True)) else none := ⟨_, rfl⟩
  have cA : ∀ u, uA = some u → K.lookup a = none ∧ u = .frz { cls := .type "list", data := .seq vs.toArray } (.lst (ns.map V.int)) := fun u e => by
    rw [hA] at e
    by_cases c : K.lookup a = none
    · rw [if_pos c] at e
      exact ⟨c, (Option.some.inj e).symm⟩
    · rw [if_neg c] at e
      cases e
  have cS : ∀ u, uS = some u → K.lookup sysModules = none ∧ u = .frz os (.ext fun _ => True) := fun u e => by
    rw [hS] at e
    by_cases c : K.lookup sysModules = none
    · rw [if_pos c] at e
      exact ⟨c, (Option.some.inj e).symm⟩
    · rw [if_neg c] at e
      cases e
  refine enterS (H := first a uA uS) inK gl bt boot lim ng at_ room F bd (fun b u z => ?_) (fun b u z => ?_) (fun z => ?_) (fun z => ?_) (want _ ?_ ?_)
  · rcases first_of z with ⟨e, h⟩ | ⟨_, e, h⟩
    · exact .inl ⟨e, _, _, (cA u h).2⟩
    · exact .inr ⟨e, _, _, (cS u h).2⟩
  · rcases first_of z with ⟨e, h⟩ | ⟨_, e, h⟩
    · obtain ⟨_, rfl⟩ := cA u h
      subst e
      exact ⟨at_, by rw [List.length_map]; exact few, vs, _, rv, at_⟩
    · obtain ⟨_, rfl⟩ := cS u h
      subst e
      exact ⟨hos, trivial, ⟨_, hos⟩, fun _ _ _ _ => trivial⟩
  · cases q : first a uA uS a with
    | none => exact (z q).elim
    | some u =>
      rcases first_of q with ⟨_, h⟩ | ⟨n, _⟩
      · exact (cA u h).1
      · exact (n rfl).elim
  · cases q : first a uA uS sysModules with
    | none => exact (z q).elim
    | some u =>
      rcases first_of q with ⟨e, h⟩ | ⟨_, _, h⟩
      · rw [e]
        exact (cA u h).1
      · exact (cS u h).1
  · cases hk : K.lookup sysModules with
    | some o => exact .inr ⟨o, hk⟩
    | none =>
      refine .inl ?_
      by_cases e : sysModules = a
      · refine ⟨.frz { cls := .type "list", data := .seq vs.toArray } (.lst (ns.map V.int)), ?_, fun _ z => by cases z⟩
        unfold first
        rw [if_pos e, hA, ← e, if_pos hk]
      · refine ⟨.frz os (.ext fun _ => True), ?_, fun _ z => by cases z⟩
        unfold first
        rw [if_neg e, if_pos rfl, hS, if_pos hk]
  · cases hk : K.lookup a with
    | some o =>
      have e := inK a o hk
      rw [at_] at e
      cases e
      refine .inr ⟨_, vs.toArray, _, hk, rfl, rfl, rfl, ?_, ?_⟩
      · rw [List.size_toArray, many]
        exact few
      · rw [List.toList_toArray]
        exact rv
    | none =>
      refine .inl (.inr ⟨{ cls := .type "list", data := .seq vs.toArray }, ?_⟩)
      unfold first
      rw [if_pos rfl, hA, if_pos hk]
theorem walk_ofS {l : PySem.W.OpenLaw} {n k : Nat} {q : Program} {loose : List Str} {XP : (Str → Option Value) → Heap → Prop} {YP : World → Heap → Prop} {d : DefRec} {K : Params → PySem.W.Frag} {sp : World → Sp} {x : Str}
    (hn : l.most = some n) (hn2 : n ≤ sizeLine) (hdf : d.params.defaults = []) (hr : Room k callerA) (hq : importsNone q = true)
    (hY : ∀ (w : World) (h : Heap), YP w h → (K w.params).In h)
    (F : ∀ (w : World) (mg : Str → Option Value) (fa : Addr) (h : Heap), (K w.params).In h → h.Ns mainGlobals mg → mg d.name = some (.ref fa) →
      ∃ fd : FuncData, (∀ (s : Shared) (u : Value), BindsTo s fd ⟨[u], []⟩ [(x, u)]) ∧ ∀ base : Heap, (K w.params).In base → base.Ns mainGlobals mg → RG7.FnG l.prog w (K w.params) mg base k fa fd [x] (sp w))
    (hsp : ∀ (w : World) (H : Hp) (a : Addr) (ns : List Int), ns.length ≤ n → SysK (K w.params) H → SqL (K w.params) H a (ns.map V.int) → sp w [.ref a] H (fun v _ => v = .bl true) fun _ _ _ => False) :
    PySem.W.WalkO q loose XP YP l.row.toRowW d [] (fun f vs => PySem.call f vs) :=
  Att.attach_call hn hdf fun w s₀ s₁ mg mb fa o pm cd doc a vs ns G Y ho hd hcd hmg hobj hints hlen hg => by
    have KX := hY w _ Y
    obtain ⟨fd, bd, FF⟩ := F w mg fa _ KX G.T.g hmg
    exact callS KX G.T.g G.T.b G.T.builtins G.T.nolimit hg hobj hints (Nat.le_trans hlen hn2) hr (by
      obtain ⟨mm, ⟨o, _, _, e, _⟩, _⟩ := (G.T.seer hq).mods
      exact ⟨o, e⟩) FF bd fun H hO hS => hsp w H a ns hlen hO hS
/-! ### what kind of thing it is -/
def tyD : PyData → String
  | .none => "NoneType"
  | .bool _ => "bool"
  | .int _ => "int"
  | .str _ => "str"
  | .list _ => "list"
  | .tuple _ => "tuple"
  | .dict _ => "dict"
theorem tyTup' {K : PySem.W.Frag} {H : Hp} {a : Addr} {xs : List V} (h : SqT K H a xs) : TyX K H (.ref a) (.type "tuple") := by
  rcases h with (h | ⟨o, h⟩) | h
  · exact .base (.tup h)
  · exact .fTuple h
  · obtain ⟨o, n, vs, e, c, _⟩ := h
    exact .kTuple e c
theorem Od.ty {K : PySem.W.Frag} {H : Hp} {v : V} {d : PyData} (h : Od K H v d) : TyX K H v (.type (tyD d)) := by
  cases h with
  | non => exact .base .non
  | bl b => exact .base (.bl b)
  | int i => exact .base (.int i)
  | str x => exact .base (.str x)
  | lst e _ => exact .base (.lst e)
  | tup e _ => exact tyTup' e
  | dct e _ => exact .base (.dK e)
theorem kit_tuple {K : PySem.W.Frag} (d : PyData) : PySem.W.kitOne K (.type (tyD d)) (.type "tuple") = some (match d with | .tuple _ => true | _ => false) := by
  cases d with
  | none => exact kit_ty (show kitB "NoneType" "tuple" = some false by decide +kernel)
  | bool _ => exact kit_ty (show kitB "bool" "tuple" = some false by decide +kernel)
  | int _ => exact kit_ty (show kitB "int" "tuple" = some false by decide +kernel)
  | str _ => exact kit_ty (show kitB "str" "tuple" = some false by decide +kernel)
  | list _ => exact kit_ty (show kitB "list" "tuple" = some false by decide +kernel)
  | tuple _ => exact kit_ty (show kitB "tuple" "tuple" = some true by decide +kernel)
  | dict _ => exact kit_ty (show kitB "dict" "tuple" = some false by decide +kernel)
theorem kit_int {K : PySem.W.Frag} (d : PyData) : PySem.W.kitOne K (.type (tyD d)) (.type "int") = some (match d with | .int _ => true | .bool _ => true | _ => false) := by
  cases d with
  | none => exact kit_ty (show kitB "NoneType" "int" = some false by decide +kernel)
  | bool _ => exact kit_ty (show kitB "bool" "int" = some true by decide +kernel)
  | int _ => exact kit_ty (show kitB "int" "int" = some true by decide +kernel)
  | str _ => exact kit_ty (show kitB "str" "int" = some false by decide +kernel)
  | list _ => exact kit_ty (show kitB "list" "int" = some false by decide +kernel)
  | tuple _ => exact kit_ty (show kitB "tuple" "int" = some false by decide +kernel)
  | dict _ => exact kit_ty (show kitB "dict" "int" = some false by decide +kernel)
theorem kit_bool {K : PySem.W.Frag} (d : PyData) : PySem.W.kitOne K (.type (tyD d)) (.type "bool") = some (match d with | .bool _ => true | _ => false) := by
  cases d with
  | none => exact kit_ty (show kitB "NoneType" "bool" = some false by decide +kernel)
  | bool _ => exact kit_ty (show kitB "bool" "bool" = some true by decide +kernel)
  | int _ => exact kit_ty (show kitB "int" "bool" = some false by decide +kernel)
  | str _ => exact kit_ty (show kitB "str" "bool" = some false by decide +kernel)
  | list _ => exact kit_ty (show kitB "list" "bool" = some false by decide +kernel)
  | tuple _ => exact kit_ty (show kitB "tuple" "bool" = some false by decide +kernel)
  | dict _ => exact kit_ty (show kitB "dict" "bool" = some false by decide +kernel)
/-- all but what may change stays: data stay data -/
theorem Od.mono {K : PySem.W.Frag} {H H' : Hp} {v : V} {d : PyData} (h : Od K H v d) (s : ∀ b o, H b = some o → H' b = some o) : Od K H' v d := by
  refine Od.rec (motive_1 := fun v d _ => Od K H' v d) (motive_2 := fun vs ds _ => OdAll K H' vs ds) ?_ ?_ ?_ ?_ ?_ ?_ ?_ ?_ ?_ h
  · exact .non
  · exact fun b => .bl b
  · exact fun i => .int i
  · exact fun x => .str x
  · exact fun e _ ih => .lst (s _ _ e) ih
  · exact fun e _ ih => .tup (e.elim (fun h => .inl (h.elim (fun h => .inl (s _ _ h)) fun ⟨o, h⟩ => .inr ⟨o, s _ _ h⟩)) .inr) ih
  · exact fun e _ ih => .dct (s _ _ e) ih
  · exact .nil
  · exact fun _ _ a b => .cons a b
theorem OdAll.get {K : PySem.W.Frag} {H : Hp} : ∀ {vs : List V} {ds : List PyData}, OdAll K H vs ds → ∀ {i : Nat} {v : V}, vs[i]? = some v → ∃ d, ds[i]? = some d ∧ Od K H v d
  | [], _, h, i, v, hv => by simp at hv
  | x :: vs, _, h, i, v, hv => by
    cases h with
    | cons a t =>
      cases i with
      | zero =>
        simp at hv
        subst hv
        exact ⟨_, rfl, a⟩
      | succ i =>
        simp only [List.getElem?_cons_succ] at hv ⊢
        exact OdAll.get t hv
/-- a whole number within bounds -/
def numD (lo hi : Int) : PyData → Bool
  | .int i => decide (lo ≤ i) && decide (i ≤ hi)
  | _ => false
def isI : PyData → Bool
  | .int _ => true
  | _ => false
/-! ### an instance made where the making may raise -/
section
variable {X : Cx} {CX : CXT} {k : Nat} {f C : Addr} {fd : FuncData} {ps : List Str} {sp : Sp} {E : L2.St → XK} {x : Str} {p pos : Pos} {e : Expr} {es : List Expr} {t : TA}
def tMakeS (C : Addr) (sp : Sp) (E : L2.St → XK) (t : TA) : TE := fun σ H Q => t σ H fun vs H1 => ∀ x dx, H1 x = none → H1 dx = none → dx ≠ x → sp (.ref x :: vs) (upd (upd H1 dx (.own x)) x (.ins C dx [])) (fun v H2 => v = .non ∧ Q (.ref x) H2) (E σ)
theorem run_makeS {pins : List (Addr × Obj)} {σ : L2.St} {H : Hp} {s : Shared} {Q : VK} {us : List Value} {vs : List V} (M : Mk X.K C f) (F : FnOk X.prog X.w X.K X.mg X.base CX k f fd ps sp) (hr : Room (k + 1) X.A) (hb : Binds X.K fd ps [])
    (hx : PassesAt CX X σ (E σ)) (I : Inv X pins σ H s) (r : Vals vs us)
    (h : ∀ x dx, H x = none → H dx = none → dx ≠ x → sp (.ref x :: vs) (upd (upd H dx (.own x)) x (.ins C dx [])) (fun v H2 => v = .non ∧ Q (.ref x) H2) (E σ)) :
    wpAny (model X.prog X.w) X.A (call (.ref C) us) (EP X pins σ Q) X.xe s := by
  have hq := h (s.heap.objs.size + 1) s.heap.objs.size (I.hok.fresh (Nat.le_succ _)) (I.hok.fresh (Nat.le_refl _)) (Nat.ne_of_lt (Nat.lt_succ_self _))
  have I2 := Inv.made (C := C) I
  have r2 : Vals (V.ref (s.heap.objs.size + 1) :: vs) (Value.ref (s.heap.objs.size + 1) :: us) := .cons rfl r
  have hl : (Value.ref (s.heap.objs.size + 1) :: us ++ []).length = ps.length := by
    have e := r2.length
    rw [F.len _ _ _ _ hq] at e
    rw [List.append_nil]
    exact e.symm
  have hbb := hb _ (Value.ref (s.heap.objs.size + 1) :: us) I2.kIn hl
  rw [List.append_nil] at hbb
  refine wpAny_call (make_map (f := f) I.kIn M.makes M.init (beq_iff_eq.mp M.fn) (codeAny_mono (F.run _ X.stack _ _ ⟨Value.ref (s.heap.objs.size + 1) :: us, []⟩ (Value.ref (s.heap.objs.size + 1) :: us) _ _ (E σ) (hr.make C us [])
    (I2.env0.make C us []) hbb r2 hq) fun r s' hq' => ?_))
  cases r with
  | error e => exact hx pins _ _ e s' I2 hq'
  | ok fl =>
    cases fl with
    | ret u =>
      obtain ⟨v, H', I3, rv, ev, q3⟩ := I2.after hq'
      subst ev
      exact ⟨rv, ⟨V.ref (s.heap.objs.size + 1), H', I3, rfl, q3⟩⟩
    | next => exact False.elim hq'
    | brk => exact False.elim hq'
    | cont => exact False.elim hq'
theorem pe_makeS (M : Mk X.K C f) (F : FnOk X.prog X.w X.K X.mg X.base CX k f fd ps sp) (hr : Room (k + 1) X.A) (hg : Gl X x) (hm : X.mg x = some (.ref C)) (hb : Binds X.K fd ps []) (hx : ∀ σ, PassesAt CX X σ (E σ))
    (ha : PA X (e :: es) t) (hdb : (x == ("__debug__" : Str)) = false := by decide) (he : starEach (e :: es) X.env = (false, eval e X.env) :: starEach es X.env := by rfl) (hpl : (backTo pos (starEach es X.env)).any (·.1) = false := by rfl) :
    PE X (.Call (.Name x p) (e :: es) [] pos) (tMakeS C sp E t) := by
  refine ⟨fun pins s σ H Q I h => ?_⟩
  refine wpAny_Call_Name_kw (ld_glob I hg hm ?_ hdb)
  refine PySem.W.callWith_K (h₀ := X.base) I.ok.mod.kin M.kp (thn (ha.run pos pins s σ H _ I h) fun us s1 ⟨vs, H1, I1, r, q⟩ => ⟨I1.kIn, ?_⟩) he hpl
  exact run_makeS M F hr hb (hx σ) I1 r q
end
/-- isinstance(e, c), e the caught exception, its fields in the dict at d -/
def rIsED (K : PySem.W.Frag) (D : Addr) (cls : Value) (d : Option Addr) (a : Addr) : List V → Hp → VK → Prop := fun xs H Q => ∃ (c : V) (cv : Value) (b : Bool) (dd : Addr) (fs : List (Str × V)), xs = [.ref a, c] ∧ cls = .ref D ∧ d = some dd ∧ H dd = some (.xd fs) ∧ ClsV c cv ∧ PySem.W.kitOne K (.ref D) cv = some b ∧ Q (.bl b) H
theorem call_isED {X : Cx} {a D : Addr} {oe : Obj} {cls : Value} {d : Option Addr} {pn : List (Addr × Obj)} (C : ExcC X.K D) (hz : Zc cls d oe) (hf : ∃ vs, oe.data = .fields vs) : CallR (X.suite a ((a, oe) :: pn)) (.builtin "isinstance") (rIsED X.K D cls d a) := by
  intro pins s σ H xs us Q I r h
  obtain ⟨c, cv, b, dd, fs, rfl, ec, ed, ea, hcv, e, q⟩ := h
  subst ec
  subst ed
  cases r with
  | cons rx rr =>
    cases rr with
    | cons rt rr =>
      cases rr
      cases rx
      have e2 := hcv.eq rt
      subst e2
      obtain ⟨hget, _⟩ := I.pin (a, oe) (List.mem_append.mpr (.inl List.mem_cons_self))
      obtain ⟨vs, hv⟩ := hf
      have hx : ObjOk X.prog X.w H s.heap dd (.xd fs) := I.hok dd _ ea
      obtain ⟨mA, hns, hr⟩ := hx
      obtain ⟨od, ho, hl⟩ := lookIn_ns hns
      obtain ⟨cd, hcD, _⟩ := PySem.W.any_some C.hd
      have J : PySem.W.InstAt s.heap a oe D (some od) := ⟨hget, hz.1, by unfold PySem.W.notCls; rw [hv] <;> rfl, by rw [hz.2]; exact ho⟩
      exact PySem.W.kia_one (PySem.W.kitx_exc (by rw [hcD]; rfl) C.hg C.hk C.hs C.ha C.hn C.ht C.hm) I.kIn J e (fun z => nomatch z) fun tk => ⟨.bl b, H, I.tok tk, rfl, q⟩
/-- a field where the frame is named (within a try) -/
theorem pe_fldK {X : Cx} {K : PySem.W.Frag} {e : Expr} {f : Str} {ta : TE} {pos : Pos} (h : X.K = K) (he : PE X e ta) (hb : attributeBase e f X.env (eval e X.env) = eval e X.env) : PE X (.Attribute e f pos) (tFld K ta f) := h ▸ pe_fld he hb
end RO9

/-! ### things of any kind: bounds of their repr, data without dicts -/
namespace RO9
open PySem PySem.Spec PyProof.Rows L2
def roB (k n : Nat) (d : PyData) : Bool := d.showable && decide (d.depth ≤ k) && d.leavesShort 64 && decide (d.bulk ≤ n)
theorem roOf {k n : Nat} {d : PyData} (h : roB k n d = true) : Ro k n d := by
  unfold roB at h
  simp only [Bool.and_eq_true, decide_eq_true_eq] at h
  exact ⟨h.1.1.1, h.1.1.2, h.1.2, h.2⟩
theorem Ro.up {k k' n n' : Nat} {d : PyData} (h : Ro k n d) (hk : k ≤ k') (hn : n ≤ n') : Ro k' n' d := ⟨h.sh, Nat.le_trans h.dp hk, h.lf, Nat.le_trans h.bk hn⟩
theorem Ro.all {k n : Nat} : ∀ {ds : List PyData}, (∀ d ∈ ds, Ro k n d) → PyData.showableAll ds = true ∧ PyData.depthAll ds ≤ k ∧ PyData.leavesShortAll 64 ds = true ∧ PyData.bulkAll ds ≤ ds.length * (n + 1)
  | [], _ => ⟨by simp [PyData.showableAll], by simp [PyData.depthAll], by simp [PyData.leavesShortAll], by simp [PyData.bulkAll]⟩
  | d :: ds, h => by
    obtain ⟨a1, a3, a4, a5⟩ := Ro.all (ds := ds) fun x hx => h x (List.mem_cons_of_mem _ hx)
    have b := h d List.mem_cons_self
    refine ⟨?_, ?_, ?_, ?_⟩
    · simp only [PyData.showableAll, b.sh, a1, Bool.and_true]
    · simp only [PyData.depthAll]
      exact Nat.max_le.mpr ⟨b.dp, a3⟩
    · simp only [PyData.leavesShortAll, b.lf, a4, Bool.and_true]
    · simp only [PyData.bulkAll, List.length_cons]
      have := b.bk
      rw [Nat.add_mul]
      omega
theorem Ro.tup {k n m : Nat} {ds : List PyData} (h : ∀ d ∈ ds, Ro k n d) (hm : ds.length * (n + 1) ≤ m) : Ro (k + 1) m (.tuple ds) := by
  obtain ⟨a1, a3, a4, a5⟩ := Ro.all h
  refine ⟨?_, ?_, ?_, ?_⟩
  · simpa only [PyData.showable] using a1
  · simp only [PyData.depth]
    omega
  · simpa only [PyData.leavesShort] using a4
  · simp only [PyData.bulk]
    omega
theorem Ro.lst {k n m : Nat} {ds : List PyData} (h : ∀ d ∈ ds, Ro k n d) (hm : ds.length * (n + 1) ≤ m) : Ro (k + 1) m (.list ds) := by
  obtain ⟨a1, a3, a4, a5⟩ := Ro.all h
  refine ⟨?_, ?_, ?_, ?_⟩
  · simpa only [PyData.showable] using a1
  · simp only [PyData.depth]
    omega
  · simpa only [PyData.leavesShort] using a4
  · simp only [PyData.bulk]
    omega
theorem Ro.pair {k n m q : Nat} {a b : PyData} (ha : Ro k n a) (hb : Ro k m b) (hq : n + m + 2 ≤ q) : Ro (k + 1) q (.tuple [a, b]) := by
  have h1 := ha.bk
  have h2 := hb.bk
  have h3 := ha.dp
  have h4 := hb.dp
  refine ⟨?_, ?_, ?_, ?_⟩
  · simp only [PyData.showable, PyData.showableAll, ha.sh, hb.sh, Bool.and_true]
  · simp only [PyData.depth, PyData.depthAll]
    omega
  · simp only [PyData.leavesShort, PyData.leavesShortAll, ha.lf, hb.lf, Bool.and_true]
  · simp only [PyData.bulk, PyData.bulkAll]
    omega
theorem Ro.int {i : Int} (h : -1000000000 ≤ i) (g : i ≤ 1000000000) : Ro 0 0 (.int i) := .of (.int (by omega))
theorem Ro.ints {ns : List Int} {m : Nat} (h : ∀ n ∈ ns, -1000000000 ≤ n ∧ n ≤ 1000000000) (hm : ns.length ≤ m) : Ro 1 m (.tuple (ns.map PyData.int)) := .tup (n := 0) (fun d hd => by
  obtain ⟨n, hn, rfl⟩ := List.mem_map.mp hd
  exact .int (h n hn).1 (h n hn).2) (by rw [List.length_map]; omega)
theorem Od.dp {K : PySem.W.Frag} {H : Hp} {v : V} {d : PyData} (h : Od K H v d) (n : d.hasDict = false) : Dp K H v d := by
  refine Od.rec (motive_1 := fun v d _ => d.hasDict = false → Dp K H v d) (motive_2 := fun vs ds _ => PyData.hasDictAll ds = false → DpAll K H vs ds) ?_ ?_ ?_ ?_ ?_ ?_ ?_ ?_ ?_ h n
  · exact fun _ => .non
  · exact fun b _ => .bl b
  · exact fun i _ => .int i
  · exact fun x _ => .str x
  · exact fun e _ ih n => .lst (SqL.of e) (ih (by simpa only [PyData.hasDict] using n))
  · exact fun e _ ih n => .tup e (ih (by simpa only [PyData.hasDict] using n))
  · exact fun _ _ _ n => by simp [PyData.hasDict] at n
  · exact fun _ => .nil
  · intro v vs d ds _ _ a b n
    simp only [PyData.hasDictAll, Bool.or_eq_false_iff] at n
    exact .cons (a n.1) (b n.2)
mutual
theorem Dp.od {K : PySem.W.Frag} {H : Hp} (sl : ∀ a xs, SqL K H a xs → H a = some (.lst xs)) : ∀ {v : V} {d : PyData}, Dp K H v d → Od K H v d
  | _, _, .non => .non
  | _, _, .bl b => .bl b
  | _, _, .int i => .int i
  | _, _, .str x => .str x
  | _, _, .lst e h => .lst (sl _ _ e) (DpAll.od sl h)
  | _, _, .tup e h => .tup e (DpAll.od sl h)
theorem DpAll.od {K : PySem.W.Frag} {H : Hp} (sl : ∀ a xs, SqL K H a xs → H a = some (.lst xs)) : ∀ {vs : List V} {ds : List PyData}, DpAll K H vs ds → OdAll K H vs ds
  | _, _, .nil => .nil
  | _, _, .cons a b => .cons (Dp.od sl a) (DpAll.od sl b)
end
theorem OdAll.ints {K : PySem.W.Frag} {H : Hp} : ∀ ns : List Int, OdAll K H (ns.map V.int) (ns.map PyData.int)
  | [] => .nil
  | n :: ns => .cons (.int n) (OdAll.ints ns)
theorem Od.ints {K : PySem.W.Frag} {H : Hp} {a : Addr} {ns : List Int} (h : SqT K H a (ns.map V.int)) : Od K H (.ref a) (.tuple (ns.map PyData.int)) := .tup h (OdAll.ints ns)
theorem OdAll.mono {K : PySem.W.Frag} {H H' : Hp} {vs : List V} {ds : List PyData} (h : OdAll K H vs ds) (s : ∀ b o, H b = some o → H' b = some o) : OdAll K H' vs ds := by
  refine OdAll.rec (motive_1 := fun v d _ => Od K H' v d) (motive_2 := fun vs ds _ => OdAll K H' vs ds) ?_ ?_ ?_ ?_ ?_ ?_ ?_ ?_ ?_ h
  · exact .non
  · exact fun b => .bl b
  · exact fun i => .int i
  · exact fun x => .str x
  · exact fun e _ ih => .lst (s _ _ e) ih
  · exact fun e _ ih => .tup (e.elim (fun h => .inl (h.elim (fun h => .inl (s _ _ h)) fun ⟨o, h⟩ => .inr ⟨o, s _ _ h⟩)) .inr) ih
  · exact fun e _ ih => .dct (s _ _ e) ih
  · exact .nil
  · exact fun _ _ a b => .cons a b
theorem OdAll.append {K : PySem.W.Frag} {H : Hp} {ds' : List PyData} {vs' : List V} (h' : OdAll K H vs' ds') : ∀ {vs : List V} {ds : List PyData}, OdAll K H vs ds → OdAll K H (vs ++ vs') (ds ++ ds')
  | [], _, h => by
    cases h
    exact h'
  | _ :: _, _, h => by
    cases h with
    | cons a t => exact .cons a (OdAll.append h' t)
theorem OdAll.set {K : PySem.W.Frag} {H : Hp} {v : V} {d : PyData} (hd : Od K H v d) : ∀ {vs : List V} {ds : List PyData} (i : Nat), OdAll K H vs ds → OdAll K H (vs.set i v) (ds.set i d)
  | [], _, _, h => by
    cases h
    exact .nil
  | _ :: _, _, 0, h => by
    cases h with
    | cons a t => exact .cons hd t
  | _ :: _, _, i + 1, h => by
    cases h with
    | cons a t => exact .cons a (OdAll.set hd i t)
theorem OdAll.take {K : PySem.W.Frag} {H : Hp} : ∀ {vs : List V} {ds : List PyData} (i : Nat), OdAll K H vs ds → OdAll K H (vs.take i) (ds.take i)
  | [], _, _, h => by
    cases h
    simp only [List.take_nil]
    exact .nil
  | _ :: _, _, 0, _ => .nil
  | _ :: _, _, i + 1, h => by
    cases h with
    | cons a t => exact .cons a (OdAll.take i t)
theorem OdAll.drop {K : PySem.W.Frag} {H : Hp} : ∀ {vs : List V} {ds : List PyData} (i : Nat), OdAll K H vs ds → OdAll K H (vs.drop i) (ds.drop i)
  | [], _, _, h => by
    cases h
    simp only [List.drop_nil]
    exact .nil
  | _ :: _, _, 0, h => h
  | _ :: _, _, i + 1, h => by
    cases h with
    | cons a t => exact OdAll.drop i t
theorem OdAll.rep {K : PySem.W.Frag} {H : Hp} {vs : List V} {ds : List PyData} (h : OdAll K H vs ds) : ∀ n : Nat, OdAll K H (List.replicate n vs).flatten (List.replicate n ds).flatten
  | 0 => .nil
  | n + 1 => by
    rw [List.replicate_succ, List.replicate_succ, List.flatten_cons, List.flatten_cons]
    exact OdAll.append (OdAll.rep h n) h
theorem len_flat {α : Type} (xs : List α) : ∀ n : Nat, (List.replicate n xs).flatten.length = n * xs.length
  | 0 => by simp
  | n + 1 => by
    rw [List.replicate_succ, List.flatten_cons, List.length_append, len_flat xs n, Nat.succ_mul]
    omega
theorem mem_flat {α : Type} {xs : List α} {x : α} {n : Nat} (h : x ∈ (List.replicate n xs).flatten) : x ∈ xs := by
  obtain ⟨l, hl, hx⟩ := List.mem_flatten.mp h
  rw [(List.mem_replicate.mp hl).2] at hx
  exact hx
end RO9

/-! ### the mathematics of the line -/
namespace Ln
/-- tick, turn, wait -/
abbrev Let := Int × Int × Option Int
def step (b τ u : Int) (s : List Let × Int) : List Let × Int := if s.2 > b then (s.1 ++ [(τ, u, none)], s.2) else (s.1 ++ [(τ, u, some s.2)], s.2 + 1)
def turns (b τ : Int) : Nat → List Let × Int → List Let × Int
  | 0, s => s
  | k + 1, s => step b τ (1 + (k : Int)) (turns b τ k s)
def close (c : Int) : Int := if c > 0 then c - 1 else c
def pre (b : Int) (cs : List Int) : Nat → List Let × Int
  | 0 => ([], 0)
  | i + 1 => ((turns b (i : Int) (cs.getD i 0).toNat (pre b cs i)).1, close (turns b (i : Int) (cs.getD i 0).toNat (pre b cs i)).2)
def letts (b : Int) (cs : List Int) : List Let := (pre b cs cs.length).1
def behind (b : Int) (cs : List Int) : Nat → List Int
  | 0 => []
  | i + 1 => behind b cs i ++ [(pre b cs (i + 1)).2]
theorem step_len (b τ u : Int) (s : List Let × Int) : (step b τ u s).1.length = s.1.length + 1 := by
  unfold step
  split <;> simp
theorem turns_len (b τ : Int) : ∀ (k : Nat) (s : List Let × Int), (turns b τ k s).1.length = s.1.length + k
  | 0, _ => rfl
  | k + 1, s => by
    unfold turns
    rw [step_len, turns_len b τ k s, Nat.add_assoc]
theorem turns_rng {b τ : Int} : ∀ (k : Nat) (s : List Let × Int), 0 ≤ s.2 → s.2 ≤ b + 1 → 0 ≤ (turns b τ k s).2 ∧ (turns b τ k s).2 ≤ b + 1
  | 0, s, h0, h1 => ⟨h0, h1⟩
  | k + 1, s, h0, h1 => by
    have ih := turns_rng (τ := τ) k s h0 h1
    unfold turns step
    split
    · exact ih
    · show 0 ≤ (turns b τ k s).2 + 1 ∧ (turns b τ k s).2 + 1 ≤ b + 1
      omega
theorem close_rng {b c : Int} (hb : 0 ≤ b) (h0 : 0 ≤ c) (h1 : c ≤ b + 1) : 0 ≤ close c ∧ close c ≤ b := by
  unfold close
  split <;> omega
theorem pre_rng {b : Int} (hb : 0 ≤ b) (cs : List Int) : ∀ i, 0 ≤ (pre b cs i).2 ∧ (pre b cs i).2 ≤ b
  | 0 => ⟨Int.le_refl _, hb⟩
  | i + 1 => by
    have ih := pre_rng hb cs i
    have t := turns_rng (b := b) (τ := (i : Int)) (cs.getD i 0).toNat (pre b cs i) ih.1 (by omega)
    unfold pre
    exact close_rng hb t.1 t.2
theorem pre_len {b : Int} {cs : List Int} (hc : ∀ c ∈ cs, c ≤ 4) : ∀ i, (pre b cs i).1.length ≤ 4 * i
  | 0 => Nat.le_refl _
  | i + 1 => by
    have ih := pre_len (b := b) hc i
    unfold pre
    rw [turns_len]
    have : cs.getD i 0 ≤ 4 := by
      rw [List.getD_eq_getElem?_getD]
      cases h : cs[i]? with
      | none => decide
      | some c => exact hc c (List.mem_of_getElem? h)
    omega
theorem behind_len (b : Int) (cs : List Int) : ∀ i, (behind b cs i).length = i
  | 0 => rfl
  | i + 1 => by
    unfold behind
    rw [List.length_append, behind_len b cs i]
    rfl
theorem getD_of {cs : List Int} {i : Nat} {c : Int} (h : cs[i]? = some c) : cs.getD i 0 = c := by
  rw [List.getD_eq_getElem?_getD, h]
  rfl
/-! pairs of who goes out when -/
def one (l : Let) (n : Int) : List (Int × Int) := match l.2.2 with
  | none => []
  | some w => [(l.1 + w, n)]
def outsFrom : Int → List Let → List (Int × Int)
  | _, [] => []
  | n, l :: r => one l n ++ outsFrom (n + 1) r
theorem outs_snoc : ∀ (L : List Let) (n : Int) (l : Let), outsFrom n (L ++ [l]) = outsFrom n L ++ one l (n + (L.length : Int))
  | [], n, l => by
    show one l n ++ [] = [] ++ one l (n + ((0 : Nat) : Int))
    rw [List.append_nil, List.nil_append]
    congr 1
    omega
  | x :: L, n, l => by
    show one x n ++ outsFrom (n + 1) (L ++ [l]) = (one x n ++ outsFrom (n + 1) L) ++ one l _
    rw [outs_snoc L (n + 1) l, List.append_assoc]
    congr 3
    rw [List.length_cons]
    omega
theorem one_len (l : Let) (n : Int) : (one l n).length ≤ 1 := by
  unfold one
  split <;> simp
theorem outs_len : ∀ (L : List Let) (n : Int), (outsFrom n L).length ≤ L.length
  | [], _ => Nat.le_refl _
  | l :: r, n => by
    show (one l n ++ outsFrom (n + 1) r).length ≤ r.length + 1
    have := outs_len r (n + 1)
    have := one_len l n
    rw [List.length_append]
    omega
def qp : Int → List Int → List (Int × Int)
  | _, [] => []
  | τ, n :: r => (τ, n) :: qp (τ + 1) r
theorem qp_snoc : ∀ (q : List Int) (τ n : Int), qp τ (q ++ [n]) = qp τ q ++ [(τ + (q.length : Int), n)]
  | [], τ, n => by
    show [(τ, n)] = [(τ + ((0 : Nat) : Int), n)]
    rw [show τ + ((0 : Nat) : Int) = τ by omega]
  | x :: q, τ, n => by
    show (τ, x) :: qp (τ + 1) (q ++ [n]) = (τ, x) :: (qp (τ + 1) q ++ [_])
    rw [qp_snoc q (τ + 1) n, List.length_cons]
    congr 4
    omega
/-- a queue of the law's own line, by the letters that came -/
def Led (τ : Int) (s : List Let × Int) (q : List Int) (prs : List (Int × Int)) : Prop := (q.length : Int) = s.2 ∧ prs ++ qp τ q = outsFrom 0 s.1
theorem Led.no {b τ u : Int} {s : List Let × Int} {q : List Int} {prs} (h : Led τ s q prs) (hb : s.2 > b) : Led τ (step b τ u s) q prs ∧ step b τ u s = (s.1 ++ [(τ, u, none)], s.2) := by
  have e : step b τ u s = (s.1 ++ [(τ, u, none)], s.2) := by
    unfold step
    rw [if_pos hb]
  refine ⟨?_, e⟩
  rw [e]
  refine ⟨h.1, ?_⟩
  rw [outs_snoc, ← h.2]
  show _ = _ ++ []
  rw [List.append_nil]
theorem Led.yes {b τ u : Int} {s : List Let × Int} {q : List Int} {prs} (h : Led τ s q prs) (hb : ¬ s.2 > b) : Led τ (step b τ u s) (q ++ [(s.1.length : Int)]) prs ∧ step b τ u s = (s.1 ++ [(τ, u, some s.2)], s.2 + 1) := by
  have e : step b τ u s = (s.1 ++ [(τ, u, some s.2)], s.2 + 1) := by
    unfold step
    rw [if_neg hb]
  refine ⟨?_, e⟩
  rw [e]
  refine ⟨?_, ?_⟩
  · rw [List.length_append]
    show ((q.length + 1 : Nat) : Int) = s.2 + 1
    have := h.1
    omega
  · show _ = outsFrom 0 (s.1 ++ [(τ, u, some s.2)])
    rw [outs_snoc, ← h.2, qp_snoc, ← List.append_assoc, h.1]
    show _ = _ ++ [(τ + s.2, (0 : Int) + (s.1.length : Int))]
    rw [Int.zero_add]
/-- each one goes out in its time -/
def Due (τ : Int) (L : List Let) (q : List Int) (prs : List (Int × Int)) : Prop := prs ++ qp τ q = outsFrom 0 L
theorem Due.pop {τ : Int} {L : List Let} {x : Int} {q : List Int} {prs} (h : Due τ L (x :: q) prs) : Due (τ + 1) L q (prs ++ [(τ, x)]) := by
  unfold Due at *
  rw [← h, List.append_assoc]
  rfl
theorem Due.nil {τ τ' : Int} {L : List Let} {prs} (h : Due τ L [] prs) : Due τ' L [] prs := h
theorem ticks_turns (b τ : Int) : ∀ (k : Nat) (s : List Let × Int), (turns b τ k s).1.map (·.1) = s.1.map (·.1) ++ List.replicate k τ
  | 0, s => by simp [turns]
  | k + 1, s => by
    have ih := ticks_turns b τ k s
    have e : (step b τ (1 + (k : Int)) (turns b τ k s)).1.map (·.1) = (turns b τ k s).1.map (·.1) ++ [τ] := by
      unfold step
      split <;> simp
    unfold turns
    rw [e, ih, List.append_assoc, List.replicate_succ']
def ticksOf (cs : List Int) : Nat → List Int
  | 0 => []
  | i + 1 => ticksOf cs i ++ List.replicate (cs.getD i 0).toNat (i : Int)
theorem ticks_are (b : Int) (cs : List Int) : ∀ i, (pre b cs i).1.map (·.1) = ticksOf cs i
  | 0 => rfl
  | i + 1 => by
    show (turns b (i : Int) (cs.getD i 0).toNat (pre b cs i)).1.map (·.1) = ticksOf cs i ++ _
    rw [ticks_turns, ticks_are b cs i]
theorem ticks_len {cs : List Int} (hc : ∀ c ∈ cs, c ≤ 4) (i : Nat) : (ticksOf cs i).length ≤ 4 * i := by
  rw [← ticks_are 0 cs i, List.length_map]
  exact pre_len hc i
theorem getD_past {cs : List Int} {i : Nat} (h : cs.length ≤ i) : cs.getD i 0 = 0 := by
  rw [List.getD_eq_getElem?_getD, List.getElem?_eq_none h]
  rfl
theorem pre_past {b : Int} (hb : 0 ≤ b) (cs : List Int) : ∀ d : Nat, (pre b cs (cs.length + d)).1 = letts b cs ∧ ((pre b cs (cs.length + d)).2 ≤ b - d ∨ (pre b cs (cs.length + d)).2 ≤ 0)
  | 0 => ⟨rfl, .inl (by
    have := (pre_rng hb cs cs.length).2
    show (pre b cs cs.length).2 ≤ b - ((0 : Nat) : Int)
    omega)⟩
  | d + 1 => by
    have ih := pre_past hb cs d
    have e : turns b ((cs.length + d : Nat) : Int) (cs.getD (cs.length + d) 0).toNat (pre b cs (cs.length + d)) = pre b cs (cs.length + d) := by
      rw [getD_past (by omega)]
      rfl
    have e1 : (pre b cs (cs.length + (d + 1))).1 = (turns b ((cs.length + d : Nat) : Int) (cs.getD (cs.length + d) 0).toNat (pre b cs (cs.length + d))).1 := rfl
    have e2 : (pre b cs (cs.length + (d + 1))).2 = close (turns b ((cs.length + d : Nat) : Int) (cs.getD (cs.length + d) 0).toNat (pre b cs (cs.length + d))).2 := rfl
    rw [e] at e1 e2
    refine ⟨e1.trans ih.1, ?_⟩
    rw [e2]
    unfold close
    have := ih.2
    split <;> omega
end Ln

/-! ## heaps, tuples, data, sorts -/
namespace My
open PySem PySem.Spec PyProof.Rows L2
--ANN _law_pick | cut if tape[1] < len(tape[0]): | cut
/-! ### heaps -/
theorem same_upd {H : Hp} {p : Addr} {o : HO} (h : H p = none) : Same H (upd H p o) := fun b x e => by
  rw [upd_ne (ne_of_none e h)]
  exact e
/-- all but t stays -/
def Moved (t : Addr) (H H' : Hp) : Prop := ∀ b o, b ≠ t → H b = some o → H' b = some o
theorem Moved.refl {t : Addr} {H : Hp} : Moved t H H := fun _ _ _ h => h
theorem Moved.trans {t : Addr} {H H1 H2 : Hp} (a : Moved t H H1) (b : Moved t H1 H2) : Moved t H H2 := fun c o n h => b c o n (a c o n h)
theorem Moved.upd {t : Addr} {H : Hp} {o : HO} : Moved t H (upd H t o) := fun b x n e => by
  rw [upd_ne n]
  exact e
theorem Moved.same {t : Addr} {H H' : Hp} (h : Same H H') : Moved t H H' := fun b o _ e => h b o e
theorem Moved.free {t : Addr} {H H' : Hp} (h : Moved t H H') {p : Addr} (n : p ≠ t) (e : H' p = none) : H p = none := by
  cases q : H p with
  | none => rfl
  | some o =>
    rw [h p o n q] at e
    cases e
/-! ### the tape: where the draws stand -/
def Tape (H : Hp) (t s : Addr) : Prop := ∃ (ns : List Int) (pos rest mx ct : Int), s ≠ t ∧ H t = some (.lst [.ref s, .int pos, .int rest, .int mx, .int ct]) ∧ H s = some (.lst (ns.map V.int)) ∧ 0 ≤ pos
theorem Tape.keep {t s : Addr} {H H' : Hp} (h : Tape H t s) (e : Same H H') : Tape H' t s := by
  obtain ⟨ns, a, b, c, d, h1, h2, h3, h4⟩ := h
  exact ⟨ns, a, b, c, d, h1, e _ _ h2, e _ _ h3, h4⟩
theorem Tape.ne {t s p : Addr} {H : Hp} (h : Tape H t s) (np : H p = none) : p ≠ t := fun e => by
  obtain ⟨ns, a, b, c, d, h1, h2, h3, h4⟩ := h
  rw [e, h2] at np
  cases np
theorem Tape.ne2 {t s p : Addr} {H : Hp} (h : Tape H t s) (np : H p = none) : p ≠ s := fun e => by
  obtain ⟨ns, a, b, c, d, h1, h2, h3, h4⟩ := h
  rw [e, h3] at np
  cases np
theorem Tape.but {t s r : Addr} {H : Hp} {o : HO} (h : Tape H t s) (n : r ≠ t) (n2 : r ≠ s) : Tape (upd H r o) t s := by
  obtain ⟨ns, a, b, c, d, h1, h2, h3, h4⟩ := h
  refine ⟨ns, a, b, c, d, h1, ?_, ?_, h4⟩
  · rw [upd_ne n.symm]
    exact h2
  · rw [upd_ne n2.symm]
    exact h3
section
variable {K : PySem.W.Frag} {H : Hp}
theorem tyTup {a : Addr} {xs : List V} (h : SqT K H a xs) : TyX K H (.ref a) (.type "tuple") := by
  rcases h with (h | ⟨o, h⟩) | h
  · exact .base (.tup h)
  · exact .fTuple h
  · obtain ⟨o, n, vs, e, c, _⟩ := h
    exact .kTuple e c
theorem sT {H' : Hp} {a : Addr} {xs : List V} (e : Same H H') (h : SqT K H a xs) : SqT K H' a xs := by
  rcases h with (h | ⟨o, h⟩) | h
  · exact .inl (.inl (e _ _ h))
  · exact .inl (.inr ⟨o, e _ _ h⟩)
  · exact .inr h
end
/-! ### new tuples, one for each -/
theorem small2000 {n : Nat} (h : n ≤ 2000) : n < sizeLine := by
  show n < 2 ^ 24
  omega
inductive Tups {α : Type} (f : α → List V) (H : Hp) : List Addr → List α → Prop
  | nil : Tups f H [] []
  | cons {p : Addr} {x : α} {ps : List Addr} {xs : List α} : H p = some (.tup (f x)) → Tups f H ps xs → Tups f H (p :: ps) (x :: xs)
section
variable {α : Type} {f : α → List V} {H H' : Hp}
theorem Tups.keep {ps : List Addr} {xs : List α} (h : Tups f H ps xs) (e : ∀ b ys, H b = some (.tup ys) → H' b = some (.tup ys)) : Tups f H' ps xs := by
  induction h with
  | nil => exact .nil
  | cons a _ ih => exact .cons (e _ _ a) ih
theorem Tups.same {ps : List Addr} {xs : List α} (h : Tups f H ps xs) (e : Same H H') : Tups f H' ps xs := h.keep fun b ys z => e _ _ z
theorem Tups.put {ps : List Addr} {xs : List α} (h : Tups f H ps xs) {L : Addr} {ys : List V} {o : HO} (e : H L = some (.lst ys)) : Tups f (upd H L o) ps xs := h.keep fun b zs z => by
  rw [upd_ne (fun q => by rw [q, e] at z; cases z)]
  exact z
theorem Tups.new {ps : List Addr} {xs : List α} (h : Tups f H ps xs) {p : Addr} {o : HO} (e : H p = none) : Tups f (upd H p o) ps xs := h.same (same_upd e)
theorem Tups.snoc {ps : List Addr} {xs : List α} {p : Addr} {x : α} (h : Tups f H ps xs) (e : H p = some (.tup (f x))) : Tups f H (ps ++ [p]) (xs ++ [x]) := by
  induction h with
  | nil => exact .cons e .nil
  | cons a _ ih => exact .cons a ih
theorem Tups.append {ps qs : List Addr} {xs ys : List α} (h : Tups f H ps xs) (k : Tups f H qs ys) : Tups f H (ps ++ qs) (xs ++ ys) := by
  induction h with
  | nil => exact k
  | cons a _ ih => exact .cons a ih
theorem Tups.length {ps : List Addr} {xs : List α} (h : Tups f H ps xs) : ps.length = xs.length := by
  induction h with
  | nil => rfl
  | cons a _ ih => rw [List.length_cons, List.length_cons, ih]
theorem Tups.get {ps : List Addr} {xs : List α} (h : Tups f H ps xs) : ∀ {i : Nat} {v : V}, (ps.map V.ref)[i]? = some v → ∃ p x, v = .ref p ∧ xs[i]? = some x ∧ H p = some (.tup (f x)) := by
  induction h with
  | nil =>
    intro i v h
    simp at h
  | cons a _ ih =>
    intro i v h
    cases i with
    | zero =>
      simp at h
      exact ⟨_, _, h.symm, rfl, a⟩
    | succ i =>
      simp only [List.map_cons, List.getElem?_cons_succ] at h ⊢
      exact ih h
end
def wv : Option Int → V
  | none => .non
  | some w => .int w
def pv2 (p : Int × Int) : List V := [.int p.1, .int p.2]
/-! ### data that is compared -/
def wd : Option Int → PyData
  | none => .none
  | some w => .int w
def pd2 (p : Int × Int) : PyData := .tuple [.int p.1, .int p.2]
def dInts (ns : List Int) : PyData := .list (ns.map PyData.int)
def dWs (ws : List (Option Int)) : PyData := .list (ws.map wd)
def dPrs (ps : List (Int × Int)) : PyData := .list (ps.map pd2)
section
variable {K : PySem.W.Frag} {H : Hp}
theorem dpa_ints : ∀ ns : List Int, DpAll K H (ns.map V.int) (ns.map PyData.int)
  | [] => .nil
  | n :: ns => .cons (.int n) (dpa_ints ns)
theorem dp_wd : ∀ w : Option Int, Dp K H (wv w) (wd w)
  | none => .non
  | some w => .int w
theorem dpa_ws : ∀ ws : List (Option Int), DpAll K H (ws.map wv) (ws.map wd)
  | [] => .nil
  | w :: ws => .cons (dp_wd w) (dpa_ws ws)
theorem dpa_prs {ps : List Addr} {xs : List (Int × Int)} (h : Tups pv2 H ps xs) : DpAll K H (ps.map V.ref) (xs.map pd2) := by
  induction h with
  | nil => exact .nil
  | cons a _ ih => exact .cons (.tup (SqT.of a) (.cons (.int _) (.cons (.int _) .nil))) ih
end
theorem lay_all {α : Type} {f : α → PyData} (h : ∀ x, (f x).canLay0 = true) : ∀ xs : List α, PyData.canLayAll0 (xs.map f) = true
  | [] => by simp [PyData.canLayAll0]
  | x :: xs => by
    rw [List.map_cons, PyData.canLayAll0, h x, lay_all h xs]
    rfl
theorem dep_all {α : Type} {f : α → PyData} {d : Nat} (h : ∀ x, (f x).depth ≤ d) : ∀ xs : List α, PyData.depthAll (xs.map f) ≤ d
  | [] => by simp [PyData.depthAll]
  | x :: xs => by
    have h1 := h x
    have h2 := dep_all h xs
    rw [List.map_cons, PyData.depthAll]
    omega
/-- can be laid, and is at most d deep -/
def Shp (d : Nat) (x : PyData) : Prop := x.canLay0 = true ∧ x.depth ≤ d
theorem Shp.ok {d : Nat} {x : PyData} (h : Shp d x) (hd : d ≤ 64) : SeqAt.shaped x = true := by
  show (x.canLay0 && decide (x.depth ≤ 64)) = true
  rw [Bool.and_eq_true]
  exact ⟨h.1, decide_eq_true (Nat.le_trans h.2 hd)⟩
theorem Shp.int (i : Int) : Shp 1 (.int i) := ⟨by simp [PyData.canLay0], by simp [PyData.depth]⟩
theorem Shp.wd (w : Option Int) : Shp 1 (wd w) := by
  cases w <;> exact ⟨by simp [My.wd, PyData.canLay0], by simp [My.wd, PyData.depth]⟩
theorem Shp.list {α : Type} {f : α → PyData} {d : Nat} (h : ∀ x, Shp d (f x)) (xs : List α) : Shp (d + 1) (.list (xs.map f)) := by
  have h1 := lay_all (fun x => (h x).1) xs
  have h2 := dep_all (fun x => (h x).2) xs
  exact ⟨by simp only [PyData.canLay0]; exact h1, by simp only [PyData.depth]; omega⟩
theorem Shp.tup0 : Shp 1 (.tuple []) := ⟨by simp [PyData.canLay0, PyData.canLayAll0], by simp [PyData.depth, PyData.depthAll]⟩
theorem Shp.tupC {d : Nat} {x : PyData} {xs : List PyData} (h : Shp d x) (t : Shp (d + 1) (.tuple xs)) : Shp (d + 1) (.tuple (x :: xs)) := by
  obtain ⟨a, b⟩ := h
  obtain ⟨c, e⟩ := t
  simp only [PyData.canLay0] at c
  simp only [PyData.depth] at e
  refine ⟨?_, ?_⟩
  · simp only [PyData.canLay0, PyData.canLayAll0, a, c, Bool.and_self]
  · simp only [PyData.depth, PyData.depthAll]
    omega
theorem Shp.up {d e : Nat} {x : PyData} (h : Shp d x) (le : d ≤ e) : Shp e x := ⟨h.1, Nat.le_trans h.2 le⟩
theorem Shp.pd2 (p : Int × Int) : Shp 2 (pd2 p) := .tupC (.int _) (.tupC (.int _) (Shp.tup0.up (by decide)))
theorem Shp.ints (ns : List Int) : Shp 2 (dInts ns) := .list Shp.int ns
theorem Shp.ws (ws : List (Option Int)) : Shp 2 (dWs ws) := .list Shp.wd ws
theorem Shp.prs (ps : List (Int × Int)) : Shp 3 (dPrs ps) := .list Shp.pd2 ps
theorem eqv_same {d : Nat} {x : PyData} (h : Shp d x) : PyData.eqv x x = true := SeqAt.eqv_refl x h.1
theorem iteNE {b : Bool} {A B : Prop} (hb : b = true) (h : B) : if (!b) = true then A else B := by
  subst hb
  exact iteF h
theorem ne_same {d : Nat} {x : PyData} (h : Shp d x) : V.bl (!PyData.eqv x x) = V.bl false := by
  rw [eqv_same h]
  rfl
theorem eq_same {d : Nat} {x : PyData} (h : Shp d x) : V.bl (PyData.eqv x x) = V.bl true := by
  rw [eqv_same h]

theorem flat_one {α : Type} (n : Nat) (x : α) : (List.replicate n [x]).flatten = List.replicate n x := by
  induction n with
  | zero => rfl
  | succ n ih => rw [List.replicate_succ, List.flatten_cons, ih]; rfl
theorem take_snoc {α : Type} {l : List α} {i : Nat} {x : α} (h : l[i]? = some x) : l.take (i + 1) = l.take i ++ [x] := by
  rw [List.take_add_one, h]
  rfl
theorem same_put {H H' : Hp} {p : Addr} {o : HO} (sm : Same H H') (n : H p = none) : Same H (upd H' p o) := fun b x e => (upd_ne (ne_of_none e n)).trans (sm b x e)
theorem ne_no {a b : Int} (h : a = b) : V.bl (!decide (V.int a = V.int b)) = V.bl false := by
  subst h
  rw [decide_eq_true rfl]
  rfl
theorem ixN_nat {n : Nat} {p : Int} (h0 : 0 ≤ p) (h1 : p < (n : Int)) : ixN n p = some p.toNat := by
  unfold ixN
  rw [if_pos h0, if_pos h1]
theorem atI_of {xs : List V} {p : Int} {v : V} (h0 : 0 ≤ p) (h : xs[p.toNat]? = some v) : atI xs p = some v := by
  have e := atI_nat h
  rw [show ((p.toNat : Nat) : Int) = p by omega] at e
  exact e
theorem ixTK {X : Cx} {K : PySem.W.Frag} (h : X.K = K) : IxR X (rIxT K) := h ▸ ix_tup
theorem ixLK {X : Cx} {K : PySem.W.Frag} (h : X.K = K) : IxR X (rIxL K) := h ▸ ix_list
def rLenS (K : PySem.W.Frag) : List V → Hp → VK → Prop := fun xs H Q => ∃ p ys, xs = [.ref p] ∧ (SqL K H p ys ∨ SqT K H p ys) ∧ Q (.int ys.length) H
theorem lenK {X : Cx} {K : PySem.W.Frag} (h : X.K = K) : CallR X (.builtin "len") (rLenS K) := h ▸ call_len_seq
theorem isiK {X : Cx} {K : PySem.W.Frag} (h : X.K = K) : CallR X (.builtin "isinstance") (rIsi K) := h ▸ call_isi
theorem notInK {X : Cx} {K : PySem.W.Frag} (h : X.K = K) : OpR X (compareOp .NotIn) (rIn K true) := h ▸ op_notIn_seq
theorem inK {X : Cx} {K : PySem.W.Frag} (h : X.K = K) : OpR X (compareOp .In) (rIn K false) := h ▸ op_in_seq
/-! ### tuples of ints as data -/
def fI (r : List Int) : List V := r.map V.int
def dI (r : List Int) : PyData := .tuple (r.map PyData.int)
def dT (rs : List (List Int)) : PyData := .list (rs.map dI)
theorem units65 {k : Nat} {A : Around} (r : Room k A) : A.units + 65 < cLine := by
  have := r.un
  omega
theorem Shp.tuple {α : Type} {f : α → PyData} {d : Nat} (h : ∀ x, Shp d (f x)) (xs : List α) : Shp (d + 1) (.tuple (xs.map f)) := by
  have h1 := lay_all (fun x => (h x).1) xs
  have h2 := dep_all (fun x => (h x).2) xs
  exact ⟨by simp only [PyData.canLay0]; exact h1, by simp only [PyData.depth]; omega⟩
theorem Shp.dI (r : List Int) : Shp 2 (dI r) := .tuple Shp.int r
theorem Shp.dT (rs : List (List Int)) : Shp 3 (dT rs) := .list Shp.dI rs
theorem dp_dI {K : PySem.W.Frag} {H : Hp} {p : Addr} {r : List Int} (h : SqT K H p (r.map V.int)) : Dp K H (.ref p) (My.dI r) := .tup h (dpa_ints r)
theorem dpa_dT {K : PySem.W.Frag} {H : Hp} {ps : List Addr} {rs : List (List Int)} (h : Tups fI H ps rs) : DpAll K H (ps.map V.ref) (rs.map My.dI) := by
  induction h with
  | nil => exact .nil
  | cons a _ ih => exact .cons (dp_dI (SqT.of a)) ih
theorem dp_dT {K : PySem.W.Frag} {H : Hp} {L : Addr} {ps : List Addr} {rs : List (List Int)} (e : H L = some (.lst (ps.map V.ref))) (h : Tups fI H ps rs) : Dp K H (.ref L) (My.dT rs) := .lst (SqL.of e) (dpa_dT h)
theorem eqvA : ∀ a b : List Int, PyData.eqvAll (a.map PyData.int) (b.map PyData.int) = decide (a = b)
  | [], [] => by simp [PyData.eqvAll]
  | [], _ :: _ => by simp [PyData.eqvAll]
  | _ :: _, [] => by simp [PyData.eqvAll]
  | x :: a, y :: b => by
    rw [List.map_cons, List.map_cons, PyData.eqvAll, eqvA a b]
    simp only [PyData.eqv]
    by_cases h : x = y
    · subst h
      simp
    · simp [h]
theorem eqvI (a b : List Int) : PyData.eqv (My.dI a) (My.dI b) = decide (a = b) := by
  unfold My.dI
  rw [PyData.eqv]
  exact eqvA a b
theorem not_any {rs : List (List Int)} {r : List Int} (h : r ∉ rs) : ((rs.map My.dI).any fun z => PyData.eqv z (My.dI r)) = false := by
  rw [List.any_map, List.any_eq_false]
  intro x hx
  show ¬ PyData.eqv (My.dI x) (My.dI r) = true
  rw [eqvI]
  intro z
  exact h (of_decide_eq_true z ▸ hx)
/-! ### a tuple whose object is known: its methods -/
def Frz (H : Hp) (p : Addr) (xs : List V) : Prop := ∃ o : Obj, H p = some (.frz o (.tup xs)) ∧ o.dict = none
theorem Frz.sq {K : PySem.W.Frag} {H : Hp} {p : Addr} {xs : List V} (h : Frz H p xs) : SqT K H p xs := let ⟨o, e, _⟩ := h; .inl (.inr ⟨o, e⟩)
theorem Frz.same {H H' : Hp} {p : Addr} {xs : List V} (h : Frz H p xs) (e : Same H H') : Frz H' p xs := let ⟨o, a, b⟩ := h; ⟨o, e _ _ a, b⟩
theorem Frz.moved {t : Addr} {H H' : Hp} {p : Addr} {xs : List V} (h : Frz H p xs) (n : p ≠ t) (e : Moved t H H') : Frz H' p xs := let ⟨o, a, b⟩ := h; ⟨o, e _ _ n a, b⟩
theorem Frz.of {H H' : Hp} {p : Addr} {xs : List V} (h : Frz H p xs) (e : ∀ o, H p = some o → H' p = some o) : Frz H' p xs := let ⟨o, a, b⟩ := h; ⟨o, e _ a, b⟩
theorem Frz.ne {H : Hp} {p q : Addr} {xs : List V} (h : Frz H p xs) (n : H q = none) : p ≠ q := let ⟨_, a, _⟩ := h; ne_of_none a n
theorem Frz.tape {H : Hp} {p t s : Addr} {xs : List V} (h : Frz H p xs) (tp : Tape H t s) : p ≠ t := fun e => by
  obtain ⟨o, a, _⟩ := h
  obtain ⟨_, _, _, _, _, _, e2, _⟩ := tp
  rw [e, e2] at a
  cases a
theorem call_tupleF {X : Cx} : CallR X (.type "tuple") (fun xs H Q => ∃ p ys, xs = [.ref p] ∧ SqL X.K H p ys ∧ ∀ l H', H l = none → Same H H' → Frz H' l ys → (∀ b, b ≠ l → H' b = H b) → Q (.ref l) H') := by
  intro pins s σ H xs us Q I r h
  obtain ⟨p, ys, rfl, hq, q⟩ := h
  obtain ⟨u, rfl, rx⟩ := vals1 r
  cases rx
  obtain ⟨its, r', pl, hz⟩ := I.list hq
  have hlen := r'.length
  refine call_tuple_list pl.isList (fun h' kp => ?_) (by simp only [List.size_toArray] <;> omega)
  have I1 : Inv X pins σ H { s with heap := h' } := I.kept (t' := s.toks) kp
  have I2 : Inv X pins σ (upd H h'.objs.size (.frz { cls := .type "tuple", data := .seq its.toArray } (.tup ys))) { s with heap := h'.push { cls := .type "tuple", data := .seq its.toArray } } :=
    I1.laid (t' := s.toks) (fun b o e => Heap.get?_push_of_some _ e) (Nat.le_refl _) (show ObjOk X.prog X.w _ _ _ (.frz _ (.tup ys)) from ⟨Heap.get?_push_size _ rfl, hz, its, r', IsTup.new _ _⟩)
  have nl := I1.hok.fresh (Nat.le_refl _)
  exact ⟨.ref h'.objs.size, _, I2, rfl, q _ _ nl (same_upd nl) ⟨_, upd_same, rfl⟩ fun b n => upd_ne n⟩
def tTM (r : V → List V → Hp → VK → Prop) (to : TE) (t : TA) : TE := fun σ H Q => to σ H fun x H1 => (∃ p xs, x = .ref p ∧ Frz H1 p xs) ∧ t σ H1 fun xs H2 => r x xs H2 Q
theorem pe_tm {X : Cx} {o e : Expr} {es : List Expr} {to : TE} {t : TA} {name : Str} {apos cpos : Pos} {id : String} {r : V → List V → Hp → VK → Prop} (pa : PlainAttrs "tuple") (slot : Slot "tuple" name id) (hty : typeOf (.builtin id) = pure (.type "method_descriptor")) (hm : MtR X id r) (ho : PE X o to) (ha : PA X (e :: es) t)
    (hbase : attributeBase o name X.env (eval o X.env) = eval o X.env := by rfl)
    (hfew : ((backTo cpos (starEach (e :: es) X.env)).all (fun x => !x.1) && (backToKw cpos (keywordEach [] X.env)).all (fun x => x.1.isSome)
      && decide ((e :: es).length + ([] : List Keyword).length + (if ([] : List Keyword).isEmpty then 0 else 1) < 30)) = true := by rfl)
    (hline : (apos.endLine == cpos.line) = true := by rfl) (hs : starEach (e :: es) X.env = (false, eval e X.env) :: starEach es X.env := by rfl) (hplain : (backTo cpos (starEach es X.env)).any (·.1) = false := by rfl) :
    PE X (.Call (.Attribute o name apos) (e :: es) [] cpos) (tTM r to t) := by
  refine ⟨fun pins s σ H Q I h => ?_⟩
  refine wpAny_Call_method_late hbase hfew hline rfl (thn (ho.run pins s σ H _ I h) fun v s1 ⟨x, H1, I1, r1, ty, q1⟩ => ?_)
  obtain ⟨p, xs, rfl, ob, hp, hd⟩ := ty
  cases r1
  obtain ⟨hob, _, its, _, ⟨o2, ho2, hc2, _⟩⟩ := I1.hok _ _ hp
  have eo : o2 = ob := Option.some.inj (ho2.symm.trans hob)
  subst eo
  refine ⟨"tuple", id, pa, slot, hty, ⟨_, hob, hc2⟩, fun a ea => ?_, ?_⟩
  · cases ea
    exact ⟨_, hob, hd⟩
  have hA := ha.run cpos pins s1 σ H1 _ I1 q1
  rw [hs] at hA ⊢
  refine Calls.callWith_builtin (by show (false || (backTo cpos (starEach es X.env)).any (·.1)) = false; rw [hplain] <;> rfl) (Calls.evalArgs_plain ?_)
  exact thn hA fun us s2 ⟨vs, H2, I2, r2, q2⟩ => hm pins s2 σ H2 (.ref p) vs _ us Q I2 rfl r2 q2
/-! ### t.index(k), t a tuple of ints -/
theorem flat_ints (ys : List Int) : (ys.map V.int).all flatV = true := by
  rw [List.all_map]
  exact List.all_eq_true.mpr fun _ _ => rfl
def rTIndex (K : PySem.W.Frag) : V → List V → Hp → VK → Prop := fun x xs H Q => ∃ p, ∃ ys : List Int, ∃ z j, x = .ref p ∧ xs = [.int z] ∧ SqT K H p (ys.map V.int) ∧ ys[j]? = some z ∧ (∀ m, m < j → ys[m]? ≠ some z) ∧ Q (.int (j : Nat)) H
theorem mt_tindex {X : Cx} : MtR X "tuple.index" (rTIndex X.K) := by
  intro pins s σ H x xs v us Q I rx rs h
  obtain ⟨p, ys, z, j, rfl, rfl, hq, hy, hno, q⟩ := h
  cases rx
  obtain ⟨u, rfl, t, rfl⟩ := vals1 rs
  obtain ⟨its, r, pl, hz⟩ := I.tuple hq
  obtain ⟨⟨cls, dd, dt, sl⟩, ho, hc, n, hd⟩ := pl
  simp only at hc hd
  subst hc
  subst hd
  have hl : its.toArray.size = ys.length := by rw [List.size_toArray, ← r.length, List.length_map]
  have hj : j < its.toArray.size := by rw [hl]; exact (List.getElem?_eq_some_iff.mp hy).1
  have at' : ∀ (m : Nat) (hm : m < its.toArray.size), ∃ y t', ys[m]? = some y ∧ its.toArray[m] = Value.int y t' := fun m hm => by
    have hm' : m < ys.length := by rw [← hl]; exact hm
    obtain ⟨w, hw, t', hw'⟩ := r.get (i := m) (x := .int ys[m]) (by simp [hm'])
    refine ⟨ys[m], t', List.getElem?_eq_getElem hm', ?_⟩
    have e := (List.getElem?_eq_some_iff.mp hw).2
    rw [← hw', ← e]
    simp
  refine call_meets PySem.F.slot_tuple_index ⟨_, ho, rfl⟩ PySem.F.entry_tuple_index (PySem.F.args_tuple_index_2 _ _) (TI.tuple_indexAt p its.toArray n dd sl (.int z t) (eqU (.int z)) j hj ?_ ?_)
    ⟨ho, fun w hw => mem_eqAt (x := .int z) ⟨t, rfl⟩ rfl r (flat_ints ys) w (by simpa using hw), ⟨.int (j : Nat), H, I.tok _, ⟨_, rfl⟩, q⟩⟩
  · obtain ⟨y, t', h1, h2⟩ := at' j hj
    rw [hy] at h1
    cases h1
    rw [h2]
    show (z == z) = true
    exact beq_self_eq_true z
  · intro m hm hmj
    obtain ⟨y, t', h1, h2⟩ := at' m hm
    rw [h2]
    show (y == z) = false
    exact beq_eq_false_iff_ne.mpr fun e => hno m hmj (e ▸ h1)
/-! ### sorted(xs), xs a list of tuples of d ints from 0 to B, of any length -/
/-- the ints of a tuple that H tracks -/
def intsV (H : Hp) : V → List Int
  | .ref a => match H a with
    | some (.tup xs) => xs.filterMap fun v => match v with
      | .int i => some i
      | _ => none
    | _ => []
  | _ => []
theorem ints_fI (r : List Int) : ((fI r).filterMap fun v => match v with
      | V.int i => some i
      | _ => none) = r := by
  unfold fI
  induction r with
  | nil => rfl
  | cons x r ih => simp [ih]
theorem intsV_of {H : Hp} {a : Addr} {r : List Int} (h : H a = some (.tup (fI r))) : intsV H (.ref a) = r := by
  show (match H a with
    | some (.tup xs) => xs.filterMap fun v => match v with
      | V.int i => some i
      | _ => none
    | _ => []) = r
  rw [h]
  exact ints_fI r
abbrev ltC (B : Int) (k : V → List Int) (x y : V) : Bool := decide (TS.code B (k x) < TS.code B (k y))
theorem swoC {α : Type} (f : α → Int) : SrtO.Swo fun x y => decide (f x < f y) := by
  refine ⟨fun x y h => ?_, fun x y z h1 h2 => ?_⟩
  · have a := of_decide_eq_true h
    exact decide_eq_false (by omega)
  · have a := of_decide_eq_false h1
    have b := of_decide_eq_false h2
    exact decide_eq_false (by omega)
def rSortC (K : PySem.W.Frag) (B : Int) (d : Nat) : List V → Hp → VK → Prop := fun vs H Q => ∃ (a : Addr) (ps : List Addr) (rs : List (List Int)), vs = [V.ref a] ∧ SqL K H a (ps.map V.ref) ∧ Tups fI H ps rs ∧ (∀ r ∈ rs, r.length = d ∧ TS.Bd B r) ∧
  ∀ ps' rs' p, Tups fI H ps' rs' → rs'.Perm rs → rs'.Pairwise (fun x y => TS.code B x ≤ TS.code B y) → H p = none → Q (.ref p) (upd H p (.lst (ps'.map V.ref)))
theorem tups_of {H : Hp} : ∀ {ps : List Addr}, (∀ p ∈ ps, ∃ r, H p = some (.tup (fI r))) → Tups fI H ps (ps.map fun p => intsV H (.ref p))
  | [], _ => .nil
  | p :: ps, h => by
    obtain ⟨r, hr⟩ := h p List.mem_cons_self
    refine .cons ?_ (tups_of fun q hq => h q (List.mem_cons_of_mem _ hq))
    show H p = some (.tup (fI (intsV H (.ref p))))
    rw [intsV_of hr]
    exact hr
theorem Tups.ints {H : Hp} {ps : List Addr} {rs : List (List Int)} (h : Tups fI H ps rs) : rs = ps.map fun p => intsV H (.ref p) := by
  induction h with
  | nil => rfl
  | cons a _ ih => rw [List.map_cons, intsV_of a, ← ih]
theorem Tups.mem {α : Type} {f : α → List V} {H : Hp} {ps : List Addr} {rs : List α} (h : Tups f H ps rs) : ∀ p ∈ ps, ∃ r ∈ rs, H p = some (.tup (f r)) := by
  induction h with
  | nil => exact fun _ h => absurd h (by simp)
  | cons a _ ih =>
    intro p hp
    rcases List.mem_cons.mp hp with rfl | hp
    · exact ⟨_, List.mem_cons_self, a⟩
    · obtain ⟨r, hr, e⟩ := ih p hp
      exact ⟨r, List.mem_cons_of_mem _ hr, e⟩
theorem cr_sortC {X : Cx} {B : Int} {d : Nat} (hd : 1 ≤ d) : CallR X (.builtin "sorted") (rSortC X.K B d) := by
  intro pins s σ H vs us Q I r h
  obtain ⟨a, ps, rs, rfl, hs, tu, hb, q⟩ := h
  obtain ⟨its, rv, hl, hz⟩ := I.list hs
  obtain ⟨u, rfl, ru⟩ := vals1 r
  obtain rfl : u = Value.ref a := ru
  obtain ⟨e1, e2⟩ := refs_back rv fun x m => by
    obtain ⟨t, _, e⟩ := List.mem_map.mp m
    exact ⟨t, e.symm⟩
  have key : ∀ v ∈ its, ∃ p, v = Value.ref p ∧ p ∈ ps := fun v hv => by
    obtain ⟨t, rfl⟩ := e2 v hv
    have hm : V.ref t ∈ ps.map V.ref := by rw [e1]; exact List.mem_map.mpr ⟨_, hv, rfl⟩
    obtain ⟨p, hp, e⟩ := List.mem_map.mp hm
    cases e
    exact ⟨t, rfl, hp⟩
  have tin : ∀ v ∈ its, TS.TupInts s.heap v (intsV H (backV v)) ∧ (intsV H (backV v)).length = d ∧ TS.Bd B (intsV H (backV v)) := fun v hv => by
    obtain ⟨p, rfl, hp⟩ := key v hv
    obtain ⟨r, hr, ep⟩ := tu.mem p hp
    have ei : intsV H (backV (Value.ref p)) = r := intsV_of ep
    rw [ei]
    obtain ⟨its2, r2, pt, _⟩ := I.tuple (SqT.of ep)
    have hb' := hb r hr
    exact ⟨⟨p, its2.toArray, rfl, pt, intsAre_of r2⟩, hb'.1, hb'.2⟩
  refine SrtO.sorted_ord (ltv := fun v u => decide (TS.code B (intsV H (backV v)) < TS.code B (intsV H (backV u)))) (swoC fun v => TS.code B (intsV H (backV v))) hl.isList (by rw [← rv.length]; exact hz) (fun h2 h₁ a' ha' kk => ?_) fun out h1 h2 => ?_
  · intro h' keep
    have keep2 : ∀ b o, s.heap.get? b = some o → o.cls = .type "tuple" → h'.get? b = some o := fun b o e c => keep b o (kk b o e).1 (kk b o e).2
    have tin' : ∀ v ∈ its, TS.TupInts h' v (intsV H (backV v)) ∧ (intsV H (backV v)).length = d ∧ TS.Bd B (intsV H (backV v)) := fun v hv => let ⟨x, y, z⟩ := tin v hv; ⟨x.keeps keep2, y, z⟩
    obtain ⟨fs, k1, k2, k3⟩ := TS.firsts_of (h := h') (d := d) (B := B) hd its fun v hv => ⟨_, tin' v hv⟩
    refine ⟨tuples' true, fun Q E hq => ?_, ?_⟩
    · refine PySem.W.kat_kind (T := .type "int") k1 (by omega) (fun f hm => ?_) (by rfl) ?_
      · obtain ⟨x, t, rfl⟩ := k3 f hm
        exact PySem.W.Looks.now
      · have e : (Value.type "int" != Value.type "tuple") = true := by first | decide +kernel | rfl | decide
        rw [e]
        exact hq
    · intro p q hm hm'
      obtain ⟨⟨a1, xs, x1, ⟨o1, ho1, hc1, n1, hd1⟩, i1⟩, l1, b1⟩ := tin' _ hm
      obtain ⟨⟨a2, ys, x2, ⟨o2, ho2, hc2, n2, hd2⟩, i2⟩, l2, b2⟩ := tin' _ hm'
      show wpAny _ _ (keyLt' _ p.1 q.1) (fun r s' => s' = _ ∧ r = decide (TS.code B (intsV H (backV p.1)) < TS.code B (intsV H (backV q.1)))) (fun _ _ => False) _
      generalize intsV H (backV p.1) = ns at *
      generalize intsV H (backV q.1) = ms at *
      rw [x1, x2]
      refine PySem.W.kat_lt ho1 hd1 ho2 hd2 ?_
      have el : xs.size = ys.size := by
        have z1 := i1.length
        have z2 := i2.length
        simp at z1 z2
        omega
      rw [el, decide_eq_false (Nat.lt_irrefl _)]
      exact TS.lex_ints 0 i1 i2 (by omega) b1 b2 ⟨rfl, rfl⟩
  · obtain ⟨ep, he'⟩ := PyProof.Rows.sortedAll_at s.heap its out.toArray
    have h3 : ∀ u ∈ out, ∃ p, u = Value.ref p ∧ p ∈ ps := fun u hu => key u (h2.perm.mem_iff.mp hu)
    have eo : out.map backV = (out.map fun u => match u with
      | Value.ref a => a
      | _ => 0).map V.ref := by
      rw [List.map_map]
      refine List.map_congr_left fun u hu => ?_
      obtain ⟨p, rfl, _⟩ := h3 u hu
      rfl
    have hp : (out.map backV).Perm (ps.map V.ref) := by
      rw [e1]
      exact h2.perm.map backV
    have hlen : (out.map backV).length ≤ sizeLine := by
      rw [hp.length_eq]
      exact hz
    generalize eps : (out.map fun u => match u with
      | Value.ref a => a
      | _ => 0) = ps' at eo
    have pp : ps'.Perm ps := by
      rw [eo] at hp
      have z := hp.map fun v => match v with
        | V.ref a => a
        | _ => 0
      rw [List.map_map, List.map_map] at z
      have id1 : ∀ l : List Addr, l.map ((fun v => match v with
        | V.ref a => a
        | _ => 0) ∘ V.ref) = l := fun l => by
        induction l with
        | nil => rfl
        | cons x l ih => rw [List.map_cons, ih]; rfl
      rw [id1, id1] at z
      exact z
    have tu' : Tups fI H ps' (ps'.map fun p => intsV H (.ref p)) := tups_of fun p hp => by
      obtain ⟨r, _, e⟩ := tu.mem p (pp.mem_iff.mp hp)
      exact ⟨r, e⟩
    have pw : (ps'.map fun p => intsV H (.ref p)).Pairwise (fun x y => TS.code B x ≤ TS.code B y) := by
      have z : (out.map backV).Pairwise (fun x y => TS.code B (intsV H x) ≤ TS.code B (intsV H y)) := List.pairwise_map.mpr (h1.imp fun {x y} h => Int.not_lt.mp (of_decide_eq_false h))
      rw [eo] at z
      rw [List.pairwise_map] at z ⊢
      exact z
    rw [eo] at hlen
    refine ⟨.ref _, upd H (s.heap.objs.size + 1) (.lst (ps'.map V.ref)), I.laid (t' := s.toks) (fun _ _ => PyProof.Rows.sortedAll_old) (Nat.le_succ _) ⟨hlen, out, ep, ?_, he'⟩, rfl, q ps' _ _ tu' ?_ pw (I.hok.fresh (Nat.le_succ _))⟩
    · rw [← eo]
      exact vals_back fun u hu => by
        obtain ⟨p, e, _⟩ := h3 u hu
        exact ⟨p, e⟩
    · rw [tu.ints]
      exact pp.map _
/-- there is just one such list -/
theorem code_inj {B : Int} : ∀ {d : Nat} {x y : List Int}, x.length = d → y.length = d → TS.Bd B x → TS.Bd B y → TS.code B x = TS.code B y → x = y
  | _, [], [], _, _, _, _, _ => rfl
  | _, [], _ :: _, h1, h2, _, _, _ => by
    subst h1
    cases h2
  | _, _ :: _, [], h1, h2, _, _, _ => by
    subst h2
    cases h1
  | _, a :: x, b :: y, h1, h2, b1, b2, e => by
    have hl : x.length = y.length := by
      rw [List.length_cons] at h1 h2
      omega
    rcases Int.lt_trichotomy a b with z | z | z
    · have := TS.code_lt hl b1.tail b2.tail z
      omega
    · subst z
      have e' : TS.code B x = TS.code B y := by
        have n1 := (TS.code_same (B := B) (d := a) hl).symm
        have n2 := (TS.code_same (B := B) (d := a) hl.symm).symm
        have k1 : ¬ TS.code B x < TS.code B y := fun z => by
          have := n1.mp z
          omega
        have k2 : ¬ TS.code B y < TS.code B x := fun z => by
          have := n2.mp z
          omega
        omega
      rw [code_inj (d := x.length) rfl hl.symm b1.tail b2.tail e']
    · have := TS.code_lt hl.symm b2.tail b1.tail z
      omega
theorem sorted_uniq {B : Int} {d : Nat} : ∀ {l m : List (List Int)}, l.Perm m → (∀ r ∈ m, r.length = d ∧ TS.Bd B r) → l.Pairwise (fun x y => TS.code B x ≤ TS.code B y) → m.Pairwise (fun x y => TS.code B x ≤ TS.code B y) → l = m
  | [], m, p, _, _, _ => (List.nil_perm.mp p).symm
  | x :: l, [], p, _, _, _ => absurd p.length_eq (by simp)
  | x :: l, y :: m, p, hb, a, b => by
    have a' := List.pairwise_cons.mp a
    have b' := List.pairwise_cons.mp b
    have hx : x ∈ y :: m := p.mem_iff.mp List.mem_cons_self
    have hy : y ∈ x :: l := p.mem_iff.mpr List.mem_cons_self
    have e1 : TS.code B x ≤ TS.code B y := by
      rcases List.mem_cons.mp hy with e | h
      · rw [e]
        exact Int.le_refl _
      · exact a'.1 y h
    have e2 : TS.code B y ≤ TS.code B x := by
      rcases List.mem_cons.mp hx with e | h
      · rw [e]
        exact Int.le_refl _
      · exact b'.1 x h
    have e : x = y := code_inj (hb x hx).1 (hb y List.mem_cons_self).1 (hb x hx).2 (hb y List.mem_cons_self).2 (Int.le_antisymm e1 e2)
    subst e
    rw [sorted_uniq (List.Perm.cons_inv p) (fun r hr => hb r (List.mem_cons_of_mem _ hr)) a'.2 b'.2]
end My

/-! ### the mathematics of reach -/
namespace Rch
def ins (x : Int) : List Int → List Int
  | [] => [x]
  | y :: r => if x ≤ y then x :: y :: r else y :: ins x r
def isort : List Int → List Int
  | [] => []
  | x :: r => ins x (isort r)
theorem ins_perm (x : Int) : ∀ l : List Int, (ins x l).Perm (x :: l)
  | [] => .refl _
  | y :: r => by
    unfold ins
    split
    · exact .refl _
    · exact ((ins_perm x r).cons y).trans (.swap x y r)
theorem isort_perm : ∀ l : List Int, (isort l).Perm l
  | [] => .refl _
  | x :: r => (ins_perm x (isort r)).trans ((isort_perm r).cons x)
theorem ins_sorted (x : Int) : ∀ l : List Int, l.Pairwise (· ≤ ·) → (ins x l).Pairwise (· ≤ ·)
  | [], _ => List.pairwise_singleton _ _
  | y :: r, h => by
    unfold ins
    have h' := List.pairwise_cons.mp h
    split
    · next hx =>
      refine List.pairwise_cons.mpr ⟨fun z hz => ?_, h⟩
      rcases List.mem_cons.mp hz with e | hz
      · subst e
        exact hx
      · exact Int.le_trans hx (h'.1 z hz)
    · next hx =>
      refine List.pairwise_cons.mpr ⟨fun z hz => ?_, ins_sorted x r h'.2⟩
      rcases List.mem_cons.mp ((ins_perm x r).mem_iff.mp hz) with e | hz
      · subst e
        omega
      · exact h'.1 z hz
theorem isort_sorted : ∀ l : List Int, (isort l).Pairwise (· ≤ ·)
  | [] => .nil
  | x :: r => ins_sorted x _ (isort_sorted r)
theorem uniq : ∀ {l m : List Int}, l.Perm m → l.Pairwise (· ≤ ·) → m.Pairwise (· ≤ ·) → l = m
  | [], m, p, _, _ => (List.nil_perm.mp p).symm
  | x :: l, [], p, _, _ => absurd p.length_eq (by simp)
  | x :: l, y :: m, p, a, b => by
    have a' := List.pairwise_cons.mp a
    have b' := List.pairwise_cons.mp b
    have e : x = y := by
      have h1 : x ∈ y :: m := p.mem_iff.mp List.mem_cons_self
      have h2 : y ∈ x :: l := p.mem_iff.mpr List.mem_cons_self
      rcases List.mem_cons.mp h1 with e | h1
      · exact e
      · rcases List.mem_cons.mp h2 with e | h2
        · exact e.symm
        · exact Int.le_antisymm (a'.1 y h2) (b'.1 x h1)
    subst e
    rw [uniq (List.Perm.cons_inv p) a'.2 b'.2]
theorem isort_of {l m : List Int} (p : m.Perm l) (h : m.Pairwise (· ≤ ·)) : m = isort l := uniq (p.trans (isort_perm l).symm) h (isort_sorted l)
def greedy : Int → List Int → Int
  | T, [] => T
  | T, l :: r => if l > T + 1 then T else greedy (T + l) r
def reachOf (ns : List Int) : Int := greedy 0 (isort ns)
theorem greedy_ge : ∀ (ls : List Int) (T : Int), (∀ x ∈ ls, 0 ≤ x) → T ≤ greedy T ls
  | [], T, _ => Int.le_refl _
  | l :: r, T, h => by
    unfold greedy
    have h0 := h l List.mem_cons_self
    split
    · exact Int.le_refl _
    · have := greedy_ge r (T + l) fun x hx => h x (List.mem_cons_of_mem _ hx)
      omega
theorem greedy_le : ∀ (ls : List Int) (T : Int), (∀ x ∈ ls, 0 ≤ x ∧ x ≤ 40) → greedy T ls ≤ T + 40 * (ls.length : Int)
  | [], T, _ => by
    show T ≤ T + 40 * ((0 : Nat) : Int)
    omega
  | l :: r, T, h => by
    unfold greedy
    have h0 := h l List.mem_cons_self
    rw [List.length_cons]
    split
    · omega
    · have := greedy_le r (T + l) fun x hx => h x (List.mem_cons_of_mem _ hx)
      omega
def Good (ns : List Int) : Prop := 1 ≤ ns.length ∧ ns.length ≤ 8 ∧ ∀ n ∈ ns, 1 ≤ n ∧ n ≤ 40
theorem Good.perm {l m : List Int} (g : Good l) (p : m.Perm l) : Good m := ⟨by rw [p.length_eq]; exact g.1, by rw [p.length_eq]; exact g.2.1, fun n h => g.2.2 n (p.mem_iff.mp h)⟩
theorem isort_congr {l m : List Int} (p : m.Perm l) : isort m = isort l := uniq (((isort_perm m).trans p).trans (isort_perm l).symm) (isort_sorted m) (isort_sorted l)
theorem reach_perm {l m : List Int} (p : m.Perm l) : reachOf m = reachOf l := by
  unfold reachOf
  rw [isort_congr p]
theorem reach_bd {ns : List Int} (g : Good ns) : 0 ≤ reachOf ns ∧ reachOf ns ≤ 320 := by
  have g' := g.perm (isort_perm ns)
  have h1 := greedy_ge (isort ns) 0 fun x hx => by have := g'.2.2 x hx; omega
  have h2 := greedy_le (isort ns) 0 fun x hx => by have := g'.2.2 x hx; omega
  have h3 := g'.2.1
  refine ⟨h1, ?_⟩
  show greedy 0 (isort ns) ≤ 320
  omega
/-- n is a sum of some of ls, and of a number from 0 to T -/
def reps (T : Int) : List Int → Int → Prop
  | [], n => 0 ≤ n ∧ n ≤ T
  | l :: r, n => reps T r n ∨ reps T r (n - l)
theorem reps_perm {T : Int} {l m : List Int} (p : l.Perm m) : ∀ n, reps T l n ↔ reps T m n := by
  induction p with
  | nil => exact fun _ => Iff.rfl
  | cons x _ ih =>
    intro n
    show (reps T _ n ∨ reps T _ (n - x)) ↔ (reps T _ n ∨ reps T _ (n - x))
    rw [ih n, ih (n - x)]
  | swap x y r =>
    intro n
    show ((reps T r n ∨ reps T r (n - x)) ∨ (reps T r (n - y) ∨ reps T r (n - y - x))) ↔ ((reps T r n ∨ reps T r (n - y)) ∨ (reps T r (n - x) ∨ reps T r (n - x - y)))
    rw [show n - y - x = n - x - y by omega]
    constructor
    · rintro ((a | a) | (a | a))
      · exact .inl (.inl a)
      · exact .inr (.inl a)
      · exact .inl (.inr a)
      · exact .inr (.inr a)
    · rintro ((a | a) | (a | a))
      · exact .inl (.inl a)
      · exact .inr (.inl a)
      · exact .inl (.inr a)
      · exact .inr (.inr a)
  | trans _ _ h1 h2 => exact fun n => (h1 n).trans (h2 n)
theorem reps_up {T l : Int} (h0 : 0 ≤ T) (h1 : 1 ≤ l) (h2 : l ≤ T + 1) : ∀ (r : List Int) (n : Int), reps (T + l) r n ↔ reps T (l :: r) n
  | [], n => by
    show (0 ≤ n ∧ n ≤ T + l) ↔ ((0 ≤ n ∧ n ≤ T) ∨ (0 ≤ n - l ∧ n - l ≤ T))
    omega
  | x :: r, n => by
    show (reps (T + l) r n ∨ reps (T + l) r (n - x)) ↔ _
    rw [reps_up h0 h1 h2 r n, reps_up h0 h1 h2 r (n - x)]
    exact (reps_perm (.swap l x r) n)
theorem reps_low {T : Int} : ∀ (ls : List Int) (n : Int), 0 ≤ n → n ≤ T → reps T ls n
  | [], n, a, b => ⟨a, b⟩
  | _ :: r, n, a, b => .inl (reps_low r n a b)
theorem reps_nonneg {T : Int} : ∀ (ls : List Int) (n : Int), (∀ x ∈ ls, 0 ≤ x) → reps T ls n → 0 ≤ n
  | [], n, _, h => h.1
  | l :: r, n, hp, h => by
    have h0 := hp l List.mem_cons_self
    have hr : ∀ x ∈ r, 0 ≤ x := fun x hx => hp x (List.mem_cons_of_mem _ hx)
    rcases h with h | h
    · exact reps_nonneg r n hr h
    · have := reps_nonneg r _ hr h
      omega
theorem reps_not {T : Int} (h0 : 0 ≤ T) : ∀ (ls : List Int) (n : Int), (∀ x ∈ ls, T + 1 < x) → n ≤ T + 1 → reps T ls n → n ≤ T
  | [], n, _, _, h => h.2
  | l :: r, n, hp, hn, h => by
    have hl := hp l List.mem_cons_self
    have hr : ∀ x ∈ r, T + 1 < x := fun x hx => hp x (List.mem_cons_of_mem _ hx)
    rcases h with h | h
    · exact reps_not h0 r n hr hn h
    · have := reps_nonneg r _ (fun x hx => by have := hr x hx; omega) h
      omega
theorem greedy_is : ∀ (ls : List Int) (T : Int), 0 ≤ T → (∀ x ∈ ls, 1 ≤ x) → ls.Pairwise (· ≤ ·) → (∀ n, 0 ≤ n → n ≤ greedy T ls → reps T ls n) ∧ ¬ reps T ls (greedy T ls + 1)
  | [], T, h0, _, _ => ⟨fun n a b => ⟨a, b⟩, fun h => by
    have := h.2
    unfold greedy at this
    omega⟩
  | l :: r, T, h0, hp, hs => by
    have hl := hp l List.mem_cons_self
    have hr : ∀ x ∈ r, 1 ≤ x := fun x hx => hp x (List.mem_cons_of_mem _ hx)
    have hs' := List.pairwise_cons.mp hs
    unfold greedy
    by_cases hc : l > T + 1
    · rw [if_pos hc]
      refine ⟨fun n a b => reps_low _ n a b, fun h => ?_⟩
      have := reps_not h0 (l :: r) (T + 1) (fun x hx => by
        rcases List.mem_cons.mp hx with e | hx
        · omega
        · have := hs'.1 x hx
          omega) (Int.le_refl _) h
      omega
    · rw [if_neg hc]
      have ih := greedy_is r (T + l) (by omega) hr hs'.2
      have up := reps_up h0 hl (by omega : l ≤ T + 1) r
      exact ⟨fun n a b => (up n).mp (ih.1 n a b), fun h => ih.2 ((up _).mpr h)⟩
theorem reach_is {ns : List Int} (g : Good ns) : (∀ n, 0 ≤ n → n ≤ reachOf ns → reps 0 ns n) ∧ ¬ reps 0 ns (reachOf ns + 1) := by
  have g' := g.perm (isort_perm ns)
  have k := greedy_is (isort ns) 0 (Int.le_refl _) (fun x hx => (g'.2.2 x hx).1) (isort_sorted ns)
  exact ⟨fun n a b => (reps_perm (isort_perm ns) n).mp (k.1 n a b), fun h => k.2 ((reps_perm (isort_perm ns) _).mpr h)⟩
/-! ### sums as bits -/
def sumsF (S : Nat) : List Int → Nat
  | [] => S
  | l :: r => sumsF (S ||| S * 2 ^ l.toNat) r
theorem bits_step {S : Nat} {ls : List Int} {l : Int} (hl : 0 ≤ l) (hp : ∀ x ∈ ls, 0 ≤ x) (h : ∀ n : Nat, S.testBit n = true ↔ reps 0 ls (n : Int)) (n : Nat) : (S ||| S * 2 ^ l.toNat).testBit n = true ↔ reps 0 (l :: ls) (n : Int) := by
  rw [← Nat.shiftLeft_eq, Nat.testBit_or, Nat.testBit_shiftLeft, Bool.or_eq_true, Bool.and_eq_true, decide_eq_true_eq, h n, h (n - l.toNat)]
  show _ ↔ (reps 0 ls (n : Int) ∨ reps 0 ls ((n : Int) - l))
  constructor
  · rintro (a | ⟨a, b⟩)
    · exact .inl a
    · refine .inr ?_
      rw [show (n : Int) - l = ((n - l.toNat : Nat) : Int) by omega]
      exact b
  · rintro (a | a)
    · exact .inl a
    · have := reps_nonneg ls _ hp a
      refine .inr ⟨by omega, ?_⟩
      rw [show ((n - l.toNat : Nat) : Int) = (n : Int) - l by omega]
      exact a
theorem bits_all : ∀ (ls acc : List Int) (S : Nat), (∀ x ∈ ls, 0 ≤ x) → (∀ x ∈ acc, 0 ≤ x) → (∀ n : Nat, S.testBit n = true ↔ reps 0 acc (n : Int)) → ∀ n : Nat, (sumsF S ls).testBit n = true ↔ reps 0 (ls.reverse ++ acc) (n : Int)
  | [], acc, S, _, _, h => h
  | l :: r, acc, S, hl, ha, h => by
    intro n
    rw [List.reverse_cons, List.append_assoc]
    exact bits_all r (l :: acc) _ (fun x hx => hl x (List.mem_cons_of_mem _ hx)) (fun x hx => by
      rcases List.mem_cons.mp hx with e | hx
      · subst e
        exact hl x List.mem_cons_self
      · exact ha x hx) (bits_step (hl l List.mem_cons_self) ha h) n
theorem bit_one (n : Nat) : (1 : Nat).testBit n = true ↔ reps 0 [] (n : Int) := by
  show _ ↔ (0 ≤ (n : Int) ∧ (n : Int) ≤ 0)
  cases n with
  | zero => exact ⟨fun _ => ⟨by decide, by decide⟩, fun _ => by decide⟩
  | succ n =>
    rw [Nat.testBit_succ, show 1 / 2 = 0 from rfl, Nat.zero_testBit]
    exact ⟨fun h => absurd h Bool.false_ne_true, fun h => by omega⟩
theorem sums_is {ns : List Int} (g : Good ns) (n : Nat) : (sumsF 1 ns).testBit n = true ↔ reps 0 ns (n : Int) := by
  rw [bits_all ns [] 1 (fun x hx => by have := g.2.2 x hx; omega) (fun _ h => by simp at h) bit_one n, List.append_nil]
  exact reps_perm (List.reverse_perm ns) n
/-- sums // (1 << n) % 2 -/
theorem bit_of (S n : Nat) : (((S : Nat) : Int) / (1 * 2 ^ ((n : Int).toNat))).fmod 2 = if S.testBit n then 1 else 0 := by
  rw [Int.toNat_natCast, Int.one_mul, Int.fmod_eq_emod_of_nonneg _ (by decide), show ((2 : Int) ^ n) = ((2 ^ n : Nat) : Int) by simp, ← Int.natCast_ediv, show ((2 : Int)) = ((2 : Nat) : Int) from rfl, ← Int.natCast_emod, Nat.testBit_eq_decide_div_mod_eq]
  rcases Nat.mod_two_eq_zero_or_one (S / 2 ^ n) with e | e
  · rw [e]; rfl
  · rw [e]; rfl
end Rch

/-! ### the mathematics of tables -/
namespace Tb
def len1 (ls : List Int) (k : Int) : Int := ls.getD k.toNat 0
def rsum (ls : List Int) (r : List Int) : Int := (r.map (len1 ls)).sum
def InR (ls r : List Int) : Prop := ∀ k ∈ r, 0 ≤ k ∧ k < (ls.length : Int)
def Right (ls : List Int) (rs : List (List Int)) : Prop := Rch.Good ls ∧ 1 ≤ rs.length ∧ rs.length ≤ 60 ∧ ∀ (i : Nat) (r : List Int), rs[i]? = some r → InR ls r ∧ r.length ≤ 60 ∧ rsum ls r = (i : Int) + 1
theorem len_at {ls : List Int} {k : Int} (h0 : 0 ≤ k) (h1 : k < (ls.length : Int)) : ls[k.toNat]? = some (len1 ls k) := by
  have h : k.toNat < ls.length := by omega
  unfold len1
  rw [List.getD_eq_getElem?_getD, List.getElem?_eq_getElem h]
  rfl
theorem len_pos {ls : List Int} (g : Rch.Good ls) {k : Int} (h0 : 0 ≤ k) (h1 : k < (ls.length : Int)) : 1 ≤ len1 ls k ∧ len1 ls k ≤ 40 := g.2.2 _ (List.mem_of_getElem? (len_at h0 h1))
theorem rsum_cons (ls : List Int) (k : Int) (r : List Int) : rsum ls (k :: r) = len1 ls k + rsum ls r := by
  unfold rsum
  rw [List.map_cons, List.sum_cons]
theorem rsum_snoc (ls : List Int) (r : List Int) (k : Int) : rsum ls (r ++ [k]) = rsum ls r + len1 ls k := by
  unfold rsum
  rw [List.map_append, List.sum_append]
  simp
theorem rsum_len {ls : List Int} (g : Rch.Good ls) : ∀ {r : List Int}, InR ls r → (r.length : Int) ≤ rsum ls r
  | [], _ => by simp [rsum]
  | k :: r, h => by
    have h1 := h k List.mem_cons_self
    have := (len_pos g h1.1 h1.2).1
    have ih := rsum_len g (r := r) fun x hx => h x (List.mem_cons_of_mem _ hx)
    rw [rsum_cons, List.length_cons]
    omega
/-- when gone, into which loop -/
def go (ls : List Int) : Int → List Int → List (Int × Int)
  | _, [] => []
  | g, k :: r => (g, k) :: go ls (g + len1 ls k) r
theorem go_len (ls : List Int) : ∀ (r : List Int) (g : Int), (go ls g r).length = r.length
  | [], _ => rfl
  | k :: r, g => by
    show (go ls (g + len1 ls k) r).length + 1 = r.length + 1
    rw [go_len ls r]
theorem go_take (ls : List Int) : ∀ (r : List Int) (g : Int) (j : Nat), (go ls g r)[j]? = (r[j]?).map fun k => (g + rsum ls (r.take j), k)
  | [], g, j => by simp [go]
  | k :: r, g, 0 => by
    show some (g, k) = some (g + rsum ls [], k)
    simp [rsum]
  | k :: r, g, j + 1 => by
    show (go ls (g + len1 ls k) r)[j]? = (r[j]?).map fun x => (g + rsum ls (k :: r.take j), x)
    rw [go_take ls r, rsum_cons]
    congr 1
    funext x
    rw [Int.add_assoc]
theorem go_snd (ls : List Int) : ∀ (r : List Int) (g : Int), (go ls g r).map (·.2) = r
  | [], _ => rfl
  | k :: r, g => by
    show k :: (go ls (g + len1 ls k) r).map (·.2) = k :: r
    rw [go_snd ls r]
theorem go_rng {ls : List Int} (G : Rch.Good ls) : ∀ (r : List Int) (g : Int), InR ls r → ∀ p ∈ go ls g r, g ≤ p.1 ∧ p.1 < g + rsum ls r ∧ 0 ≤ p.2 ∧ p.2 < (ls.length : Int)
  | [], _, _, p, hp => absurd hp (by simp [go])
  | k :: r, g, h, p, hp => by
    have hk := h k List.mem_cons_self
    have l1 := (len_pos G hk.1 hk.2).1
    have hr : InR ls r := fun x hx => h x (List.mem_cons_of_mem _ hx)
    have n0 := rsum_len G hr
    rw [rsum_cons]
    rcases List.mem_cons.mp hp with e | hp
    · rw [e]
      show g ≤ g ∧ g < _ ∧ 0 ≤ k ∧ k < _
      omega
    · have := go_rng G r _ hr p hp
      omega
theorem go_up {ls : List Int} (G : Rch.Good ls) : ∀ (r : List Int) (g : Int), InR ls r → (go ls g r).Pairwise fun p q => p.1 < q.1
  | [], _, _ => .nil
  | k :: r, g, h => by
    have hk := h k List.mem_cons_self
    have l1 := (len_pos G hk.1 hk.2).1
    have hr : InR ls r := fun x hx => h x (List.mem_cons_of_mem _ hx)
    refine List.pairwise_cons.mpr ⟨fun q hq => ?_, go_up G r _ hr⟩
    have := go_rng G r _ hr q hq
    show g < q.1
    omega
/-- loop, gone, left -/
def ent (w : Int) (p : Int × Int) : List Int := [p.2, p.1, w - p.1]
def ents (ls : List Int) (w : Int) (r : List Int) : List (List Int) := (go ls 0 r).map (ent w)
def all (ls : List Int) (rs : List (List Int)) : Nat → List (List Int)
  | 0 => []
  | i + 1 => all ls rs i ++ ents ls ((i : Int) + 1) (rs.getD i [])
theorem ents_len (ls : List Int) (w : Int) (r : List Int) : (ents ls w r).length = r.length := by
  unfold ents
  rw [List.length_map, go_len]
theorem getD_row {rs : List (List Int)} {i : Nat} {r : List Int} (h : rs[i]? = some r) : rs.getD i [] = r := by
  rw [List.getD_eq_getElem?_getD, h]
  rfl
theorem all_wait {ls : List Int} {rs : List (List Int)} : ∀ (i : Nat) (e : List Int), e ∈ all ls rs i → ∃ k g w : Int, e = [k, g, w - g] ∧ 1 ≤ w ∧ w ≤ i
  | 0, e, h => absurd h (by simp [all])
  | i + 1, e, h => by
    rcases List.mem_append.mp h with h | h
    · obtain ⟨k, g, w, e1, h1, h2⟩ := all_wait i e h
      exact ⟨k, g, w, e1, h1, by omega⟩
    · obtain ⟨p, _, rfl⟩ := List.mem_map.mp h
      exact ⟨p.2, p.1, (i : Int) + 1, rfl, by omega, by omega⟩
/-- each new one is new -/
theorem new_one {ls : List Int} {rs : List (List Int)} {r : List Int} (G : Rch.Good ls) (hr : InR ls r) {i j : Nat} {p : Int × Int} (hj : (go ls 0 r)[j]? = some p) : ent ((i : Int) + 1) p ∉ all ls rs i ++ ((go ls 0 r).take j).map (ent ((i : Int) + 1)) := by
  intro h
  rcases List.mem_append.mp h with h | h
  · obtain ⟨k, g, w, e, h1, h2⟩ := all_wait i _ h
    unfold ent at e
    have e1 : p.1 = g := by
      have := congrArg (fun z : List Int => z.getD 1 0) e
      exact this
    have e2 : (i : Int) + 1 - p.1 = w - g := by
      have := congrArg (fun z : List Int => z.getD 2 0) e
      exact this
    omega
  · obtain ⟨q, hq, e⟩ := List.mem_map.mp h
    have e1 : q.1 = p.1 := by
      have := congrArg (fun z : List Int => z.getD 1 0) e
      exact this
    obtain ⟨m, hm⟩ := List.mem_iff_getElem?.mp hq
    rw [List.getElem?_take] at hm
    split at hm
    · next hlt =>
      have pw := List.pairwise_iff_getElem.mp (go_up G r 0 hr)
      obtain ⟨hm', em⟩ := List.getElem?_eq_some_iff.mp hm
      obtain ⟨hj', ej⟩ := List.getElem?_eq_some_iff.mp hj
      have := pw m j hm' hj' hlt
      rw [em, ej] at this
      omega
    · cases hm
theorem ents_bd {ls : List Int} {r : List Int} {w : Int} (G : Rch.Good ls) (hr : InR ls r) (hw : rsum ls r = w) (h60 : w ≤ 60) : ∀ e ∈ ents ls w r, e.length = 3 ∧ TS.Bd 1000 e := by
  intro e he
  obtain ⟨p, hp, rfl⟩ := List.mem_map.mp he
  have h := go_rng G r 0 hr p hp
  have g1 := G.2.1
  refine ⟨rfl, fun m hm => ?_⟩
  unfold ent at hm
  simp only [List.mem_cons, List.not_mem_nil, or_false] at hm
  rcases hm with e | e | e <;> subst e <;> omega
theorem all_bd {ls : List Int} {rs : List (List Int)} (R : Right ls rs) : ∀ i, i ≤ rs.length → ∀ e ∈ all ls rs i, e.length = 3 ∧ TS.Bd 1000 e
  | 0, _, e, he => absurd he (by simp [all])
  | i + 1, hi, e, he => by
    rcases List.mem_append.mp he with he | he
    · exact all_bd R i (by omega) e he
    · have hr : rs[i]? = some rs[i] := List.getElem?_eq_getElem (by omega)
      rw [getD_row hr] at he
      obtain ⟨a, b, c⟩ := R.2.2.2 i _ hr
      have := R.2.2.1
      exact ents_bd R.1 a c (by omega) e he
theorem all_len {ls : List Int} {rs : List (List Int)} (R : Right ls rs) : ∀ i, i ≤ rs.length → (all ls rs i).length ≤ 60 * i
  | 0, _ => Nat.le_refl _
  | i + 1, hi => by
    have ih := all_len R i (by omega)
    have hr : rs[i]? = some rs[i] := List.getElem?_eq_getElem (by omega)
    obtain ⟨a, b, c⟩ := R.2.2.2 i _ hr
    show (all ls rs i ++ ents ls ((i : Int) + 1) (rs.getD i [])).length ≤ _
    rw [List.length_append, ents_len, getD_row hr]
    omega
/-- the entries of one wait, when gone ahead -/
def ofWait (w : Int) (e : List Int) : Bool := (e.getD 1 0 + e.getD 2 0) == w
def swap (e : List Int) : List Int := [e.getD 1 0, e.getD 0 0]
def sel (w : Int) (es : List (List Int)) : List (List Int) := (es.filter (ofWait w)).map swap
theorem sel_append (w : Int) (a b : List (List Int)) : sel w (a ++ b) = sel w a ++ sel w b := by
  unfold sel
  rw [List.filter_append, List.map_append]
def gl (ls r : List Int) : List (List Int) := (go ls 0 r).map fun p => [p.1, p.2]
theorem sel_yes (ls : List Int) (w : Int) (r : List Int) : sel w (ents ls w r) = gl ls r := by
  unfold sel ents gl
  rw [List.filter_eq_self.mpr, List.map_map]
  · rfl
  · intro e he
    obtain ⟨p, _, rfl⟩ := List.mem_map.mp he
    show ((p.1 + (w - p.1)) == w) = true
    rw [beq_iff_eq]
    omega
theorem sel_no {ls : List Int} {w v : Int} (r : List Int) (h : v ≠ w) : sel w (ents ls v r) = [] := by
  unfold sel ents
  rw [List.filter_eq_nil_iff.mpr, List.map_nil]
  intro e he
  obtain ⟨p, _, rfl⟩ := List.mem_map.mp he
  show ¬ ((p.1 + (v - p.1)) == w) = true
  rw [beq_iff_eq]
  omega
theorem sel_all {ls : List Int} {rs : List (List Int)} (m : Nat) : ∀ i, sel ((m : Int) + 1) (all ls rs i) = if m < i then gl ls (rs.getD m []) else []
  | 0 => by
    rw [if_neg (by omega)]
    rfl
  | i + 1 => by
    show sel _ (all ls rs i ++ ents ls ((i : Int) + 1) (rs.getD i [])) = _
    rw [sel_append, sel_all m i]
    by_cases h : m < i
    · rw [if_pos h, if_pos (by omega), sel_no _ (by omega), List.append_nil]
    · rw [if_neg h, List.nil_append]
      by_cases h2 : m = i
      · subst h2
        rw [if_pos (by omega), sel_yes]
      · rw [if_neg (by omega), sel_no _ (by omega)]
theorem gl_bd {ls : List Int} {r : List Int} (G : Rch.Good ls) (hr : InR ls r) (h60 : rsum ls r ≤ 60) : ∀ e ∈ gl ls r, e.length = 2 ∧ TS.Bd 1000 e := by
  intro e he
  obtain ⟨p, hp, rfl⟩ := List.mem_map.mp he
  have h := go_rng G r 0 hr p hp
  have g1 := G.2.1
  refine ⟨rfl, fun m hm => ?_⟩
  simp only [List.mem_cons, List.not_mem_nil, or_false] at hm
  rcases hm with e | e <;> subst e <;> omega
theorem gl_sorted {ls : List Int} {r : List Int} (G : Rch.Good ls) (hr : InR ls r) (h60 : rsum ls r ≤ 60) : (gl ls r).Pairwise fun x y => TS.code 1000 x ≤ TS.code 1000 y := by
  unfold gl
  rw [List.pairwise_map]
  refine (List.pairwise_iff_getElem.mpr fun i j hi hj hij => ?_)
  have pw := List.pairwise_iff_getElem.mp (go_up G r 0 hr) i j hi hj hij
  have b1 := go_rng G r 0 hr _ (List.getElem_mem hi)
  have b2 := go_rng G r 0 hr _ (List.getElem_mem hj)
  have g1 := G.2.1
  show (go ls 0 r)[i].1 * 1000 ^ 1 + ((go ls 0 r)[i].2 * 1000 ^ 0 + 0) ≤ (go ls 0 r)[j].1 * 1000 ^ 1 + ((go ls 0 r)[j].2 * 1000 ^ 0 + 0)
  omega
theorem sel_perm {w : Int} {a b : List (List Int)} (p : a.Perm b) : (sel w a).Perm (sel w b) := (p.filter _).map _
theorem gl_snd (ls r : List Int) : (gl ls r).map (fun e => e.getD 1 0) = r := by
  unfold gl
  rw [List.map_map]
  exact go_snd ls r 0
end Tb

/-! ## sum(t), t a tuple of ints -/
namespace My
open PySem PySem.Spec PyProof.Rows L2
section
variable {prog : Program} {w : World} {A : Around} {E : Value → Shared → Prop} {s : Shared} {l : Addr} {xs : Array (Int × Tok)}
theorem sum_tupG {Q : Value → Shared → Prop} (hh : A.handled = none) (hl : s.heap.IsTuple l (intItems xs))
    (h : ∀ h' tk t', (∀ b o, s.heap.get? b = some o → h'.get? b = some o) → Q (.int (preSum (numAt xs) xs.size) t') { s with heap := h', toks := tk }) :
    wpAny (model prog w) A (call (.builtin "sum") [.ref l]) Q E s := by
  have hll : l < s.heap.objs.size := by obtain ⟨_, q, _⟩ := hl; exact Heap.lt_size q
  refine call_sum_walkG (wpAny_pyIter_tuple hl ?_)
  refine ⟨_, _, _, _, _, _, numAt xs, rfl, Walks.tuple (A := A.in1) hh s.heap.objs.size l (Nat.ne_of_lt hll) (intItems xs), ⟨⟨_, Heap.get?_push_size _ rfl, rfl, rfl⟩, hl.push _⟩, fun b hb => ?_, (fun _ _ => intItems_at), fun h' tk t' hk => ?_⟩
  · show b < (s.heap.push _).objs.size
    rw [Heap.size_push]
    rcases List.mem_cons.mp hb with rfl | hb
    · exact Nat.lt_succ_self _
    · rw [List.mem_singleton.mp hb]
      exact Nat.lt_succ_of_lt hll
  · have := h h' tk t' fun b o e => hk b o (fun hm => by
      rw [List.mem_singleton.mp hm] at e
      exact absurd (Heap.lt_size e) (Nat.lt_irrefl _)) (Heap.get?_push_of_some _ e)
    simpa [intItems] using this
end
def rSumT (K : PySem.W.Frag) : List V → Hp → VK → Prop := fun vs H Q => ∃ (a : Addr) (ns : List Int), vs = [V.ref a] ∧ SqT K H a (ns.map V.int) ∧ Q (.int ns.sum) H
theorem cr_sumT {X : Cx} (hc : X.calm = true) : CallR X (.builtin "sum") (rSumT X.K) := by
  intro pins s σ H vs us Q I r h
  obtain ⟨a, ns, rfl, hs, q⟩ := h
  obtain ⟨its, rv, hl, _⟩ := I.tuple hs
  rw [Vals.ref1 r]
  have hi := rv.ints
  obtain ⟨xs, e⟩ := hi.allInts.items
  have hn : numsOf (intItems xs).toList = ns := by rw [← e]; exact hi.numsOf
  rw [nums_intItems] at hn
  have hl' : s.heap.IsTuple a (intItems xs) := by
    rw [← e]
    exact hl
  refine sum_tupG (I.ok.hd hc) hl' fun h' tk t' hk => ?_
  rw [preSum_eq, List.take_of_length_le (by simp), hn]
  exact ⟨.int _, H, I.kept hk, ⟨_, rfl⟩, q⟩
/-! ### t + u, both tracked, t not empty -/
def rCatP : R2 := fun x y H Q => ∃ a b xs ys, x = .ref a ∧ y = .ref b ∧ H a = some (.tup xs) ∧ H b = some (.tup ys) ∧ xs ≠ [] ∧ xs.length + ys.length ≤ sizeLine ∧ ∀ p H', Same H H' → H' p = some (.tup (xs ++ ys)) → Q (.ref p) H'
theorem op_catP {X : Cx} : OpR X (binaryOp .Add) rCatP := by
  intro pins s σ H x y v u Q I rx ry h
  obtain ⟨a, b, xs, ys, rfl, rfl, ha, hb, hne, hz, q⟩ := h
  refine op_catA pins s σ H _ _ v u Q I rx ry ⟨a, b, xs, ys, rfl, rfl, SqT.of ha, SqT.of hb, hz, fun e => absurd e hne, fun _ e => ?_, fun _ _ p np => ?_⟩
  · subst e
    refine q a H (fun _ _ h => h) ?_
    rw [List.append_nil]
    exact ha
  · exact q p _ (same_upd np) upd_same
/-! ### xs[i] read where it is changed -/
theorem pgetL {X : Cx} : PGet X (rIxL X.K) := by
  intro pins s σ H o i ov iv Q I r1 r2 h
  obtain ⟨p, xs, k, z, rfl, rfl, hq, he, q⟩ := h
  cases r1
  obtain ⟨t, rfl⟩ := r2
  obtain ⟨its, r, pl, hz⟩ := I.list hq
  obtain ⟨j, h1, h2, h3, h4, h5⟩ := atI_get he
  obtain ⟨w, ew, rw'⟩ := r.get h2
  have hl := r.length
  have hn := line63
  have fin : EP X pins σ Q w s := ⟨z, H, I, rw', q⟩
  by_cases h0 : 0 ≤ k
  · have hj : k.toNat = j := by
      rw [PySem.seqIndex_of h0 h5] at h1
      exact Option.some.inj h1
    exact wpAny_getItem_list pl.isList h0 (by omega) (by rw [hj]; simpa using ew) fin
  · have hj : (k + (its.toArray.size : Int)).toNat = j := by
      rw [PySem.seqIndex_neg (by omega) h4] at h1
      rw [List.size_toArray, ← hl]
      exact Option.some.inj h1
    exact wpAny_mono (wpAny_getItem_list_neg (Q := fun r s' => r = w ∧ EP X pins σ Q r s') pl.isList (by omega) (by rw [List.size_toArray] <;> omega) (by omega) (by rw [hj]; simpa using ew) ⟨rfl, fin⟩) (fun _ _ h => h.2) fun _ _ h => h
/-! ### zip of two lists, the second one not longer -/
theorem for_zipS {K : PySem.W.Frag} {a b : Addr} {xs ys : List V} {g : TG} {tb : TS} {D : Ends} {σ : L2.St} {H : Hp} (hl : ys.length ≤ xs.length) (Pv : Nat → L2.St → Hp → Prop) (h0 : Pv 0 σ H) (hq : ∀ i σ H, Pv i σ H → SqL K H a xs ∧ SqL K H b ys)
    (hs : ∀ (i : Nat) (x y : V) (T : Addr) (σ : L2.St) (H : Hp), xs[i]? = some x → ys[i]? = some y → Pv i σ H → H T = none → g (.ref T) σ (upd H T (.tup [x, y])) fun σ2 H2 => tb { D with nx := Pv (i + 1), ct := Pv (i + 1), bk := D.nx } σ2 H2) (hd : ∀ σ H, Pv ys.length σ H → D.nx σ H) :
    ∃ W : Nat → Nat → L2.St → Hp → Prop, (∃ m, W 0 m σ H) ∧ ∀ i m σ H, W i m σ H →
      ((Itz K a b).stop i H ∧ D.nx σ H) ∨ ((Itz K a b).go i H ∧ ∃ N : L2.St → Hp → Prop, (∀ σ' H', N σ' H' → ∃ m', m' < m ∧ W (i + 1) m' σ' H') ∧ ∀ v H', (Itz K a b).yld i H v H' → g v σ H' fun σ2 H2 => tb { D with nx := N, ct := N, bk := D.nx } σ2 H2) := by
  refine ⟨fun i m σ H => m = ys.length - i ∧ i ≤ ys.length ∧ Pv i σ H, ⟨ys.length, rfl, Nat.zero_le _, h0⟩, ?_⟩
  rintro i m σ H ⟨rfl, hi, p⟩
  obtain ⟨qx, qy⟩ := hq i σ H p
  by_cases h : i < ys.length
  · have hx : xs[i]? = some xs[i] := List.getElem?_eq_getElem (by omega)
    have hy : ys[i]? = some ys[i] := List.getElem?_eq_getElem h
    refine .inr ⟨⟨xs, ys, _, _, qx, qy, hx, hy⟩, Pv (i + 1), fun σ' H' n => ⟨ys.length - (i + 1), by omega, rfl, by omega, n⟩, ?_⟩
    rintro v H' ⟨T, x, y, rfl, nT, rfl, ex, ey⟩
    exact hs i x y T σ H (ex xs qx) (ey ys qy) p nT
  · have e : i = ys.length := by omega
    subst e
    exact .inl ⟨⟨xs, ys, qx, qy, .inr (Nat.le_refl _)⟩, hd σ H p⟩
/-! ### what stays while the tape moves -/
theorem Moved.sq {K : PySem.W.Frag} {t s : Addr} {H H' : Hp} {a : Addr} {xs : List V} (mv : Moved t H H') (tp : Tape H t s) (h : SqT K H a xs) : SqT K H' a xs := by
  obtain ⟨_, _, _, _, _, _, e2, _⟩ := tp
  rcases h with (h | ⟨o, h⟩) | h
  · exact .inl (.inl (mv _ _ (fun z => by rw [z, e2] at h; cases h) h))
  · exact .inl (.inr ⟨o, mv _ _ (fun z => by rw [z, e2] at h; cases h) h⟩)
  · exact .inr h
theorem Moved.tups {α : Type} {f : α → List V} {t s : Addr} {H H' : Hp} {ps : List Addr} {xs : List α} (mv : Moved t H H') (tp : Tape H t s) (h : Tups f H ps xs) : Tups f H' ps xs := h.keep fun b ys e => by
  obtain ⟨_, _, _, _, _, _, e2, _⟩ := tp
  exact mv _ _ (fun z => by rw [z, e2] at e; cases e) e
end My

/-! ### == and != by a def of one's own, against anything -/
namespace RE8
open PySem PySem.Spec PySem.W PyProof.Rows L2 Builtin
section
variable {prog : Program} {w : World} {A : Around} {E : Value → Shared → Prop} {s : Shared} {K : Frag} {x C L f : Addr} {h₀ : Heap} {m : Str → Option Value} {ox : Obj} {od : Option Obj} {b tb : Value}
theorem ifBoundB {M : Model} {name : Str} {id : String} {args : List Value} {Q : Option Value → Shared → Prop} (X : K.In s.heap) (I : InstAt s.heap x ox C od) (hs : findIn K (.ref C) name = some (some (.builtin id)))
    (hb : ∀ self, bindSpecial (.builtin id) self = pure (.builtin id, [self])) (h : wpAny M A (call (.builtin id) (.ref x :: args)) (fun v => Q (some v)) E s) : wpAny M A (callSpecialIfBound? (.ref x) name args) Q E s := by
  simp only [callSpecialIfBound?, bindSpecialIfBound?]
  refine wpAny_holding (wpAny_bind (wpAny_bind (wpAny_bind (I.type.here ((looks_findIn X hs).here ?_)))))
  simp only [hb]
  refine wpAny_bind (wpAny_askSetting (wpAny_ite ?_))
  have fin : wpAny M A (call (.builtin id) ([.ref x] ++ args) >>= fun v => pure (some v)) Q E s := wpAny_bind (wpAny_mono h (fun v s' h' => wpAny_pure h') fun _ _ h' => h')
  split
  · exact wpAny_bind (wpAny_pure (wpAny_pure fin))
  · exact wpAny_tryCatch (wpAny_bind (wpAny_pure (wpAny_pure fin)))
theorem ne_body (X : K.In s.heap) (I : InstAt s.heap x ox C od) (hu : A.units < cLine) (hs : findIn K (.ref C) "__eq__" = some (some (.ref f))) (hf : isFn K (.ref f) = true) {Q : Fin → Shared → Prop}
    (hcall : wpAny (model prog w) A (call (.ref f) [.ref x, b]) (fun v s' => ∃ r, v = .bool r ∧ Q (.done (.ret (.bool (!r)))) s') E s) : wpAny (model prog w) A (Builtin.«object.__ne__» ⟨[.ref x, b], []⟩) Q E s := by
  unfold Builtin.«object.__ne__»
  repeat (first
    | with_reducible refine wpAny_cRoomFor hu ?_
    | (refine wpAny_bind (m := callSpecialIfBound? (.ref x) (Str.ofString "__eq__") [b])
        (ifBound_K X I hs hf (wpAny_mono hcall (fun r s' hr => by
          obtain ⟨b, rfl, hq⟩ := hr
          repeat (first | exact hq | exact wpAny_pure hq | exact wpAny_truthy_bool hq | (refine wpAny_bind (m := truthy (.bool _)) (wpAny_truthy_bool ?_)) | wp_step)) fun _ _ e => e)))
    | wp_step)
theorem cmp_ne {Q : Value → Shared → Prop} (hu : A.units + 1 < cLine) (F : Fr h₀ L s.heap m) (X₀ : K.In h₀) (I : InstAt s.heap x ox C od) (hb : Looks (model prog w) s.heap (typeOf b) tb) (hn : notFirst K C tb = true)
    (hs : findIn K (.ref C) "__eq__" = some (some (.ref f))) (hne : findIn K (.ref C) "__ne__" = some (some (.builtin "object.__ne__"))) (hm : mroIn K C (.type "object") = some true) (hf : isFn K (.ref f) = true)
    (h : wpAny (model prog w) A.in1 (call (.ref f) [.ref x, b]) (fun v s' => ∃ r, v = .bool r ∧ Q (.bool (!r)) s') E s) : wpAny (model prog w) A (richCompare .NotEq (.ref x) b) Q E s := by
  have X := X₀.keeps F.keep
  have t2 : Looks (model prog w) s.heap (isInstance (.ref x) (.type "object")) true := I.type.andThen (looks_mroIn X hm)
  have one : wpAny (model prog w) A (tryCompare (.ref x) "__ne__" b) (fun r s' => ∃ v, r = some v ∧ Q v s') E s := by
    unfold tryCompare
    refine wpAny_bind (ifBoundB X I hne (fun self => PySem.F.cmp_object.ne.bind self) (wpAny_call (codeAny_call_builtin PySem.F.cmp_object.ne.plain PySem.F.cmpEntry_ne
      (check_slot PySem.F.cmpKind_ne PySem.F.cmpSplit_ne t2 (PySem.F.cmpArgs_ne _ _) (ne_body (A := A.in1) X I (by exact hu) hs hf (wpAny_mono h (fun v s' hv => ?_) fun _ _ e => e))))))
    obtain ⟨r, rfl, hq⟩ := hv
    exact ⟨r, rfl, wpAny_pure ⟨_, rfl, hq⟩⟩
  unfold richCompare
  simp only [oneThing_ref]
  refine wpAny_holding (wpAny_bind (wpAny_cRoomFor (Nat.lt_of_succ_lt hu) ?_))
  refine wpAny_bind (I.type.here (wpAny_bind (hb.here ?_)))
  split
  · rename_i q
    have e : subIn K tb (.ref C) = some false := by
      rcases Bool.or_eq_true_iff.mp hn with e | e
      · rw [beq_iff_eq.mp e] at q; simp at q
      · exact beq_iff_eq.mp e
    refine wpAny_bind ((looks_subIn X e).here ?_)
    simp only [Bool.false_eq_true, if_false]
    refine wpAny_bind (wpAny_mono one (fun r s' z => ?_) fun _ _ e => e)
    obtain ⟨v, rfl, hq⟩ := z
    exact wpAny_pure hq
  · refine wpAny_bind (wpAny_pure ?_)
    simp only [Bool.false_eq_true, if_false]
    refine wpAny_bind (wpAny_mono one (fun r s' z => ?_) fun _ _ e => e)
    obtain ⟨v, rfl, hq⟩ := z
    exact wpAny_pure hq
end
section
variable {X : Cx} {C f : Addr} {fd : FuncData} {ps : List Str} {sp : Sp} {n : Nat}
/-- a == y, a an instance whose class tells == by a def of its own, y anything -/
def rEqO (K : PySem.W.Frag) (C : Addr) (sp : Sp) : R2 := fun x y H Q => ∃ a dx fs t, x = V.ref a ∧ H a = some (.ins C dx fs) ∧ TyX K H y t ∧ PySem.W.notFirst K C t = true ∧ sp [.ref a, y] H (fun v H' => ∃ b, v = .bl b ∧ Q (.bl b) H') (fun _ _ _ => False)
def rNeO (K : PySem.W.Frag) (C : Addr) (sp : Sp) : R2 := fun x y H Q => ∃ a dx fs t, x = V.ref a ∧ H a = some (.ins C dx fs) ∧ TyX K H y t ∧ PySem.W.notFirst K C t = true ∧ sp [.ref a, y] H (fun v H' => ∃ b, v = .bl b ∧ Q (.bl (!b)) H') (fun _ _ _ => False)
theorem call_own {A : Around} {pins : List (Addr × Obj)} {s : Shared} {σ : L2.St} {H : Hp} {a : Addr} {y : V} {u : Value} {Q : VK} (F : FnOk X.prog X.w X.K X.mg X.base CX0 n f fd ps sp) (hb : Binds X.K fd ps []) (sb : Sub X n A) (I : Inv X pins σ H s) (ry : RelV y u)
    (hsp : sp [.ref a, y] H Q (fun _ _ _ => False)) : wpAny (model X.prog X.w) A (call (.ref f) [.ref a, u]) (EP X pins σ Q) X.xe s := by
  have e0 : Env0 X.prog X.w X.K X.mg X.base A X.stack s H := by
    have e := I.env0
    exact ⟨by rw [sb.fr]; exact e.frames, e.mod, e.bs, e.bsz, e.funs, e.frf, e.hok, e.bare⟩
  have hl := F.len _ _ _ _ hsp
  have r2 : Vals [V.ref a, y] [Value.ref a, u] := .cons rfl (.cons ry .nil)
  refine wpAny_call (codeAny_mono (F.run A X.stack s H ⟨[.ref a, u], []⟩ [.ref a, u] [.ref a, y] _ _ sb.room e0 (by
    have := hb s [.ref a, u] I.kIn (by simpa using hl)
    simpa using this) r2 hsp) fun r s' hq => ?_)
  cases r with
  | error e => exact pass0 pins σ H s e s' I hq
  | ok fl =>
    cases fl with
    | ret w =>
      obtain ⟨z, H', I', rz, ez⟩ := I.after hq
      exact ⟨z, H', I', rz, ez⟩
    | next => exact False.elim hq
    | brk => exact False.elim hq
    | cont => exact False.elim hq
theorem op_eqO (F : FnOk X.prog X.w X.K X.mg X.base CX0 n f fd ps sp) (hs : PySem.W.findIn X.K (.ref C) "__eq__" = some (some (.ref f))) (hf : PySem.W.isFn X.K (.ref f) = true) (hb : Binds X.K fd ps []) (hr : Room n X.A) : OpR X (compareOp .Eq) (rEqO X.K C sp) := by
  intro pins s σ H x y v u Q I rx ry h
  obtain ⟨a, dx, fs, t, rfl, ea, ty, nf, hsp⟩ := h
  cases rx
  obtain ⟨mA, J, _⟩ := ins_get I.hok ea
  obtain ⟨od, J, _⟩ := J.look
  obtain ⟨P, kx, hp, _⟩ := kit_of I ry ty
  obtain ⟨m, hF⟩ := I.fr
  show wpAny (model X.prog X.w) X.A (richCompare .Eq (.ref a) u) (EP X pins σ Q) X.xe s
  refine PySem.W.cmp_K (op := .Eq) (tb := t) hr.units0 hF I.ok.mod.kin J (kx.ty _ _ I.kIn hp) nf hs hf ?_
  refine wpAny_mono (call_own F hb ⟨hr, rfl⟩ I ry hsp) (fun r s' z => ?_) fun _ _ x => x
  obtain ⟨z, H', I', rz, b, rfl, q⟩ := z
  cases rz
  exact ⟨.bl b, H', I', rfl, q⟩
theorem op_neO (F : FnOk X.prog X.w X.K X.mg X.base CX0 n f fd ps sp) (hs : PySem.W.findIn X.K (.ref C) "__eq__" = some (some (.ref f))) (hne : PySem.W.findIn X.K (.ref C) "__ne__" = some (some (.builtin "object.__ne__"))) (hm : PySem.W.mroIn X.K C (.type "object") = some true) (hf : PySem.W.isFn X.K (.ref f) = true) (hb : Binds X.K fd ps []) (hr : Room (n + 1) X.A) : OpR X (compareOp .NotEq) (rNeO X.K C sp) := by
  intro pins s σ H x y v u Q I rx ry h
  obtain ⟨a, dx, fs, t, rfl, ea, ty, nf, hsp⟩ := h
  cases rx
  obtain ⟨mA, J, _⟩ := ins_get I.hok ea
  obtain ⟨od, J, _⟩ := J.look
  obtain ⟨P, kx, hp, _⟩ := kit_of I ry ty
  obtain ⟨m, hF⟩ := I.fr
  show wpAny (model X.prog X.w) X.A (richCompare .NotEq (.ref a) u) (EP X pins σ Q) X.xe s
  have sb : Sub X (n + 1) X.A := ⟨hr, rfl⟩
  refine cmp_ne (tb := t) (by have := sb.in1.room.units0; exact this) hF I.ok.mod.kin J (kx.ty _ _ I.kIn hp) nf hs hne hm hf ?_
  refine wpAny_mono (call_own F hb sb.in1 I ry hsp) (fun r s' z => ?_) fun _ _ x => x
  obtain ⟨z, H', I', rz, b, rfl, q⟩ := z
  cases rz
  exact ⟨b, rfl, .bl (!b), H', I', rfl, q⟩
end
/-- what is asked of a class whose things are looked at -/
structure InsC (K : PySem.W.Frag) (C : Addr) : Prop where
  ha : PySem.W.findIn K (.ref C) "__class__" = some (some (.builtin "object.__class__"))
  hn : PySem.W.specialIn K (.builtin "object.__class__") "__get__" = some (some (.builtin "getset_descriptor.__get__"))
  ht : PySem.W.takesIn K (.builtin "object.__class__") = some true
  hm : PySem.W.mroIn K C (.type "object") = some true
  ne : PySem.W.findIn K (.ref C) "__ne__" = some (some (.builtin "object.__ne__"))
  ic : PySem.W.isClsIn K C = true
  ty : PySem.W.typeIn K (.ref C) = some (.type "type")
theorem InsC.self {K : PySem.W.Frag} {C : Addr} (_ : InsC K C) : PySem.W.kitOne K (.ref C) (.ref C) = some true := by
  unfold PySem.W.kitOne
  rw [if_pos (by simp)]
theorem first_self (K : PySem.W.Frag) (C : Addr) : PySem.W.notFirst K C (.ref C) = true := by
  unfold PySem.W.notFirst
  simp
/-- the kinds of things that are no instance of an own class -/
def Plain (n : String) : Prop := ∃ l, PySem.fastBuiltinMro n = some l ∧ ∀ C : Addr, l.contains (Value.ref C) = false
theorem Plain.sub {n : String} (p : Plain n) (K : PySem.W.Frag) (C : Addr) : PySem.W.subIn K (.type n) (.ref C) = some false := by
  obtain ⟨l, e, h⟩ := p
  show (PySem.fastBuiltinMro n).map (·.contains (Value.ref C)) = some false
  rw [e]
  exact congrArg some (h C)
theorem Plain.first {n : String} (p : Plain n) (K : PySem.W.Frag) (C : Addr) : PySem.W.notFirst K C (.type n) = true := by
  unfold PySem.W.notFirst
  rw [p.sub K C]
  simp
theorem Plain.kit {n : String} (p : Plain n) {K : PySem.W.Frag} {C : Addr} (i : InsC K C) : PySem.W.kitOne K (.type n) (.ref C) = some false := by
  unfold PySem.W.kitOne
  rw [if_neg (by simp)]
  have h2' : (PySem.W.clsIn K C).isSome = true := i.ic
  show (if ((PySem.W.clsIn K C).isSome && PySem.W.typeIn K (.ref C) == some (.type "type")) = true then PySem.W.subIn K (.type n) (.ref C) else none) = some false
  rw [h2', i.ty, if_pos (by rfl)]
  exact p.sub K C
theorem plain_non : Plain "NoneType" := ⟨[.type "NoneType", .type "object"], by kernel_rfl, fun _ => by simp⟩
theorem plain_int : Plain "int" := ⟨[.type "int", .type "object"], by kernel_rfl, fun _ => by simp⟩
theorem plain_str : Plain "str" := ⟨[.type "str", .type "object"], by kernel_rfl, fun _ => by simp⟩
theorem plain_tup : Plain "tuple" := ⟨[.type "tuple", .type "object"], by kernel_rfl, fun _ => by simp⟩
theorem plain_lst : Plain "list" := ⟨[.type "list", .type "object"], by kernel_rfl, fun _ => by simp⟩
theorem InsC.tyOf {K : PySem.W.Frag} {C a dx : Addr} {fs : List (Str × V)} {H : Hp} (i : InsC K C) (cl : Cls K C) (e : H a = some (.ins C dx fs)) : TyX K H (.ref a) (.ref C) := .base (.ins e cl i.ha i.hn i.ht i.hm)
end RE8

/-! ### long comings: the line round by round -/
namespace Lg
open Ln
/-- so many letters come: the line, and how many are turned away -/
def add (b : Int) : Nat → Int × Int → Int × Int
  | 0, s => s
  | k + 1, s => if (add b k s).1 > b then ((add b k s).1, (add b k s).2 + 1) else ((add b k s).1 + 1, (add b k s).2)
/-- a tick: line, gone out, turned away -/
abbrev Tri := Int × Int × Int
def tk (b : Int) (c : Int) (s : Tri) : Tri := if (add b c.toNat (s.1, s.2.2)).1 > 0 then ((add b c.toNat (s.1, s.2.2)).1 - 1, s.2.1 + 1, (add b c.toNat (s.1, s.2.2)).2) else ((add b c.toNat (s.1, s.2.2)).1, s.2.1, (add b c.toNat (s.1, s.2.2)).2)
def rdN (b : Int) (cs : List Int) (s : Tri) : Nat → Tri
  | 0 => s
  | i + 1 => tk b (cs.getD i 0) (rdN b cs s i)
/-- a round from a line -/
def rd (b : Int) (cs : List Int) (l : Int) : Tri := rdN b cs (l, 0, 0) cs.length
/-! the program's own line from any line on -/
def preL (b l : Int) (cs : List Int) : Nat → List Let × Int
  | 0 => ([], l)
  | i + 1 => ((turns b (i : Int) (cs.getD i 0).toNat (preL b l cs i)).1, close (turns b (i : Int) (cs.getD i 0).toNat (preL b l cs i)).2)
def behindL (b l : Int) (cs : List Int) : Nat → List Int
  | 0 => []
  | i + 1 => behindL b l cs i ++ [(preL b l cs (i + 1)).2]
theorem preL_0 (b : Int) (cs : List Int) : ∀ i, preL b 0 cs i = pre b cs i
  | 0 => rfl
  | i + 1 => by
    unfold preL pre
    rw [preL_0 b cs i]
theorem behindL_0 (b : Int) (cs : List Int) : ∀ i, behindL b 0 cs i = behind b cs i
  | 0 => rfl
  | i + 1 => by
    unfold behindL behind
    rw [behindL_0 b cs i, preL_0]
theorem behindL_len (b l : Int) (cs : List Int) : ∀ i, (behindL b l cs i).length = i
  | 0 => rfl
  | i + 1 => by
    unfold behindL
    rw [List.length_append, behindL_len b l cs i]
    rfl
def away (L : List Let) : Int := ((L.countP fun x => x.2.2.isNone : Nat) : Int)
theorem away_snoc (L : List Let) (x : Let) : away (L ++ [x]) = away L + if x.2.2.isNone then 1 else 0 := by
  unfold away
  rw [List.countP_append, List.countP_cons, List.countP_nil]
  cases x.2.2.isNone
  · rw [if_neg Bool.false_ne_true, if_neg Bool.false_ne_true]
    omega
  · rw [if_pos rfl, if_pos rfl]
    omega
theorem turns_add (b τ : Int) (L : List Let) (l : Int) : ∀ k : Nat, add b k (l, away L) = ((turns b τ k (L, l)).2, away (turns b τ k (L, l)).1)
  | 0 => rfl
  | k + 1 => by
    have ih := turns_add b τ L l k
    unfold add turns step
    rw [ih]
    show (if (turns b τ k (L, l)).2 > b then _ else _) = _
    split
    · rw [away_snoc]
      rfl
    · rw [away_snoc]
      show _ = (_, away _ + 0)
      rw [Int.add_zero]
theorem rd_pre (b l : Int) (cs : List Int) : ∀ i : Nat, (rdN b cs (l, 0, 0) i).1 = (preL b l cs i).2 ∧ (rdN b cs (l, 0, 0) i).2.2 = away (preL b l cs i).1
  | 0 => ⟨rfl, rfl⟩
  | i + 1 => by
    obtain ⟨e1, e2⟩ := rd_pre b l cs i
    have t := turns_add b (i : Int) (preL b l cs i).1 (preL b l cs i).2 (cs.getD i 0).toNat
    unfold rdN tk preL close
    rw [e1, e2, t]
    show (if (turns b (i : Int) (cs.getD i 0).toNat (preL b l cs i)).2 > 0 then _ else _ : Tri).1 = _ ∧ (if (turns b (i : Int) (cs.getD i 0).toNat (preL b l cs i)).2 > 0 then _ else _ : Tri).2.2 = _
    split
    · exact ⟨rfl, rfl⟩
    · exact ⟨rfl, rfl⟩
/-! the line stays within the bound; nobody is lost on the way -/
theorem add_rng {b : Int} : ∀ (k : Nat) (s : Int × Int), 0 ≤ s.1 → s.1 ≤ b + 1 → 0 ≤ s.2 → 0 ≤ (add b k s).1 ∧ (add b k s).1 ≤ b + 1 ∧ 0 ≤ (add b k s).2 ∧ (add b k s).1 + (add b k s).2 = s.1 + s.2 + (k : Int)
  | 0, s, h0, h1, h2 => ⟨h0, h1, h2, by show s.1 + s.2 = s.1 + s.2 + ((0 : Nat) : Int); omega⟩
  | k + 1, s, h0, h1, h2 => by
    obtain ⟨a, b', c, d⟩ := add_rng (b := b) k s h0 h1 h2
    unfold add
    split
    · refine ⟨a, b', by show 0 ≤ _ + 1; omega, ?_⟩
      show (add b k s).1 + ((add b k s).2 + 1) = _
      omega
    · refine ⟨by show 0 ≤ _ + 1; omega, by show _ + 1 ≤ _; omega, c, ?_⟩
      show (add b k s).1 + 1 + (add b k s).2 = _
      omega
structure Ok (b came : Int) (s : Tri) : Prop where
  l0 : 0 ≤ s.1
  l1 : s.1 ≤ b
  o0 : 0 ≤ s.2.1
  a0 : 0 ≤ s.2.2
  sum : s.1 + s.2.1 + s.2.2 = came
theorem Ok.tk {b came c : Int} {s : Tri} (h : Ok b came s) (hc : 0 ≤ c) : Ok b (came + c) (tk b c s) := by
  obtain ⟨h1, h2, h3, h4, h5⟩ := h
  obtain ⟨a1, a2, a3, a4⟩ := add_rng (b := b) c.toNat (s.1, s.2.2) h1 (by show s.1 ≤ _; omega) h4
  unfold Lg.tk
  generalize add b c.toNat (s.1, s.2.2) = m at *
  have a4' : m.1 + m.2 = s.1 + s.2.2 + (c.toNat : Int) := a4
  split
  · exact ⟨by show 0 ≤ m.1 - 1; omega, by show m.1 - 1 ≤ b; omega, by show 0 ≤ s.2.1 + 1; omega, a3, by show (m.1 - 1) + (s.2.1 + 1) + m.2 = came + c; omega⟩
  · exact ⟨a1, by show m.1 ≤ b; omega, h3, a3, by show m.1 + s.2.1 + m.2 = came + c; omega⟩
def sumN (cs : List Int) (i : Nat) : Int := (cs.take i).sum
theorem sumN_succ {cs : List Int} {i : Nat} (h : i < cs.length) : sumN cs (i + 1) = sumN cs i + cs.getD i 0 := by
  unfold sumN
  rw [List.take_add_one, List.getElem?_eq_getElem h, List.sum_append, List.getD_eq_getElem?_getD, List.getElem?_eq_getElem h]
  simp
theorem Ok.rdN {b came : Int} {s : Tri} {cs : List Int} (h : Ok b came s) (hc : ∀ c ∈ cs, 0 ≤ c) : ∀ i, i ≤ cs.length → Ok b (came + sumN cs i) (rdN b cs s i)
  | 0, _ => by
    show Ok b (came + 0) s
    rw [Int.add_zero]
    exact h
  | i + 1, hi => by
    rw [sumN_succ (by omega), ← Int.add_assoc]
    refine (Ok.rdN h hc i (by omega)).tk ?_
    rw [List.getD_eq_getElem?_getD, List.getElem?_eq_getElem (by omega)]
    exact hc _ (List.getElem_mem _)
theorem rd_ok {b l : Int} {cs : List Int} (h0 : 0 ≤ l) (h1 : l ≤ b) (hc : ∀ c ∈ cs, 0 ≤ c) : Ok b (l + cs.sum) (rd b cs l) := by
  have o : Ok b l (l, 0, 0) := ⟨h0, h1, Int.le_refl _, Int.le_refl _, by show l + 0 + 0 = l; omega⟩
  have := o.rdN hc cs.length (Nat.le_refl _)
  unfold sumN at this
  rw [List.take_length] at this
  exact this
/-! many rounds -/
def it (b : Int) (cs : List Int) : Nat → Int → Tri
  | 0, l => (l, 0, 0)
  | n + 1, l => ((rd b cs (it b cs n l).1).1, (it b cs n l).2.1 + (rd b cs (it b cs n l).1).2.1, (it b cs n l).2.2 + (rd b cs (it b cs n l).1).2.2)
theorem it_ok {b l : Int} {cs : List Int} (h0 : 0 ≤ l) (h1 : l ≤ b) (hc : ∀ c ∈ cs, 0 ≤ c) : ∀ n : Nat, Ok b (l + (n : Int) * cs.sum) (it b cs n l)
  | 0 => ⟨h0, h1, Int.le_refl _, Int.le_refl _, by show l + 0 + 0 = _; simp⟩
  | n + 1 => by
    have i := it_ok h0 h1 hc n
    have r := rd_ok i.l0 i.l1 hc
    refine ⟨r.l0, r.l1, ?_, ?_, ?_⟩
    · have := i.o0
      have := r.o0
      show 0 ≤ _ + _
      omega
    · have := i.a0
      have := r.a0
      show 0 ≤ _ + _
      omega
    · have a := i.sum
      have c := r.sum
      have e : ((n + 1 : Nat) : Int) * cs.sum = (n : Int) * cs.sum + cs.sum := by
        rw [Int.natCast_add, Int.add_mul]
        simp
      rw [e]
      show (rd b cs (it b cs n l).1).1 + ((it b cs n l).2.1 + (rd b cs (it b cs n l).1).2.1) + ((it b cs n l).2.2 + (rd b cs (it b cs n l).1).2.2) = _
      generalize (n : Int) * cs.sum = m at *
      omega
theorem it_add (b : Int) (cs : List Int) (m : Nat) (l : Int) : ∀ n : Nat, it b cs (m + n) l = ((it b cs n (it b cs m l).1).1, (it b cs m l).2.1 + (it b cs n (it b cs m l).1).2.1, (it b cs m l).2.2 + (it b cs n (it b cs m l).1).2.2)
  | 0 => by
    show it b cs m l = ((it b cs m l).1, (it b cs m l).2.1 + 0, (it b cs m l).2.2 + 0)
    rw [Int.add_zero, Int.add_zero]
  | n + 1 => by
    have e := it_add b cs m l n
    show ((rd b cs (it b cs (m + n) l).1).1, (it b cs (m + n) l).2.1 + (rd b cs (it b cs (m + n) l).1).2.1, (it b cs (m + n) l).2.2 + (rd b cs (it b cs (m + n) l).1).2.2) = _
    rw [e]
    show (_, _, _) = ((rd b cs (it b cs n (it b cs m l).1).1).1, (it b cs m l).2.1 + ((it b cs n (it b cs m l).1).2.1 + (rd b cs (it b cs n (it b cs m l).1).1).2.1), (it b cs m l).2.2 + ((it b cs n (it b cs m l).1).2.2 + (rd b cs (it b cs n (it b cs m l).1).1).2.2))
    rw [← Int.add_assoc, ← Int.add_assoc]
/-- a round that leaves the line as it was is like all behind it -/
theorem it_fix {b : Int} {cs : List Int} {l : Int} (h : (rd b cs l).1 = l) : ∀ n : Nat, it b cs n l = (l, (n : Int) * (rd b cs l).2.1, (n : Int) * (rd b cs l).2.2)
  | 0 => by
    show (l, 0, 0) = _
    simp
  | n + 1 => by
    unfold it
    rw [it_fix h n]
    show ((rd b cs l).1, _ + (rd b cs l).2.1, _ + (rd b cs l).2.2) = _
    rw [h]
    have e : ∀ x : Int, (n : Int) * x + x = ((n + 1 : Nat) : Int) * x := fun x => by
      rw [Int.natCast_add, Int.add_mul]
      simp
    rw [e, e]
/-! long comings: line, came, gone out, turned away -/
abbrev Quad := Int × Int × Int × Int
def go1 (b : Int) (s : Quad) (x : List Int × Int) : Quad := ((it b x.1 x.2.toNat s.1).1, s.2.1 + x.2 * x.1.sum, s.2.2.1 + (it b x.1 x.2.toNat s.1).2.1, s.2.2.2 + (it b x.1 x.2.toNat s.1).2.2)
def tot (b : Int) (xs : List (List Int × Int)) : Quad := xs.foldl (go1 b) (0, 0, 0, 0)
def Right (k : Int) (xs : List (List Int × Int)) : Prop := xs.length ≤ 20 ∧ ∀ x ∈ xs, x.1.length ≤ 60 ∧ (∀ c ∈ x.1, 0 ≤ c ∧ c ≤ k) ∧ 0 ≤ x.2 ∧ x.2 ≤ 10 ^ 30
structure Qk (b : Int) (s : Quad) : Prop where
  l0 : 0 ≤ s.1
  l1 : s.1 ≤ b
  sum : s.2.1 = s.2.2.1 + s.2.2.2 + s.1
theorem Qk.go {b : Int} {s : Quad} {x : List Int × Int} (h : Qk b s) (hc : ∀ c ∈ x.1, 0 ≤ c) (hx : 0 ≤ x.2) : Qk b (go1 b s x) := by
  have i := it_ok h.l0 h.l1 hc x.2.toNat
  have a := i.sum
  rw [Int.toNat_of_nonneg hx] at a
  have c := h.sum
  refine ⟨i.l0, i.l1, ?_⟩
  show s.2.1 + x.2 * x.1.sum = s.2.2.1 + (it b x.1 x.2.toNat s.1).2.1 + (s.2.2.2 + (it b x.1 x.2.toNat s.1).2.2) + (it b x.1 x.2.toNat s.1).1
  generalize x.2 * x.1.sum = m at *
  omega
theorem fold_ok {b : Int} : ∀ (xs : List (List Int × Int)) (s : Quad), Qk b s → (∀ x ∈ xs, (∀ c ∈ x.1, 0 ≤ c) ∧ 0 ≤ x.2) → Qk b (xs.foldl (go1 b) s)
  | [], s, h, _ => h
  | x :: xs, s, h, hx => fold_ok xs _ (h.go (hx x (by simp)).1 (hx x (by simp)).2) fun y hy => hx y (by simp [hy])
theorem tot_ok {b k : Int} (hb : 0 ≤ b) {xs : List (List Int × Int)} (h : Right k xs) : Qk b (tot b xs) := fold_ok xs _ ⟨Int.le_refl _, hb, rfl⟩ fun x hx => ⟨fun c hc => ((h.2 x hx).2.1 c hc).1, (h.2 x hx).2.2.1⟩
/-- so many times and so many times more -/
theorem tot_part (b : Int) (cs : List Int) (m n : Int) (hm : 0 ≤ m) (hn : 0 ≤ n) (xs : List (List Int × Int)) : tot b ((cs, m) :: (cs, n) :: xs) = tot b ((cs, m + n) :: xs) := by
  have e : go1 b (go1 b (0, 0, 0, 0) (cs, m)) (cs, n) = go1 b (0, 0, 0, 0) (cs, m + n) := by
    unfold go1
    show ((it b cs n.toNat (it b cs m.toNat 0).1).1, 0 + m * cs.sum + n * cs.sum, 0 + (it b cs m.toNat 0).2.1 + (it b cs n.toNat (it b cs m.toNat 0).1).2.1, 0 + (it b cs m.toNat 0).2.2 + (it b cs n.toNat (it b cs m.toNat 0).1).2.2) =
      ((it b cs (m + n).toNat 0).1, 0 + (m + n) * cs.sum, 0 + (it b cs (m + n).toNat 0).2.1, 0 + (it b cs (m + n).toNat 0).2.2)
    rw [show (m + n).toNat = m.toNat + n.toNat by omega, it_add, Int.add_mul]
    show (_, _, _, _) = (_, _, _, _)
    rw [Int.add_assoc, Int.add_assoc, Int.add_assoc]
  show xs.foldl (go1 b) (go1 b (go1 b (0, 0, 0, 0) (cs, m)) (cs, n)) = xs.foldl (go1 b) (go1 b (0, 0, 0, 0) (cs, m + n))
  rw [e]
end Lg
namespace Lg
open Ln
theorem preL_len {b l : Int} {cs : List Int} (hc : ∀ c ∈ cs, c ≤ 4) : ∀ i, (preL b l cs i).1.length ≤ 4 * i
  | 0 => Nat.le_refl _
  | i + 1 => by
    have ih := preL_len (b := b) (l := l) hc i
    unfold preL
    rw [turns_len]
    have : cs.getD i 0 ≤ 4 := by
      rw [List.getD_eq_getElem?_getD]
      cases h : cs[i]? with
      | none => decide
      | some c => exact hc c (List.mem_of_getElem? h)
    omega
theorem preL_sum {b l : Int} {cs : List Int} (hc : ∀ c ∈ cs, 0 ≤ c) : ∀ i, i ≤ cs.length → (((preL b l cs i).1.length : Nat) : Int) = sumN cs i
  | 0, _ => rfl
  | i + 1, hi => by
    have ih := preL_sum (b := b) (l := l) hc i (by omega)
    have h0 : 0 ≤ cs.getD i 0 := by
      rw [List.getD_eq_getElem?_getD, List.getElem?_eq_getElem (by omega)]
      exact hc _ (List.getElem_mem _)
    rw [sumN_succ (by omega), ← ih]
    show (((turns b (i : Int) (cs.getD i 0).toNat (preL b l cs i)).1.length : Nat) : Int) = _
    rw [turns_len]
    omega
end Lg
namespace Lg
theorem sum_le : ∀ {cs : List Int}, (∀ c ∈ cs, 0 ≤ c ∧ c ≤ 4) → 0 ≤ cs.sum ∧ cs.sum ≤ 4 * (cs.length : Int)
  | [], _ => ⟨Int.le_refl _, Int.le_refl _⟩
  | c :: cs, h => by
    have ih := sum_le (cs := cs) fun x hx => h x (by simp [hx])
    have := h c (by simp)
    rw [List.sum_cons, List.length_cons]
    omega
end Lg

/-! ### the mathematics of walks -/
namespace Wk
open Ln (Let)
abbrev Spt := Int × Int
def Spot (k b : Int) (s : Spt) : Prop := 0 ≤ s.1 ∧ s.1 ≤ b ∧ 1 ≤ s.2 ∧ s.2 ≤ k ∧ s.2 - 1 ≤ s.1
def Nx (k b : Int) (s o : Spt) : Prop := Spot k b o ∧ (o = (s.1 + 1, s.2 + 1) ∨ (o.2 = 1 ∧ o.1 ≤ s.1))
/-- each one is next to the one ahead of it -/
def Chain (k b : Int) : Spt → List Spt → Prop
  | _, [] => True
  | s, o :: r => Nx k b s o ∧ Chain k b o r
def Walk (k b : Int) : List Spt → Prop
  | [] => False
  | s :: r => Spot k b s ∧ s.2 = 1 ∧ Chain k b s r
def incL : List Int → List Int
  | [] => []
  | [x] => [x + 1]
  | x :: y :: r => x :: incL (y :: r)
def grow (cs : List Int) (s o : Spt) : List Int := if o.2 > 1 then incL cs else cs ++ (List.replicate (s.1 - o.1).toNat 0 ++ [1])
def cfGo : List Int → Spt → List Spt → List Int
  | cs, _, [] => cs
  | cs, s, o :: r => cfGo (grow cs s o) o r
def start (w : Int) : List Int := List.replicate w.toNat 2 ++ [1]
def cf : List Spt → List Int
  | [] => []
  | s :: r => cfGo (start s.1) s r
theorem incL_snoc (cs : List Int) (x : Int) : incL (cs ++ [x]) = cs ++ [x + 1] := by
  induction cs with
  | nil => rfl
  | cons a cs ih =>
    cases cs with
    | nil => rfl
    | cons b cs => exact congrArg (a :: ·) ih
theorem pre_congr {b : Int} {cs ds : List Int} : ∀ i : Nat, (∀ j, j < i → cs.getD j 0 = ds.getD j 0) → Ln.pre b cs i = Ln.pre b ds i
  | 0, _ => rfl
  | i + 1, h => by
    have ih := pre_congr (b := b) i fun j hj => h j (by omega)
    unfold Ln.pre
    rw [ih, h i (by omega)]
theorem getD_left {cs : List Int} (ds : List Int) {j : Nat} (h : j < cs.length) : (cs ++ ds).getD j 0 = cs.getD j 0 := by
  rw [List.getD_eq_getElem?_getD, List.getD_eq_getElem?_getD, List.getElem?_append_left h]
/-- the line while the last tick's letters have come -/
structure Now (b : Int) (cs : List Int) (row : List Spt) (w : Int) (n : Nat) (s : Spt) : Prop where
  ex : ∃ (ds : List Int) (L0 : List Let), cs = ds ++ [(n : Int)] ∧ (Ln.turns b (ds.length : Int) n (Ln.pre b ds ds.length)).1 = L0 ∧ (Ln.turns b (ds.length : Int) n (Ln.pre b ds ds.length)).2 = s.1 + 1 ∧
    L0.length = 2 * w.toNat + row.length ∧ (L0.drop (2 * w.toNat)).map (fun l => (l.2.2, l.2.1)) = row.map (fun p => (some p.1, p.2)) ∧ ∀ l ∈ L0, l.2.2 ≠ none
  nn : (n : Int) = s.2
theorem drop_snoc {α : Type} {l : List α} {n : Nat} (x : α) (h : n ≤ l.length) : (l ++ [x]).drop n = l.drop n ++ [x] := by
  rw [List.drop_append_of_le_length h]
theorem twos {b : Int} : ∀ (m : Nat) (ds : List Int), (m : Int) ≤ b → ds = List.replicate m 2 → (Ln.pre b ds m).2 = (m : Int) ∧ (Ln.pre b ds m).1.length = 2 * m ∧ ∀ l ∈ (Ln.pre b ds m).1, l.2.2 ≠ none
  | 0, ds, _, _ => ⟨rfl, rfl, fun l h => by simp [Ln.pre] at h⟩
  | m + 1, ds, hm, hd => by
    have hg : ds.getD m 0 = 2 := by
      rw [hd, List.getD_eq_getElem?_getD, List.getElem?_replicate, if_pos (by omega)]
      rfl
    have ec : Ln.pre b ds m = Ln.pre b (List.replicate m 2) m := pre_congr m fun j hj => by
      rw [hd, List.getD_eq_getElem?_getD, List.getD_eq_getElem?_getD, List.getElem?_replicate, List.getElem?_replicate, if_pos (by omega), if_pos (by omega)]
    obtain ⟨a, c, d⟩ := twos (b := b) m (List.replicate m 2) (by omega) rfl
    rw [← ec] at a c d
    have e2 : (2 : Int).toNat = 2 := rfl
    have t : Ln.turns b (m : Int) 2 (Ln.pre b ds m) = ((Ln.pre b ds m).1 ++ [((m : Int), 1 + ((0 : Nat) : Int), some (m : Int))] ++ [((m : Int), 1 + ((1 : Nat) : Int), some ((m : Int) + 1))], (m : Int) + 1 + 1) := by
      show Ln.step b (m : Int) (1 + ((1 : Nat) : Int)) (Ln.step b (m : Int) (1 + ((0 : Nat) : Int)) (Ln.pre b ds m)) = _
      have s1 : Ln.step b (m : Int) (1 + ((0 : Nat) : Int)) (Ln.pre b ds m) = ((Ln.pre b ds m).1 ++ [((m : Int), 1 + ((0 : Nat) : Int), some (m : Int))], (m : Int) + 1) := by
        unfold Ln.step
        rw [if_neg (by omega), a]
      rw [s1]
      unfold Ln.step
      rw [if_neg (by show ¬ (m : Int) + 1 > b; omega)]
    have e : Ln.pre b ds (m + 1) = ((Ln.turns b (m : Int) (ds.getD m 0).toNat (Ln.pre b ds m)).1, Ln.close (Ln.turns b (m : Int) (ds.getD m 0).toNat (Ln.pre b ds m)).2) := rfl
    rw [hg, e2, t] at e
    rw [e]
    refine ⟨?_, ?_, fun l hl => ?_⟩
    · show Ln.close ((m : Int) + 1 + 1) = _
      unfold Ln.close
      rw [if_pos (by omega)]
      omega
    · show ((Ln.pre b ds m).1 ++ [_] ++ [_]).length = _
      rw [List.length_append, List.length_append, c]
      show 2 * m + 1 + 1 = _
      omega
    · rcases List.mem_append.mp hl with hl | hl
      · rcases List.mem_append.mp hl with hl | hl
        · exact d l hl
        · rw [List.mem_singleton.mp hl]
          exact fun z => by cases z
      · rw [List.mem_singleton.mp hl]
        exact fun z => by cases z
theorem now_start {b k : Int} {s : Spt} (hs : Spot k b s) (h1 : s.2 = 1) : Now b (start s.1) [s] s.1 1 s := by
  have hw : ((s.1.toNat : Nat) : Int) = s.1 := by have := hs.1; omega
  have hl : (List.replicate s.1.toNat (2 : Int)).length = s.1.toNat := List.length_replicate
  obtain ⟨a, c, d⟩ := twos (b := b) s.1.toNat (List.replicate s.1.toNat 2) (by rw [hw]; exact hs.2.1) rfl
  have t : Ln.turns b (s.1.toNat : Int) 1 (Ln.pre b (List.replicate s.1.toNat 2) s.1.toNat) = ((Ln.pre b (List.replicate s.1.toNat 2) s.1.toNat).1 ++ [((s.1.toNat : Int), 1 + ((0 : Nat) : Int), some s.1)], s.1 + 1) := by
    show Ln.step b _ (1 + ((0 : Nat) : Int)) (Ln.pre b (List.replicate s.1.toNat 2) s.1.toNat) = _
    unfold Ln.step
    rw [if_neg (by rw [a, hw]; have := hs.2.1; omega), a, hw]
  refine ⟨⟨List.replicate s.1.toNat 2, _, rfl, rfl, ?_, ?_, ?_, ?_⟩, by rw [h1]; rfl⟩
  all_goals rw [hl, t]
  · rw [List.length_append, c]
    rfl
  · show (((Ln.pre b (List.replicate s.1.toNat 2) s.1.toNat).1 ++ [_]).drop (2 * s.1.toNat)).map _ = _
    rw [drop_snoc _ (by rw [c]; exact Nat.le_refl _), List.drop_of_length_le (by rw [c]; exact Nat.le_refl _)]
    show [(some s.1, 1 + ((0 : Nat) : Int))] = [(some s.1, s.2)]
    rw [h1]
    rfl
  · intro l hl'
    rcases List.mem_append.mp hl' with hl' | hl'
    · exact d l hl'
    · rw [List.mem_singleton.mp hl']
      exact fun z => by cases z
/-- ticks at which nobody comes -/
theorem zeros {b : Int} (ds : List Int) : ∀ (m : Nat) (es : List Int), es = ds ++ List.replicate m 0 → (m : Int) ≤ (Ln.pre b ds ds.length).2 → (Ln.pre b es (ds.length + m)).1 = (Ln.pre b ds ds.length).1 ∧ (Ln.pre b es (ds.length + m)).2 = (Ln.pre b ds ds.length).2 - m
  | 0, es, he, _ => by
    have : Ln.pre b es ds.length = Ln.pre b ds ds.length := pre_congr _ fun j hj => by
      rw [he]
      exact getD_left _ hj
    rw [Nat.add_zero, this]
    exact ⟨rfl, by omega⟩
  | m + 1, es, he, hm => by
    obtain ⟨x, y⟩ := zeros (b := b) ds m (ds ++ List.replicate m 0) rfl (by omega)
    have ec : Ln.pre b es (ds.length + m) = Ln.pre b (ds ++ List.replicate m 0) (ds.length + m) := pre_congr _ fun j hj => by
      have e1 : es = (ds ++ List.replicate m 0) ++ [0] := by
        rw [he, List.append_assoc, List.replicate_succ']
      rw [e1]
      exact getD_left _ (by rw [List.length_append, List.length_replicate]; exact hj)
    have hg : es.getD (ds.length + m) 0 = 0 := by
      rw [he, List.getD_eq_getElem?_getD, List.getElem?_append_right (by omega), Nat.add_sub_cancel_left, List.getElem?_replicate, if_pos (by omega)]
      rfl
    have e : Ln.pre b es (ds.length + (m + 1)) = ((Ln.turns b ((ds.length + m : Nat) : Int) (es.getD (ds.length + m) 0).toNat (Ln.pre b es (ds.length + m))).1, Ln.close (Ln.turns b ((ds.length + m : Nat) : Int) (es.getD (ds.length + m) 0).toNat (Ln.pre b es (ds.length + m))).2) := rfl
    rw [hg] at e
    have e' : Ln.pre b es (ds.length + (m + 1)) = ((Ln.pre b es (ds.length + m)).1, Ln.close (Ln.pre b es (ds.length + m)).2) := e
    rw [e', ec]
    refine ⟨x, ?_⟩
    show Ln.close (Ln.pre b (ds ++ List.replicate m 0) (ds.length + m)).2 = _
    rw [y]
    unfold Ln.close
    rw [if_pos (by omega)]
    omega
theorem now_grow {b k : Int} {cs : List Int} {row : List Spt} {w : Int} {n : Nat} {s o : Spt} (h : Now b cs row w n s) (hs : Spot k b s) (hn : Nx k b s o) : ∃ n', Now b (grow cs s o) (row ++ [o]) w n' o := by
  obtain ⟨⟨ds, L0, hcs, hL, hl, hlen, hmap, hnone⟩, nn⟩ := h
  have hs0 := hs.1
  have ho := hn.1
  have hdrop : 2 * w.toNat ≤ L0.length := by omega
  unfold grow
  rcases hn.2 with e | ⟨e1, e2⟩
  · have o1 : o.1 = s.1 + 1 := by rw [e]
    have o2 : o.2 = s.2 + 1 := by rw [e]
    have ob := ho.2.1
    rw [if_pos (by have := hs.2.2.1; omega)]
    have t : Ln.turns b (ds.length : Int) (n + 1) (Ln.pre b ds ds.length) = (L0 ++ [((ds.length : Int), 1 + (n : Int), some (s.1 + 1))], s.1 + 1 + 1) := by
      show Ln.step b _ (1 + (n : Int)) (Ln.turns b (ds.length : Int) n (Ln.pre b ds ds.length)) = _
      unfold Ln.step
      rw [if_neg (by omega), hL, hl]
    refine ⟨n + 1, ⟨ds, _, ?_, rfl, ?_, ?_, ?_, ?_⟩, by omega⟩
    · rw [hcs, incL_snoc]
      rfl
    all_goals rw [t]
    · show s.1 + 1 + 1 = o.1 + 1
      omega
    · rw [List.length_append, List.length_append, hlen]
      rfl
    · rw [drop_snoc _ hdrop, List.map_append, hmap, List.map_append]
      show _ ++ [(some (s.1 + 1), 1 + (n : Int))] = _ ++ [(some o.1, o.2)]
      rw [o1, o2, nn, Int.add_comm 1 s.2]
    · intro l h
      rcases List.mem_append.mp h with h | h
      · exact hnone l h
      · rw [List.mem_singleton.mp h]
        exact fun z => by cases z
  · have ob := ho.2.1
    have oz := ho.1
    rw [if_neg (by omega)]
    obtain ⟨m, hm⟩ : ∃ m : Nat, (s.1 - o.1).toNat = m := ⟨_, rfl⟩
    have hm' : (m : Int) = s.1 - o.1 := by omega
    rw [hm]
    -- behind the last tick
    have hcl : cs.length = ds.length + 1 := by rw [hcs, List.length_append]; rfl
    have hg : cs.getD ds.length 0 = (n : Int) := by
      rw [hcs, List.getD_eq_getElem?_getD, List.getElem?_append_right (Nat.le_refl _), Nat.sub_self]
      rfl
    have ec : Ln.pre b cs ds.length = Ln.pre b ds ds.length := pre_congr _ fun j hj => by
      rw [hcs]
      exact getD_left _ hj
    have ep : Ln.pre b cs cs.length = (L0, s.1) := by
      rw [hcl]
      show ((Ln.turns b (ds.length : Int) (cs.getD ds.length 0).toNat (Ln.pre b cs ds.length)).1, Ln.close (Ln.turns b (ds.length : Int) (cs.getD ds.length 0).toNat (Ln.pre b cs ds.length)).2) = _
      rw [hg, ec, Int.toNat_natCast, hL, hl]
      unfold Ln.close
      rw [if_pos (by omega), show s.1 + 1 - 1 = s.1 by omega]
    obtain ⟨z1, z2⟩ := zeros (b := b) cs m (cs ++ List.replicate m 0) rfl (by rw [ep]; show (m : Int) ≤ s.1; omega)
    rw [ep] at z1 z2
    have el : (cs ++ List.replicate m 0).length = cs.length + m := by rw [List.length_append, List.length_replicate]
    have t : Ln.turns b ((cs ++ List.replicate m (0 : Int)).length : Int) 1 (Ln.pre b (cs ++ List.replicate m 0) (cs ++ List.replicate m (0 : Int)).length) = (L0 ++ [(((cs ++ List.replicate m (0 : Int)).length : Int), 1 + ((0 : Nat) : Int), some o.1)], o.1 + 1) := by
      show Ln.step b _ (1 + ((0 : Nat) : Int)) (Ln.pre b (cs ++ List.replicate m 0) (cs ++ List.replicate m (0 : Int)).length) = _
      rw [el]
      unfold Ln.step
      have zz : (Ln.pre b (cs ++ List.replicate m 0) (cs.length + m)).2 = o.1 := by
        rw [z2]
        show s.1 - (m : Int) = o.1
        omega
      rw [if_neg (by rw [zz]; omega), zz, z1]
    refine ⟨1, ⟨cs ++ List.replicate m 0, _, by rw [List.append_assoc]; rfl, rfl, ?_, ?_, ?_, ?_⟩, by rw [e1]; rfl⟩
    all_goals rw [t]
    · have e9 : ∀ x : Let, (L0 ++ [x]).length = L0.length + 1 := fun x => List.length_append
      rw [e9, hlen, List.length_append]
      rfl
    · rw [drop_snoc _ hdrop, List.map_append, hmap, List.map_append]
      show _ ++ [(some o.1, 1 + ((0 : Nat) : Int))] = _ ++ [(some o.1, o.2)]
      rw [e1]
      rfl
    · intro l h
      rcases List.mem_append.mp h with h | h
      · exact hnone l h
      · rw [List.mem_singleton.mp h]
        exact fun z => by cases z
theorem now_all {b k : Int} : ∀ (r : List Spt) (cs : List Int) (row : List Spt) (w : Int) (n : Nat) (s : Spt), Now b cs row w n s → Spot k b s → Chain k b s r → ∃ n' s', Now b (cfGo cs s r) (row ++ r) w n' s'
  | [], cs, row, w, n, s, h, _, _ => by
    rw [List.append_nil]
    exact ⟨n, s, h⟩
  | o :: r, cs, row, w, n, s, h, hs, hc => by
    obtain ⟨n', h'⟩ := now_grow h hs hc.1
    have := now_all r _ _ w n' o h' hc.1.1 hc.2
    rw [List.append_assoc] at this
    exact this
theorem cf_is {b k : Int} {row : List Spt} (h : Walk k b row) : (Ln.letts b (cf row)).length = 2 * (row.headD (0, 0)).1.toNat + row.length ∧ ((Ln.letts b (cf row)).drop (2 * (row.headD (0, 0)).1.toNat)).map (fun l => (l.2.2, l.2.1)) = row.map (fun p => (some p.1, p.2)) ∧ ∀ l ∈ Ln.letts b (cf row), l.2.2 ≠ none := by
  cases row with
  | nil => exact False.elim h
  | cons s r =>
    obtain ⟨hs, h1, hc⟩ := h
    obtain ⟨n', s', ⟨⟨ds, L0, hcs, hL, hl, hlen, hmap, hnone⟩, nn⟩⟩ := now_all r _ _ _ 1 s (now_start hs h1) hs hc
    have hcl : (cf (s :: r)).length = ds.length + 1 := by
      show (cfGo (start s.1) s r).length = _
      rw [hcs, List.length_append]
      rfl
    have el : Ln.letts b (cf (s :: r)) = L0 := by
      unfold Ln.letts
      rw [hcl]
      show (Ln.turns b (ds.length : Int) ((cf (s :: r)).getD ds.length 0).toNat (Ln.pre b (cf (s :: r)) ds.length)).1 = L0
      have e0 : cf (s :: r) = ds ++ [(n' : Int)] := hcs
      have hg : (cf (s :: r)).getD ds.length 0 = (n' : Int) := by
        rw [e0, List.getD_eq_getElem?_getD, List.getElem?_append_right (Nat.le_refl _), Nat.sub_self]
        rfl
      have ec : Ln.pre b (cf (s :: r)) ds.length = Ln.pre b ds ds.length := pre_congr _ fun j hj => by
        rw [e0]
        exact getD_left _ hj
      rw [hg, ec, Int.toNat_natCast, hL]
    rw [el]
    exact ⟨hlen, hmap, hnone⟩
end Wk

/-! ### spots, nexts, the walk of a line, the size of comings -/
namespace Wk
open Ln (Let)
def rowN (i : Int) : Nat → List Spt
  | 0 => []
  | j + 1 => rowN i j ++ [(i, 1 + (j : Int))]
def spN (k : Nat) : Nat → List Spt
  | 0 => []
  | i + 1 => spN k i ++ rowN (i : Int) (min k (i + 1))
theorem rowN_len (i : Int) : ∀ j, (rowN i j).length = j
  | 0 => rfl
  | j + 1 => by
    show (rowN i j ++ [_]).length = _
    rw [List.length_append, rowN_len i j]
    rfl
theorem spN_len (k : Nat) : ∀ i, (spN k i).length ≤ k * i
  | 0 => Nat.zero_le _
  | i + 1 => by
    have ih := spN_len k i
    show (spN k i ++ rowN _ _).length ≤ _
    rw [List.length_append, rowN_len, Nat.mul_succ]
    have := Nat.min_le_left k (i + 1)
    omega
theorem rowN_mem {i : Int} : ∀ {j : Nat} {s : Spt}, s ∈ rowN i j → s.1 = i ∧ 1 ≤ s.2 ∧ s.2 ≤ j
  | 0, s, h => by simp [rowN] at h
  | j + 1, s, h => by
    rcases List.mem_append.mp (h : s ∈ rowN i j ++ [(i, 1 + (j : Int))]) with h | h
    · have := rowN_mem h
      omega
    · rw [List.mem_singleton.mp h]
      show i = i ∧ 1 ≤ 1 + (j : Int) ∧ 1 + (j : Int) ≤ ((j + 1 : Nat) : Int)
      omega
theorem spN_spot {k b : Nat} : ∀ {n : Nat} {s : Spt}, n ≤ b + 1 → s ∈ spN k n → Spot k b s
  | 0, s, _, h => by simp [spN] at h
  | i + 1, s, hn, h => by
    rcases List.mem_append.mp (h : s ∈ spN k i ++ rowN (i : Int) (min k (i + 1))) with h | h
    · exact spN_spot (by omega) h
    · obtain ⟨a, b1, c⟩ := rowN_mem h
      have m1 := Nat.min_le_left k (i + 1)
      have m2 := Nat.min_le_right k (i + 1)
      unfold Spot
      omega
def nxP (s o : Spt) : Bool := decide (o = (s.1 + 1, s.2 + 1)) || (decide (o.2 = 1) && decide (o.1 ≤ s.1))
def onesN : Nat → List Spt
  | 0 => []
  | i + 1 => onesN i ++ [((i : Int), 1)]
def nxL (k b : Int) (s : Spt) : List Spt := onesN (s.1 + 1).toNat ++ if s.1 + 1 ≤ b ∧ s.2 + 1 ≤ k then [(s.1 + 1, s.2 + 1)] else []
theorem onesN_len : ∀ i, (onesN i).length = i
  | 0 => rfl
  | i + 1 => by
    show (onesN i ++ [_]).length = _
    rw [List.length_append, onesN_len i]
    rfl
theorem onesN_mem : ∀ {n : Nat} {i : Nat}, i < n → ((i : Int), (1 : Int)) ∈ onesN n
  | 0, i, h => absurd h (Nat.not_lt_zero _)
  | n + 1, i, h => by
    show _ ∈ onesN n ++ [_]
    by_cases e : i = n
    · subst e
      exact List.mem_append_right _ (List.mem_singleton.mpr rfl)
    · exact List.mem_append_left _ (onesN_mem (by omega))
theorem nxL_mem {k b : Int} {s o : Spt} (h : Nx k b s o) : o ∈ nxL k b s := by
  obtain ⟨sp, h | ⟨h1, h2⟩⟩ := h
  · refine List.mem_append_right _ ?_
    unfold Spot at sp
    have e1 : o.1 = s.1 + 1 := by rw [h]
    have e2 : o.2 = s.2 + 1 := by rw [h]
    rw [if_pos (by omega), h]
    exact List.mem_singleton.mpr rfl
  · refine List.mem_append_left _ ?_
    unfold Spot at sp
    have := onesN_mem (n := (s.1 + 1).toNat) (i := o.1.toNat) (by omega)
    have e : o = ((o.1.toNat : Int), (1 : Int)) := Prod.ext (by show o.1 = ((o.1.toNat : Nat) : Int); omega) h1
    rw [e]
    exact this
theorem filt_low {s : Spt} {i : Int} (hs : 1 ≤ s.2) (h : i ≤ s.1) : ∀ j, (rowN i (j + 1)).filter (nxP s) = [(i, 1)]
  | 0 => by
    show [(i, 1 + ((0 : Nat) : Int))].filter _ = _
    have e : nxP s (i, 1 + ((0 : Nat) : Int)) = true := by
      unfold nxP
      rw [Bool.or_eq_true, Bool.and_eq_true, decide_eq_true_eq, decide_eq_true_eq, decide_eq_true_eq]
      exact .inr ⟨rfl, h⟩
    rw [List.filter_cons, e]
    rfl
  | j + 1 => by
    show (rowN i (j + 1) ++ [(i, 1 + ((j + 1 : Nat) : Int))]).filter _ = _
    have e : nxP s (i, 1 + ((j + 1 : Nat) : Int)) = false := by
      unfold nxP
      rw [Bool.or_eq_false_iff, Bool.and_eq_false_iff, decide_eq_false_iff_not, decide_eq_false_iff_not, decide_eq_false_iff_not]
      refine ⟨fun z => ?_, .inl fun z => ?_⟩
      · have := congrArg Prod.fst z
        simp only at this
        omega
      · simp only at z
        omega
    rw [List.filter_append, filt_low hs h j, List.filter_cons, e]
    rfl
theorem filt_at {s : Spt} (hs : 1 ≤ s.2) : ∀ j : Nat, (rowN (s.1 + 1) j).filter (nxP s) = if s.2 + 1 ≤ (j : Int) then [(s.1 + 1, s.2 + 1)] else []
  | 0 => by
    rw [if_neg (by omega)]
    rfl
  | j + 1 => by
    show (rowN (s.1 + 1) j ++ [(s.1 + 1, 1 + (j : Int))]).filter _ = _
    by_cases h : s.2 = (j : Int)
    · have e : nxP s (s.1 + 1, 1 + (j : Int)) = true := by
        unfold nxP
        rw [Bool.or_eq_true, decide_eq_true_eq]
        exact .inl (Prod.ext rfl (by show 1 + (j : Int) = s.2 + 1; omega))
      have e0 : [(s.1 + 1, 1 + (j : Int))].filter (nxP s) = [(s.1 + 1, s.2 + 1)] := by
        rw [List.filter_cons, e, if_pos rfl, h, Int.add_comm 1]
        rfl
      rw [List.filter_append, filt_at hs j, e0, if_neg (by omega), if_pos (by omega)]
      rfl
    · have e : nxP s (s.1 + 1, 1 + (j : Int)) = false := by
        unfold nxP
        rw [Bool.or_eq_false_iff, Bool.and_eq_false_iff, decide_eq_false_iff_not, decide_eq_false_iff_not, decide_eq_false_iff_not]
        refine ⟨fun z => ?_, .inr fun z => ?_⟩
        · have := congrArg Prod.snd z
          simp only at this
          omega
        · simp only at z
          omega
      have e0 : [(s.1 + 1, 1 + (j : Int))].filter (nxP s) = [] := by
        rw [List.filter_cons, e]
        rfl
      rw [List.filter_append, filt_at hs j, e0, List.append_nil]
      by_cases h2 : s.2 + 1 ≤ (j : Int)
      · rw [if_pos h2, if_pos (by omega)]
      · rw [if_neg h2, if_neg (by omega)]
theorem filt_high {s : Spt} {i : Int} (h : s.1 + 1 < i) : ∀ j, (rowN i j).filter (nxP s) = []
  | 0 => rfl
  | j + 1 => by
    show (rowN i j ++ [(i, 1 + (j : Int))]).filter _ = _
    have e : nxP s (i, 1 + (j : Int)) = false := by
      unfold nxP
      rw [Bool.or_eq_false_iff, Bool.and_eq_false_iff, decide_eq_false_iff_not, decide_eq_false_iff_not, decide_eq_false_iff_not]
      refine ⟨fun z => ?_, .inr fun z => ?_⟩
      · have := congrArg Prod.fst z
        simp only at this
        omega
      · simp only at z
        omega
    rw [List.filter_append, filt_high h j, List.filter_cons, e]
    rfl
theorem filt_spN {k : Nat} {s : Spt} (hk : 1 ≤ k) (h0 : 0 ≤ s.1) (h1 : 1 ≤ s.2) (h2 : s.2 - 1 ≤ s.1) : ∀ n : Nat, (spN k n).filter (nxP s) = onesN (min n (s.1 + 1).toNat) ++ if s.1 + 1 < (n : Int) ∧ s.2 + 1 ≤ (k : Int) then [(s.1 + 1, s.2 + 1)] else []
  | 0 => by
    rw [Nat.zero_min, if_neg (by omega)]
    rfl
  | n + 1 => by
    show (spN k n ++ rowN (n : Int) (min k (n + 1))).filter _ = _
    rw [List.filter_append, filt_spN hk h0 h1 h2 n]
    by_cases c1 : (n : Int) ≤ s.1
    · obtain ⟨j, hj⟩ : ∃ j, min k (n + 1) = j + 1 := ⟨min k (n + 1) - 1, by omega⟩
      rw [hj, filt_low h1 c1 j, if_neg (by omega), if_neg (by omega), List.append_nil, List.append_nil]
      have e1 : min n (s.1 + 1).toNat = n := by omega
      have e2 : min (n + 1) (s.1 + 1).toNat = n + 1 := by omega
      rw [e1, e2]
      rfl
    · have e1 : min n (s.1 + 1).toNat = (s.1 + 1).toNat := by omega
      have e2 : min (n + 1) (s.1 + 1).toNat = (s.1 + 1).toNat := by omega
      rw [e1, e2]
      by_cases c2 : (n : Int) = s.1 + 1
      · rw [c2, filt_at h1, if_neg (by omega), List.append_nil]
        have ha : s.2 + 1 ≤ ((n + 1 : Nat) : Int) := by omega
        by_cases c3 : s.2 + 1 ≤ (k : Int)
        · rw [if_pos (by omega), if_pos (by omega)]
        · rw [if_neg (by omega), if_neg (by omega)]
      · rw [filt_high (by omega), List.append_nil]
        by_cases c3 : s.2 + 1 ≤ (k : Int)
        · rw [if_pos (by omega), if_pos (by omega)]
        · rw [if_neg (by omega), if_neg (by omega)]
theorem filt_nx {k b : Nat} {s : Spt} (hs : Spot k b s) : (spN k (b + 1)).filter (nxP s) = nxL k b s := by
  unfold Spot at hs
  rw [filt_spN (by omega) hs.1 hs.2.2.1 hs.2.2.2.2]
  unfold nxL
  have e : min (b + 1) (s.1 + 1).toNat = (s.1 + 1).toNat := by omega
  rw [e]
  by_cases c : s.1 + 1 ≤ (b : Int) ∧ s.2 + 1 ≤ (k : Int)
  · rw [if_pos c, if_pos (by omega)]
  · rw [if_neg c, if_neg (by omega)]
/-! the spots of the letters that are not turned away -/
def wk1 (l : Let) : List Spt := match l.2.2 with
  | none => []
  | some w => [(w, l.2.1)]
def wkL (L : List Let) : List Spt := (L.map wk1).flatten
theorem wkL_snoc (L : List Let) (l : Let) : wkL (L ++ [l]) = wkL L ++ wk1 l := by
  unfold wkL
  rw [List.map_append, List.flatten_append]
  simp
theorem wkL_len : ∀ L : List Let, (wkL L).length ≤ L.length
  | [] => Nat.le_refl _
  | l :: L => by
    show (wk1 l ++ wkL L).length ≤ L.length + 1
    have := wkL_len L
    have : (wk1 l).length ≤ 1 := by
      unfold wk1
      split <;> simp
    rw [List.length_append]
    omega
theorem wkL_all : ∀ {L : List Let} {row : List Spt}, L.map (fun l => (l.2.2, l.2.1)) = row.map (fun p => (some p.1, p.2)) → wkL L = row
  | [], [], _ => rfl
  | [], _ :: _, h => by simp at h
  | _ :: _, [], h => by simp at h
  | l :: L, p :: row, h => by
    rw [List.map_cons, List.map_cons] at h
    obtain ⟨h1, h2⟩ := List.cons.inj h
    show wk1 l ++ wkL L = _
    rw [wkL_all h2]
    have e1 : l.2.2 = some p.1 := congrArg Prod.fst h1
    have e2 : l.2.1 = p.2 := congrArg Prod.snd h1
    unfold wk1
    rw [e1, e2]
    rfl
/-- where letters are: each spot next to the one ahead -/
structure Wl (k b : Int) (W : List Spt) : Prop where
  sp : ∀ x ∈ W, Spot k b x
  hd : ∀ x, W[0]? = some x → x = (0, 1)
  nx : ∀ (i : Nat) x y, W[i]? = some x → W[i + 1]? = some y → Nx k b x y
theorem Wl.nil {k b : Int} : Wl k b [] := ⟨fun x h => by simp at h, fun x h => by simp at h, fun i x y h => by simp at h⟩
theorem Wl.snoc {k b : Int} {W : List Spt} {o : Spt} (h : Wl k b W) (so : Spot k b o) (h0 : W = [] → o = (0, 1)) (hn : ∀ x, W.getLast? = some x → Nx k b x o) : Wl k b (W ++ [o]) := by
  refine ⟨fun x hx => ?_, fun x hx => ?_, fun i x y hx hy => ?_⟩
  · rcases List.mem_append.mp hx with hx | hx
    · exact h.sp x hx
    · rw [List.mem_singleton.mp hx]
      exact so
  · cases W with
    | nil =>
      simp at hx
      rw [← hx]
      exact h0 rfl
    | cons w W =>
      refine h.hd x ?_
      rw [List.getElem?_append_left (by simp)] at hx
      exact hx
  · have hl : i + 1 < (W ++ [o]).length := (List.getElem?_eq_some_iff.mp hy).1
    rw [List.length_append] at hl
    have hl' : i + 1 ≤ W.length := Nat.le_of_lt_succ hl
    rw [List.getElem?_append_left (by omega)] at hx
    by_cases c : i + 1 < W.length
    · rw [List.getElem?_append_left c] at hy
      exact h.nx i x y hx hy
    · have e : i + 1 = W.length := by omega
      rw [List.getElem?_append_right (by omega), e, Nat.sub_self] at hy
      have ey : o = y := by simpa using hy
      rw [← ey]
      refine hn x ?_
      rw [List.getLast?_eq_getElem?]
      rw [show W.length - 1 = i by omega]
      exact hx
/-- while letters come at a tick -/
structure Wi (k b : Int) (W : List Spt) (line : Int) (j : Nat) : Prop where
  wl : Wl k b W
  lo : 0 ≤ line
  hi : line ≤ b + 1
  zz : j = 0 → line ≤ b ∧ (W = [] → line = 0) ∧ ∀ x, W.getLast? = some x → line ≤ x.1
  ss : j ≠ 0 → W ≠ [] ∧ ∀ x, W.getLast? = some x → line ≤ x.1 + 1 ∧ (line ≤ b → x = (line - 1, (j : Int)))
theorem last_some {W : List Spt} (h : W ≠ []) : ∃ x, W.getLast? = some x := ⟨W.getLast h, List.getLast?_eq_some_getLast h⟩
theorem last_mem {W : List Spt} {x : Spt} (h : W.getLast? = some x) : x ∈ W := by
  rw [List.getLast?_eq_getElem?] at h
  exact List.mem_of_getElem? h
theorem Wi.step {k b τ : Int} {s : List Let × Int} {j : Nat} (hb : 0 ≤ b) (hj : (j : Int) < k) (h : Wi k b (wkL s.1) s.2 j) : Wi k b (wkL (Ln.step b τ (1 + (j : Int)) s).1) (Ln.step b τ (1 + (j : Int)) s).2 (j + 1) := by
  unfold Ln.step
  by_cases c : s.2 > b
  · rw [if_pos c]
    have e : wkL (s.1 ++ [(τ, 1 + (j : Int), none)]) = wkL s.1 := by
      rw [wkL_snoc]
      exact List.append_nil _
    have hj0 : j ≠ 0 := fun z => by
      have := (h.zz z).1
      omega
    obtain ⟨h1, h2⟩ := h.ss hj0
    refine ⟨?_, h.lo, h.hi, fun z => absurd z (Nat.succ_ne_zero _), fun _ => ?_⟩
    · show Wl k b (wkL (s.1 ++ [(τ, 1 + (j : Int), none)]))
      rw [e]
      exact h.wl
    · show wkL (s.1 ++ [(τ, 1 + (j : Int), none)]) ≠ [] ∧ ∀ x, (wkL (s.1 ++ [(τ, 1 + (j : Int), none)])).getLast? = some x → _
      rw [e]
      refine ⟨h1, fun x hx => ⟨(h2 x hx).1, fun z => ?_⟩⟩
      have z' : s.2 ≤ b := z
      omega
  · rw [if_neg c]
    have e : wkL (s.1 ++ [(τ, 1 + (j : Int), some s.2)]) = wkL s.1 ++ [(s.2, 1 + (j : Int))] := wkL_snoc _ _
    have ej : j ≠ 0 → ∀ x, (wkL s.1).getLast? = some x → x = (s.2 - 1, (j : Int)) := fun z x hx => ((h.ss z).2 x hx).2 (by omega)
    have hjl : (j : Int) ≤ s.2 := by
      by_cases z : j = 0
      · have := h.lo
        omega
      · obtain ⟨x, hx⟩ := last_some (h.ss z).1
        have sx := h.wl.sp x (last_mem hx)
        have := ej z x hx
        unfold Spot at sx
        rw [this] at sx
        simp only at sx
        omega
    have so : Spot k b (s.2, 1 + (j : Int)) := by
      have := h.lo
      unfold Spot
      simp only
      omega
    refine ⟨?_, ?_, ?_, fun z => absurd z (Nat.succ_ne_zero _), fun _ => ?_⟩
    · show Wl k b (wkL (s.1 ++ [(τ, 1 + (j : Int), some s.2)]))
      rw [e]
      refine h.wl.snoc so (fun z => ?_) (fun x hx => ⟨so, ?_⟩)
      · by_cases z0 : j = 0
        · rw [(h.zz z0).2.1 z, z0]
          rfl
        · exact absurd z (h.ss z0).1
      · by_cases z0 : j = 0
        · right
          refine ⟨by rw [z0]; rfl, (h.zz z0).2.2 x hx⟩
        · left
          rw [ej z0 x hx]
          show (s.2, 1 + (j : Int)) = (s.2 - 1 + 1, (j : Int) + 1)
          rw [Int.sub_add_cancel, Int.add_comm]
    · show 0 ≤ s.2 + 1
      have := h.lo
      omega
    · show s.2 + 1 ≤ b + 1
      omega
    · show wkL (s.1 ++ [(τ, 1 + (j : Int), some s.2)]) ≠ [] ∧ ∀ x, (wkL (s.1 ++ [(τ, 1 + (j : Int), some s.2)])).getLast? = some x → s.2 + 1 ≤ x.1 + 1 ∧ (s.2 + 1 ≤ b → x = (s.2 + 1 - 1, ((j + 1 : Nat) : Int)))
      rw [e]
      refine ⟨by simp, fun x hx => ?_⟩
      rw [List.getLast?_append] at hx
      have ex : x = (s.2, 1 + (j : Int)) := by simpa using hx.symm
      rw [ex]
      refine ⟨Int.le_refl _, fun _ => ?_⟩
      refine Prod.ext ?_ ?_
      · show s.2 = s.2 + 1 - 1
        omega
      · show 1 + (j : Int) = ((j + 1 : Nat) : Int)
        omega
theorem Wi.turns {k b τ : Int} {s : List Let × Int} (hb : 0 ≤ b) (h : Wi k b (wkL s.1) s.2 0) : ∀ j : Nat, (j : Int) ≤ k → Wi k b (wkL (Ln.turns b τ j s).1) (Ln.turns b τ j s).2 j
  | 0, _ => h
  | j + 1, hj => Wi.step hb (by omega) (Wi.turns hb h j (by omega))
theorem Wi.close {k b : Int} {W : List Spt} {line : Int} {j : Nat} (hb : 0 ≤ b) (h : Wi k b W line j) : Wi k b W (Ln.close line) 0 := by
  have r := Ln.close_rng hb h.lo h.hi
  refine ⟨h.wl, r.1, by omega, fun _ => ⟨r.2, fun z => ?_, fun x hx => ?_⟩, fun z => absurd rfl z⟩
  · by_cases c : j = 0
    · rw [(h.zz c).2.1 z]
      rfl
    · exact absurd z (h.ss c).1
  · have sx := h.wl.sp x (last_mem hx)
    unfold Spot at sx
    by_cases c : j = 0
    · have := (h.zz c).2.2 x hx
      unfold Ln.close
      split <;> omega
    · have := ((h.ss c).2 x hx).1
      unfold Ln.close
      split <;> omega
theorem wi_pre {k b : Int} {cs : List Int} (hb : 0 ≤ b) (hk : 0 ≤ k) (hc : ∀ c ∈ cs, c ≤ k) : ∀ i, Wi k b (wkL (Ln.pre b cs i).1) (Ln.pre b cs i).2 0
  | 0 => ⟨.nil, Int.le_refl _, by show (0 : Int) ≤ b + 1; omega, fun _ => ⟨hb, fun _ => rfl, fun x hx => by simp [Ln.pre, wkL] at hx⟩, fun z => absurd rfl z⟩
  | i + 1 => by
    have ih := wi_pre hb hk hc i
    have hg : cs.getD i 0 ≤ k := by
      rw [List.getD_eq_getElem?_getD]
      cases h : cs[i]? with
      | none => exact hk
      | some c => exact hc c (List.mem_of_getElem? h)
    unfold Ln.pre
    exact (Wi.turns (τ := (i : Int)) hb ih (cs.getD i 0).toNat (by omega)).close hb
theorem wl_letts {k b : Int} {cs : List Int} (hb : 0 ≤ b) (hk : 0 ≤ k) (hc : ∀ c ∈ cs, c ≤ k) : Wl k b (wkL (Ln.letts b cs)) := (wi_pre hb hk hc cs.length).wl
/-! the size of the comings of a walk -/
theorem incL_len : ∀ l : List Int, (incL l).length = l.length
  | [] => rfl
  | [_] => rfl
  | x :: y :: r => by
    show (incL (y :: r)).length + 1 = _
    rw [incL_len (y :: r)]
    rfl
structure Cs (k : Int) (cs : List Int) (n : Int) (s : Spt) : Prop where
  ex : ∃ ds, cs = ds ++ [s.2] ∧ ∀ c ∈ ds, 0 ≤ c ∧ c ≤ k
  ln : (cs.length : Int) + s.1 ≤ n
theorem cs_start {k b : Int} {s : Spt} (hk : 2 ≤ k) (hs : Spot k b s) (h1 : s.2 = 1) : Cs k (start s.1) (2 * b + 1) s := by
  unfold Spot at hs
  refine ⟨⟨List.replicate s.1.toNat 2, by rw [h1]; rfl, fun c hc => by rw [(List.mem_replicate.mp hc).2]; omega⟩, ?_⟩
  unfold start
  rw [List.length_append, List.length_replicate]
  show ((s.1.toNat + 1 : Nat) : Int) + s.1 ≤ _
  omega
theorem cs_grow {k b : Int} {cs : List Int} {n : Int} {s o : Spt} (h : Cs k cs n s) (hs : Spot k b s) (hn : Nx k b s o) : Cs k (grow cs s o) (n + 1) o := by
  obtain ⟨⟨ds, hd, hc⟩, hl⟩ := h
  have ho := hn.1
  unfold Spot at hs ho
  unfold grow
  rcases hn.2 with e | ⟨e1, e2⟩
  · have o1 : o.1 = s.1 + 1 := by rw [e]
    have o2 : o.2 = s.2 + 1 := by rw [e]
    rw [if_pos (by omega)]
    refine ⟨⟨ds, by rw [hd, incL_snoc, o2], hc⟩, ?_⟩
    rw [incL_len, o1]
    omega
  · rw [if_neg (by omega)]
    refine ⟨⟨cs ++ List.replicate (s.1 - o.1).toNat 0, by rw [List.append_assoc, e1], fun c hc' => ?_⟩, ?_⟩
    · rcases List.mem_append.mp hc' with hc' | hc'
      · rw [hd] at hc'
        rcases List.mem_append.mp hc' with hc' | hc'
        · exact hc c hc'
        · rw [List.mem_singleton.mp hc']
          omega
      · rw [(List.mem_replicate.mp hc').2]
        omega
    · rw [List.length_append, List.length_append, List.length_replicate]
      show ((cs.length + ((s.1 - o.1).toNat + 1) : Nat) : Int) + o.1 ≤ _
      omega
theorem cs_all {k b : Int} : ∀ (r : List Spt) (cs : List Int) (n : Int) (s : Spt), Cs k cs n s → Spot k b s → Chain k b s r → ∃ o, Spot k b o ∧ Cs k (cfGo cs s r) (n + (r.length : Int)) o
  | [], cs, n, s, h, hs, _ => ⟨s, hs, by simpa [cfGo] using h⟩
  | o :: r, cs, n, s, h, hs, hc => by
    obtain ⟨o', h1, h2⟩ := cs_all r _ _ o (cs_grow h hs hc.1) hc.1.1 hc.2
    refine ⟨o', h1, ?_⟩
    rw [List.length_cons, show n + ((r.length + 1 : Nat) : Int) = n + 1 + (r.length : Int) by omega]
    exact h2
theorem cf_right {k b : Int} {row : List Spt} (hk : 2 ≤ k) (h : Walk k b row) : ((cf row).length : Int) ≤ 2 * b + (row.length : Int) ∧ ∀ c ∈ cf row, 0 ≤ c ∧ c ≤ k := by
  cases row with
  | nil => exact False.elim h
  | cons s r =>
    obtain ⟨hs, h1, hc⟩ := h
    obtain ⟨o, ho, ⟨ds, hd, hin⟩, hl⟩ := cs_all r _ _ s (cs_start hk hs h1) hs hc
    unfold Spot at ho
    refine ⟨?_, fun c hc' => ?_⟩
    · show ((cfGo (start s.1) s r).length : Int) ≤ _
      rw [List.length_cons]
      omega
    · have hc' : c ∈ cfGo (start s.1) s r := hc'
      rw [hd] at hc'
      rcases List.mem_append.mp hc' with hc' | hc'
      · exact hin c hc'
      · rw [List.mem_singleton.mp hc']
        omega
theorem chain_snoc {k b : Int} {o : Spt} : ∀ (r : List Spt) (s : Spt), Chain k b s r → (∀ x, (s :: r).getLast? = some x → Nx k b x o) → Chain k b s (r ++ [o])
  | [], s, _, h => ⟨h s rfl, trivial⟩
  | x :: r, s, hc, h => ⟨hc.1, chain_snoc r x hc.2 fun y hy => h y (by rw [List.getLast?_cons_cons]; exact hy)⟩
theorem walk_snoc {k b : Int} {row : List Spt} {o : Spt} (h : Walk k b row) (hn : ∀ x, row.getLast? = some x → Nx k b x o) : Walk k b (row ++ [o]) := by
  cases row with
  | nil => exact False.elim h
  | cons s r => exact ⟨h.1, h.2.1, chain_snoc r s h.2.2 hn⟩
end Wk

/-! ## generators: if, for, a lock; the first item alone -/
namespace GZ
open PySem PySem.Spec PyProof.Rows L2 GenW
section
variable {M : Model} {A : Around} {R : GenEnd} {Y : Protocol} {n : Nat} {s₀ : Shared} {c : Code} {fs : List Frame} {s : Shared} {env : Env}
  {K : Flow → Sem PySem.Fin} {J : Value → Sem PySem.Fin} {gd : Bool → Bool} {lv : List Value → List Value}
theorem seg_If {test : Expr} {a b : List Stmt} {pos : Pos}
    (h : wpAny M (A.over c fs) (isTrue test env (eval test env)) (fun d s' => if d = true then Seg M A R Y n s₀ c ((execs a env).wrap K J gd lv) fs s' else Seg M A R Y n s₀ c ((execs b env).wrap K J gd lv) fs s')
      (fun x s' => Seg M A R Y n s₀ c (J x) fs s') s) :
    Seg M A R Y n s₀ c ((exec (.If test a b pos) env).wrap K J gd lv) fs s := by
  show Seg M A R Y n s₀ c (.at pos fun _ => (isTrue test env (eval test env) >>= fun d => if d = true then execs a env else execs b env).wrap K J gd lv) fs s
  refine seg_at ?_
  rw [Sem.bind_eq_wrap', Sem.wrap_wrap]
  refine seg_wrap (wpAny_mono h (fun d s' hd => ?_) fun _ _ x => x)
  cases d with
  | true =>
    rw [if_pos rfl] at hd
    exact hd
  | false =>
    rw [if_neg Bool.false_ne_true] at hd
    exact hd
theorem seg_For {target iter : Expr} {body orelse : List Stmt} {pos : Pos}
    (h : wpAny M (A.over c fs) (eval iter env) (fun x s1 => wpAny M (A.over c fs) (pyIter x) (fun it s2 => ∀ p, Seg M A R Y n s₀ (.forLoop target it body orelse env) (M.den (.forLoop target it body orelse env))
      (.ret (fun r => ((match r with | .ok f => (.pure f : Sem Flow) | .error e => .raise e).onRaise (cameBack env)).wrap K J gd lv) none (gd false) (lv []) c p [] :: fs) s2)
        (fun x s' => Seg M A R Y n s₀ c (J x) fs s') s1) (fun x s' => Seg M A R Y n s₀ c (J x) fs s') s)
    (hs : ∀ x, foldedSetIterable iter env x = pure x := by intro _; rfl) :
    Seg M A R Y n s₀ c ((exec (.For target iter body orelse pos) env).wrap K J gd lv) fs s := by
  rw [exec_For]
  show Seg M A R Y n s₀ c (.at pos fun _ => (eval iter env >>= fun v => foldedSetIterable iter env v >>= fun x => standAt iter.pos >>= fun _ => holding [x] (pyIter x) >>= fun it => runOwn (.forLoop target it body orelse env) env).wrap K J gd lv) fs s
  refine seg_at ?_
  rw [Sem.bind_eq_wrap', Sem.wrap_wrap]
  refine seg_wrap (wpAny_mono h (fun x s1 h1 => ?_) fun _ _ x => x)
  simp only [hs]
  show Seg M A R Y n s₀ c (Sem.wrap _ _ _ _ (standAt iter.pos >>= fun _ => holding [x] (pyIter x) >>= fun it => runOwn (.forLoop target it body orelse env) env)) fs s1
  rw [Sem.bind_eq_wrap', Sem.wrap_wrap]
  refine seg_wrap (wpAny_standAt ?_)
  show Seg M A R Y n s₀ c (Sem.wrap _ _ _ _ (holding [x] (pyIter x) >>= fun it => runOwn (.forLoop target it body orelse env) env)) fs s1
  rw [Sem.bind_eq_wrap', Sem.wrap_wrap]
  refine seg_wrap (wpAny_holding (wpAny_mono h1 (fun it s2 h2 => ?_) fun _ _ x => x))
  exact seg_call h2
end
section
variable {prog : Program} {w : World} {A : Around} {R : GenEnd} {Y : Protocol} {n : Nat} {s₀ : Shared} {fs : List Frame} {s : Shared} {env : Env}
theorem seg_forLoop {target : Expr} {it : Value} {body orelse : List Stmt}
    (h : wpAny (model prog w) (A.over (.forLoop target it body orelse env) fs) (pyNext it) (fun r s1 => match r with
        | none => Seg (model prog w) A R Y n s₀ (.forLoop target it body orelse env) (.pure (.again (.block orelse env))) fs s1
        | some v => wpAny (model prog w) (A.over (.forLoop target it body orelse env) fs) (letOwnedTupleGo target it v) (fun _ s2 => wpAny (model prog w) (A.over (.forLoop target it body orelse env) fs) (assign target env v) (fun _ s3 =>
          Seg (model prog w) A R Y n s₀ (.forLoop target it body orelse env) ((execs body env).wrap (fun f => match f with
            | .next | .cont => .pure (.again (.forLoop target it body orelse env))
            | .brk => .pure (.done .next)
            | .ret v => .pure (.done (.ret v))) (fun e => (do noteFrame e env; theTreesLotGoes e : Sem Unit).wrap (fun _ => .raise e) .raise id id) id id) fs s3)
          (fun x s' => Seg (model prog w) A R Y n s₀ (.forLoop target it body orelse env) ((do noteFrame x env; theTreesLotGoes x : Sem Unit).wrap (fun _ => .raise x) .raise id id) fs s') s2)
          (fun x s' => Seg (model prog w) A R Y n s₀ (.forLoop target it body orelse env) ((do noteFrame x env; theTreesLotGoes x : Sem Unit).wrap (fun _ => .raise x) .raise id id) fs s') s1)
      (fun x s' => Seg (model prog w) A R Y n s₀ (.forLoop target it body orelse env) ((do noteFrame x env; theTreesLotGoes x : Sem Unit).wrap (fun _ => .raise x) .raise id id) fs s') s) :
    Seg (model prog w) A R Y n s₀ (.forLoop target it body orelse env) ((model prog w).den (.forLoop target it body orelse env)) fs s := by
  show Seg _ A R Y n s₀ _ ((forTurn target it body orelse env).onRaise (fun x => do noteFrame x env; theTreesLotGoes x)) fs s
  have ex : ∀ x s', Seg (model prog w) A R Y n s₀ (.forLoop target it body orelse env) ((do noteFrame x env; theTreesLotGoes x : Sem Unit).wrap (fun _ => .raise x) .raise id id) fs s' →
      Seg (model prog w) A R Y n s₀ (.forLoop target it body orelse env) ((do noteFrame x env; theTreesLotGoes x : Sem Unit).bind fun _ => .raise x) fs s' := fun x s' hx => by
    rw [Sem.bind_eq_wrap]
    exact hx
  unfold forTurn
  rw [Sem.onRaise_eq_wrap, Sem.bind_eq_wrap', Sem.wrap_wrap]
  refine seg_wrap (wpAny_standAt ?_)
  rw [Sem.bind_eq_wrap', Sem.wrap_wrap]
  refine seg_wrap (wpAny_onRaise (wpAny_mono h (fun r s1 h1 => ?_) fun x s' hx => wpAny_standAt (ex x s' hx)))
  cases r with
  | none => exact h1
  | some v =>
    show Seg _ A R Y n s₀ _ (Sem.wrap _ _ _ _ (letOwnedTupleGo target it v >>= fun _ => assign target env v >>= fun _ => execs body env >>= _)) fs s1
    rw [Sem.bind_eq_wrap', Sem.wrap_wrap]
    refine seg_wrap (wpAny_mono h1 (fun _ s2 h2 => ?_) fun x s' hx => ex x s' hx)
    show Seg _ A R Y n s₀ _ (Sem.wrap _ _ _ _ (assign target env v >>= fun _ => execs body env >>= _)) fs s2
    rw [Sem.bind_eq_wrap', Sem.wrap_wrap]
    refine seg_wrap (wpAny_mono h2 (fun _ s3 h3 => ?_) fun x s' hx => ex x s' hx)
    show Seg _ A R Y n s₀ _ (Sem.wrap _ _ _ _ (execs body env >>= _)) fs s3
    rw [Sem.bind_eq_wrap', Sem.wrap_wrap]
    rw [Sem.wrap_congr (execs body env) _ _ (K' := fun f => match f with
            | .next | .cont => .pure (.again (.forLoop target it body orelse env))
            | .brk => .pure (.done .next)
            | .ret v => .pure (.done (.ret v))) (H' := (fun e => (do noteFrame e env; theTreesLotGoes e : Sem Unit).wrap (fun _ => .raise e) .raise id id))
        (fun f => by cases f <;> rfl)
        (fun e => by first | exact Sem.bind_eq_wrap _ _ | (show (do noteFrame e env; theTreesLotGoes e : Sem Unit).bind (fun _ => .raise e) = _; rw [Sem.bind_eq_wrap]))]
    exact h3
theorem seg_block {orelse : List Stmt} (h : Seg (model prog w) A R Y n s₀ (.block orelse env) ((execs orelse env).wrap (fun f => .pure (.done f)) (fun e => (do noteFrame e env; theTreesLotGoes e : Sem Unit).wrap (fun _ => .raise e) .raise id id) id id) fs s) :
    Seg (model prog w) A R Y n s₀ (.block orelse env) ((model prog w).den (.block orelse env)) fs s := by
  show Seg _ A R Y n s₀ _ ((execs orelse env).onRaise (fun x => do noteFrame x env; theTreesLotGoes x) >>= fun f => pure (.done f)) fs s
  rw [Sem.onRaise_eq_wrap, Sem.bind_eq_wrap', Sem.wrap_wrap]
  rw [Sem.wrap_congr (execs orelse env) _ _ (K' := fun f => (.pure (.done f) : Sem PySem.Fin)) (H' := (fun e => (do noteFrame e env; theTreesLotGoes e : Sem Unit).wrap (fun _ => .raise e) .raise id id)) (fun f => by rfl)
    (fun e => by rw [Sem.bind_eq_wrap, Sem.wrap_wrap]; rfl)]
  exact h
end

/-! ### the family: a consumer's list, or none (the first item alone) -/
structure ZEnds where
  nx : List V → L2.St → Hp → Prop
  rt : List V → VK
  bk : List V → L2.St → Hp → Prop := fun _ _ _ => False
  ct : List V → L2.St → Hp → Prop := fun _ _ _ => False
  yd : V → Hp → Prop := fun _ _ => True
abbrev TZn := ZEnds → List V → L2.St → Hp → Prop
def ZEnds.at (D : ZEnds) (ys : List V) : Ends := { nx := D.nx ys, rt := D.rt ys, bk := D.bk ys, ct := D.ct ys }
def GIz (X : Cx) : Option Addr → List (Addr × Obj) → List V → L2.St → Hp → Shared → Prop
  | some S, ip, ys, σ, H, s => GI X S ip ys σ H s
  | none, ip, ys, σ, H, s => ys = [] ∧ Inv X ip σ H s
theorem GIz.open {X : Cx} {So : Option Addr} {ip : List (Addr × Obj)} {ys : List V} {σ : L2.St} {H : Hp} {s : Shared} (h : GIz X So ip ys σ H s) :
    ∃ base : List (Addr × Obj), (∀ p ∈ base, So = some p.1) ∧ (∀ S, So = some S → ∃ o, (S, o) ∈ base) ∧ Inv X (base ++ ip) σ H s ∧ ∀ ip' σ' H' s', Inv X (base ++ ip') σ' H' s' → GIz X So ip' ys σ' H' s' := by
  cases So with
  | none =>
    refine ⟨[], ?_, ?_, h.2, ?_⟩
    · intro p hp
      cases hp
    · intro S hS
      cases hS
    · intro _ _ _ _ I
      exact ⟨h.1, I⟩
  | some S =>
    obtain ⟨acc, c, r, I⟩ := h
    refine ⟨[(S, lstObj acc c)], ?_, ?_, I, ?_⟩
    · intro p hp
      rw [List.mem_singleton.mp hp]
    · intro S' hS
      cases hS
      exact ⟨_, List.mem_singleton.mpr rfl⟩
    · intro _ _ _ _ I
      exact ⟨acc, c, r, I⟩
def YZ (X : Cx) : Option Addr → (V → Hp → Prop) → Protocol
  | some S, _ => GY X S
  | none, yd => fun _ _ v s _ => ∃ x ip σ H, RelV x v ∧ Inv X ip σ H s ∧ yd x H
def GSPz (X : Cx) (So : Option Addr) (ip : List (Addr × Obj)) (D : ZEnds) (ys : List V) (f : Flow) (s : Shared) : Prop :=
  match f with
  | .next => ∃ σ H, GIz X So ip ys σ H s ∧ D.nx ys σ H
  | .brk => ∃ σ H, GIz X So ip ys σ H s ∧ D.bk ys σ H
  | .cont => ∃ σ H, GIz X So ip ys σ H s ∧ D.ct ys σ H
  | .ret u => ∃ v σ H, GIz X So ip ys σ H s ∧ RelV v u ∧ D.rt ys v H
structure GCz (X : Cx) (So : Option Addr) (ip : List (Addr × Obj)) (A : Around) (c : Code) (fs : List Frame) (gd : Bool → Bool) : Prop where
  pn : ∀ S, So = some S → ∀ p ∈ X.pn, p.1 ≠ S
  ip : ∀ S, So = some S → ∀ p ∈ ip, p.1 ≠ S
  apart : ∀ S, So = some S → Apart X S
  over : A.over c fs = X.A
  split : splitAtGen fs = none
  guard : fs.any Frame.guarded = false
  gd : gd false = false
structure GKz (X : Cx) (So : Option Addr) (ip : List (Addr × Obj)) (A : Around) (R : GenEnd) (c : Code) (fs : List Frame) (K : Flow → Sem PySem.Fin) (J : Value → Sem PySem.Fin) (D : ZEnds) : Prop where
  ok : ∀ (n : Nat) (ys : List V) (s₀ s : Shared) (f : Flow), n + ys.length = sizeLine → GSPz X So ip D ys f s → Seg (model X.prog X.w) A R (YZ X So D.yd) n s₀ c (K f) fs s
  exc : ∀ (n : Nat) (s₀ : Shared) (e : Value) (s : Shared), X.xe e s → Seg (model X.prog X.w) A R (YZ X So D.yd) n s₀ c (J e) fs s
structure GSz (X : Cx) (st : Stmt) (t : TZn) : Prop where
  run : ∀ (A : Around) (So : Option Addr) (ip : List (Addr × Obj)) (R : GenEnd) (n : Nat) (ys : List V) (s₀ : Shared) (c : Code) (fs : List Frame) (K : Flow → Sem PySem.Fin) (J : Value → Sem PySem.Fin) (gd : Bool → Bool) (lv : List Value → List Value) (s : Shared) (σ : L2.St) (H : Hp) (D : ZEnds),
    GCz X So ip A c fs gd → n + ys.length = sizeLine → GKz X So ip A R c fs K J D → GIz X So ip ys σ H s → t D ys σ H →
    Seg (model X.prog X.w) A R (YZ X So D.yd) n s₀ c ((exec st X.env).wrap K J gd lv) fs s
structure GSsz (X : Cx) (st : List Stmt) (t : TZn) : Prop where
  run : ∀ (A : Around) (So : Option Addr) (ip : List (Addr × Obj)) (R : GenEnd) (n : Nat) (ys : List V) (s₀ : Shared) (c : Code) (fs : List Frame) (K : Flow → Sem PySem.Fin) (J : Value → Sem PySem.Fin) (gd : Bool → Bool) (lv : List Value → List Value) (s : Shared) (σ : L2.St) (H : Hp) (D : ZEnds),
    GCz X So ip A c fs gd → n + ys.length = sizeLine → GKz X So ip A R c fs K J D → GIz X So ip ys σ H s → t D ys σ H →
    Seg (model X.prog X.w) A R (YZ X So D.yd) n s₀ c ((execs st X.env).wrap K J gd lv) fs s
section
variable {X : Cx} {st : Stmt} {rest : List Stmt}
def tzPlain (t : TS) : TZn := fun D ys σ H => t (D.at ys) σ H
theorem sp_gspz {So : Option Addr} {base ip : List (Addr × Obj)} {s : Shared} {D : ZEnds} {ys : List V} {f : Flow} (r : ∀ σ' H' s', Inv X (base ++ ip) σ' H' s' → GIz X So ip ys σ' H' s') (h : SP X (base ++ ip) (D.at ys) f s) : GSPz X So ip D ys f s := by
  cases f with
  | next => obtain ⟨σ, H, I, q⟩ := h; exact ⟨σ, H, r _ _ _ I, q⟩
  | brk => obtain ⟨σ, H, I, q⟩ := h; exact ⟨σ, H, r _ _ _ I, q⟩
  | cont => obtain ⟨σ, H, I, q⟩ := h; exact ⟨σ, H, r _ _ _ I, q⟩
  | ret u => obtain ⟨v, σ, H, I, r1, q⟩ := h; exact ⟨v, σ, H, r _ _ _ I, r1, q⟩
theorem gz_ps {t : TS} (h : PS X st t) : GSz X st (tzPlain t) := by
  refine ⟨fun A So ip R n ys s₀ c fs K J gd lv s σ H D g hn k hI ht => ?_⟩
  obtain ⟨base, _, _, I, back⟩ := hI.open
  refine seg_wrap ?_
  rw [g.over]
  exact wpAny_mono (h.run _ s σ H (D.at ys) I ht) (fun f s' hs => k.ok n ys s₀ s' f hn (sp_gspz (back ip) hs)) fun x s' hx => k.exc n s₀ x s' hx
def tz0 : TZn := fun D ys σ H => D.nx ys σ H
theorem gzs_nil : GSsz X [] tz0 := by
  refine ⟨fun A So ip R n ys s₀ c fs K J gd lv s σ H D g hn k hI ht => ?_⟩
  exact seg_execs_nil (k.ok n ys s₀ s .next hn ⟨σ, H, hI, ht⟩)
def tzThen (t u : TZn) : TZn := fun D ys σ H => t { D with nx := fun ys' σ' H' => u D ys' σ' H' } ys σ H
theorem gzs_cons {t u : TZn} (a : GSz X st t) (b : GSsz X rest u) : GSsz X (st :: rest) (tzThen t u) := by
  refine ⟨fun A So ip R n ys s₀ c fs K J gd lv s σ H D g hn k hI ht => ?_⟩
  refine seg_execs_cons ?_
  refine a.run A So ip R n ys s₀ c fs _ J gd lv s σ H { D with nx := fun ys' σ' H' => u D ys' σ' H' } g hn ⟨fun n' ys' s₀' s' f hn' hs => ?_, k.exc⟩ hI ht
  cases f with
  | next =>
    obtain ⟨σ', H', I', q⟩ := hs
    exact b.run A So ip R n' ys' s₀' c fs K J gd lv s' σ' H' D g hn' k I' q
  | brk => exact k.ok n' ys' s₀' s' .brk hn' hs
  | cont => exact k.ok n' ys' s₀' s' .cont hn' hs
  | ret u => exact k.ok n' ys' s₀' s' (.ret u) hn' hs
theorem gzs_one {t : TZn} (a : GSz X st t) : GSsz X [st] t := by
  refine ⟨fun A So ip R n ys s₀ c fs K J gd lv s σ H D g hn k hI ht => ?_⟩
  refine seg_execs_cons ?_
  refine a.run A So ip R n ys s₀ c fs _ J gd lv s σ H D g hn ⟨fun n' ys' s₀' s' f hn' hs => ?_, k.exc⟩ hI ht
  cases f with
  | next => exact seg_execs_nil (k.ok n' ys' s₀' s' .next hn' hs)
  | brk => exact k.ok n' ys' s₀' s' .brk hn' hs
  | cont => exact k.ok n' ys' s₀' s' .cont hn' hs
  | ret u => exact k.ok n' ys' s₀' s' (.ret u) hn' hs
/-- yield e: D.yd is told of the item, too -/
def tzYield (te : TE) : TZn := fun D ys σ H => ys.length < sizeLine ∧ te σ H fun x H1 => (ys = [] → D.yd x H1) ∧ D.nx (ys ++ [x]) σ H1
theorem gz_yield {e : Expr} {yp pos : Pos} {te : TE} (he : PE X e te) (hco : X.env.scope.isCoroutine = false := by rfl) (hi : interactive X.env = false := by rfl) : GSz X (.Expr (.Yield (some e) yp) pos) (tzYield te) := by
  refine ⟨fun A So ip R n ys s₀ c fs K J gd lv s σ H D g hn k hI ht => ?_⟩
  obtain ⟨hlt, ht⟩ := ht
  obtain ⟨n, rfl⟩ : ∃ m, n = m + 1 := ⟨n - 1, by omega⟩
  obtain ⟨base, _, _, I, back⟩ := hI.open
  refine seg_Expr_Yield g.split g.gd g.guard ?_ hco hi
  rw [g.over]
  refine wpAny_mono (he.run _ s σ H _ I ht) (fun v s' hv => ?_) fun x s' hx => k.exc _ s₀ x s' hx
  obtain ⟨x, H1, I1, rv, q0, q⟩ := hv
  have G1 : GIz X So ip ys σ H1 s' := back _ _ _ _ I1
  intro kap hk
  cases So with
  | none =>
    obtain ⟨ey, I2⟩ := G1
    exact ⟨x, ip, σ, H1, rv, I2, q0 ey⟩
  | some S =>
    have G1 : GI X S ip ys σ H1 s' := G1
    refine ⟨ys, x, ip, σ, H1, hn, rv, G1, fun s'' z => hk .none s'' ?_⟩
    refine k.ok n (ys ++ [x]) s'' s'' .next ?_ ⟨σ, H1, (show GI X S ip (ys ++ [x]) σ H1 s'' from G1.woken (g.pn S rfl) (g.ip S rfl) (g.apart S rfl) rv z), q⟩
    rw [List.length_append, List.length_singleton]; omega
/-- if -/
def tzIf (c : TT) (t u : TZn) : TZn := fun D ys σ H => c σ H fun b H1 => if b = true then t D ys σ H1 else u D ys σ H1
theorem gz_if {test : Expr} {a b : List Stmt} {pos : Pos} {tc : TT} {t u : TZn} (hc : PT X test tc) (ha : GSsz X a t) (hb : GSsz X b u) : GSz X (.If test a b pos) (tzIf tc t u) := by
  refine ⟨fun A So ip R n ys s₀ c fs K J gd lv s σ H D g hn k hI ht => ?_⟩
  obtain ⟨base, _, _, I, back⟩ := hI.open
  refine seg_If ?_
  rw [g.over]
  refine wpAny_mono (hc.run _ s σ H _ I ht) (fun d s' hd => ?_) fun x s' hx => k.exc n s₀ x s' hx
  obtain ⟨H1, I1, q⟩ := hd
  have G1 : GIz X So ip ys σ H1 s' := back _ _ _ _ I1
  cases d with
  | true =>
    rw [if_pos rfl] at q ⊢
    exact ha.run A So ip R n ys s₀ c fs K J gd lv s' σ H1 D g hn k G1 q
  | false =>
    rw [if_neg Bool.false_ne_true] at q ⊢
    exact hb.run A So ip R n ys s₀ c fs K J gd lv s' σ H1 D g hn k G1 q
/-- the thing at d is locked meanwhile -/
def tzLock (t : TZn) : TZn := fun D ys σ H => ∃ d u, H d = some u ∧ Mut (some u) ∧ ∀ od, t ⟨fun ys' σ' H' => H' d = some (.frz od u) ∧ D.nx ys' σ' (upd H' d u), fun ys' v H' => H' d = some (.frz od u) ∧ D.rt ys' v (upd H' d u),
  fun ys' σ' H' => H' d = some (.frz od u) ∧ D.bk ys' σ' (upd H' d u), fun ys' σ' H' => H' d = some (.frz od u) ∧ D.ct ys' σ' (upd H' d u), D.yd⟩ ys σ (upd H d (.frz od u))
theorem gz_lock {t : TZn} (h : GSz X st t) : GSz X st (tzLock t) := by
  refine ⟨fun A So ip R n ys s₀ c fs K J gd lv s σ H D g hn k hI ht => ?_⟩
  obtain ⟨d, u, hd, mu, ht⟩ := ht
  obtain ⟨base, _, _, I, back⟩ := hI.open
  obtain ⟨od, I1⟩ := I.lock hd mu
  have un : ∀ {ys' : List V} {σ' : L2.St} {H' : Hp} {s' : Shared}, GIz X So ip ys' σ' H' s' → H' d = some (.frz od u) → GIz X So ip ys' σ' (upd H' d u) s' := fun {ys' σ' H' s'} G e => by
    obtain ⟨base', _, _, I', back'⟩ := G.open
    exact back' _ _ _ _ (I'.unlock e (I.nofrz hd mu))
  refine h.run A So ip R n ys s₀ c fs K J gd lv s σ _ { nx := fun ys' σ' H' => H' d = some (.frz od u) ∧ D.nx ys' σ' (upd H' d u), rt := fun ys' v H' => H' d = some (.frz od u) ∧ D.rt ys' v (upd H' d u), bk := fun ys' σ' H' => H' d = some (.frz od u) ∧ D.bk ys' σ' (upd H' d u), ct := fun ys' σ' H' => H' d = some (.frz od u) ∧ D.ct ys' σ' (upd H' d u), yd := D.yd } g hn ⟨fun n' ys' s₀' s' f hn' hs => ?_, k.exc⟩ (back _ _ _ _ I1) (ht od)
  cases f with
  | next => obtain ⟨σ', H', G, e, q⟩ := hs; exact k.ok n' ys' s₀' s' .next hn' ⟨σ', _, un G e, q⟩
  | brk => obtain ⟨σ', H', G, e, q⟩ := hs; exact k.ok n' ys' s₀' s' .brk hn' ⟨σ', _, un G e, q⟩
  | cont => obtain ⟨σ', H', G, e, q⟩ := hs; exact k.ok n' ys' s₀' s' .cont hn' ⟨σ', _, un G e, q⟩
  | ret v => obtain ⟨x, σ', H', G, r, e, q⟩ := hs; exact k.ok n' ys' s₀' s' (.ret v) hn' ⟨x, σ', _, un G e, r, q⟩
/-! ### for -/
def tzFor (wi : TI) (g : TG) (tb : TZn) : TZn := fun D ys σ H => wi σ H fun J H1 => ∃ W : Nat → Nat → List V → L2.St → Hp → Prop, (∃ m, W 0 m ys σ H1) ∧ ∀ i m ys σ H, W i m ys σ H →
  (J.stop i H ∧ D.nx ys σ H) ∨ (J.go i H ∧ ∃ N : List V → L2.St → Hp → Prop, (∀ ys' σ' H', N ys' σ' H' → ∃ m', m' < m ∧ W (i + 1) m' ys' σ' H') ∧ ∀ x H', J.yld i H x H' → g x σ H' fun σ2 H2 => tb { D with nx := N, ct := N, bk := D.nx } ys σ2 H2)
theorem gcz_loop {So : Option Addr} {ip : List (Addr × Obj)} {A : Around} {c c' : Code} {fs : List Frame} {gd : Bool → Bool} {k : Result → Sem PySem.Fin} {l kp : List Value} {p : Pos} (g : GCz X So ip A c fs gd) (hw : c'.weight = 0) (hu : c'.cUnits = 0) :
    GCz X So ip A c' (.ret k none (gd false) l c p kp :: fs) id where
  pn := g.pn
  ip := g.ip
  apart := g.apart
  over := (over_loop hw hu).trans g.over
  split := by
    show (splitAtGen fs).map _ = none
    rw [g.split]; rfl
  guard := by
    show (gd false || fs.any Frame.guarded) = false
    rw [g.gd, g.guard]; rfl
  gd := rfl
theorem GCz.more {So : Option Addr} {ip ip' : List (Addr × Obj)} {A : Around} {c : Code} {fs : List Frame} {gd : Bool → Bool} (g : GCz X So ip A c fs gd) (h : ∀ S, So = some S → ∀ p ∈ ip', p.1 ≠ S) : GCz X So ip' A c fs gd :=
  ⟨g.pn, h, g.apart, g.over, g.split, g.guard, g.gd⟩
theorem seg_cameBackz {So : Option Addr} {ip : List (Addr × Obj)} {A : Around} {R : GenEnd} {c : Code} {fs : List Frame} {K : Flow → Sem PySem.Fin} {J : Value → Sem PySem.Fin} {gd : Bool → Bool} {lv : List Value → List Value} {D : ZEnds} {n : Nat} {s₀ s : Shared} {e : Value}
    (g : GCz X So ip A c fs gd) (k : GKz X So ip A R c fs K J D) (h : cameBackBy (model X.prog X.w) X.A X.env X.xe e s) :
    Seg (model X.prog X.w) A R (YZ X So D.yd) n s₀ c (((Sem.raise e : Sem Flow).onRaise (cameBack X.env)).wrap K J gd lv) fs s := by
  show Seg _ _ _ _ _ _ _ (((cameBack X.env e).bind fun _ => (Sem.raise e : Sem Flow)).wrap K J gd lv) _ _
  rw [Sem.bind_eq_wrap, Sem.wrap_wrap]
  refine seg_wrap ?_
  rw [g.over]
  exact wpAny_mono h (fun _ s' hx => k.exc n s₀ e s' hx) fun x s' hx => k.exc n s₀ x s' hx
theorem gz_for {tg iter : Expr} {body : List Stmt} {wi : TI} {g : TG} {tb : TZn} {pos : Pos} (hp : PassesOwn (model X.prog X.w) X.A X.env X.xe) (hc : X.calm = true) (hi : PI X tg iter wi) (hg : PG X tg g) (hb : GSsz X body tb)
    (hs : ∀ x, foldedSetIterable iter X.env x = pure x := by intro _; rfl) : GSz X (.For tg iter body [] pos) (tzFor wi g tb) := by
  refine ⟨fun A So ip R n ys s₀ c fs K J gd lv s σ H D gc hn k hI ht => ?_⟩
  obtain ⟨base, hbs, hbo, I, back⟩ := hI.open
  refine seg_For ?_ hs
  rw [gc.over]
  refine wpAny_mono (hi.run _ s σ H _ I ht) (fun v s1 h1 => ?_) fun x s' hx => k.exc n s₀ x s' hx
  refine wpAny_mono h1 (fun itv s2 h2 => ?_) fun x s' hx => k.exc n s₀ x s' hx
  intro p
  obtain ⟨it, fp, tn, Jt, H2, e, I2, T, st2, f2, W, ⟨m0, w0⟩, turn⟩ := h2
  subst e
  have stat : ∀ {base' : List (Addr × Obj)} {H' : Hp}, (∀ p ∈ base', So = some p.1) → (∀ b ∈ fp, H' b = none) → ∀ b ∈ fp, FpOk X (base' ++ ip) H' b := fun {base' H'} hb' hn b hb => by
    obtain ⟨q1, q2, q3, q4, q5, q6⟩ := f2 b hb
    refine ⟨hn b hb, q2, q3, q4, q5, fun p hp => ?_⟩
    rcases List.mem_append.mp hp with hp | hp
    · exact q6 p (List.mem_append_left _ hp)
    · rcases List.mem_append.mp hp with hp | hp
      · obtain ⟨o, ho⟩ := hbo p.1 (hb' p hp)
        exact q6 (p.1, o) (List.mem_append_right _ (List.mem_append_left _ ho))
      · exact q6 p (List.mem_append_right _ (List.mem_append_right _ hp))
  have notS : ∀ S, So = some S → ∀ b ∈ fp, b ≠ S := fun S hS b hb z => by
    obtain ⟨o, ho⟩ := hbo S hS
    obtain ⟨_, _, _, _, _, q6⟩ := f2 b hb
    exact q6 (S, o) (List.mem_append_right _ (List.mem_append_left _ ho)) z.symm
  have gl := fun (kk : Result → Sem PySem.Fin) => gcz_loop (k := kk) (c' := .forLoop tg (.ref it) body [] X.env) (l := lv []) (kp := []) (p := p) gc rfl rfl
  have loop : ∀ (m i n : Nat) (ys : List V) (s₀ s : Shared) (σ : L2.St) (H : Hp), n + ys.length = sizeLine → W i m ys σ H → GIz X So ip ys σ H s → tn i s.heap → (∀ b ∈ fp, H b = none) →
      Seg (model X.prog X.w) A R (YZ X So D.yd) n s₀ (.forLoop tg (.ref it) body [] X.env) ((model X.prog X.w).den (.forLoop tg (.ref it) body [] X.env))
        (.ret (fun r => ((match r with | .ok f => (.pure f : Sem Flow) | .error e => .raise e).onRaise (cameBack X.env)).wrap K J gd lv) none (gd false) (lv []) c p [] :: fs) s := by
    intro m
    induction m using Nat.strongRecOn with
    | ind m ih =>
      intro i n ys s₀ s3 σ3 H3 hn w3 hI3 st3 fr3
      have ee : ∀ (n : Nat) (s₀ : Shared) (x : Value) (s' : Shared), X.xe x s' → Seg (model X.prog X.w) A R (YZ X So D.yd) n s₀ (.forLoop tg (.ref it) body [] X.env)
          ((do noteFrame x X.env; theTreesLotGoes x : Sem Unit).wrap (fun _ => .raise x) .raise id id)
          (.ret (fun r => ((match r with | .ok f => (.pure f : Sem Flow) | .error e => .raise e).onRaise (cameBack X.env)).wrap K J gd lv) none (gd false) (lv []) c p [] :: fs) s' := fun n s₀ x s' hx => by
        refine seg_wrap ?_
        rw [(gl _).over]
        refine wpAny_bind (wpAny_mono (hp x s' hx) (fun _ s'' hcb => wpAny_theTreesLotGoes ?_) fun y s'' hcb => ?_)
        · exact seg_leaf (.error x) (seg_cameBackz gc k hcb)
        · exact seg_leaf (.error y) (seg_cameBackz gc k hcb)
      obtain ⟨base3, hbs3, hbo3, I3, back3⟩ := hI3.open
      refine seg_forLoop ?_
      rw [(gl _).over]
      rcases turn i m ys σ3 H3 w3 with ⟨stop, qn⟩ | ⟨go, N, hN, step⟩
      · refine wpAny_mono (T.done X rfl rfl rfl hc i _ s3 σ3 H3 X.xe I3 (stat hbs3 fr3) st3 stop) (fun r s4 ⟨hr, I4⟩ => ?_) fun x s' hx => ee n s₀ x s' hx
        subst hr
        refine seg_again rfl (seg_block (seg_execs_nil ?_))
        exact seg_leaf (.ok .next) (k.ok n ys s₀ s4 .next hn ⟨σ3, H3, back3 _ _ _ _ I4, qn⟩)
      · refine wpAny_mono (T.item X rfl rfl rfl hc i _ s3 σ3 H3 X.xe I3 (stat hbs3 fr3) st3 go) (fun r s4 ⟨u, hr, h4⟩ => ?_) fun x s' hx => ee n s₀ x s' hx
        subst hr
        refine wpAny_mono h4 (fun _ s5 ⟨x, H5, I5, r5, y5, st5, fr5⟩ => ?_) fun x s' hx => ee n s₀ x s' hx
        have I5' := I5.pinned (stat hbs3 fr5) (T.obj _ _ st5)
        refine wpAny_mono (hg.run _ s5 σ3 H5 x u _ I5' r5 (step x H5 y5)) (fun _ s6 ⟨σ6, H6, I6, q6⟩ => ?_) fun x s' hx => ee n s₀ x s' hx
        rw [List.append_assoc] at I6
        have G6 := back3 _ _ _ _ I6
        have gc6 := (gl (fun r => ((match r with | .ok f => (.pure f : Sem Flow) | .error e => .raise e).onRaise (cameBack X.env)).wrap K J gd lv)).more (ip' := ip ++ pinsAt fp s5.heap) (fun S hS p hp => by
          rcases List.mem_append.mp hp with hp | hp
          · exact gc.ip S hS p hp
          · exact notS S hS p.1 (of_pinsAt hp).1)
        refine hb.run A So _ R n ys s₀ _ _ _ _ id id s6 σ6 H6 { D with nx := N, ct := N, bk := D.nx } gc6 hn ⟨fun n' ys' s₀' s7 f hn' hs7 => ?_, fun n' s₀' x s7 hx => ee n' s₀' x s7 hx⟩ G6 q6
        have un : ∀ {ys7 : List V} {σ7 : L2.St} {H7 : Hp}, GIz X So (ip ++ pinsAt fp s5.heap) ys7 σ7 H7 s7 → GIz X So ip ys7 σ7 H7 s7 ∧ tn (i + 1) s7.heap ∧ ∀ b ∈ fp, H7 b = none := fun {ys7 σ7 H7} G7 => by
          obtain ⟨base7, _, _, I7, back7⟩ := G7.open
          rw [← List.append_assoc] at I7
          refine ⟨back7 _ _ _ _ I7.unpinned, T.keep _ _ _ st5 fun b hb o e => (I7.pin (b, o) (List.mem_append_right _ (List.mem_append_right _ (mem_pinsAt hb e)))).1, fun b hb => ?_⟩
          obtain ⟨o, e, d⟩ := T.obj _ _ st5 b hb
          exact (I7.pin (b, o) (List.mem_append_right _ (List.mem_append_right _ (mem_pinsAt hb e)))).2.1
        cases f with
        | next =>
          obtain ⟨σ7, H7, G7, n7⟩ := hs7
          obtain ⟨m', hm, w7⟩ := hN ys' σ7 H7 n7
          obtain ⟨u1, u2, u3⟩ := un G7
          exact seg_again rfl (ih m' hm (i + 1) n' ys' s₀' s7 σ7 H7 hn' w7 u1 u2 u3)
        | cont =>
          obtain ⟨σ7, H7, G7, n7⟩ := hs7
          obtain ⟨m', hm, w7⟩ := hN ys' σ7 H7 n7
          obtain ⟨u1, u2, u3⟩ := un G7
          exact seg_again rfl (ih m' hm (i + 1) n' ys' s₀' s7 σ7 H7 hn' w7 u1 u2 u3)
        | brk =>
          obtain ⟨σ7, H7, G7, q7⟩ := hs7
          exact seg_leaf (.ok .next) (k.ok n' ys' s₀' s7 .next hn' ⟨σ7, H7, (un G7).1, q7⟩)
        | ret v =>
          obtain ⟨x7, σ7, H7, G7, r7, q7⟩ := hs7
          exact seg_leaf (.ok (.ret v)) (k.ok n' ys' s₀' s7 (.ret v) hn' ⟨x7, σ7, H7, (un G7).1, r7, q7⟩)
  exact loop m0 0 n ys s₀ s2 σ H2 hn w0 (back _ _ _ _ I2) st2 fun b hb => (f2 b hb).1
/-! ### as the library's generator bodies are -/
theorem gss_of {sts : List Stmt} {t : TZn} (h : GSsz X sts t) : GSs X sts (fun D ys σ H => t { nx := D.nx, rt := D.rt, bk := D.bk, ct := D.ct } ys σ H) := by
  refine ⟨fun A S ip R n ys s₀ c fs K J gd lv s σ H D g hn k hI ht => ?_⟩
  refine h.run A (some S) ip R n ys s₀ c fs K J gd lv s σ H { nx := D.nx, rt := D.rt, bk := D.bk, ct := D.ct } ⟨?_, ?_, ?_, g.over, g.split, g.guard, g.gd⟩ hn ⟨fun n' ys' s₀' s' f hn' hs => ?_, k.exc⟩ hI ht
  · intro S' hS
    cases hS
    exact g.pn
  · intro S' hS
    cases hS
    exact g.ip
  · intro S' hS
    cases hS
    exact g.apart
  · refine k.ok n' ys' s₀' s' f hn' ?_
    cases f with
    | next => exact hs
    | brk => exact hs
    | cont => exact hs
    | ret u => exact hs
end
/-! ### the first item alone -/
def RF (P : Program) (w : World) (outer : List Env) (H : Hp) (s : Shared) (Qe : Hp → Prop) : GenEnd := fun _ _ r s1 =>
  ((r = .ok (.ret .none) ∨ r = .ok .next) ∧ ∃ H', s1.os = s.os ∧ AllBare s1.gens ∧ Un (frs outer) [] H H' s.heap s1.heap ∧ HOk P w H' s1.heap ∧ Qe H') ∨ ∃ e, r = .error e ∧ (fun (_ : Value) (_ : Shared) => False) e s1
def YF (P : Program) (w : World) (outer : List Env) (H : Hp) (s : Shared) (Yd : V → Hp → Prop) : Protocol := fun _ _ v s1 _ =>
  ∃ x H', s1.os = s.os ∧ AllBare s1.gens ∧ Un (frs outer) [] H H' s.heap s1.heap ∧ HOk P w H' s1.heap ∧ RelV x v ∧ Yd x H'
def GMadeF (P : Program) (w : World) (k : Nat) (outer : List Env) (H : Hp) (s : Shared) (Yd : V → Hp → Prop) (Qe : Hp → Prop) (u : Value) (s' : Shared) : Prop :=
  ∃ (a : Addr) (g : Nat) (c : Code), u = .ref a ∧ s'.heap.IsGen a g ∧ s'.gens[g]? = some (.fresh c) ∧ s'.os = s.os ∧ AllBare s'.gens ∧ s'.heap.NoLimit ∧ (∀ b o, s.heap.get? b = some o → s'.heap.get? b = some o) ∧
    ∀ (A : Around) (s2 : Shared), Room k A → A.frames = some outer → (∀ b o, s'.heap.get? b = some o → s2.heap.get? b = some o) → s2.os = s.os → AllBare s2.gens →
      Seg (model P w) A (RF P w outer H s Qe) (YF P w outer H s Yd) sizeLine s2 c ((model P w).den c) [] s2
/-- the promise: what is told of the first item, what of the end if there is none -/
abbrev SpF := List V → Hp → (V → Hp → Prop) → (Hp → Prop) → Prop
structure GFnF (P : Program) (w : World) (K : PySem.W.Frag) (mg : Str → Option Value) (base : Heap) (k : Nat) (f : Addr) (fd : FuncData) (ps : List Str) (sp : SpF) : Prop where
  len : ∀ vs H Yd Qe, sp vs H Yd Qe → vs.length = ps.length
  run : ∀ (A : Around) (outer : List Env) (s : Shared) (H : Hp) (args : Args) (us : List Value) (vs : List V) (Yd : V → Hp → Prop) (Qe : Hp → Prop), Room k A → Env0 P w K mg base A outer s H → BindsTo s fd args (ps.zip us) → Vals vs us → sp vs H Yd Qe →
    codeAny (model P w) A (.call (.ref f) args) (fun r s' => match r with | .ok (.ret u) => GMadeF P w k outer H s Yd Qe u s' | _ => False) s
theorem gfnF_of {P : Program} {w : World} {K : PySem.W.Frag} {mg : Str → Option Value} {base : Heap} {k : Nat} {f : Addr} {name qual : Str} {params : Arguments} {body : List Stmt} {scope : Scope} {dV kV doc pm cdv ct oc : Value} {an od : Option Addr}
    {osl : Array (Option Value)} {N ps : List Str} {sp : SpF} (lk : K.lookup f = some ⟨oc, od, .func (PySem.W.fnOf name qual params body scope dV kV doc pm an cdv ct), osl⟩) (hcd : PySem.W.codeIn K cdv qual = true) (S : GScope N ps scope)
    (len : ∀ vs H Yd Qe, sp vs H Yd Qe → vs.length = ps.length)
    (hbody : ∀ (A : Around) (outer : List Env) (s : Shared) (H : Hp) (vs : List V) (Yd : V → Hp → Prop) (Qe : Hp → Prop), Room k (A.deeper (envOfC qual scope s.heap.objs.size f cdv)) → sp vs H Yd Qe →
      ∃ t, GSsz (gcxOf P w K mg base N qual scope f cdv A outer s H (fun _ _ _ => False) []) body t ∧ t { nx := fun ys _ H' => ys = [] → Qe H', rt := fun ys v H' => v = .non ∧ (ys = [] → Qe H'), yd := Yd } [] (start N vs) H) :
    GFnF P w K mg base (k + 1) f (PySem.W.fnOf name qual params body scope dV kV doc pm an cdv ct) ps sp := by
  refine ⟨len, fun A outer s H args us vs Yd Qe hr e0 hb r hsp => ?_⟩
  have hl := len _ _ _ _ hsp
  have KX : K.In s.heap := e0.mod.kin.keeps fun b o e => (e0.bs b o e).1
  have lim : s.heap.NoLimit := e0.mod.nolimit.keeps fun b o e => (e0.bs b o e).1
  have hkind : ∀ y ∈ ps.zip us, scope.names.lookup y.1 = some .local ∨ (scope.names.lookup y.1 = some .cell ∧ ((cellsFrom (s.heap.objs.size + 1) scope.names []).lookup y.1).isSome = true) := fun ⟨n, v⟩ hy => by
    rcases S.par n (List.of_mem_zip hy).1 with q | q
    · exact .inl q
    · exact .inr ⟨q, PySem.W.cellsFrom_some _ _ _ (.inl q)⟩
  refine codeAny_call_generator hr.depth (KX _ _ lk) rfl S.co S.gen rfl (PySem.W.codeRec_of KX hcd) (hb _ _ _ _ ?_)
  refine wpAny_newFunctionEnv_cells S.kind hkind fun env he s1 x => ?_
  subst he
  have lim1 : s1.heap.NoLimit := lim.keeps x.toInCall.keep
  refine ⟨lim1, ?_⟩
  obtain ⟨h1, tk, es1, hk1⟩ := x.done
  have os1 : s1.os = s.os := by rw [es1]
  have gen1 : s1.gens = s.gens := by rw [es1]
  have kp1 : ∀ b o, s.heap.get? b = some o → s1.heap.get? b = some o := x.toInCall.keep
  have main : ∀ (go : Obj) (nm qn : Value) (tk2 : Nat), go.cls = .type "generator" → go.data = .fields #[.int s1.gens.size 0, nm, qn] → go.slots = #[] → (∀ h : Heap, (h.push go).get? h.objs.size = some go) →
      GMadeF P w (k + 1) outer H s Yd Qe (.ref s1.heap.objs.size) { s1 with gens := s1.gens.push (.fresh (.func body (envOfC qual scope s.heap.objs.size f cdv))), toks := tk2, heap := s1.heap.push go } := by
    intro go nm qn tk2 hgc hgd0 hgs hgp
    refine ⟨s1.heap.objs.size, s1.gens.size, _, rfl, ⟨go, nm, qn, hgp _, hgc, hgd0, hgs⟩, Array.getElem?_push_size .., os1, ?_, lim1.keeps fun b o e => Heap.get?_push_of_some _ e, fun b o e => Heap.get?_push_of_some _ (kp1 b o e), ?_⟩
    · exact AllBare.push (by rw [gen1]; exact e0.bare) rfl
    intro Aw s2 hrw hfr hk2 hos hba
    have e0w : Env0 P w K mg base Aw outer s H := ⟨hfr, e0.mod, e0.bs, e0.bsz, e0.funs, e0.frf, e0.hok, e0.bare⟩
    obtain ⟨t, ht, hq⟩ := hbody Aw outer s H vs Yd Qe (hrw.deeper _) hsp
    have I1 : Inv (gcxOf P w K mg base N qual scope f cdv Aw outer s H (fun _ _ _ => False) []) [] (start N vs) H s1 := inv_startG S hrw.hd e0w hl r x
    have kp2 : ∀ b o, s1.heap.get? b = some o → s2.heap.get? b = some o := fun b o e => hk2 b o (Heap.get?_push_of_some _ e)
    have I2 : Inv (gcxOf P w K mg base N qual scope f cdv Aw outer s H (fun _ _ _ => False) []) [] (start N vs) H s2 :=
      I1.call' (ch := []) (hos.trans os1.symm) (Un.kept kp2) (I1.hok.kept kp2) hba fun b z => by simp at z
    refine seg_func ?_
    refine seg_imp (R := RF P w outer H s Qe) (Y := YZ (gcxOf P w K mg base N qual scope f cdv Aw outer s H (fun _ _ _ => False) []) none Yd) (fun n s₀ r s1' hR => hR) (fun n s₀ v s1' kap kap' hkk hY => ?_) sizeLine ?_
    · obtain ⟨xx, ip, σ', H', rv, J, hy⟩ := hY
      exact ⟨xx, H', J.os, J.bare, J.base, J.hok, rv, hy⟩
    · refine ht.run Aw none [] _ sizeLine [] s2 _ [] _ _ id id s2 (start N vs) H { nx := fun ys _ H' => ys = [] → Qe H', rt := fun ys v H' => v = .non ∧ (ys = [] → Qe H'), yd := Yd }
        ⟨?_, ?_, ?_, over_func, rfl, rfl, rfl⟩ (Nat.add_zero _) ⟨fun n ys s₀ s' fl hn hs => ?_, fun n s₀ e s' hx => ?_⟩ ⟨rfl, I2⟩ hq
      · intro S' hS
        cases hS
      · intro S' hS
        cases hS
      · intro S' hS
        cases hS
      · cases fl with
        | next =>
          obtain ⟨σ', H', ⟨ey, J⟩, hQ⟩ := hs
          exact seg_end (.ok (.ret .none)) (.inl ⟨.inl rfl, H', J.os, J.bare, J.base, J.hok, hQ ey⟩)
        | brk => obtain ⟨_, _, _, q⟩ := hs; exact False.elim q
        | cont => obtain ⟨_, _, _, q⟩ := hs; exact False.elim q
        | ret u =>
          obtain ⟨v, σ', H', ⟨ey, J⟩, rv, ev, hQ⟩ := hs
          subst ev
          have eu : u = Value.none := rv
          subst eu
          exact seg_end (.ok (.ret .none)) (.inl ⟨.inl rfl, H', J.os, J.bare, J.base, J.hok, hQ ey⟩)
      · refine seg_wrap ?_
        rw [over_func]
        refine wpAny_mono (show wpAny (model P w) (Aw.deeper (envOfC qual scope s.heap.objs.size f cdv)) (leaving (envOfC qual scope s.heap.objs.size f cdv) e) (fun _ s'' => CX P w outer H s (fun _ _ _ => False) e s'' ∧ ∀ p ∈ ([] : List (Addr × Obj)), s''.heap.get? p.1 = some p.2) (fun _ _ => False) s' from hx) (fun _ s'' q => ?_) fun _ s'' q => q.elim
        obtain ⟨_, _, _, _, _, _, _, _, _, _, _, _, z⟩ := q.1
        exact z.elim
  exact main _ _ _ _ rfl rfl rfl fun h => Heap.get?_push_size _ rfl
/-- an expression whose value is such a generator -/
abbrev TGenF := L2.St → Hp → (V → Hp → Prop) → (Hp → Prop) → Prop
structure PGenF (X : Cx) (k : Nat) (e : Expr) (tg : TGenF) : Prop where
  run : ∀ (pins : List (Addr × Obj)) (s : Shared) (σ : L2.St) (H : Hp) (Yd : V → Hp → Prop) (Qe : Hp → Prop), Inv X pins σ H s → tg σ H Yd Qe → wpAny (model X.prog X.w) X.A (eval e X.env)
    (fun u s' => ∃ H1 sc, Inv X pins σ H1 sc ∧ GMadeF X.prog X.w k X.stack H1 sc Yd Qe u s') X.xe s
section
variable {X : Cx} {k : Nat} {f : Addr} {fd : FuncData} {ps : List Str} {sp : SpF} {x : Str} {p pos' pos : Pos}
def tCallF (sp : SpF) (t : TA) : TGenF := fun σ H Yd Qe => t σ H fun vs H1 => sp vs H1 Yd Qe
theorem pgenF_call {e : Expr} {es : List Expr} {t : TA} (F : GFnF X.prog X.w X.K X.mg X.base k f fd ps sp) (hr : Room k X.A) (hg : Gl X x) (hm : X.mg x = some (.ref f)) (hk : PySem.W.keepIn X.K (.ref f) = true) (hb : Binds X.K fd ps [])
    (ha : PA X (e :: es) t) (hdb : (x == ("__debug__" : Str)) = false := by decide) (he : starEach (e :: es) X.env = (false, eval e X.env) :: starEach es X.env := by rfl) (hpl : (backTo pos' (starEach es X.env)).any (·.1) = false := by rfl) :
    PGenF X k (.Call (.Name x p) (e :: es) [] pos') (tCallF sp t) := by
  refine ⟨fun pins s σ H Yd Qe I h => ?_⟩
  refine wpAny_Call_Name_kw (ld_glob I hg hm ?_ hdb)
  refine PySem.W.callWith_K (h₀ := X.base) I.ok.mod.kin hk (thn (ha.run pos' pins s σ H _ I h) fun us s1 ⟨vs, H1, I1, r, q⟩ => ⟨I1.kIn, ?_⟩) he hpl
  have hl : us.length = ps.length := by rw [← r.length]; exact F.len _ _ _ _ q
  have b := hb s1 us I1.kIn (by rw [List.append_nil]; exact hl)
  rw [List.append_nil] at b
  refine wpAny_call (codeAny_mono (F.run X.A X.stack s1 H1 ⟨us, []⟩ us vs Yd Qe hr I1.env0 b r q) fun r s' hq => ?_)
  cases r with
  | error e => exact False.elim hq
  | ok fl =>
    cases fl with
    | ret u => exact ⟨H1, s1, I1, hq⟩
    | next => exact False.elim hq
    | brk => exact False.elim hq
    | cont => exact False.elim hq
def tFor1 (tg : TGenF) (g : TG) (tb : TS) : TS := fun D σ H => tg σ H (fun x H1 => g x σ H1 fun σ2 H2 => tb { D with nx := fun _ _ => False, ct := fun _ _ => False, bk := D.nx } σ2 H2) fun H1 => D.nx σ H1
theorem ps_for1 {iter target : Expr} {body : List Stmt} {tg : TGenF} {g : TG} {tb : TS} (hp : PassesOwn (model X.prog X.w) X.A X.env X.xe) (hc : X.calm = true) (h : PGenF X k iter tg) (hr : Room (k + 3) X.A) (hg : PG X target g) (hb : PSs X body tb)
    (hs : ∀ x, foldedSetIterable iter X.env x = pure x := by intro _; rfl) (ht : ∀ it v, letOwnedTupleGo target it v = pure () := by intro _ _; rfl) : PS X (.For target iter body [] pos) (tFor1 tg g tb) := by
  refine ⟨fun pins s σ H D I hw => ?_⟩
  refine wpAny_For (thn (h.run pins s σ H _ _ I hw) fun u s1 ⟨H1, sc, I1, hG⟩ => ?_) hs
  obtain ⟨a, g', c, rfl, hgen, hgs, hos, hba, hlim, hkp, wake⟩ := hG
  refine wpAny_pyIter_gen hgen ?_
  refine codeAny_forLoop_any (fun n s' => n = 0 ∧ s' = s1) ?_ 0 ⟨rfl, rfl⟩
  rintro n s3 ⟨rfl, rfl⟩
  have hr1 : Room k X.A.in1 := ⟨hr.hd, by have := hr.dp; show X.A.depth + 3 * k + 5 < _; omega, by have := hr.un; show X.A.units + 1 + 16 * k + 200 < _; omega⟩
  have fin : ∀ (s1 : Shared) (gg : Array GenState) (h' : Heap) (H' : Hp), s1.os = sc.os → AllBare gg → Un (frs X.stack) [] H1 H' sc.heap h' → HOk X.prog X.w H' h' → Inv X pins σ H' { s1 with gens := gg, heap := h' } := fun s1 gg h' H' e1 e2 e3 e4 =>
    I1.call' (ch := []) e1 e3 e4 e2 fun b z => by simp at z
  refine wpAny_passesOwn hp ?_
  refine next_genG (Er := fun _ _ => False) (F := fun _ _ s1 => ∃ H', s1.os = sc.os ∧ AllBare s1.gens ∧ Un (frs X.stack) [] H1 H' sc.heap s1.heap ∧ HOk X.prog X.w H' s1.heap ∧ _) (Y := YF X.prog X.w X.stack H1 sc _) (n := sizeLine) hr.hd hlim (by have := hr.dp; show X.A.depth < _; omega) hgen hgs
    ⟨rfl, wake X.A.in1 (s3.setGen g' .running) hr1 I1.ok.frames (fun _ _ e => e) hos (allBare_setGen hba rfl)⟩ (fun v s4 gs' hbare hv => ?_) (fun s4 hp4 h' hk => ?_) fun e s4 he => he.elim
  · obtain ⟨xx, H', q1, q2, q3, q4, rv, hy⟩ := hv
    have I4 : Inv X pins σ H' (s4.setGen g' gs') := fin s4 _ s4.heap H' q1 (allBare_setGen q2 hbare) q3 q4
    refine wpAny_of_eq (ht _ v) ?_
    refine wpAny_passesOwn hp (thn (hg.run _ _ σ H' xx v _ I4 rv hy) fun _ s6 ⟨σ6, H6, I6, q6⟩ => ?_)
    refine wpAny_passesOwn hp (thn (hb.run _ s6 σ6 H6 _ I6 q6) fun f s7 q7 => ?_)
    cases f with
    | next => obtain ⟨_, _, _, q⟩ := q7; exact False.elim q
    | cont => obtain ⟨_, _, _, q⟩ := q7; exact False.elim q
    | brk => obtain ⟨σ7, H7, I7, q7⟩ := q7; exact ⟨σ7, H7, I7, q7⟩
    | ret v => obtain ⟨x7, σ7, H7, I7, r7, q7⟩ := q7; exact ⟨x7, σ7, H7, I7, r7, q7⟩
  · obtain ⟨H', q1, q2, q3, q4, hq⟩ := hp4
    exact wpAny_execs_nil ⟨σ, H', fin s4 _ h' H' q1 (allBare_setGen q2 rfl) (q3.trans (Un.kept hk)) (q4.kept hk), hq⟩
end
/-! ### by a def of the text -/
section
variable {P : Program} {w : World} {K : PySem.W.Frag} {mg : Str → Option Value} {base : Heap}
theorem okF {x qual : Str} {st : Stmt} {f : Addr} {fd : FuncData} {N ps : List Str} {k : Nat} {sp : SpF} (F : Fun K x qual st f fd) (S : GScope N ps (defScope st)) (len : ∀ vs H Yd Qe, sp vs H Yd Qe → vs.length = ps.length)
    (hbody : ∀ (cdv : Value) (A : Around) (outer : List Env) (s : Shared) (H : Hp) (vs : List V) (Yd : V → Hp → Prop) (Qe : Hp → Prop), Room k (A.deeper (envOfC qual (defScope st) s.heap.objs.size f cdv)) → sp vs H Yd Qe →
      ∃ t, GSsz (gcxOf P w K mg base N qual (defScope st) f cdv A outer s H (fun _ _ _ => False) []) (defBody st) t ∧ t { nx := fun ys _ H' => ys = [] → Qe H', rt := fun ys v H' => v = .non ∧ (ys = [] → Qe H'), yd := Yd } [] (start N vs) H) :
    GFnF P w K mg base (k + 1) f fd ps sp := by
  obtain ⟨oc, od, kV, doc, pm, an, cdv, ct, osl, rfl, lk, hcd⟩ := F.ex
  exact gfnF_of lk hcd S len fun A outer s H vs Yd Qe hr hsp => hbody cdv A outer s H vs Yd Qe hr hsp
theorem okG {x qual : Str} {st : Stmt} {f : Addr} {fd : FuncData} {N ps : List Str} {k : Nat} {sp : SpG} (F : Fun K x qual st f fd) (S : GScope N ps (defScope st)) (len : ∀ vs H Q E, sp vs H Q E → vs.length = ps.length)
    (hbody : ∀ (cdv : Value) (A : Around) (outer : List Env) (s : Shared) (H : Hp) (vs : List V) (Q : List V → Hp → Prop) (E : XK) (pn : List (Addr × Obj)), Room k (A.deeper (envOfC qual (defScope st) s.heap.objs.size f cdv)) → sp vs H Q E →
      ∃ t, GSsz (gcxOf P w K mg base N qual (defScope st) f cdv A outer s H E pn) (defBody st) t ∧ t { nx := fun ys _ H' => Q ys H', rt := fun ys v H' => v = .non ∧ Q ys H' } [] (start N vs) H) :
    GFn P w K mg base (k + 1) f fd ps sp := by
  obtain ⟨oc, od, kV, doc, pm, an, cdv, ct, osl, rfl, lk, hcd⟩ := F.ex
  refine gfn_of lk hcd S len fun A outer s H vs Q E pn hr hsp => ?_
  obtain ⟨t, ht, hq⟩ := hbody cdv A outer s H vs Q E pn hr hsp
  exact ⟨_, gss_of ht, hq⟩
end
/-! ### walks in generators -/
theorem zfor_list {K : PySem.W.Frag} {a : Addr} {xs : List V} {g : TG} {tb : TZn} {D : ZEnds} {ys : List V} {σ : L2.St} {H : Hp} (Pv : Nat → List V → L2.St → Hp → Prop) (h0 : Pv 0 ys σ H) (hl : ∀ i ys σ H, i ≤ xs.length → Pv i ys σ H → SqL K H a xs)
    (hs : ∀ i x ys σ H, xs[i]? = some x → Pv i ys σ H → g x σ H fun σ2 H2 => tb { D with nx := Pv (i + 1), ct := Pv (i + 1), bk := D.nx } ys σ2 H2) (hd : ∀ ys σ H, Pv xs.length ys σ H → D.nx ys σ H) :
    ∃ W : Nat → Nat → List V → L2.St → Hp → Prop, (∃ m, W 0 m ys σ H) ∧ ∀ i m ys σ H, W i m ys σ H →
      ((Itl K a).stop i H ∧ D.nx ys σ H) ∨ ((Itl K a).go i H ∧ ∃ N : List V → L2.St → Hp → Prop, (∀ ys' σ' H', N ys' σ' H' → ∃ m', m' < m ∧ W (i + 1) m' ys' σ' H') ∧ ∀ x H', (Itl K a).yld i H x H' → g x σ H' fun σ2 H2 => tb { D with nx := N, ct := N, bk := D.nx } ys σ2 H2) := by
  refine ⟨fun i m ys σ H => m = xs.length - i ∧ i ≤ xs.length ∧ Pv i ys σ H, ⟨xs.length, by simp, Nat.zero_le _, h0⟩, ?_⟩
  rintro i m ys σ H ⟨rfl, hi, p⟩
  have q := hl i ys σ H hi p
  by_cases hlt : i < xs.length
  · refine .inr ⟨⟨xs, xs[i], q, by simp [hlt]⟩, Pv (i + 1), fun ys' σ' H' p' => ⟨xs.length - (i + 1), by omega, rfl, hlt, p'⟩, fun x H' y => ?_⟩
    obtain ⟨e, y⟩ := y
    subst e
    exact hs i x ys σ _ (y xs q) p
  · have e : i = xs.length := by omega
    subst e
    exact .inl ⟨⟨xs, q, Nat.le_refl _⟩, hd ys σ H p⟩
theorem zfor_vals {d : Addr} {o : Obj} {kvs : List (Key × V)} {g : TG} {tb : TZn} {D : ZEnds} {ys : List V} {σ : L2.St} {H : Hp} (Pv : Nat → List V → L2.St → Hp → Prop) (h0 : Pv 0 ys σ H) (hl : ∀ i ys σ H, i ≤ kvs.length → Pv i ys σ H → H d = some (.frz o (.dK kvs)))
    (hs : ∀ i k x ys σ H, kvs[i]? = some (k, x) → Pv i ys σ H → g x σ H fun σ2 H2 => tb { D with nx := Pv (i + 1), ct := Pv (i + 1), bk := D.nx } ys σ2 H2) (hd : ∀ ys σ H, Pv kvs.length ys σ H → D.nx ys σ H) :
    ∃ W : Nat → Nat → List V → L2.St → Hp → Prop, (∃ m, W 0 m ys σ H) ∧ ∀ i m ys σ H, W i m ys σ H →
      ((Itd d o kvs).stop i H ∧ D.nx ys σ H) ∨ ((Itd d o kvs).go i H ∧ ∃ N : List V → L2.St → Hp → Prop, (∀ ys' σ' H', N ys' σ' H' → ∃ m', m' < m ∧ W (i + 1) m' ys' σ' H') ∧ ∀ x H', (Itd d o kvs).yld i H x H' → g x σ H' fun σ2 H2 => tb { D with nx := N, ct := N, bk := D.nx } ys σ2 H2) := by
  refine ⟨fun i m ys σ H => m = kvs.length - i ∧ i ≤ kvs.length ∧ Pv i ys σ H, ⟨kvs.length, by simp, Nat.zero_le _, h0⟩, ?_⟩
  rintro i m ys σ H ⟨rfl, hi, p⟩
  have q := hl i ys σ H hi p
  by_cases hlt : i < kvs.length
  · refine .inr ⟨⟨q, hlt⟩, Pv (i + 1), fun ys' σ' H' p' => ⟨kvs.length - (i + 1), by omega, rfl, hlt, p'⟩, fun x H' y => ?_⟩
    obtain ⟨e, k, y⟩ := y
    subst e
    exact hs i k x ys σ _ y p
  · have e : i = kvs.length := by omega
    subst e
    exact .inl ⟨⟨q, Nat.le_refl _⟩, hd ys σ H p⟩
/-! ### a op b op c op d, as a test -/
def tChain3 (r r' r'' : R2) (ta tb tc td : TE) : TE := fun σ H Q => ta σ H fun x H1 => tb σ H1 fun y H2 => r x y H2 fun z H3 => ∃ k, z = .bl k ∧
  (if k = true then tc σ H3 fun u H4 => r' y u H4 fun z2 H5 => ∃ k2, z2 = .bl k2 ∧ (if k2 = true then td σ H5 fun v H6 => r'' u v H6 Q else Q (.bl false) H5) else Q (.bl false) H3)
section
variable {X : Cx} {a b c d : Expr} {ta tb tc td : TE} {pos : Pos}
theorem pt_chain3 {op op' op'' : CmpOp} {r r' r'' : R2} (ho : OpR X (compareOp op) r) (ho' : OpR X (compareOp op') r') (ho'' : OpR X (compareOp op'') r'') (ha : PE X a ta) (hb : PE X b tb) (hc : PE X c tc) (hd : PE X d td)
    (hm : lastMarks [op, op', op''] [b, c, d] = false := by with_unfolding_all rfl) : PT X (.Compare a [op, op', op''] [b, c, d] pos) (tTest (tChain3 r r' r'' ta tb tc td)) := by
  refine ⟨fun pins s σ H Q I h => ?_⟩
  refine isTrue_chain (thn (ha.run pins s σ H _ I h) fun v s1 ⟨x, H1, I1, r1, q1⟩ => test_link (thn (hb.run pins s1 σ H1 _ I1 q1) fun u s2 ⟨y, H2, I2, r2, q2⟩ =>
    thn (ho pins s2 σ H2 x y v u _ I2 r1 r2 q2) fun d s3 ⟨z, H3, I3, r3, k, e, q3⟩ => ?_)) hm
  subst e
  cases r3
  refine wpAny_truthy_bool ?_
  cases k with
  | false =>
    obtain ⟨k', e', q'⟩ := q3
    cases e'
    exact ite_ff ⟨H3, I3, q'⟩
  | true =>
    refine ite_tt (test_link (thn (hc.run pins s3 σ H3 _ I3 q3) fun w' s4 ⟨z', H4, I4, r4, q4⟩ => thn (ho' pins s4 σ H4 y z' u w' _ I4 r2 r4 q4) fun d' s5 ⟨z2, H5, I5, r5, k2, e2, q5⟩ => ?_))
    subst e2
    cases r5
    refine wpAny_truthy_bool ?_
    cases k2 with
    | false =>
      obtain ⟨k', e', q'⟩ := q5
      cases e'
      exact ite_ff ⟨H5, I5, q'⟩
    | true =>
      refine ite_tt (test_last (thn (hd.run pins s5 σ H5 _ I5 q5) fun w6 s6 ⟨z6, H6, I6, r6, q6⟩ => thn (ho'' pins s6 σ H6 z' z6 w' w6 _ I6 r4 r6 q6) fun d7 s7 ⟨z7, H7, I7, r7, k7, e7, q7⟩ => ?_))
      subst e7
      cases r7
      exact wpAny_truthy_bool ⟨H7, I7, q7⟩
end
end GZ

/-! ## pairs of tuples of ints; sorted(xs) of them -/
namespace My
open PySem PySem.Spec PyProof.Rows L2
/-- the pairs that are told, each a new tuple of two -/
inductive PT2 (H : Hp) : List Addr → List (List Int × List Int) → Prop
  | nil : PT2 H [] []
  | cons {q a b : Addr} {x y : List Int} {qs : List Addr} {ps : List (List Int × List Int)} : H q = some (.tup [.ref a, .ref b]) → H a = some (.tup (fI x)) → H b = some (.tup (fI y)) → PT2 H qs ps → PT2 H (q :: qs) ((x, y) :: ps)
theorem PT2.keep {H H' : Hp} {qs : List Addr} {ps : List (List Int × List Int)} (h : PT2 H qs ps) (e : ∀ b ys, H b = some (.tup ys) → H' b = some (.tup ys)) : PT2 H' qs ps := by
  induction h with
  | nil => exact .nil
  | cons a b c _ ih => exact .cons (e _ _ a) (e _ _ b) (e _ _ c) ih
theorem PT2.same {H H' : Hp} {qs : List Addr} {ps : List (List Int × List Int)} (h : PT2 H qs ps) (e : Same H H') : PT2 H' qs ps := h.keep fun _ _ z => e _ _ z
theorem PT2.snoc {H : Hp} {q a b : Addr} {x y : List Int} {qs : List Addr} {ps : List (List Int × List Int)} (h : PT2 H qs ps) (h1 : H q = some (.tup [.ref a, .ref b])) (h2 : H a = some (.tup (fI x))) (h3 : H b = some (.tup (fI y))) : PT2 H (qs ++ [q]) (ps ++ [(x, y)]) := by
  induction h with
  | nil => exact .cons h1 h2 h3 .nil
  | cons a b c _ ih => exact .cons a b c ih
theorem PT2.length {H : Hp} {qs : List Addr} {ps : List (List Int × List Int)} (h : PT2 H qs ps) : qs.length = ps.length := by
  induction h with
  | nil => rfl
  | cons a b c _ ih => rw [List.length_cons, List.length_cons, ih]
theorem PT2.get {H : Hp} {qs : List Addr} {ps : List (List Int × List Int)} (h : PT2 H qs ps) : ∀ {i : Nat} {v : V}, (qs.map V.ref)[i]? = some v → ∃ q a b x y, v = .ref q ∧ ps[i]? = some (x, y) ∧ H q = some (.tup [.ref a, .ref b]) ∧ H a = some (.tup (fI x)) ∧ H b = some (.tup (fI y)) := by
  induction h with
  | nil =>
    intro i v h
    simp at h
  | cons a b c _ ih =>
    intro i v h
    cases i with
    | zero =>
      simp at h
      exact ⟨_, _, _, _, _, h.symm, rfl, a, b, c⟩
    | succ i =>
      simp only [List.map_cons, List.getElem?_cons_succ] at h ⊢
      exact ih h
/-! ### the order of tuples of ints, as a number -/
theorem lex_code {B : Int} : ∀ {x y : List Int}, x.length = y.length → TS.Bd B x → TS.Bd B y → HT.lexLt x y = decide (TS.code B x < TS.code B y)
  | [], [], _, _, _ => by
    rw [decide_eq_false (Int.lt_irrefl _)]
    rfl
  | [], _ :: _, h, _, _ => by cases h
  | _ :: _, [], h, _, _ => by cases h
  | a :: x, b :: y, h, h1, h2 => by
    have hl : x.length = y.length := by simpa using h
    rw [HT.lexLt_cons]
    by_cases e : a = b
    · subst e
      rw [if_pos rfl, lex_code hl h1.tail h2.tail]
      exact decide_eq_decide.mpr (TS.code_same hl).symm
    · rw [if_neg e]
      refine decide_eq_decide.mpr ⟨fun z => TS.code_lt hl h1.tail h2.tail z, fun z => ?_⟩
      rcases Int.lt_trichotomy a b with y1 | y1 | y1
      · exact y1
      · exact absurd y1 e
      · have := TS.code_lt hl.symm h2.tail h1.tail y1
        omega
theorem code_app {B : Int} : ∀ (x u : List Int), TS.code B (x ++ u) = TS.code B x * B ^ u.length + TS.code B u
  | [], u => by
    show TS.code B u = 0 * B ^ u.length + TS.code B u
    rw [Int.zero_mul, Int.zero_add]
  | a :: x, u => by
    show a * B ^ (x ++ u).length + TS.code B (x ++ u) = (a * B ^ x.length + TS.code B x) * B ^ u.length + TS.code B u
    rw [code_app x u, List.length_append, Int.pow_add, Int.add_mul, ← Int.mul_assoc]
    omega
theorem bd_app {B : Int} {x u : List Int} (h1 : TS.Bd B x) (h2 : TS.Bd B u) : TS.Bd B (x ++ u) := fun m hm => (List.mem_append.mp hm).elim (h1 m) (h2 m)
/-- a pair as one list -/
def cat2 (p : List Int × List Int) : List Int := p.1 ++ p.2
def Ok33 (B : Int) (p : List Int × List Int) : Prop := (p.1.length = 3 ∧ TS.Bd B p.1) ∧ p.2.length = 3 ∧ TS.Bd B p.2
theorem Ok33.cat {B : Int} {p : List Int × List Int} (h : Ok33 B p) : (cat2 p).length = 6 ∧ TS.Bd B (cat2 p) := ⟨by
  unfold cat2
  rw [List.length_append, h.1.1, h.2.1], bd_app h.1.2 h.2.2⟩
theorem cat2_inj {B : Int} {p q : List Int × List Int} (h1 : Ok33 B p) (h2 : Ok33 B q) (e : cat2 p = cat2 q) : p = q := by
  have e' := List.append_inj e (by rw [h1.1.1, h2.1.1])
  exact Prod.ext e'.1 e'.2
theorem itemsInt {P : Program} {w : World} : ∀ {vs : List Value} {ns : List Int}, IntsAre vs ns → ItemsAre (PySem.intKind P w) ns vs := fun {vs ns} h => by
  induction h with
  | nil => exact .nil
  | cons p t _ ih => exact .cons (by show Value.isInt p (.int p t) = true; first | rfl | simp [Value.isInt] | decide) ih
theorem isT_of {P : Program} {w : World} {h : Heap} {a : Addr} {items : Array Value} {ns : List Int} (t : IsTup h a items) (i : IntsAre items.toList ns) : IsTupleKey (PySem.intKind P w) h ns a := by
  obtain ⟨o, ho, hc, n, hd⟩ := t
  exact ⟨o, items, n, ho, hc, hd, itemsInt i⟩
/-- v is a pair of tuples of ints -/
def PairT (h : Heap) (v : Value) (p : List Int × List Int) : Prop := ∃ q a b : Addr, v = .ref q ∧ IsTup h q #[.ref a, .ref b] ∧ TS.TupInts h (.ref a) p.1 ∧ TS.TupInts h (.ref b) p.2
theorem PairT.keeps {h h' : Heap} {v : Value} {p : List Int × List Int} (x : PairT h v p) (k : ∀ b o, h.get? b = some o → o.cls = .type "tuple" → h'.get? b = some o) : PairT h' v p := by
  obtain ⟨q, a, b, e, ⟨o, ho, hc, n⟩, h1, h2⟩ := x
  exact ⟨q, a, b, e, ⟨o, k _ _ ho hc, hc, n⟩, h1.keeps k, h2.keeps k⟩
theorem firstsP {h : Heap} {k : Value → List Int × List Int} : ∀ vs : List Value, (∀ v ∈ vs, PairT h v (k v)) → ∃ fs : List Value, PySem.W.KatTups h vs fs ∧ fs.length = vs.length ∧ ∀ f ∈ fs, ∃ (q : Addr) (o : Obj), f = Value.ref q ∧ h.get? q = some o ∧ o.cls = .type "tuple"
  | [], _ => ⟨[], PySem.W.KatTups.nil, rfl, fun f hf => by simp at hf⟩
  | v :: vs, x => by
    obtain ⟨fs, kk, hl, hi⟩ := firstsP vs fun u hu => x u (List.mem_cons_of_mem _ hu)
    obtain ⟨q, a, b, rfl, ⟨o, ho, hc, n, hd⟩, ⟨a2, xs2, e2, ⟨o2, ho2, hc2, _⟩, _⟩, _⟩ := x v (List.mem_cons_self ..)
    cases e2
    refine ⟨.ref a :: fs, PySem.W.KatTups.cons ho hc hd rfl kk, by rw [List.length_cons, List.length_cons, hl], fun f hf => ?_⟩
    rcases List.mem_cons.mp hf with rfl | hf
    · exact ⟨a, o2, rfl, ho2, hc2⟩
    · exact hi f hf
/-- which of two pairs is less, by the code of both lists in a row -/
def codeP (B : Int) (p : List Int × List Int) : Int := TS.code B (cat2 p)
theorem codeP_eq {B : Int} {p : List Int × List Int} (hp : Ok33 B p) : codeP B p = TS.code B p.1 * B ^ 3 + TS.code B p.2 := by
  unfold codeP cat2
  rw [code_app, hp.2.1]
theorem cat_lt {B : Int} {p q : List Int × List Int} (hp : Ok33 B p) (hq : Ok33 B q) (h : TS.code B p.1 < TS.code B q.1) : codeP B p < codeP B q := by
  rw [codeP_eq hp, codeP_eq hq]
  obtain ⟨c0, c1⟩ := TS.code_bd p.2 hp.2.2
  obtain ⟨g0, g1⟩ := TS.code_bd q.2 hq.2.2
  rw [hp.2.1] at c1
  exact TS.num2 c0 c1 g0 h
theorem codeP_lt1 {B : Int} {p q : List Int × List Int} (hp : Ok33 B p) (hq : Ok33 B q) (e : p.1 ≠ q.1) : HT.lexLt p.1 q.1 = decide (codeP B p < codeP B q) := by
  rw [lex_code (by rw [hp.1.1, hq.1.1]) hp.1.2 hq.1.2]
  rcases Int.lt_trichotomy (TS.code B p.1) (TS.code B q.1) with h | h | h
  · rw [decide_eq_true h, decide_eq_true (cat_lt hp hq h)]
  · exact absurd (code_inj hp.1.1 hq.1.1 hp.1.2 hq.1.2 h) e
  · have h' := cat_lt hq hp h
    rw [decide_eq_false (by omega), decide_eq_false (by omega)]
theorem codeP_lt2 {B : Int} {p q : List Int × List Int} (hp : Ok33 B p) (hq : Ok33 B q) (e : p.1 = q.1) : HT.lexLt p.2 q.2 = decide (codeP B p < codeP B q) := by
  rw [lex_code (by rw [hp.2.1, hq.2.1]) hp.2.2 hq.2.2, codeP_eq hp, codeP_eq hq, e]
  exact decide_eq_decide.mpr ⟨fun h => by omega, fun h => by omega⟩
theorem codeP_inj {B : Int} {p q : List Int × List Int} (hp : Ok33 B p) (hq : Ok33 B q) (e : codeP B p = codeP B q) : p = q := cat2_inj hp hq (code_inj hp.cat.1 hq.cat.1 hp.cat.2 hq.cat.2 e)
/-- a pair, read off the heap -/
def pairV (H : Hp) (v : V) : List Int × List Int := match v with
  | .ref q => match H q with
    | some (.tup [a, b]) => (intsV H a, intsV H b)
    | _ => ([], [])
  | _ => ([], [])
theorem pairV_of {H : Hp} {q a b : Addr} {x y : List Int} (h : H q = some (.tup [.ref a, .ref b])) (h1 : H a = some (.tup (fI x))) (h2 : H b = some (.tup (fI y))) : pairV H (.ref q) = (x, y) := by
  show (match H q with
    | some (.tup [a, b]) => (intsV H a, intsV H b)
    | _ => ([], [])) = (x, y)
  rw [h]
  show (intsV H (.ref a), intsV H (.ref b)) = (x, y)
  rw [intsV_of h1, intsV_of h2]
theorem PT2.mem {H : Hp} {qs : List Addr} {ps : List (List Int × List Int)} (h : PT2 H qs ps) : ∀ q ∈ qs, ∃ p ∈ ps, ∃ a b, H q = some (.tup [.ref a, .ref b]) ∧ H a = some (.tup (fI p.1)) ∧ H b = some (.tup (fI p.2)) := by
  induction h with
  | nil => exact fun _ h => absurd h (by simp)
  | cons h1 h2 h3 _ ih =>
    intro q hq
    rcases List.mem_cons.mp hq with rfl | hq
    · exact ⟨_, List.mem_cons_self, _, _, h1, h2, h3⟩
    · obtain ⟨p, hp, r⟩ := ih q hq
      exact ⟨p, List.mem_cons_of_mem _ hp, r⟩
theorem PT2.vals {H : Hp} {qs : List Addr} {ps : List (List Int × List Int)} (h : PT2 H qs ps) : ps = qs.map fun q => pairV H (.ref q) := by
  induction h with
  | nil => rfl
  | cons h1 h2 h3 _ ih => rw [List.map_cons, pairV_of h1 h2 h3, ← ih]
theorem pt2_of {H : Hp} : ∀ {qs : List Addr}, (∀ q ∈ qs, ∃ (p : List Int × List Int) (a b : Addr), H q = some (.tup [.ref a, .ref b]) ∧ H a = some (.tup (fI p.1)) ∧ H b = some (.tup (fI p.2))) → PT2 H qs (qs.map fun q => pairV H (.ref q))
  | [], _ => .nil
  | q :: qs, h => by
    obtain ⟨p, a, b, h1, h2, h3⟩ := h q List.mem_cons_self
    rw [List.map_cons, pairV_of h1 h2 h3]
    exact .cons h1 h2 h3 (pt2_of fun u hu => h u (List.mem_cons_of_mem _ hu))
def rSortP (K : PySem.W.Frag) (B : Int) : List V → Hp → VK → Prop := fun vs H Q => ∃ (a : Addr) (qs : List Addr) (ps : List (List Int × List Int)), vs = [V.ref a] ∧ SqL K H a (qs.map V.ref) ∧ PT2 H qs ps ∧ (∀ p ∈ ps, Ok33 B p) ∧
  ∀ qs' ps' z, PT2 H qs' ps' → ps'.Perm ps → ps'.Pairwise (fun x y => codeP B x ≤ codeP B y) → H z = none → Q (.ref z) (upd H z (.lst (qs'.map V.ref)))
theorem cr_sortP {X : Cx} {B : Int} (hu : X.A.units + 64 < cLine) : CallR X (.builtin "sorted") (rSortP X.K B) := by
  intro pins s σ H vs us Q I r h
  obtain ⟨a, qs, ps, rfl, hs, tu, hb, q⟩ := h
  obtain ⟨its, rv, hl, hz⟩ := I.list hs
  obtain ⟨u, rfl, ru⟩ := vals1 r
  obtain rfl : u = Value.ref a := ru
  obtain ⟨e1, e2⟩ := refs_back rv fun x m => by
    obtain ⟨t, _, e⟩ := List.mem_map.mp m
    exact ⟨t, e.symm⟩
  have key : ∀ v ∈ its, ∃ p, v = Value.ref p ∧ p ∈ qs := fun v hv => by
    obtain ⟨t, rfl⟩ := e2 v hv
    have hm : V.ref t ∈ qs.map V.ref := by rw [e1]; exact List.mem_map.mpr ⟨_, hv, rfl⟩
    obtain ⟨p, hp, e⟩ := List.mem_map.mp hm
    cases e
    exact ⟨t, rfl, hp⟩
  have ti : ∀ {b : Addr} {x : List Int}, H b = some (.tup (fI x)) → TS.TupInts s.heap (.ref b) x := fun {b x} hb' => by
    obtain ⟨its2, r2, pt, _⟩ := I.tuple (SqT.of hb')
    exact ⟨b, its2.toArray, rfl, pt, intsAre_of r2⟩
  have tin : ∀ v ∈ its, PairT s.heap v (pairV H (backV v)) ∧ Ok33 B (pairV H (backV v)) := fun v hv => by
    obtain ⟨p, rfl, hp⟩ := key v hv
    obtain ⟨xy, hm, a, b, h1, h2, h3⟩ := tu.mem p hp
    have ei : pairV H (backV (Value.ref p)) = xy := pairV_of h1 h2 h3
    rw [ei]
    obtain ⟨its2, r2, pt, _⟩ := I.tuple (SqT.of h1)
    obtain ⟨u1, u2, rfl, r1, r3⟩ := vals2 r2
    obtain rfl : u1 = Value.ref a := r1
    obtain rfl : u2 = Value.ref b := r3
    exact ⟨⟨p, a, b, rfl, pt, ti h2, ti h3⟩, hb _ hm⟩
  refine SrtO.sorted_ord (ltv := fun v u => decide (codeP B (pairV H (backV v)) < codeP B (pairV H (backV u)))) (swoC fun v => codeP B (pairV H (backV v))) hl.isList (by rw [← rv.length]; exact hz) (fun h2 h₁ a' ha' kk => ?_) fun out h1 h2 => ?_
  · intro h' keep
    have keep2 : ∀ b o, s.heap.get? b = some o → o.cls = .type "tuple" → h'.get? b = some o := fun b o e c => keep b o (kk b o e).1 (kk b o e).2
    have tin' : ∀ v ∈ its, PairT h' v (pairV H (backV v)) ∧ Ok33 B (pairV H (backV v)) := fun v hv => let ⟨x, y⟩ := tin v hv; ⟨x.keeps keep2, y⟩
    obtain ⟨fs, k1, k2, k3⟩ := firstsP (h := h') (k := fun v => pairV H (backV v)) its fun v hv => (tin' v hv).1
    refine ⟨tuples' false, fun Q E hq => ?_, ?_⟩
    · refine PySem.W.kat_kind (T := .type "tuple") k1 (by omega) (fun f hm => ?_) (by rfl) ?_
      · obtain ⟨q, o, rfl, ho, hc⟩ := k3 f hm
        have z : PySem.W.Looks (model X.prog X.w) h' (typeOf (.ref q)) o.cls := (PySem.W.Looks.ld ho).andThen .now
        rw [hc] at z
        exact z
      · have e : (Value.type "tuple" != Value.type "tuple") = false := by first | decide +kernel | rfl | decide
        rw [e]
        exact hq
    · intro p q hm hm'
      obtain ⟨⟨q1, a1, b1, x1, ⟨o1, ho1, hc1, n1, hd1⟩, ⟨a1', xs, x1', t1, i1⟩, ⟨b1', xs', x1'', t1', i1'⟩⟩, k1⟩ := tin' _ hm
      obtain ⟨⟨q2, a2, b2, x2, ⟨o2, ho2, hc2, n2, hd2⟩, ⟨a2', ys, x2', t2, i2⟩, ⟨b2', ys', x2'', t2', i2'⟩⟩, k2⟩ := tin' _ hm'
      cases x1'
      cases x1''
      cases x2'
      cases x2''
      show wpAny _ _ (keyLt' _ p.1 q.1) (fun r s' => s' = _ ∧ r = decide (codeP B (pairV H (backV p.1)) < codeP B (pairV H (backV q.1)))) (fun _ _ => False) _
      generalize pairV H (backV p.1) = P at *
      generalize pairV H (backV q.1) = R at *
      rw [x1, x2]
      refine PySem.W.kat_lt ho1 hd1 ho2 hd2 ?_
      have hu1 : X.A.in1.in1.units < cLine := by
        show X.A.units + 1 + 1 < cLine
        omega
      show PySem.W.KatLex X.prog X.w X.A.in1.in1 false false _ [(Value.ref a1, Value.ref a2), (Value.ref b1, Value.ref b2)] 0 _
      refine PySem.W.kat_cons (wpAny_eqBool_tuple hu1 (isT_of t1 i1) (isT_of t2 i2) ?_)
      refine PySem.W.kat_go (fun e0 => ?_) (fun e0 => ?_)
      · have e := of_decide_eq_true e0
        refine PySem.W.kat_yes (PySem.W.kat_cons (wpAny_eqBool_tuple hu1 (isT_of t1' i1') (isT_of t2' i2') ?_))
        refine PySem.W.kat_go (fun e1 => ?_) (fun e1 => ?_)
        · have e' := of_decide_eq_true e1
          refine PySem.W.kat_yes (PySem.W.kat_nil ⟨rfl, ?_⟩)
          have : P = R := Prod.ext e e'
          rw [this]
          exact (decide_eq_false (Int.lt_irrefl _)).symm
        · refine PySem.W.kat_no ?_
          show wpAny _ _ (oneLt' false _ _) _ _ _
          exact PySem.W.kat_one _ _ (HT.lt_tupInts t1' t2' i1' i2' hu1 ⟨rfl, codeP_lt2 k1 k2 e⟩)
      · have e := of_decide_eq_false e0
        refine PySem.W.kat_no ?_
        show wpAny _ _ (oneLt' false _ _) _ _ _
        exact PySem.W.kat_one _ _ (HT.lt_tupInts t1 t2 i1 i2 hu1 ⟨rfl, codeP_lt1 k1 k2 e⟩)
  · obtain ⟨ep, he'⟩ := PyProof.Rows.sortedAll_at s.heap its out.toArray
    have h3 : ∀ u ∈ out, ∃ p, u = Value.ref p ∧ p ∈ qs := fun u hu => key u (h2.perm.mem_iff.mp hu)
    have eo : out.map backV = (out.map fun u => match u with
      | Value.ref a => a
      | _ => 0).map V.ref := by
      rw [List.map_map]
      refine List.map_congr_left fun u hu => ?_
      obtain ⟨p, rfl, _⟩ := h3 u hu
      rfl
    have hp : (out.map backV).Perm (qs.map V.ref) := by
      rw [e1]
      exact h2.perm.map backV
    have hlen : (out.map backV).length ≤ sizeLine := by
      rw [hp.length_eq]
      exact hz
    generalize eps : (out.map fun u => match u with
      | Value.ref a => a
      | _ => 0) = qs' at eo
    have pp : qs'.Perm qs := by
      rw [eo] at hp
      have z := hp.map fun v => match v with
        | V.ref a => a
        | _ => 0
      rw [List.map_map, List.map_map] at z
      have id1 : ∀ l : List Addr, l.map ((fun v => match v with
        | V.ref a => a
        | _ => 0) ∘ V.ref) = l := fun l => by
        induction l with
        | nil => rfl
        | cons x l ih => rw [List.map_cons, ih]; rfl
      rw [id1, id1] at z
      exact z
    have tu' : PT2 H qs' (qs'.map fun p => pairV H (.ref p)) := pt2_of fun p hp => by
      obtain ⟨r, _, e⟩ := tu.mem p (pp.mem_iff.mp hp)
      exact ⟨r, e⟩
    have pw : (qs'.map fun p => pairV H (.ref p)).Pairwise (fun x y => codeP B x ≤ codeP B y) := by
      have z : (out.map backV).Pairwise (fun x y => codeP B (pairV H x) ≤ codeP B (pairV H y)) := List.pairwise_map.mpr (h1.imp fun {x y} h => Int.not_lt.mp (of_decide_eq_false h))
      rw [eo] at z
      rw [List.pairwise_map] at z ⊢
      exact z
    rw [eo] at hlen
    refine ⟨.ref _, upd H (s.heap.objs.size + 1) (.lst (qs'.map V.ref)), I.laid (t' := s.toks) (fun _ _ => PyProof.Rows.sortedAll_old) (Nat.le_succ _) ⟨hlen, out, ep, ?_, he'⟩, rfl, q qs' _ _ tu' ?_ pw (I.hok.fresh (Nat.le_succ _))⟩
    · rw [← eo]
      exact vals_back fun u hu => by
        obtain ⟨p, e, _⟩ := h3 u hu
        exact ⟨p, e⟩
    · rw [tu.vals]
      exact pp.map _
/-- of the pairs in a row by their codes and none twice there is just one list -/
theorem codeP_uniq {B : Int} {ps rs : List (List Int × List Int)} (hp : ∀ p ∈ ps, Ok33 B p) (h : ps.Perm rs) (h1 : ps.Pairwise fun x y => codeP B x ≤ codeP B y) (h2 : rs.Pairwise fun x y => codeP B x ≤ codeP B y) : ps = rs :=
  h.eq_of_pairwise (fun x y hx hy a b => codeP_inj (hp x hx) (hp y (h.mem_iff.mpr hy)) (Int.le_antisymm a b)) h1 h2
end My

/-! ### an own exception without fields: raised, asked -/
namespace EXN
open PySem PySem.Spec PyProof.Rows L2
section
variable {X : Cx} {pins : List (Addr × Obj)} {σ : L2.St}
theorem mk_endN {H1 : Hp} {hp hp2 h2 : Heap} {g1 g2 : Array GenState} {d1 d2 : Drawn} {t1 t2 : Nat} {os1 os2 : OsState} {a C : Addr} (I1 : Inv X pins σ H1 ⟨hp, g1, d1, t1, os1⟩)
    (ha : hp.objs.size ≤ a) (k : ∀ b o, hp.get? b = some o → hp2.get? b = some o) (un : Un (frs X.stack) [] (upd H1 a (exo a C none)) (upd H1 a (exo a C none)) hp2 h2) (hok : HOk X.prog X.w (upd H1 a (exo a C none)) h2) (ho : os2 = os1) (hb : AllBare g2) :
    ∃ (t0 : Addr) (G : Heap), Inv X pins σ H1 ⟨G, g2, d2, t2, os2⟩ ∧ (∀ b o, G.get? b = some o → h2.get? b = some o) ∧ G.get? a = none ∧
      h2.get? a = some ({ cls := .ref C, dict := none, data := .fields #[.ref t0, .none, .none, .none, .bool false, .none] } : Obj) ∧ H1 a = none := by
  obtain ⟨t0, hoe⟩ := exo_at hok upd_same
  have hn : H1 a = none := I1.hok.fresh ha
  obtain ⟨G, g1', g2'⟩ := restrict h2 fun b => decide (b ≠ a)
  have gk : ∀ b, b ≠ a → G.get? b = h2.get? b := fun b hb => g1' b (decide_eq_true hb)
  have ge : G.get? a = none := g2' a (by simp)
  have nha : ∀ {b : Addr} {o : Obj}, hp.get? b = some o → b ≠ a := fun {b o} z => Nat.ne_of_lt (Nat.lt_of_lt_of_le (Heap.lt_size z) ha)
  have up : ∀ {b : Addr}, b ≠ a → H1 b = none → upd H1 a (exo a C none) b = none := fun {b} hb n => by rw [upd_ne hb]; exact n
  have U : Un (frs X.stack) [] H1 H1 hp G := {
    keep := fun b o z n hf hx => by
      rw [gk b (nha z)]
      exact un.keep b o (k b o z) (up (nha z) n) hf hx
    slot := fun b o z n hf hx => by
      rw [gk b (nha z)]
      exact un.slot b o (k b o z) (up (nha z) n) hf hx
    free := fun b o z n hx => n
    there := fun b o z hx => by
      rw [gk b (nha z)]
      exact un.there b o (k b o z) hx
    tups := fun b xs z => z
    frzs := fun b o v z => z
    tbls := fun b ps z => ⟨#[], by rw [z]; simp⟩ }
  have hok3 : HOk X.prog X.w H1 G := fun b o z => by
    have hba : b ≠ a := ne_of_none z hn
    have z' : upd H1 a (exo a C none) b = some o := by rw [upd_ne hba]; exact z
    refine (hok b o z').stay (fun c v hc y => ?_) (fun c hc => ?_) (fun c xs hc => ?_)
    · have hca : c ≠ a := by
        rcases hc with hc | hc
        · rw [hc]
          exact hba
        · exact at_ne (upd_same (H := H1) (o := exo a C none)) hc exo_own
      rw [gk c hca]
      exact y
    · have hca : c ≠ a := at_ne (upd_same (H := H1) (o := exo a C none)) hc exo_own
      rw [upd_ne hca] at hc
      exact hc
    · have hca : c ≠ a := at_ne (upd_same (H := H1) (o := exo a C none)) hc exo_tup
      rw [upd_ne hca] at hc
      exact hc
  have J : Inv X pins σ H1 ⟨G, g2, d2, t2, os2⟩ := I1.call' (ch := []) ho U hok3 hb (fun b z => absurd z (by simp))
  refine ⟨t0, G, J, fun b o z => ?_, ge, hoe, hn⟩
  by_cases hba : b = a
  · rw [hba, ge] at z
    cases z
  · exact (gk b hba).symm.trans z
/-- C(), C an exception class whose own __init__ does nothing -/
theorem pmk_oex0 {CX : CXT} {x : Str} {C fI : Addr} {k : Nat} {fd : FuncData} {sp : Sp} {p pos : Pos} (T : OexC X.K C) (iC : PySem.W.findIn X.K (.ref C) "__init__" = some (some (.ref fI))) (tI : PySem.W.typeIn X.K (.ref fI) = some (.type "function"))
    (F1 : FnOk X.prog X.w X.K X.mg X.base CX k fI fd ["self"] sp) (hsp : ∀ (a : Addr) (H : Hp) (Q : VK) (E : XK), Q .non H → sp [.ref a] H Q E) (hr : Room (k + 1) X.A) (hb : Binds X.K fd ["self"] []) (hx : Passes CX X (fun _ _ _ => False)) (hg : Gl X x) (hm : X.mg x = some (.ref C))
    (hdb : (x == ("__debug__" : Str)) = false := by decide) :
    PMk X (.Call (.Name x p) [] [] pos) (fun _ H Q => Q (.ref C) none H) := by
  intro pins s σ H Q I h
  obtain ⟨nm, q, N, bs, bm, sn, sub, ab, col, dd, k0, k1, k2, k3, k5, hC, hbm⟩ := T.cls
  refine wpAny_Call_Name_kw (ld_glob I hg hm ?_ hdb)
  refine PySem.W.callWith_K0 I.kIn T.kC ?_
  show wpAny _ _ (call (.ref C) []) _ _ _
  obtain ⟨hp, g, dr, tk, os⟩ := s
  have hsz : hp.objs.size ≤ hp.objs.size + 1 := Nat.le_succ _
  have kk : ∀ b o, hp.get? b = some o → ((hp.push (PySem.W.kdv_tup [])).push (PySem.HandSPX.excO C hp.objs.size)).get? b = some o := fun b o e => Heap.get?_push_of_some _ (Heap.get?_push_of_some _ e)
  have hget : ((hp.push (PySem.W.kdv_tup [])).push (PySem.HandSPX.excO C hp.objs.size)).get? (hp.objs.size + 1) = some (PySem.HandSPX.excO C hp.objs.size) := by heap_get
  have I2 : Inv X pins σ (upd H (hp.objs.size + 1) (exo (hp.objs.size + 1) C none)) ⟨(hp.push (PySem.W.kdv_tup [])).push (PySem.HandSPX.excO C hp.objs.size), g, dr, tk, os⟩ :=
    I.laid (t' := tk) (a := hp.objs.size + 1) (o := exo (hp.objs.size + 1) C none) (h' := (hp.push (PySem.W.kdv_tup [])).push (PySem.HandSPX.excO C hp.objs.size)) kk hsz (exo_ok hget)
  have r2 : Vals [V.ref (hp.objs.size + 1)] [Value.ref (hp.objs.size + 1)] := .cons rfl .nil
  refine wpAny_call (PySem.HandSPX.call_own F.excBase_ValueError (fun Y => PySem.HandSPX.refsVE_contains Y bm hbm) (I.kIn _ _ hC) (PySem.W.looks_findIn I.kIn iC) (fun self => PySem.W.bind_fn I.kIn self tI) (Nat.zero_le _)
    (codeAny_mono (F1.run _ X.stack _ _ ⟨[Value.ref (hp.objs.size + 1)], []⟩ [Value.ref (hp.objs.size + 1)] _ (fun v H3 => v = .non ∧ H3 = upd H (hp.objs.size + 1) (exo (hp.objs.size + 1) C none)) (fun _ _ _ => False) (hr.make C [] []) (I2.env0.make C [] []) (hb _ [Value.ref (hp.objs.size + 1)] I2.kIn rfl) r2 (hsp _ _ _ _ ⟨rfl, rfl⟩)) fun r s' hq' => ?_))
  cases r with
  | error er => exact hx pins σ _ _ er s' I2 hq'
  | ok fl =>
    cases fl with
    | ret u =>
      obtain ⟨v, H2, os2, bare2, un2, hok2, rv, ev, eH⟩ := hq'
      subst ev
      subst eH
      obtain ⟨h2, g2, d2, t2, os'⟩ := s'
      refine ⟨rv, ?_⟩
      obtain ⟨t0, G, J, kG, ge, hoe, na⟩ := mk_endN (d2 := d2) (t2 := t2) I hsz kk un2 hok2 os2 bare2
      exact ⟨_, _, _, ⟨G, g2, d2, t2, os'⟩, _, .ref C, none, rfl, J, kG, ge, hoe, ⟨rfl, rfl⟩, rfl, rfl, na, rfl, bare2, raises_own T.exC T.tyC, h⟩
    | next => exact False.elim hq'
    | brk => exact False.elim hq'
    | cont => exact False.elim hq'
/-- the same, its context known to be None -/
theorem pmk_oex0N {CX : CXT} {x : Str} {C fI : Addr} {k : Nat} {fd : FuncData} {sp : Sp} {p pos : Pos} (T : OexC X.K C) (iC : PySem.W.findIn X.K (.ref C) "__init__" = some (some (.ref fI))) (tI : PySem.W.typeIn X.K (.ref fI) = some (.type "function"))
    (F1 : FnOk X.prog X.w X.K X.mg X.base CX k fI fd ["self"] sp) (hsp : ∀ (a : Addr) (H : Hp) (Q : VK) (E : XK), Q .non H → sp [.ref a] H Q E) (hr : Room (k + 1) X.A) (hb : Binds X.K fd ["self"] []) (hx : Passes CX X (fun _ _ _ => False)) (hg : Gl X x) (hm : X.mg x = some (.ref C))
    (hdb : (x == ("__debug__" : Str)) = false := by decide) :
    L2N.PMk X (.Call (.Name x p) [] [] pos) (fun _ H Q => Q (.ref C) none H) := by
  intro pins s σ H Q I h
  obtain ⟨nm, q, N, bs, bm, sn, sub, ab, col, dd, k0, k1, k2, k3, k5, hC, hbm⟩ := T.cls
  refine wpAny_Call_Name_kw (ld_glob I hg hm ?_ hdb)
  refine PySem.W.callWith_K0 I.kIn T.kC ?_
  show wpAny _ _ (call (.ref C) []) _ _ _
  obtain ⟨hp, g, dr, tk, os⟩ := s
  have hsz : hp.objs.size ≤ hp.objs.size + 1 := Nat.le_succ _
  have kk : ∀ b o, hp.get? b = some o → ((hp.push (PySem.W.kdv_tup [])).push (PySem.HandSPX.excO C hp.objs.size)).get? b = some o := fun b o e => Heap.get?_push_of_some _ (Heap.get?_push_of_some _ e)
  have hget : ((hp.push (PySem.W.kdv_tup [])).push (PySem.HandSPX.excO C hp.objs.size)).get? (hp.objs.size + 1) = some (PySem.HandSPX.excO C hp.objs.size) := by heap_get
  have I2 : Inv X pins σ (upd H (hp.objs.size + 1) (exo (hp.objs.size + 1) C none)) ⟨(hp.push (PySem.W.kdv_tup [])).push (PySem.HandSPX.excO C hp.objs.size), g, dr, tk, os⟩ :=
    I.laid (t' := tk) (a := hp.objs.size + 1) (o := exo (hp.objs.size + 1) C none) (h' := (hp.push (PySem.W.kdv_tup [])).push (PySem.HandSPX.excO C hp.objs.size)) kk hsz (exo_ok hget)
  have r2 : Vals [V.ref (hp.objs.size + 1)] [Value.ref (hp.objs.size + 1)] := .cons rfl .nil
  refine wpAny_call (PySem.HandSPX.call_own F.excBase_ValueError (fun Y => PySem.HandSPX.refsVE_contains Y bm hbm) (I.kIn _ _ hC) (PySem.W.looks_findIn I.kIn iC) (fun self => PySem.W.bind_fn I.kIn self tI) (Nat.zero_le _)
    (codeAny_mono (F1.run _ X.stack _ _ ⟨[Value.ref (hp.objs.size + 1)], []⟩ [Value.ref (hp.objs.size + 1)] _ (fun v H3 => v = .non ∧ H3 = upd H (hp.objs.size + 1) (exo (hp.objs.size + 1) C none)) (fun _ _ _ => False) (hr.make C [] []) (I2.env0.make C [] []) (hb _ [Value.ref (hp.objs.size + 1)] I2.kIn rfl) r2 (hsp _ _ _ _ ⟨rfl, rfl⟩)) fun r s' hq' => ?_))
  cases r with
  | error er => exact hx pins σ _ _ er s' I2 hq'
  | ok fl =>
    cases fl with
    | ret u =>
      obtain ⟨v, H2, os2, bare2, un2, hok2, rv, ev, eH⟩ := hq'
      subst ev
      subst eH
      obtain ⟨h2, g2, d2, t2, os'⟩ := s'
      refine ⟨rv, ?_⟩
      obtain ⟨t0, G, J, kG, ge, hoe, na⟩ := mk_endN (d2 := d2) (t2 := t2) I hsz kk un2 hok2 os2 bare2
      exact ⟨_, _, _, ⟨G, g2, d2, t2, os'⟩, _, .ref C, none, rfl, J, kG, ge, hoe, ⟨rfl, rfl, fun vs e => by cases e; rfl⟩, rfl, rfl, na, rfl, bare2, raises_own T.exC T.tyC, h⟩
    | next => exact False.elim hq'
    | brk => exact False.elim hq'
    | cont => exact False.elim hq'
/-- isinstance(e, c), e the caught exception without fields: of one of several classes -/
def rIsN (K : PySem.W.Frag) (cls : Value) (d : Option Addr) (a : Addr) : List V → Hp → VK → Prop := fun xs H Q => ∃ (D : Addr) (c : V) (cv : Value) (b : Bool), xs = [.ref a, c] ∧ cls = .ref D ∧ d = none ∧ ExcC K D ∧ ClsV c cv ∧ PySem.W.kitOne K (.ref D) cv = some b ∧ Q (.bl b) H
theorem call_isN {X : Cx} {a : Addr} {oe : Obj} {cls : Value} {d : Option Addr} {pn : List (Addr × Obj)} (hz : Zc cls d oe) (hf : ∃ vs, oe.data = .fields vs) : CallR (X.suite a ((a, oe) :: pn)) (.builtin "isinstance") (rIsN X.K cls d a) := by
  intro pins s σ H xs us Q I r h
  obtain ⟨D, c, cv, b, rfl, ec, ed, C, hcv, e, q⟩ := h
  subst ec
  subst ed
  exact call_isE (a := a) C hz hf pins s σ H _ us Q I r ⟨c, cv, b, rfl, fun u r => hcv.eq r, e, q⟩
/-- a method where the frame is named (within a try or its suite) -/
theorem pe_bmK {X : Cx} {K : PySem.W.Frag} {T : String} {name : Str} {id : String} {r : V → List V → Hp → VK → Prop} {o e : Expr} {es : List Expr} {to : TE} {t : TA} {apos cpos : Pos} (h : X.K = K) (pa : PlainAttrs T) (slot : Slot T name id) (hty : typeOf (.builtin id) = pure (.type "method_descriptor")) (hm : MtR X id r) (ho : PE X o to) (ha : PA X (e :: es) t)
    (hbase : attributeBase o name X.env (eval o X.env) = eval o X.env := by rfl)
    (hfew : ((backTo cpos (starEach (e :: es) X.env)).all (fun x => !x.1) && (backToKw cpos (keywordEach [] X.env)).all (fun x => x.1.isSome)
      && decide ((e :: es).length + ([] : List Keyword).length + (if ([] : List Keyword).isEmpty then 0 else 1) < 30)) = true := by rfl)
    (hline : (apos.endLine == cpos.line) = true := by rfl) (hs : starEach (e :: es) X.env = (false, eval e X.env) :: starEach es X.env := by rfl) (hplain : (backTo cpos (starEach es X.env)).any (·.1) = false := by rfl) :
    PE X (.Call (.Attribute o name apos) (e :: es) [] cpos) (tBM K T r to t) := h ▸ pe_bm pa slot hty hm ho ha hbase hfew hline hs hplain
def rJoin (K : PySem.W.Frag) : V → List V → Hp → VK → Prop := fun x xs H Q => ∃ a p, ∃ ys : List Str, x = .str a ∧ xs = [.ref p] ∧ (SqL K H p (ys.map V.str) ∨ SqT K H p (ys.map V.str)) ∧ (ys.map (·.length)).sum + ys.length * a.length ≤ 16777216 ∧ Q (.str (Txt.join a ys)) H
theorem mt_joinK {X : Cx} {K : PySem.W.Frag} (h : X.K = K) : MtR X "str.join" (rJoin K) := h ▸ mt_join
end
end EXN
/-! ### what a def promises, taken together -/
namespace FN11
open PySem PySem.Spec PyProof.Rows L2
section
variable {P : Program} {w : World} {K : PySem.W.Frag} {mg : Str → Option Value} {base : Heap} {k : Nat} {f : Addr} {fd : FuncData} {ps : List Str} {sp sp' : Sp}
/-- what raises nothing may be called where something is let out -/
theorem lift {CX : CXT} (F : FnOk P w K mg base CX0 k f fd ps sp) : FnOk P w K mg base CX k f fd ps sp :=
  ⟨F.len, fun A outer s H args us vs Q E hr e0 hb r h => codeAny_mono (F.run A outer s H args us vs Q E hr e0 hb r h) fun r s' hq => by
    cases r with
    | error e => exact (show False from hq).elim
    | ok fl =>
      cases fl with
      | ret u => exact hq
      | next => exact False.elim hq
      | brk => exact False.elim hq
      | cont => exact False.elim hq⟩
/-- either -/
theorem or {CX : CXT} (F : FnOk P w K mg base CX k f fd ps sp) (G : FnOk P w K mg base CX k f fd ps sp') : FnOk P w K mg base CX k f fd ps (fun vs H Q E => sp vs H Q E ∨ sp' vs H Q E) :=
  ⟨fun vs H Q E h => h.elim (F.len vs H Q E) (G.len vs H Q E), fun A outer s H args us vs Q E hr e0 hb r h => h.elim (F.run A outer s H args us vs Q E hr e0 hb r) (G.run A outer s H args us vs Q E hr e0 hb r)⟩
end
end FN11
/-! ### [.. for .. in range(..)] where an exception is handled -/
namespace HL11
open PySem PySem.Spec PyProof.Rows L2
open L2H (HotC PIH)
/-- the block's context with the handled exception's object in it -/
abbrev withP (Y : Cx) (p : Addr × Obj) : Cx := { Y with pn := [p] }
theorem toP {Y : Cx} {p : Addr × Obj} {σ : L2.St} {H : Hp} {s : Shared} (hY : Y.pn = []) (I : Inv Y [p] σ H s) : Inv (withP Y p) [] σ H s :=
  have o := I.ok
  ⟨⟨o.mod, o.kind, o.glob, o.blt, o.above, o.inj, o.has, o.cab, o.hd, o.frames, o.stk, o.exf, o.bs, o.bsz, o.noex, o.exfs, o.funs, o.frf⟩, I.os, I.bare, I.base, I.loc, I.cell, I.free, I.freeC,
    fun x hx => I.pin x (by rw [hY]; simpa using hx), I.hok, I.len⟩
theorem ofP {Y : Cx} {p : Addr × Obj} {σ : L2.St} {H : Hp} {s : Shared} (hY : Y.pn = []) (I : Inv (withP Y p) [] σ H s) : Inv Y [p] σ H s :=
  have o := I.ok
  ⟨⟨o.mod, o.kind, o.glob, o.blt, o.above, o.inj, o.has, o.cab, o.hd, o.frames, o.stk, o.exf, o.bs, o.bsz, o.noex, o.exfs, o.funs, o.frf⟩, I.os, I.bare, I.base, I.loc, I.cell, I.free, I.freeC,
    fun x hx => I.pin x (by rw [hY] at hx; simpa using hx), I.hok, I.len⟩
section
variable {X : Cx}
theorem lc_hot {pins : List (Addr × Obj)} {s : Shared} {σ : L2.St} {H : Hp} {Q : VK} {elt tg iter : Expr} {ifs : List Expr} {scope : Scope} {own : List (Str × Nat)} {pos pos' : Pos} {wi : TI} {g : TG} {tt : TT} {te : TE}
    (hot : HotC X) (hN : X.N.Nodup) (I : Inv X pins σ H s) (hi : PIH X tg iter wi) (ok : BlkOk X.N X.env.scope scope own)
    (hg : ∀ s H C cl fp, PG (X.blk s H scope (compEnvC scope cl C X.env) fp) tg g) (ht : ∀ s H C cl fp, PTs (X.blk s H scope (compEnvC scope cl C X.env) fp) ifs tt)
    (he : ∀ s H C cl fp, PE (X.blk s H scope (compEnvC scope cl C X.env) fp) elt te) (hs : ∀ x, foldedSetIterable iter X.env x = pure x)
    (want : tLc wi g tt te (own.map (·.2)) σ H Q) :
    wpAny (model X.prog X.w) X.A (comprehension (.ListComp elt [⟨tg, iter, ifs, 0⟩] scope pos) scope X.env pos' (newList []) false (eval iter X.env) none) (EP X pins σ Q) X.xe s := by
  obtain ⟨p, hp1, hpm⟩ := hot
  have caught : ∀ y ∈ scope.names, y.2 = .free → ∃ c, X.env.cells.lookup y.1 = some c := fun y hy e => (ok.free y hy e).elim (fun k => I.ok.has _ (.inl k)) fun k => I.ok.has _ (.inr k)
  refine wpAny_comprehension_free (use := none) rfl hs (closure_ok caught) ok.kind (fun y hy e => (ok.uniq y hy).trans (by rw [e])) (thn (hi.run pins s σ H _ I want) fun _ _ hx => thn hx fun _ sI got => ?_)
  obtain ⟨it, fp, tn, J, HI, e, JI, T, tn0, fOk, q⟩ := got
  subst e
  refine wpAny_newObj_type (newEnv_comp ?_) (Nat.zero_le _)
  obtain ⟨D, eD⟩ : ∃ D, D = sI.heap.objs.size := ⟨_, rfl⟩
  rw [← eD]
  have nD : HI D = none := JI.hok.fresh (Nat.le_of_eq eD.symm)
  obtain ⟨W, ⟨m0, w0⟩, turn⟩ := q D nD
  obtain ⟨sL, esL⟩ : ∃ sL : Shared, sL = { sI with heap := sI.heap.push { cls := .type "list", data := .seq ([] : List Value).toArray } } := ⟨_, rfl⟩
  have hL : sL.heap = sI.heap.push { cls := .type "list", data := .seq ([] : List Value).toArray } := by rw [esL]
  have grow : ∀ b o, sI.heap.get? b = some o → sL.heap.get? b = some o := fun b o e => by rw [hL]; exact Heap.get?_push_of_some _ e
  have JL : Inv X pins σ (upd HI D (.lst [])) sL := by
    rw [esL]
    refine JI.laid (t' := sI.toks) (o := .lst []) (fun b o e => Heap.get?_push_of_some _ e) (Nat.le_of_eq eD.symm) ?_
    refine ⟨Nat.zero_le _, [], 0, .nil, ?_⟩
    rw [eD]
    exact Heap.get?_push_size _ rfl
  have small : ∀ b ∈ fp, b < sI.heap.objs.size := fun b hb => let ⟨_, e, _⟩ := T.obj _ _ tn0 b hb; Heap.lt_size e
  have fL : ∀ b ∈ fp, FpOk X pins (upd HI D (.lst [])) b ∧ b < sL.heap.objs.size := fun b hb => by
    have lt := small b hb
    have ne : b ≠ D := by rw [eD]; exact Nat.ne_of_lt lt
    exact ⟨⟨(upd_ne ne).trans (fOk b hb).1, (fOk b hb).2⟩, by rw [hL, Heap.size_push]; exact Nat.lt_succ_of_lt lt⟩
  have tnL : tn 0 sL.heap := T.keep _ _ _ tn0 fun b _ o e => grow b o e
  have JB := block_start JL ok hN fL
  have PGb := hg sL (upd HI D (.lst [])) sL.heap.objs.size (cellsFrom (sL.heap.objs.size + 1) scope.names (cloFrom X.env.cells scope.names [])) fp
  have PTb := ht sL (upd HI D (.lst [])) sL.heap.objs.size (cellsFrom (sL.heap.objs.size + 1) scope.names (cloFrom X.env.cells scope.names [])) fp
  have PEb := he sL (upd HI D (.lst [])) sL.heap.objs.size (cellsFrom (sL.heap.objs.size + 1) scope.names (cloFrom X.env.cells scope.names [])) fp
  rw [← esL]
  show codeAny _ _ (.compStart _ 0 (.ref it) (.ref D) (compEnvC scope (cellsFrom (sL.heap.objs.size + 1) scope.names (cloFrom X.env.cells scope.names [])) sL.heap.objs.size X.env)) (compPost (model X.prog X.w) X.A X.xe none (EP X pins σ Q) (.ref D) sL.heap.objs.size) { sL with heap := pushCells (sL.heap.push { cls := .type "dict", data := .dict #[] }) scope.names }
  have nF : ∀ b ∈ fp, (upd HI D (.lst [])) b = none := fun b hb => (fL b hb).1.1
  obtain ⟨ce, ece⟩ : ∃ ce, ce = compEnvC scope (cellsFrom (sL.heap.objs.size + 1) scope.names (cloFrom X.env.cells scope.names [])) sL.heap.objs.size X.env := ⟨_, rfl⟩
  have lce : ce.locals = sL.heap.objs.size := by rw [ece]; rfl
  rw [← ece] at JB PGb PTb PEb ⊢
  obtain ⟨HL, eHL⟩ : ∃ HL, HL = upd HI D (.lst []) := ⟨_, rfl⟩
  rw [← eHL] at JL JB PGb PTb PEb w0 nF fL
  obtain ⟨sB, esB⟩ : ∃ sB : Shared, sB = { sL with heap := pushCells (sL.heap.push { cls := .type "dict", data := .dict #[] }) scope.names } := ⟨_, rfl⟩
  rw [← esB] at JB ⊢
  have tnB : tn 0 sB.heap := T.keep _ _ _ tnL fun b _ o e => by rw [esB]; exact pushCells_keeps _ _ _ _ (Heap.get?_push_of_some _ e)
  -- the handled exception's object stands through the block
  obtain ⟨pg1, pg2, pg3, pg4, pg5⟩ := JL.pin p (List.mem_append_left _ hpm)
  have pFp : p.1 ∉ fp := fun hb => (fL p.1 hb).1.2.2.2.2.2 p (List.mem_append_left _ hpm) rfl
  have pinned : ∀ {σ' : L2.St} {H' : Hp} {s' : Shared}, Inv (X.blk sL HL scope ce fp) [] σ' H' s' → Inv (X.blk sL HL scope ce fp) [p] σ' H' s' := fun {σ' H' s'} K => by
    refine K.pins_of fun x hx => ?_
    have ex : x = p := by simpa using hx
    rw [ex]
    have nfr : p.1 ∉ frs X.stack := fun z => by
      rcases List.mem_cons.mp (JL.stkSub _ z) with z | z
      · exact pg3 z
      · exact pg4 z
    refine ⟨K.base.keep p.1 p.2 pg1 pg2 nfr pFp, K.base.free p.1 p.2 pg1 pg2 pFp, fun z => ?_, nfr, pg5⟩
    have z' : p.1 = ce.locals := z
    rw [lce] at z'
    exact absurd (Heap.lt_size pg1) (by rw [z']; exact Nat.lt_irrefl _)
  have hotB : HotC (withP (X.blk sL HL scope ce fp) p) := ⟨p, hp1, List.mem_singleton.mpr rfl⟩
  have fpB : ∀ {σ' : L2.St} {H' : Hp} {s' : Shared}, Inv (X.blk sL HL scope ce fp) [p] σ' H' s' → (∀ b ∈ fp, H' b = none) → ∀ b ∈ fp, FpOk (withP (X.blk sL HL scope ce fp) p) [] H' b := fun {σ' H' s'} K hn b hb =>
    ⟨hn b hb, (K.ok.exf b hb).1, K.ok.exfs b hb, .inl hb, fun x c e => (K.ok.exf b hb).2 x c e, fun x hx z => by
      have ex : x = p := by simpa using hx
      rw [ex] at z
      exact pFp (z ▸ hb)⟩
  refine codeAny_compStart_list ?_ (T.self X.A 0 _ _ _ tnB ?_)
  all_goals
    refine compLoop_any (fun n s' => ∃ i H', Inv (X.blk sL HL scope ce fp) [] (wipe σ (own.map (·.2))) H' s' ∧ tn i s'.heap ∧ (∀ b ∈ fp, H' b = none) ∧ W i n H') ?_ m0 ⟨0, HL, JB, tnB, nF, w0⟩
    rintro n s5 ⟨i, H5, K5, tn5, n5, w5⟩
    have P5 := pinned K5
    rcases turn i n H5 w5 with ⟨stop, fin⟩ | ⟨go, Nx, hNx, step⟩
    · refine thnF (T.done (withP (X.blk sL HL scope ce fp) p) rfl rfl rfl hotB i [] s5 _ H5 (fun _ _ => False) (toP rfl P5) (fpB P5 n5) tn5 stop) fun r s6 ⟨er, K6⟩ => ?_
      subst er
      have J6 : Inv X pins σ H5 s6 := JL.call' (ch := fp) K6.os K6.base K6.hok K6.bare fun b hb => let f := (fL b hb).1.2; ⟨f.2.2.1, f.1, f.2.2.2.1, f.2.2.2.2⟩
      have free6 : H5 sL.heap.objs.size = none := by
        have z := K6.free
        rw [show (withP (X.blk sL HL scope ce fp) p).env.locals = ce.locals from rfl, lce] at z
        exact z
      obtain ⟨m, ns6, _⟩ := K6.loc
      rw [show (withP (X.blk sL HL scope ce fp) p).env.locals = ce.locals from rfl, lce] at ns6
      obtain ⟨g0, g1, g2, g3, g4, g5⟩ := JL.fpOk (Nat.le_refl _) free6
      exact ⟨m, ns6, fun h'' sb => ⟨.ref D, H5, J6.turned (t' := s6.toks) (fun b o hb e => (sb.2 b hb).trans e) g0 g1 g3 g4 g5, rfl, fin⟩⟩
    · refine thnF (T.item (withP (X.blk sL HL scope ce fp) p) rfl rfl rfl hotB i [] s5 _ H5 (fun _ _ => False) (toP rfl P5) (fpB P5 n5) tn5 go) fun r s6 ⟨u, er, h6⟩ => ?_
      subst er
      refine thnF h6 fun _ s7 ⟨x, H7, K7, rx, y7, tn7, n7⟩ => ?_
      have P7 := ofP (Y := X.blk sL HL scope ce fp) rfl K7
      have Q7 : Inv (X.blk sL HL scope ce fp) ([p] ++ pinsAt fp s7.heap) _ H7 s7 := P7.pinned (fun b hb => by
        obtain ⟨a1, a2, a3, a4, a5, a6⟩ := fpB P7 n7 b hb
        exact ⟨a1, a2, a3, a4, a5, fun x hx => a6 x (by simpa using hx)⟩) (T.obj _ _ tn7)
      refine thnF (PGb.run _ s7 _ H7 x u _ Q7 rx (step x H7 y7)) fun _ s8 ⟨σ8, H8, K8, w8, q8⟩ => ?_
      refine thnF (PTb.run _ s8 σ8 H8 _ K8 q8) fun b s9 ⟨H9, K9, q9⟩ => ?_
      have last : ∀ {s' : Shared} {H' : Hp}, Inv (X.blk sL HL scope ce fp) ([p] ++ pinsAt fp s7.heap) σ8 H' s' → Nx H' → ∃ m, m < n ∧ ∃ i H', Inv (X.blk sL HL scope ce fp) [] (wipe σ (own.map (·.2))) H' s' ∧ tn i s'.heap ∧ (∀ b ∈ fp, H' b = none) ∧ W i m H' := fun {s' H'} K nx => by
        obtain ⟨m', lt, w'⟩ := hNx H' nx
        have held : ∀ b ∈ fp, ∀ o, s7.heap.get? b = some o → s'.heap.get? b = some o ∧ H' b = none := fun b hb o e =>
          let z := K.pin (b, o) (List.mem_append_right _ (List.mem_append_right _ (mem_pinsAt hb e)))
          ⟨z.1, z.2.1⟩
        have K' : Inv (X.blk sL HL scope ce fp) [] σ8 H' s' := (K.unpinned (pins := [p]) (pl := pinsAt fp s7.heap)).pins_of fun _ hx => absurd hx (by simp)
        refine ⟨m', lt, i + 1, H', K'.weak (by rw [← w8, wipe_length]) (fun j v e => (wipe_some (by rw [w8]; exact e)).1), T.keep _ _ _ tn7 fun b hb o e => (held b hb o e).1, fun b hb => ?_, w'⟩
        obtain ⟨o, e, _⟩ := T.obj _ _ tn7 b hb
        exact (held b hb o e).2
      cases b with
      | false => exact last K9 q9
      | true => exact thnF (PEb.run _ s9 σ8 H9 _ K9 q9) fun z s10 ⟨yv, H10, K10, r10, acc, eD10, z10, nx⟩ => app_ok (X := X.blk sL HL scope ce fp) K10 eD10 z10 r10 fun s11 K11 => last K11 nx
theorem hotS {Y : Cx} {a : Addr} {oe : Obj} {cls : Value} {d : Option Addr} {pn : List (Addr × Obj)} (hz : L2N.Zn cls d oe) (hf : ∃ vs, oe.data = .fields vs) : HotC (Y.suite a ((a, oe) :: pn)) :=
  let ⟨vs, hv⟩ := hf
  ⟨(a, oe), ⟨rfl, vs, hv, hz.2.2 vs hv⟩, List.mem_cons_self⟩
theorem pe_lcH {elt tg iter : Expr} {ifs : List Expr} {scope : Scope} {own : List (Str × Nat)} {pos : Pos} {wi : TI} {g : TG} {tt : TT} {te : TE} (hot : HotC X) (hN : X.N.Nodup) (hi : PIH X tg iter wi) (ok : BlkOk X.N X.env.scope scope own)
    (hg : ∀ (s : Shared) (H : Hp) (C : Addr) (cl : List (Str × Addr)) (fp : List Addr), PG (X.blk s H scope (compEnvC scope cl C X.env) fp) tg g) (ht : ∀ (s : Shared) (H : Hp) (C : Addr) (cl : List (Str × Addr)) (fp : List Addr), PTs (X.blk s H scope (compEnvC scope cl C X.env) fp) ifs tt)
    (he : ∀ (s : Shared) (H : Hp) (C : Addr) (cl : List (Str × Addr)) (fp : List Addr), PE (X.blk s H scope (compEnvC scope cl C X.env) fp) elt te) (hs : ∀ x, foldedSetIterable iter X.env x = pure x := by intro _; rfl) :
    PE X (.ListComp elt [⟨tg, iter, ifs, 0⟩] scope pos) (tLc wi g tt te (own.map (·.2))) := by
  refine ⟨fun pins s σ H Q I h => ?_⟩
  rw [eval_ListComp]
  exact lc_hot hot hN I hi ok hg ht he hs h
end
end HL11
/-! ### a def that may raise, its exceptions' context None -/
namespace HL11
open PySem PySem.Spec PyProof.Rows L2
theorem takes0N {X : Cx} : L2N.Takes X (fun _ _ _ _ => False) := fun _ _ x => by
  obtain ⟨_, _, _, _, _, _, _, _, _, _, _, _, _, _, _, _, z⟩ := x
  exact z.elim
theorem okN {P : Program} {w : World} {K : PySem.W.Frag} {mg : Str → Option Value} {base : Heap} {x qual : Str} {st : Stmt} {f : Addr} {fd : FuncData} {N ps : List Str} {k : Nat} {sp : Sp} (F : Fun K x qual st f fd) (S : FnScope N ps (defScope st)) (many : ∀ vs H Q E, sp vs H Q E → vs.length = ps.length)
    (body : ∀ (cdv : Value) (A : Around) (outer : List Env) (s : Shared) (H : Hp) (vs : List V) (Q : VK) (E : XK), Room k (A.deeper (envOfC qual (defScope st) s.heap.objs.size f cdv)) → sp vs H Q E →
      ∃ t, PSs (cxOf (L2N.CX P w) P w K mg base N qual (defScope st) f cdv A outer s H E) (defBody st) t ∧ t { nx := fun _ H' => Q .non H', rt := Q } (L2.start N vs) H) : FnOk P w K mg base (L2N.CX P w) (k + 1) f fd ps sp := by
  obtain ⟨oc, od, kV, doc, pm, an, cdv, ct, osl, rfl, look, code⟩ := F.ex
  exact fn_of look code S many fun A outer s H vs Q E hr want => body cdv A outer s H vs Q E hr want
end HL11

set_option Elab.async false
set_option linter.all false
set_option maxRecDepth 100000
set_option maxHeartbeats 4000000
namespace My
open PySem PySem.Spec PyProof.Rows L2
def topS (i : Nat) : Stmt := PySem.Challenge.pw_loopstore_k01_lines_refused.main.body.getD i (.Pass ⟨0, 0, 0, 0⟩)
abbrev s_is_integer : Stmt := topS 11
theorem sc_is_integer : FnScope ["thing"] ["thing"] (defScope s_is_integer) := ⟨rfl, rfl, rfl, by decide +kernel, rfl, by decide +kernel, by decide +kernel⟩
abbrev s_is_number : Stmt := topS 12
theorem sc_is_number : FnScope ["thing", "least", "most"] ["thing", "least", "most"] (defScope s_is_number) := ⟨rfl, rfl, rfl, by decide +kernel, rfl, by decide +kernel, by decide +kernel⟩
abbrev s_are_numbers : Stmt := topS 13
theorem sc_are_numbers : FnScope ["things", "least", "most", "thing"] ["things", "least", "most"] (defScope s_are_numbers) := ⟨rfl, rfl, rfl, by decide +kernel, rfl, by decide +kernel, by decide +kernel⟩
abbrev s_are_integers : Stmt := topS 14
theorem sc_are_integers : FnScope ["thing", "many", "item"] ["thing", "many"] (defScope s_are_integers) := ⟨rfl, rfl, rfl, by decide +kernel, rfl, by decide +kernel, by decide +kernel⟩
abbrev s_is_comings : Stmt := topS 15
theorem sc_is_comings : FnScope ["comers", "thing"] ["comers", "thing"] (defScope s_is_comings) := ⟨rfl, rfl, rfl, by decide +kernel, rfl, by decide +kernel, by decide +kernel⟩
abbrev s_check_comers : Stmt := topS 16
theorem sc_check_comers : FnScope ["thing"] ["thing"] (defScope s_check_comers) := ⟨rfl, rfl, rfl, by decide +kernel, rfl, by decide +kernel, by decide +kernel⟩
abbrev s_check_bound : Stmt := topS 17
theorem sc_check_bound : FnScope ["thing"] ["thing"] (defScope s_check_bound) := ⟨rfl, rfl, rfl, by decide +kernel, rfl, by decide +kernel, by decide +kernel⟩
abbrev s_check_comings : Stmt := topS 18
theorem sc_check_comings : FnScope ["comers", "thing"] ["comers", "thing"] (defScope s_check_comings) := ⟨rfl, rfl, rfl, by decide +kernel, rfl, by decide +kernel, by decide +kernel⟩
abbrev s_follow_line : Stmt := topS 21
theorem sc_follow_line : FnScope ["bound", "line", "comings", "letters", "behind", "tick", "number", "turn"] ["bound", "line", "comings"] (defScope s_follow_line) := ⟨rfl, rfl, rfl, by decide +kernel, rfl, by decide +kernel, by decide +kernel⟩
abbrev s_letters_of : Stmt := topS 22
theorem sc_letters_of : FnScope ["bound", "comings", "letters", "_"] ["bound", "comings"] (defScope s_letters_of) := ⟨rfl, rfl, rfl, by decide +kernel, rfl, by decide +kernel, by decide +kernel⟩
abbrev s_comes : Stmt := topS 23
theorem sc_comes : FnScope ["comers", "comings", "ticks", "tick", "number"] ["comers", "comings"] (defScope s_comes) := ⟨rfl, rfl, rfl, by decide +kernel, rfl, by decide +kernel, by decide +kernel⟩
abbrev s_waits : Stmt := topS 24
theorem sc_waits : FnScope ["comers", "bound", "comings", "tick", "turn", "wait"] ["comers", "bound", "comings"] (defScope s_waits) := ⟨rfl, rfl, rfl, by decide +kernel, rfl, by decide +kernel, by decide +kernel⟩
abbrev s_lines : Stmt := topS 25
theorem sc_lines : FnScope ["comers", "bound", "comings", "_", "behind"] ["comers", "bound", "comings"] (defScope s_lines) := ⟨rfl, rfl, rfl, by decide +kernel, rfl, by decide +kernel, by decide +kernel⟩
abbrev s_outs : Stmt := topS 26
theorem sc_outs : FnScope ["comers", "bound", "comings", "found", "letter", "tick", "_", "wait"] ["comers", "bound", "comings"] (defScope s_outs) := ⟨rfl, rfl, rfl, by decide +kernel, rfl, by decide +kernel, by decide +kernel⟩
abbrev s_is_spot : Stmt := topS 27
theorem sc_is_spot : FnScope ["comers", "bound", "thing", "wait", "turn"] ["comers", "bound", "thing"] (defScope s_is_spot) := ⟨rfl, rfl, rfl, by decide +kernel, rfl, by decide +kernel, by decide +kernel⟩
abbrev s_is_next : Stmt := topS 28
theorem sc_is_next : FnScope ["comers", "bound", "spot", "other", "wait", "turn"] ["comers", "bound", "spot", "other"] (defScope s_is_next) := ⟨rfl, rfl, rfl, by decide +kernel, rfl, by decide +kernel, by decide +kernel⟩
abbrev s_is_walk : Stmt := topS 29
theorem sc_is_walk : FnScope ["comers", "bound", "thing", "first", "at"] ["comers", "bound", "thing"] (defScope s_is_walk) := ⟨rfl, rfl, rfl, by decide +kernel, rfl, by decide +kernel, by decide +kernel⟩
abbrev s_spots : Stmt := topS 30
theorem sc_spots : FnScope ["comers", "bound", "wait", "turn"] ["comers", "bound"] (defScope s_spots) := ⟨rfl, rfl, rfl, by decide +kernel, rfl, by decide +kernel, by decide +kernel⟩
abbrev s_nexts : Stmt := topS 31
theorem sc_nexts : FnScope ["comers", "bound", "spot", "wait", "turn", "found", "above", "other"] ["comers", "bound", "spot"] (defScope s_nexts) := ⟨rfl, rfl, rfl, by decide +kernel, rfl, by decide +kernel, by decide +kernel⟩
abbrev s_walk : Stmt := topS 32
theorem sc_walk : FnScope ["comers", "bound", "comings", "tick", "turn", "wait"] ["comers", "bound", "comings"] (defScope s_walk) := ⟨rfl, rfl, rfl, by decide +kernel, rfl, by decide +kernel, by decide +kernel⟩
abbrev s_comings_for : Stmt := topS 33
theorem sc_comings_for : FnScope ["comers", "bound", "row", "start", "comings", "wait", "_", "other", "turn"] ["comers", "bound", "row"] (defScope s_comings_for) := ⟨rfl, rfl, rfl, by decide +kernel, rfl, by decide +kernel, by decide +kernel⟩
abbrev s__law_tape : Stmt := topS 35
theorem sc__law_tape : FnScope ["script"] ["script"] (defScope s__law_tape) := ⟨rfl, rfl, rfl, by decide +kernel, rfl, by decide +kernel, by decide +kernel⟩
abbrev s__law_pick : Stmt := topS 36
theorem sc__law_pick : FnScope ["tape", "size", "digit", "cell", "mixed"] ["tape", "size"] (defScope s__law_pick) := ⟨rfl, rfl, rfl, by decide +kernel, rfl, by decide +kernel, by decide +kernel⟩
abbrev s__law_odd : Stmt := topS 37
theorem sc__law_odd : FnScope ["tape", "things"] ["tape"] (defScope s__law_odd) := ⟨rfl, rfl, rfl, by decide +kernel, rfl, by decide +kernel, by decide +kernel⟩
abbrev s__law_is_int : Stmt := topS 38
theorem sc__law_is_int : FnScope ["thing", "least", "most"] ["thing", "least", "most"] (defScope s__law_is_int) := ⟨rfl, rfl, rfl, by decide +kernel, rfl, by decide +kernel, by decide +kernel⟩
abbrev s__law_are_ints : Stmt := topS 39
theorem sc__law_are_ints : FnScope ["thing", "many", "least", "most", "item"] ["thing", "many", "least", "most"] (defScope s__law_are_ints) := ⟨rfl, rfl, rfl, by decide +kernel, rfl, by decide +kernel, by decide +kernel⟩
abbrev s__law_asked : Stmt := topS 40
theorem sc__law_asked : FnScope ["kind", "a"] ["kind", "a"] (defScope s__law_asked) := ⟨rfl, rfl, rfl, by decide +kernel, rfl, by decide +kernel, by decide +kernel⟩
abbrev s__law_tried : Stmt := topS 41
theorem sc__law_tried : FnScope ["kind", "a", "found", "e", "flags", "words", "k"] ["kind", "a"] (defScope s__law_tried) := ⟨rfl, rfl, rfl, by decide +kernel, rfl, by decide +kernel, by decide +kernel⟩
abbrev s__law_is_spot : Stmt := topS 42
theorem sc__law_is_spot : FnScope ["comers", "bound", "thing"] ["comers", "bound", "thing"] (defScope s__law_is_spot) := ⟨rfl, rfl, rfl, by decide +kernel, rfl, by decide +kernel, by decide +kernel⟩
abbrev s__law_is_walk : Stmt := topS 43
theorem sc__law_is_walk : FnScope ["comers", "bound", "thing", "at", "one"] ["comers", "bound", "thing"] (defScope s__law_is_walk) := ⟨rfl, rfl, rfl, by decide +kernel, rfl, by decide +kernel, by decide +kernel⟩
abbrev s__law_due : Stmt := topS 44
theorem sc__law_due : FnScope ["kind", "a"] ["kind", "a"] (defScope s__law_due) := ⟨rfl, rfl, rfl, by decide +kernel, rfl, by decide +kernel, by decide +kernel⟩
abbrev s__law_walk : Stmt := topS 45
theorem sc__law_walk : FnScope ["tape", "comers", "bound", "found", "k", "wait", "turn", "at", "kind", "one", "odd"] ["tape", "comers", "bound"] (defScope s__law_walk) := ⟨rfl, rfl, rfl, by decide +kernel, rfl, by decide +kernel, by decide +kernel⟩
abbrev s_law : Stmt := topS 46
theorem sc_law : FnScope ["script", "tape", "comers", "bound", "numbers", "a", "name", "kept", "kind", "k"] ["script"] (defScope s_law) := ⟨rfl, rfl, rfl, by decide +kernel, rfl, by decide +kernel, by decide +kernel⟩
abbrev s_NoComers___init__ : Stmt := inClass (topS 2) 0
theorem sc_NoComers___init__ : FnScope ["self"] ["self"] (defScope s_NoComers___init__) := ⟨rfl, rfl, rfl, by decide +kernel, rfl, by decide +kernel, by decide +kernel⟩
abbrev s_NoBound___init__ : Stmt := inClass (topS 3) 0
theorem sc_NoBound___init__ : FnScope ["self"] ["self"] (defScope s_NoBound___init__) := ⟨rfl, rfl, rfl, by decide +kernel, rfl, by decide +kernel, by decide +kernel⟩
abbrev s_NoComings___init__ : Stmt := inClass (topS 4) 0
theorem sc_NoComings___init__ : FnScope ["self"] ["self"] (defScope s_NoComings___init__) := ⟨rfl, rfl, rfl, by decide +kernel, rfl, by decide +kernel, by decide +kernel⟩
abbrev s_NoSpot___init__ : Stmt := inClass (topS 5) 0
theorem sc_NoSpot___init__ : FnScope ["self"] ["self"] (defScope s_NoSpot___init__) := ⟨rfl, rfl, rfl, by decide +kernel, rfl, by decide +kernel, by decide +kernel⟩
abbrev s_NoWalk___init__ : Stmt := inClass (topS 6) 0
theorem sc_NoWalk___init__ : FnScope ["self"] ["self"] (defScope s_NoWalk___init__) := ⟨rfl, rfl, rfl, by decide +kernel, rfl, by decide +kernel, by decide +kernel⟩
structure Tx (K : PySem.W.Frag) (mg : Str → Option Value) where
  a_is_integer : Addr
  d_is_integer : FuncData
  F_is_integer : Fun K "is_integer" "is_integer" s_is_integer a_is_integer d_is_integer
  b_is_integer : Binds K d_is_integer ["thing"] []
  g_is_integer : mg "is_integer" = some (.ref a_is_integer)
  a_is_number : Addr
  d_is_number : FuncData
  F_is_number : Fun K "is_number" "is_number" s_is_number a_is_number d_is_number
  b_is_number : Binds K d_is_number ["thing", "least", "most"] []
  g_is_number : mg "is_number" = some (.ref a_is_number)
  a_are_numbers : Addr
  d_are_numbers : FuncData
  F_are_numbers : Fun K "are_numbers" "are_numbers" s_are_numbers a_are_numbers d_are_numbers
  b_are_numbers : Binds K d_are_numbers ["things", "least", "most"] []
  g_are_numbers : mg "are_numbers" = some (.ref a_are_numbers)
  a_are_integers : Addr
  d_are_integers : FuncData
  F_are_integers : Fun K "are_integers" "are_integers" s_are_integers a_are_integers d_are_integers
  b_are_integers : Binds K d_are_integers ["thing", "many"] []
  g_are_integers : mg "are_integers" = some (.ref a_are_integers)
  a_is_comings : Addr
  d_is_comings : FuncData
  F_is_comings : Fun K "is_comings" "is_comings" s_is_comings a_is_comings d_is_comings
  b_is_comings : Binds K d_is_comings ["comers", "thing"] []
  g_is_comings : mg "is_comings" = some (.ref a_is_comings)
  a_check_comers : Addr
  d_check_comers : FuncData
  F_check_comers : Fun K "check_comers" "check_comers" s_check_comers a_check_comers d_check_comers
  b_check_comers : Binds K d_check_comers ["thing"] []
  g_check_comers : mg "check_comers" = some (.ref a_check_comers)
  a_check_bound : Addr
  d_check_bound : FuncData
  F_check_bound : Fun K "check_bound" "check_bound" s_check_bound a_check_bound d_check_bound
  b_check_bound : Binds K d_check_bound ["thing"] []
  g_check_bound : mg "check_bound" = some (.ref a_check_bound)
  a_check_comings : Addr
  d_check_comings : FuncData
  F_check_comings : Fun K "check_comings" "check_comings" s_check_comings a_check_comings d_check_comings
  b_check_comings : Binds K d_check_comings ["comers", "thing"] []
  g_check_comings : mg "check_comings" = some (.ref a_check_comings)
  a_follow_line : Addr
  d_follow_line : FuncData
  F_follow_line : Fun K "follow_line" "follow_line" s_follow_line a_follow_line d_follow_line
  b_follow_line : Binds K d_follow_line ["bound", "line", "comings"] []
  g_follow_line : mg "follow_line" = some (.ref a_follow_line)
  a_letters_of : Addr
  d_letters_of : FuncData
  F_letters_of : Fun K "letters_of" "letters_of" s_letters_of a_letters_of d_letters_of
  b_letters_of : Binds K d_letters_of ["bound", "comings"] []
  g_letters_of : mg "letters_of" = some (.ref a_letters_of)
  a_comes : Addr
  d_comes : FuncData
  F_comes : Fun K "comes" "comes" s_comes a_comes d_comes
  b_comes : Binds K d_comes ["comers", "comings"] []
  g_comes : mg "comes" = some (.ref a_comes)
  a_waits : Addr
  d_waits : FuncData
  F_waits : Fun K "waits" "waits" s_waits a_waits d_waits
  b_waits : Binds K d_waits ["comers", "bound", "comings"] []
  g_waits : mg "waits" = some (.ref a_waits)
  a_lines : Addr
  d_lines : FuncData
  F_lines : Fun K "lines" "lines" s_lines a_lines d_lines
  b_lines : Binds K d_lines ["comers", "bound", "comings"] []
  g_lines : mg "lines" = some (.ref a_lines)
  a_outs : Addr
  d_outs : FuncData
  F_outs : Fun K "outs" "outs" s_outs a_outs d_outs
  b_outs : Binds K d_outs ["comers", "bound", "comings"] []
  g_outs : mg "outs" = some (.ref a_outs)
  a_is_spot : Addr
  d_is_spot : FuncData
  F_is_spot : Fun K "is_spot" "is_spot" s_is_spot a_is_spot d_is_spot
  b_is_spot : Binds K d_is_spot ["comers", "bound", "thing"] []
  g_is_spot : mg "is_spot" = some (.ref a_is_spot)
  a_is_next : Addr
  d_is_next : FuncData
  F_is_next : Fun K "is_next" "is_next" s_is_next a_is_next d_is_next
  b_is_next : Binds K d_is_next ["comers", "bound", "spot", "other"] []
  g_is_next : mg "is_next" = some (.ref a_is_next)
  a_is_walk : Addr
  d_is_walk : FuncData
  F_is_walk : Fun K "is_walk" "is_walk" s_is_walk a_is_walk d_is_walk
  b_is_walk : Binds K d_is_walk ["comers", "bound", "thing"] []
  g_is_walk : mg "is_walk" = some (.ref a_is_walk)
  a_spots : Addr
  d_spots : FuncData
  F_spots : Fun K "spots" "spots" s_spots a_spots d_spots
  b_spots : Binds K d_spots ["comers", "bound"] []
  g_spots : mg "spots" = some (.ref a_spots)
  a_nexts : Addr
  d_nexts : FuncData
  F_nexts : Fun K "nexts" "nexts" s_nexts a_nexts d_nexts
  b_nexts : Binds K d_nexts ["comers", "bound", "spot"] []
  g_nexts : mg "nexts" = some (.ref a_nexts)
  a_walk : Addr
  d_walk : FuncData
  F_walk : Fun K "walk" "walk" s_walk a_walk d_walk
  b_walk : Binds K d_walk ["comers", "bound", "comings"] []
  g_walk : mg "walk" = some (.ref a_walk)
  a_comings_for : Addr
  d_comings_for : FuncData
  F_comings_for : Fun K "comings_for" "comings_for" s_comings_for a_comings_for d_comings_for
  b_comings_for : Binds K d_comings_for ["comers", "bound", "row"] []
  g_comings_for : mg "comings_for" = some (.ref a_comings_for)
  a__law_tape : Addr
  d__law_tape : FuncData
  F__law_tape : Fun K "_law_tape" "_law_tape" s__law_tape a__law_tape d__law_tape
  b__law_tape : Binds K d__law_tape ["script"] []
  g__law_tape : mg "_law_tape" = some (.ref a__law_tape)
  a__law_pick : Addr
  d__law_pick : FuncData
  F__law_pick : Fun K "_law_pick" "_law_pick" s__law_pick a__law_pick d__law_pick
  b__law_pick : Binds K d__law_pick ["tape", "size"] []
  g__law_pick : mg "_law_pick" = some (.ref a__law_pick)
  a__law_odd : Addr
  d__law_odd : FuncData
  F__law_odd : Fun K "_law_odd" "_law_odd" s__law_odd a__law_odd d__law_odd
  b__law_odd : Binds K d__law_odd ["tape"] []
  g__law_odd : mg "_law_odd" = some (.ref a__law_odd)
  a__law_is_int : Addr
  d__law_is_int : FuncData
  F__law_is_int : Fun K "_law_is_int" "_law_is_int" s__law_is_int a__law_is_int d__law_is_int
  b__law_is_int : Binds K d__law_is_int ["thing", "least", "most"] []
  g__law_is_int : mg "_law_is_int" = some (.ref a__law_is_int)
  a__law_are_ints : Addr
  d__law_are_ints : FuncData
  F__law_are_ints : Fun K "_law_are_ints" "_law_are_ints" s__law_are_ints a__law_are_ints d__law_are_ints
  b__law_are_ints : Binds K d__law_are_ints ["thing", "many", "least", "most"] []
  g__law_are_ints : mg "_law_are_ints" = some (.ref a__law_are_ints)
  a__law_asked : Addr
  d__law_asked : FuncData
  F__law_asked : Fun K "_law_asked" "_law_asked" s__law_asked a__law_asked d__law_asked
  b__law_asked : Binds K d__law_asked ["kind", "a"] []
  g__law_asked : mg "_law_asked" = some (.ref a__law_asked)
  a__law_tried : Addr
  d__law_tried : FuncData
  F__law_tried : Fun K "_law_tried" "_law_tried" s__law_tried a__law_tried d__law_tried
  b__law_tried : Binds K d__law_tried ["kind", "a"] []
  g__law_tried : mg "_law_tried" = some (.ref a__law_tried)
  a__law_is_spot : Addr
  d__law_is_spot : FuncData
  F__law_is_spot : Fun K "_law_is_spot" "_law_is_spot" s__law_is_spot a__law_is_spot d__law_is_spot
  b__law_is_spot : Binds K d__law_is_spot ["comers", "bound", "thing"] []
  g__law_is_spot : mg "_law_is_spot" = some (.ref a__law_is_spot)
  a__law_is_walk : Addr
  d__law_is_walk : FuncData
  F__law_is_walk : Fun K "_law_is_walk" "_law_is_walk" s__law_is_walk a__law_is_walk d__law_is_walk
  b__law_is_walk : Binds K d__law_is_walk ["comers", "bound", "thing"] []
  g__law_is_walk : mg "_law_is_walk" = some (.ref a__law_is_walk)
  a__law_due : Addr
  d__law_due : FuncData
  F__law_due : Fun K "_law_due" "_law_due" s__law_due a__law_due d__law_due
  b__law_due : Binds K d__law_due ["kind", "a"] []
  g__law_due : mg "_law_due" = some (.ref a__law_due)
  a__law_walk : Addr
  d__law_walk : FuncData
  F__law_walk : Fun K "_law_walk" "_law_walk" s__law_walk a__law_walk d__law_walk
  b__law_walk : Binds K d__law_walk ["tape", "comers", "bound"] []
  g__law_walk : mg "_law_walk" = some (.ref a__law_walk)
  a_law : Addr
  d_law : FuncData
  F_law : Fun K "law" "law" s_law a_law d_law
  b_law : Binds K d_law ["script"] []
  g_law : mg "law" = some (.ref a_law)
  m_all : mg "all" = none
  m_bool : mg "bool" = none
  m_enumerate : mg "enumerate" = none
  m_int : mg "int" = none
  m_isinstance : mg "isinstance" = none
  m_len : mg "len" = none
  m_list : mg "list" = none
  m_min : mg "min" = none
  m_range : mg "range" = none
  m_repr : mg "repr" = none
  m_tuple : mg "tuple" = none
  m_zip : mg "zip" = none
  t_MOST_BOUND : Tok
  g_MOST_BOUND : mg "MOST_BOUND" = some (.int 60 t_MOST_BOUND)
  t_MOST_COMERS : Tok
  g_MOST_COMERS : mg "MOST_COMERS" = some (.int 4 t_MOST_COMERS)
  t_MOST_SPOTS : Tok
  g_MOST_SPOTS : mg "MOST_SPOTS" = some (.int 60 t_MOST_SPOTS)
  t_MOST_TICKS : Tok
  g_MOST_TICKS : mg "MOST_TICKS" = some (.int 400 t_MOST_TICKS)
  c_LoopError : Addr
  g_LoopError : mg "LoopError" = some (.ref c_LoopError)
  c_NoBound : Addr
  g_NoBound : mg "NoBound" = some (.ref c_NoBound)
  c_NoComers : Addr
  g_NoComers : mg "NoComers" = some (.ref c_NoComers)
  c_NoComings : Addr
  g_NoComings : mg "NoComings" = some (.ref c_NoComings)
  c_NoSpot : Addr
  g_NoSpot : mg "NoSpot" = some (.ref c_NoSpot)
  c_NoWalk : Addr
  g_NoWalk : mg "NoWalk" = some (.ref c_NoWalk)
  a_NoComers___init__ : Addr
  d_NoComers___init__ : FuncData
  F_NoComers___init__ : Fun K "__init__" "NoComers.__init__" s_NoComers___init__ a_NoComers___init__ d_NoComers___init__
  b_NoComers___init__ : Binds K d_NoComers___init__ ["self"] []
  x_NoComers : OexC K c_NoComers
  i_NoComers : PySem.W.findIn K (.ref c_NoComers) "__init__" = some (some (.ref a_NoComers___init__))
  ti_NoComers : PySem.W.typeIn K (.ref a_NoComers___init__) = some (.type "function")
  e_NoComers : PySem.W.exmOne K (.ref c_NoComers) (.ref c_NoComers) = some true
  a_NoBound___init__ : Addr
  d_NoBound___init__ : FuncData
  F_NoBound___init__ : Fun K "__init__" "NoBound.__init__" s_NoBound___init__ a_NoBound___init__ d_NoBound___init__
  b_NoBound___init__ : Binds K d_NoBound___init__ ["self"] []
  x_NoBound : OexC K c_NoBound
  i_NoBound : PySem.W.findIn K (.ref c_NoBound) "__init__" = some (some (.ref a_NoBound___init__))
  ti_NoBound : PySem.W.typeIn K (.ref a_NoBound___init__) = some (.type "function")
  e_NoBound : PySem.W.exmOne K (.ref c_NoBound) (.ref c_NoBound) = some true
  a_NoComings___init__ : Addr
  d_NoComings___init__ : FuncData
  F_NoComings___init__ : Fun K "__init__" "NoComings.__init__" s_NoComings___init__ a_NoComings___init__ d_NoComings___init__
  b_NoComings___init__ : Binds K d_NoComings___init__ ["self"] []
  x_NoComings : OexC K c_NoComings
  i_NoComings : PySem.W.findIn K (.ref c_NoComings) "__init__" = some (some (.ref a_NoComings___init__))
  ti_NoComings : PySem.W.typeIn K (.ref a_NoComings___init__) = some (.type "function")
  e_NoComings : PySem.W.exmOne K (.ref c_NoComings) (.ref c_NoComings) = some true
  a_NoSpot___init__ : Addr
  d_NoSpot___init__ : FuncData
  F_NoSpot___init__ : Fun K "__init__" "NoSpot.__init__" s_NoSpot___init__ a_NoSpot___init__ d_NoSpot___init__
  b_NoSpot___init__ : Binds K d_NoSpot___init__ ["self"] []
  x_NoSpot : OexC K c_NoSpot
  i_NoSpot : PySem.W.findIn K (.ref c_NoSpot) "__init__" = some (some (.ref a_NoSpot___init__))
  ti_NoSpot : PySem.W.typeIn K (.ref a_NoSpot___init__) = some (.type "function")
  e_NoSpot : PySem.W.exmOne K (.ref c_NoSpot) (.ref c_NoSpot) = some true
  a_NoWalk___init__ : Addr
  d_NoWalk___init__ : FuncData
  F_NoWalk___init__ : Fun K "__init__" "NoWalk.__init__" s_NoWalk___init__ a_NoWalk___init__ d_NoWalk___init__
  b_NoWalk___init__ : Binds K d_NoWalk___init__ ["self"] []
  x_NoWalk : OexC K c_NoWalk
  i_NoWalk : PySem.W.findIn K (.ref c_NoWalk) "__init__" = some (some (.ref a_NoWalk___init__))
  ti_NoWalk : PySem.W.typeIn K (.ref a_NoWalk___init__) = some (.type "function")
  e_NoWalk : PySem.W.exmOne K (.ref c_NoWalk) (.ref c_NoWalk) = some true
  ec_NoComers : ExcC K c_NoComers
  ec_NoBound : ExcC K c_NoBound
  ec_NoComings : ExcC K c_NoComings
  ec_NoSpot : ExcC K c_NoSpot
  ec_NoWalk : ExcC K c_NoWalk
  ec_LoopError : ExcC K c_LoopError
  kt_NoComers_LoopError : PySem.W.kitOne K (.ref c_NoComers) (.ref c_LoopError) = some true
  kt_NoBound_LoopError : PySem.W.kitOne K (.ref c_NoBound) (.ref c_LoopError) = some true
  kt_NoComings_LoopError : PySem.W.kitOne K (.ref c_NoComings) (.ref c_LoopError) = some true
  kt_NoSpot_LoopError : PySem.W.kitOne K (.ref c_NoSpot) (.ref c_LoopError) = some true
  kt_NoWalk_LoopError : PySem.W.kitOne K (.ref c_NoWalk) (.ref c_LoopError) = some true
  kt_NoComers_NoComers : PySem.W.kitOne K (.ref c_NoComers) (.ref c_NoComers) = some true
  kt_NoComers_NoBound : PySem.W.kitOne K (.ref c_NoComers) (.ref c_NoBound) = some false
  kt_NoComers_NoComings : PySem.W.kitOne K (.ref c_NoComers) (.ref c_NoComings) = some false
  kt_NoComers_NoSpot : PySem.W.kitOne K (.ref c_NoComers) (.ref c_NoSpot) = some false
  kt_NoComers_NoWalk : PySem.W.kitOne K (.ref c_NoComers) (.ref c_NoWalk) = some false
  kt_NoBound_NoComers : PySem.W.kitOne K (.ref c_NoBound) (.ref c_NoComers) = some false
  kt_NoBound_NoBound : PySem.W.kitOne K (.ref c_NoBound) (.ref c_NoBound) = some true
  kt_NoBound_NoComings : PySem.W.kitOne K (.ref c_NoBound) (.ref c_NoComings) = some false
  kt_NoBound_NoSpot : PySem.W.kitOne K (.ref c_NoBound) (.ref c_NoSpot) = some false
  kt_NoBound_NoWalk : PySem.W.kitOne K (.ref c_NoBound) (.ref c_NoWalk) = some false
  kt_NoComings_NoComers : PySem.W.kitOne K (.ref c_NoComings) (.ref c_NoComers) = some false
  kt_NoComings_NoBound : PySem.W.kitOne K (.ref c_NoComings) (.ref c_NoBound) = some false
  kt_NoComings_NoComings : PySem.W.kitOne K (.ref c_NoComings) (.ref c_NoComings) = some true
  kt_NoComings_NoSpot : PySem.W.kitOne K (.ref c_NoComings) (.ref c_NoSpot) = some false
  kt_NoComings_NoWalk : PySem.W.kitOne K (.ref c_NoComings) (.ref c_NoWalk) = some false
  kt_NoSpot_NoComers : PySem.W.kitOne K (.ref c_NoSpot) (.ref c_NoComers) = some false
  kt_NoSpot_NoBound : PySem.W.kitOne K (.ref c_NoSpot) (.ref c_NoBound) = some false
  kt_NoSpot_NoComings : PySem.W.kitOne K (.ref c_NoSpot) (.ref c_NoComings) = some false
  kt_NoSpot_NoSpot : PySem.W.kitOne K (.ref c_NoSpot) (.ref c_NoSpot) = some true
  kt_NoSpot_NoWalk : PySem.W.kitOne K (.ref c_NoSpot) (.ref c_NoWalk) = some false
  kt_NoWalk_NoComers : PySem.W.kitOne K (.ref c_NoWalk) (.ref c_NoComers) = some false
  kt_NoWalk_NoBound : PySem.W.kitOne K (.ref c_NoWalk) (.ref c_NoBound) = some false
  kt_NoWalk_NoComings : PySem.W.kitOne K (.ref c_NoWalk) (.ref c_NoComings) = some false
  kt_NoWalk_NoSpot : PySem.W.kitOne K (.ref c_NoWalk) (.ref c_NoSpot) = some false
  kt_NoWalk_NoWalk : PySem.W.kitOne K (.ref c_NoWalk) (.ref c_NoWalk) = some true
  xm_NoComers_LoopError : PySem.W.exmOne K (.ref c_NoComers) (.ref c_LoopError) = some true
  xm_NoBound_LoopError : PySem.W.exmOne K (.ref c_NoBound) (.ref c_LoopError) = some true
  xm_NoComings_LoopError : PySem.W.exmOne K (.ref c_NoComings) (.ref c_LoopError) = some true
  xm_NoSpot_LoopError : PySem.W.exmOne K (.ref c_NoSpot) (.ref c_LoopError) = some true
  xm_NoWalk_LoopError : PySem.W.exmOne K (.ref c_NoWalk) (.ref c_LoopError) = some true
/- ((pss_cons (ps_set (i := 1) sc_law.nd rfl (.inr rfl) (pe_call (ok__law_tape T) (hr.mono (by decide)) (by rfl) T.g__law_tape T.F__law_tape.kp T.b__law_tape .nil pass0 (pa_cons (pv 0) pa_nil)))
  (pss_cons (ps_set (i := 2) sc_law.nd rfl (.inr rfl) (pe_op op_add pe_int (pe_call (ok__law_pick T) (hr.mono (by decide)) (by rfl) T.g__law_pick T.F__law_pick.kp T.b__law_pick .nil pass0 (pa_cons (pv 1) (pa_cons pe_int pa_nil)))))
  (pss_cons (ps_set (i := 3) sc_law.nd rfl (.inl rfl) (pe_ix ix_list (pe_lst (pa_cons (pe_op op_add pe_int (pe_call (ok__law_pick T) (hr.mono (by decide)) (by rfl) T.g__law_pick T.F__law_pick.kp T.b__law_pick .nil pass0 (pa_cons (pv 1) (pa_cons pe_int pa_nil)))) (pa_cons (pe_op op_add pe_int (pe_call (ok__law_pick T) (hr.mono (by decide)) (by rfl) T.g__law_pick T.F__law_pick.kp T.b__law_pick .nil pass0 (pa_cons (pv 1) (pa_cons pe_int pa_nil)))) (pa_cons pe_int pa_nil)))) (pe_call (ok__law_pick T) (hr.mono (by decide)) (by rfl) T.g__law_pick T.F__law_pick.kp T.b__law_pick .nil pass0 (pa_cons (pv 1) (pa_cons pe_int pa_nil))) (fun _ _ => rfl)))
  (pss_cons (ps_setLc (i := 4) (own := [("k", 9)]) (g := (gName 9)) (tt := tYes) rfl sc_law.nd rfl rfl (sw_true rfl rfl rfl (by decide +kernel)) (pi_range1 (by rfl) T.m_range (pa_cons (pe_call (ok__law_pick T) (hr.mono (by decide)) (by rfl) T.g__law_pick T.F__law_pick.kp T.b__law_pick .nil pass0 (pa_cons (pv 1) (pa_cons pe_int pa_nil))) pa_nil)) (blkOk_by (own := [("k", 9)]) (N := ["script", "tape", "comers", "bound", "numbers", "a", "name", "kept", "kind", "k"]) (sc := defScope s_law) (by decide +kernel)) (fun _ _ _ _ _ => pg_name (i := 9) sc_law.nd rfl (.inl rfl)) (fun _ _ _ _ _ => pts_nil) (fun _ _ _ _ _ => (pe_call (ok__law_pick T) (hr.mono (by decide)) (by rfl) T.g__law_pick T.F__law_pick.kp T.b__law_pick .nil pass0 (pa_cons (pv 1) (pa_cons (pe_op op_add (pe_op op_add (pv 2) pe_int) (pe_callTy call_int1 (by rfl) T.m_int (by decide +kernel) (pa_cons (pe_cmpR op_eq (pe_call (ok__law_pick T) (hr.mono (by decide)) (by rfl) T.g__law_pick T.F__law_pick.kp T.b__law_pick .nil pass0 (pa_cons (pv 1) (pa_cons pe_int pa_nil))) pe_int (nomark _)) pa_nil))) pa_nil)))))
  (pss_cons (ps_set (i := 5) sc_law.nd rfl (.inl rfl) (pe_disp (pps_cons pe_str (pv 2) (pps_cons pe_str (pv 3) (pps_cons pe_str (pe_callTy call_tuple_of (by rfl) T.m_tuple (by decide +kernel) (pa_cons (pv 4) pa_nil)) pps_nil))) (by rfl) rfl (by simp) (by decide)))
  (Evl.pss_cut (ps_if (pt_cmpR op_eq (pe_call (ok__law_pick T) (hr.mono (by decide)) (by rfl) T.g__law_pick T.F__law_pick.kp T.b__law_pick .nil pass0 (pa_cons (pv 1) (pa_cons pe_int pa_nil))) pe_int (nomark _)) (pss_one (ps_dput (by exact hu_of hr) (pv 5) pe_str (pe_op RN6.op_repN (pe_tup (pa_cons pe_int pa_nil)) (pe_op op_add pe_int (pe_call (ok__law_pick T) (hr.mono (by decide)) (by rfl) T.g__law_pick T.F__law_pick.kp T.b__law_pick .nil pass0 (pa_cons (pv 1) (pa_cons pe_int pa_nil))))) rfl)) pss_nil)
  (pss_cons (ps_dput (by exact hu_of hr) (pv 5) pe_str (pe_tup (pa_cons (pe_call (ok__law_pick T) (hr.mono (by decide)) (by rfl) T.g__law_pick T.F__law_pick.kp T.b__law_pick .nil pass0 (pa_cons (pv 1) (pa_cons (pe_op op_add (pv 3) pe_int) pa_nil))) (pa_cons (pe_call (ok__law_pick T) (hr.mono (by decide)) (by rfl) T.g__law_pick T.F__law_pick.kp T.b__law_pick .nil pass0 (pa_cons (pv 1) (pa_cons (pe_op op_add (pv 2) pe_int) pa_nil))) pa_nil))) rfl)
  (Evl.pss_cut (ps_if (pt_cmpR op_eq (pe_call (ok__law_pick T) (hr.mono (by decide)) (by rfl) T.g__law_pick T.F__law_pick.kp T.b__law_pick .nil pass0 (pa_cons (pv 1) (pa_cons pe_int pa_nil))) pe_int (nomark _)) (pss_one (ps_dput (by exact hu_of hr) (pv 5) pe_str (pe_ix ix_list (pe_lst (pa_cons (pe_tup (pa_cons (pe_call (ok__law_pick T) (hr.mono (by decide)) (by rfl) T.g__law_pick T.F__law_pick.kp T.b__law_pick .nil pass0 (pa_cons (pv 1) (pa_cons (pe_op op_add (pv 3) pe_int) pa_nil))) (pa_cons pe_bl pa_nil))) (pa_cons (pe_tup (pa_cons pe_bl (pa_cons pe_int pa_nil))) (pa_cons (pe_tup (pa_cons pe_bl (pa_cons pe_int pa_nil))) pa_nil)))) (pe_call (ok__law_pick T) (hr.mono (by decide)) (by rfl) T.g__law_pick T.F__law_pick.kp T.b__law_pick .nil pass0 (pa_cons (pv 1) (pa_cons pe_int pa_nil))) (fun _ _ => rfl)) rfl)) pss_nil)
  (pss_cons (ps_dput (by exact hu_of hr) (pv 5) pe_str (pe_call (ok__law_walk T) (hr.mono (by decide)) (by rfl) T.g__law_walk T.F__law_walk.kp T.b__law_walk .nil pass0 (pa_cons (pv 1) (pa_cons (pv 2) (pa_cons (pv 3) pa_nil)))) rfl)
  (pss_cons (ps_for PassesOwn.never rfl (pi_list (pe_lst (pa_cons pe_str (pa_cons pe_str (pa_cons pe_str (pa_cons pe_str (pa_cons pe_str pa_nil))))))) (pg_name (i := 6) sc_law.nd rfl (.inl rfl))
   (pss_one (ps_if (pt_cmpR op_eq (pe_call (ok__law_pick T) (hr.mono (by decide)) (by rfl) T.g__law_pick T.F__law_pick.kp T.b__law_pick .nil pass0 (pa_cons (pv 1) (pa_cons pe_int pa_nil))) pe_int (nomark _)) (pss_one (ps_dput (by exact hu_of hr) (pv 5) (pv 6) (pe_call (ok__law_odd T) (hr.mono (by decide)) (by rfl) T.g__law_odd T.F__law_odd.kp T.b__law_odd .nil pass0 (pa_cons (pv 1) pa_nil)) rfl)) pss_nil)))
  (Evl.pss_cut (ps_if (pt_cmpR op_eq (pe_call (ok__law_pick T) (hr.mono (by decide)) (by rfl) T.g__law_pick T.F__law_pick.kp T.b__law_pick .nil pass0 (pa_cons (pv 1) (pa_cons pe_int pa_nil))) pe_int (nomark _)) (pss_one (ps_dput (by exact hu_of hr) (pv 5) pe_str (pe_callTy call_list_of (by rfl) T.m_list (by decide +kernel) (pa_cons (pv 4) pa_nil)) rfl)) pss_nil)
  (pss_cons (ps_set (i := 7) sc_law.nd rfl (.inl rfl) (pe_callB (RO9.call_reprO (by exact noG) (units65 hr)) (by rfl) T.m_repr (by decide +kernel) (pa_cons (pv 5) pa_nil)))
  (pss_cons (ps_for PassesOwn.never rfl (pi_range1 (by rfl) T.m_range (pa_cons pe_int pa_nil)) (pg_name (i := 8) sc_law.nd rfl (.inl rfl))
   (pss_one (ps_if (PW.pt (pw_or (pt_cmpR op_ne (pe_call (ok__law_tried T) (hr.mono (by decide)) (by rfl) T.g__law_tried T.F__law_tried.kp T.b__law_tried .nil pass0 (pa_cons (pv 8) (pa_cons (pv 5) pa_nil))) (pe_call (ok__law_due T) (hr.mono (by decide)) (by rfl) T.g__law_due T.F__law_due.kp T.b__law_due .nil pass0 (pa_cons (pv 8) (pa_cons (pv 5) pa_nil))) (nomark _)) (pw_or1 (pt_cmpR op_ne (pe_callB (RO9.call_reprO (by exact noG) (units65 hr)) (by rfl) T.m_repr (by decide +kernel) (pa_cons (pv 5) pa_nil)) (pv 7) (nomark _))))) (pss_one (ps_ret pe_bl)) pss_nil)))
  (pss_one (ps_ret pe_bl)))))))))))))))) ((pss_cons (ps_set (i := 2) sc__law_tried.nd rfl (.inl rfl) pe_str)
  (pss_cons (L2N.ps_try_as (i := 3) (Wout := fun _ _ _ _ => False) rfl rfl sc__law_tried.nd rfl rfl ⟨by rfl, by decide, .inl T.g_LoopError⟩ HL11.takes0N (fun W pn xe tk _ => (pss_one (ps_expr (pe_callS (ok__law_asked T) (hr.mono (by decide)) (by rfl) T.g__law_asked T.F__law_asked.kp T.b__law_asked (fun σ => L2N.passAt tk σ) (pa_cons (pv 0) (pa_cons (pv 1) pa_nil)))))) (fun a oe cls d pn hz hf => (pss_cons (ps_set (i := 4) sc__law_tried.nd rfl (.inr rfl) (pe_lst (pa_cons (pe_callB (EXN.call_isN hz.zc hf) (by rfl) T.m_isinstance (by decide +kernel) (pa_cons (pv 3) (pa_cons (pe_glob (v := .ref T.c_NoComers) rfl T.g_NoComers rfl) pa_nil))) (pa_cons (pe_callB (EXN.call_isN hz.zc hf) (by rfl) T.m_isinstance (by decide +kernel) (pa_cons (pv 3) (pa_cons (pe_glob (v := .ref T.c_NoBound) rfl T.g_NoBound rfl) pa_nil))) (pa_cons (pe_callB (EXN.call_isN hz.zc hf) (by rfl) T.m_isinstance (by decide +kernel) (pa_cons (pv 3) (pa_cons (pe_glob (v := .ref T.c_NoComings) rfl T.g_NoComings rfl) pa_nil))) (pa_cons (pe_callB (EXN.call_isN hz.zc hf) (by rfl) T.m_isinstance (by decide +kernel) (pa_cons (pv 3) (pa_cons (pe_glob (v := .ref T.c_NoSpot) rfl T.g_NoSpot rfl) pa_nil))) pa_nil))))))
  (pss_cons (ps_expr (EXN.pe_bmK (K := K) (by rfl) PySem.F.plainAttrs_list PySem.F.slot_list_append PySem.F.type_list_append mt_append (pv 4) (pa_cons (pe_callB (EXN.call_isN hz.zc hf) (by rfl) T.m_isinstance (by decide +kernel) (pa_cons (pv 3) (pa_cons (pe_glob (v := .ref T.c_NoWalk) rfl T.g_NoWalk rfl) pa_nil))) pa_nil)))
  (pss_cons (ps_set (i := 5) sc__law_tried.nd rfl (.inr rfl) (pe_lst (pa_cons pe_str (pa_cons pe_str (pa_cons pe_str (pa_cons pe_str (pa_cons pe_str pa_nil)))))))
  (pss_one (ps_set (i := 2) sc__law_tried.nd rfl (.inl rfl) (EXN.pe_bmK (K := K) (by rfl) PySem.F.plainAttrs_str PySem.F.slot_str_join PySem.F.type_str_join (EXN.mt_joinK (K := K) (by rfl)) pe_str (pa_cons (HL11.pe_lcH (own := [("k", 6)]) (g := (gName 6)) (HL11.hotS hz hf) sc__law_tried.nd (L2H.pi_range1H (by rfl) T.m_range (pa_cons pe_int pa_nil)) (blkOk_by (own := [("k", 6)]) (N := ["kind", "a", "found", "e", "flags", "words", "k"]) (sc := defScope s__law_tried) (by decide +kernel)) (fun _ _ _ _ _ => pg_name (i := 6) sc__law_tried.nd rfl (.inl rfl)) (fun _ _ _ _ _ => (pts_one (pt_val (pe_ix (ixLK (K := K) (by rfl)) (pv 4) (pv 6) (fun _ _ => rfl))))) (fun _ _ _ _ _ => (pe_ix (ixLK (K := K) (by rfl)) (pv 5) (pv 6) (fun _ _ => rfl)))) pa_nil)))))))))
  (pss_one (ps_ret (pv 2)))))) ((pss_cons (ps_if (pt_cmpR op_eq (pv 0) pe_int (nomark _)) (pss_one (ps_ret (pe_callS (ok_comes_x T) (hr.mono (by decide)) (by rfl) T.g_comes T.F_comes.kp T.b_comes (fun σ => L2N.passAt (L2N.takes_of rfl rfl rfl rfl) σ) (pa_cons (pe_dget (by exact hu_of hr) (pv 1) pe_str (fun _ _ => rfl)) (pa_cons (pe_dget (by exact hu_of hr) (pv 1) pe_str (fun _ _ => rfl)) pa_nil))))) pss_nil)
  (pss_cons (ps_if (pt_cmpR op_eq (pv 0) pe_int (nomark _)) (pss_one (ps_ret (pe_callS (ok_waits_x T) (hr.mono (by decide)) (by rfl) T.g_waits T.F_waits.kp T.b_waits (fun σ => L2N.passAt (L2N.takes_of rfl rfl rfl rfl) σ) (pa_cons (pe_dget (by exact hu_of hr) (pv 1) pe_str (fun _ _ => rfl)) (pa_cons (pe_dget (by exact hu_of hr) (pv 1) pe_str (fun _ _ => rfl)) (pa_cons (pe_dget (by exact hu_of hr) (pv 1) pe_str (fun _ _ => rfl)) pa_nil)))))) pss_nil)
  (pss_cons (ps_if (pt_cmpR op_eq (pv 0) pe_int (nomark _)) (pss_one (ps_ret (pe_callS (ok_lines_x T) (hr.mono (by decide)) (by rfl) T.g_lines T.F_lines.kp T.b_lines (fun σ => L2N.passAt (L2N.takes_of rfl rfl rfl rfl) σ) (pa_cons (pe_dget (by exact hu_of hr) (pv 1) pe_str (fun _ _ => rfl)) (pa_cons (pe_dget (by exact hu_of hr) (pv 1) pe_str (fun _ _ => rfl)) (pa_cons (pe_dget (by exact hu_of hr) (pv 1) pe_str (fun _ _ => rfl)) pa_nil)))))) pss_nil)
  (pss_cons (ps_if (pt_cmpR op_eq (pv 0) pe_int (nomark _)) (pss_one (ps_ret (pe_callS (ok_outs_x T) (hr.mono (by decide)) (by rfl) T.g_outs T.F_outs.kp T.b_outs (fun σ => L2N.passAt (L2N.takes_of rfl rfl rfl rfl) σ) (pa_cons (pe_dget (by exact hu_of hr) (pv 1) pe_str (fun _ _ => rfl)) (pa_cons (pe_dget (by exact hu_of hr) (pv 1) pe_str (fun _ _ => rfl)) (pa_cons (pe_dget (by exact hu_of hr) (pv 1) pe_str (fun _ _ => rfl)) pa_nil)))))) pss_nil)
  (pss_cons (ps_if (pt_cmpR op_eq (pv 0) pe_int (nomark _)) (pss_one (ps_ret (pe_callS (ok_spots_x T) (hr.mono (by decide)) (by rfl) T.g_spots T.F_spots.kp T.b_spots (fun σ => L2N.passAt (L2N.takes_of rfl rfl rfl rfl) σ) (pa_cons (pe_dget (by exact hu_of hr) (pv 1) pe_str (fun _ _ => rfl)) (pa_cons (pe_dget (by exact hu_of hr) (pv 1) pe_str (fun _ _ => rfl)) pa_nil))))) pss_nil)
  (pss_cons (ps_if (pt_cmpR op_eq (pv 0) pe_int (nomark _)) (pss_one (ps_ret (pe_callS (ok_nexts_x T) (hr.mono (by decide)) (by rfl) T.g_nexts T.F_nexts.kp T.b_nexts (fun σ => L2N.passAt (L2N.takes_of rfl rfl rfl rfl) σ) (pa_cons (pe_dget (by exact hu_of hr) (pv 1) pe_str (fun _ _ => rfl)) (pa_cons (pe_dget (by exact hu_of hr) (pv 1) pe_str (fun _ _ => rfl)) (pa_cons (pe_dget (by exact hu_of hr) (pv 1) pe_str (fun _ _ => rfl)) pa_nil)))))) pss_nil)
  (pss_cons (ps_if (pt_cmpR op_eq (pv 0) pe_int (nomark _)) (pss_one (ps_ret (pe_callS (ok_walk_x T) (hr.mono (by decide)) (by rfl) T.g_walk T.F_walk.kp T.b_walk (fun σ => L2N.passAt (L2N.takes_of rfl rfl rfl rfl) σ) (pa_cons (pe_dget (by exact hu_of hr) (pv 1) pe_str (fun _ _ => rfl)) (pa_cons (pe_dget (by exact hu_of hr) (pv 1) pe_str (fun _ _ => rfl)) (pa_cons (pe_dget (by exact hu_of hr) (pv 1) pe_str (fun _ _ => rfl)) pa_nil)))))) pss_nil)
  (pss_one (ps_ret (pe_callS (ok_comings_for_x T) (hr.mono (by decide)) (by rfl) T.g_comings_for T.F_comings_for.kp T.b_comings_for (fun σ => L2N.passAt (L2N.takes_of rfl rfl rfl rfl) σ) (pa_cons (pe_dget (by exact hu_of hr) (pv 1) pe_str (fun _ _ => rfl)) (pa_cons (pe_dget (by exact hu_of hr) (pv 1) pe_str (fun _ _ => rfl)) (pa_cons (pe_dget (by exact hu_of hr) (pv 1) pe_str (fun _ _ => rfl)) pa_nil)))))))))))))) ((pss_cons (ps_if (pt_not (pt_val (pe_call (ok__law_is_int T) (hr.mono (by decide)) (by rfl) T.g__law_is_int T.F__law_is_int.kp T.b__law_is_int .nil pass0 (pa_cons (pe_dget (by exact hu_of hr) (pv 1) pe_str (fun _ _ => rfl)) (pa_cons pe_int (pa_cons pe_int pa_nil)))))) (pss_one (ps_ret pe_str)) pss_nil)
  (pss_cons (ps_if (PW.pt (pw_and (pt_cmpR op_gt (pv 0) pe_int (nomark _)) (pw_and1 (pt_not (pt_val (pe_call (ok__law_is_int T) (hr.mono (by decide)) (by rfl) T.g__law_is_int T.F__law_is_int.kp T.b__law_is_int .nil pass0 (pa_cons (pe_dget (by exact hu_of hr) (pv 1) pe_str (fun _ _ => rfl)) (pa_cons pe_int (pa_cons pe_int pa_nil))))))))) (pss_one (ps_ret pe_str)) pss_nil)
  (pss_cons (ps_if (PW.pt (pw_and (pt_cmpR op_in_seq (pv 0) (pe_lst (pa_cons pe_int (pa_cons pe_int (pa_cons pe_int (pa_cons pe_int (pa_cons pe_int pa_nil)))))) (by rfl)) (pw_and1 (pt_not (pt_val (pe_call (ok__law_are_ints T) (hr.mono (by decide)) (by rfl) T.g__law_are_ints T.F__law_are_ints.kp T.b__law_are_ints .nil pass0 (pa_cons (pe_dget (by exact hu_of hr) (pv 1) pe_str (fun _ _ => rfl)) (pa_cons pe_int (pa_cons pe_int (pa_cons (pe_dget (by exact hu_of hr) (pv 1) pe_str (fun _ _ => rfl)) pa_nil)))))))))) (pss_one (ps_ret pe_str)) pss_nil)
  (pss_cons (ps_if (PW.pt (pw_and (pt_cmpR op_eq (pv 0) pe_int (nomark _)) (pw_and1 (pt_not (pt_val (pe_call (ok__law_is_spot T) (hr.mono (by decide)) (by rfl) T.g__law_is_spot T.F__law_is_spot.kp T.b__law_is_spot .nil pass0 (pa_cons (pe_dget (by exact hu_of hr) (pv 1) pe_str (fun _ _ => rfl)) (pa_cons (pe_dget (by exact hu_of hr) (pv 1) pe_str (fun _ _ => rfl)) (pa_cons (pe_dget (by exact hu_of hr) (pv 1) pe_str (fun _ _ => rfl)) pa_nil))))))))) (pss_one (ps_ret pe_str)) pss_nil)
  (pss_cons (ps_if (PW.pt (pw_and (pt_cmpR op_eq (pv 0) pe_int (nomark _)) (pw_and1 (pt_not (pt_val (pe_call (ok__law_is_walk T) (hr.mono (by decide)) (by rfl) T.g__law_is_walk T.F__law_is_walk.kp T.b__law_is_walk .nil pass0 (pa_cons (pe_dget (by exact hu_of hr) (pv 1) pe_str (fun _ _ => rfl)) (pa_cons (pe_dget (by exact hu_of hr) (pv 1) pe_str (fun _ _ => rfl)) (pa_cons (pe_dget (by exact hu_of hr) (pv 1) pe_str (fun _ _ => rfl)) pa_nil))))))))) (pss_one (ps_ret pe_str)) pss_nil)
  (pss_one (ps_ret pe_str)))))))) ((pss_cons (ps_if (PW.pt (pw_or (pt_not (pt_val (pe_callB call_isi (by rfl) T.m_isinstance (by decide +kernel) (pa_cons (pv 2) (pa_cons (pe_bltn (v := .ty "tuple") (by rfl) T.m_tuple (by decide +kernel) rfl) pa_nil))))) (pw_or1 (pt_cmpR op_ne (pe_callB call_len_seq (by rfl) T.m_len PySem.boot_len (pa_cons (pv 2) pa_nil)) pe_int (nomark _))))) (pss_one (ps_ret pe_bl)) pss_nil)
  (pss_one (ps_ret (pe_and (pe_call (ok__law_is_int T) (hr.mono (by decide)) (by rfl) T.g__law_is_int T.F__law_is_int.kp T.b__law_is_int .nil pass0 (pa_cons (pe_ix ix_tup (pv 2) pe_int (fun _ _ => rfl)) (pa_cons pe_int (pa_cons (pv 1) pa_nil)))) (pe_and (pe_call (ok__law_is_int T) (hr.mono (by decide)) (by rfl) T.g__law_is_int T.F__law_is_int.kp T.b__law_is_int .nil pass0 (pa_cons (pe_ix ix_tup (pv 2) pe_int (fun _ _ => rfl)) (pa_cons pe_int (pa_cons (pv 0) pa_nil)))) (pe_one (pe_cmpR op_ge (pe_ix ix_tup (pv 2) pe_int (fun _ _ => rfl)) (pe_op op_sub (pe_ix ix_tup (pv 2) pe_int (fun _ _ => rfl)) pe_int) (nomark _))))))))) ((pss_cons (ps_if (PW.pt (pw_or (pt_not (pt_val (pe_callB call_isiT (by rfl) T.m_isinstance (by decide +kernel) (pa_cons (pv 2) (pa_cons (pe_tup (pa_cons (pe_bltn (v := .ty "list") (by rfl) T.m_list (by decide +kernel) rfl) (pa_cons (pe_bltn (v := .ty "tuple") (by rfl) T.m_tuple (by decide +kernel) rfl) pa_nil))) pa_nil))))) (pw_or (pt_cmpR op_lt (pe_callB call_len_seq (by rfl) T.m_len PySem.boot_len (pa_cons (pv 2) pa_nil)) pe_int (nomark _)) (pw_or1 (pt_cmpR op_gt (pe_callB call_len_seq (by rfl) T.m_len PySem.boot_len (pa_cons (pv 2) pa_nil)) pe_int (nomark _)))))) (pss_one (ps_ret pe_bl)) pss_nil)
  (pss_cons (ps_for PassesOwn.never rfl (pi_range1 (by rfl) T.m_range (pa_cons (pe_callB call_len_seq (by rfl) T.m_len PySem.boot_len (pa_cons (pv 2) pa_nil)) pa_nil)) (pg_name (i := 3) sc__law_is_walk.nd rfl (.inl rfl))
   (pss_cons (ps_if (pt_not (pt_val (pe_call (ok__law_is_spot T) (hr.mono (by decide)) (by rfl) T.g__law_is_spot T.F__law_is_spot.kp T.b__law_is_spot .nil pass0 (pa_cons (pv 0) (pa_cons (pv 1) (pa_cons (pe_ix (ix_list.or ix_tup) (pv 2) (pv 3) (fun _ _ => rfl)) pa_nil)))))) (pss_one (ps_ret pe_bl)) pss_nil)
  (pss_cons (ps_if (PW.pt (pw_and (pt_cmpR op_eq (pv 3) pe_int (nomark _)) (pw_and1 (pt_cmpR op_ne (pe_ix ix_tup (pe_ix (ix_list.or ix_tup) (pv 2) (pv 3) (fun _ _ => rfl)) pe_int (fun _ _ => rfl)) pe_int (nomark _))))) (pss_one (ps_ret pe_bl)) pss_nil)
  (pss_one (ps_if (pt_cmpR op_gt (pv 3) pe_int (nomark _)) (pss_cons (ps_set (i := 4) sc__law_is_walk.nd rfl (.inl rfl) (pe_ix (ix_list.or ix_tup) (pv 2) (pe_op op_sub (pv 3) pe_int) (fun _ _ => rfl)))
  (pss_cons (ps_if (PW.pt (pw_and (pt_cmpR op_eq (pe_ix ix_tup (pe_ix (ix_list.or ix_tup) (pv 2) (pv 3) (fun _ _ => rfl)) pe_int (fun _ _ => rfl)) pe_int (nomark _)) (pw_and1 (pt_cmpR op_gt (pe_ix ix_tup (pe_ix (ix_list.or ix_tup) (pv 2) (pv 3) (fun _ _ => rfl)) pe_int (fun _ _ => rfl)) (pe_ix ix_tup (pv 4) pe_int (fun _ _ => rfl)) (nomark _))))) (pss_one (ps_ret pe_bl)) pss_nil)
  (pss_one (ps_if (PW.pt (pw_and (pt_cmpR op_gt (pe_ix ix_tup (pe_ix (ix_list.or ix_tup) (pv 2) (pv 3) (fun _ _ => rfl)) pe_int (fun _ _ => rfl)) pe_int (nomark _)) (pw_and1 (pt_cmpR (op_neD hr.units) (pe_ix (ix_list.or ix_tup) (pv 2) (pv 3) (fun _ _ => rfl)) (pe_tup (pa_cons (pe_op op_add (pe_ix ix_tup (pv 4) pe_int (fun _ _ => rfl)) pe_int) (pa_cons (pe_op op_add (pe_ix ix_tup (pv 4) pe_int (fun _ _ => rfl)) pe_int) pa_nil))) (nomark _))))) (pss_one (ps_ret pe_bl)) pss_nil)))) pss_nil)))))
  (pss_one (ps_ret pe_bl))))) ((pss_one (ps_ret (pe_and (pe_callB call_isi (by rfl) T.m_isinstance (by decide +kernel) (pa_cons (pv 0) (pa_cons (pe_bltn (v := .ty "int") (by rfl) T.m_int (by decide +kernel) rfl) pa_nil))) (pe_and (pe_not (pe_callB call_isi (by rfl) T.m_isinstance (by decide +kernel) (pa_cons (pv 0) (pa_cons (pe_bltn (v := .ty "bool") (by rfl) T.m_bool (by decide +kernel) rfl) pa_nil)))) (pe_and (pe_cmpR op_le (pv 1) (pv 0) (nomark _)) (pe_one (pe_cmpR op_le (pv 0) (pv 2) (nomark _))))))))) ((pss_cons (ps_if (PW.pt (pw_or (pt_not (pt_val (pe_callB call_isi (by rfl) T.m_isinstance (by decide +kernel) (pa_cons (pv 0) (pa_cons (pe_bltn (v := .ty "tuple") (by rfl) T.m_tuple (by decide +kernel) rfl) pa_nil))))) (pw_or1 (pt_cmpR op_gt (pe_callB call_len_seq (by rfl) T.m_len PySem.boot_len (pa_cons (pv 0) pa_nil)) (pv 1) (nomark _))))) (pss_one (ps_ret pe_bl)) pss_nil)
  (pss_one (ps_ret (pe_cmpR op_eq (pe_callB call_len_seq (by rfl) T.m_len PySem.boot_len (pa_cons (pe_lc (own := [("item", 4)]) (g := (gName 4)) rfl sc__law_are_ints.nd (pi_tup (pv 0)) (blkOk_by (own := [("item", 4)]) (N := ["thing", "many", "least", "most", "item"]) (sc := defScope s__law_are_ints) (by decide +kernel)) (fun _ _ _ _ _ => pg_name (i := 4) sc__law_are_ints.nd rfl (.inl rfl)) (fun _ _ _ _ _ => (pts_one (pt_not (pt_val (pe_call (ok__law_is_int T) (hr.mono (by decide)) (by rfl) T.g__law_is_int T.F__law_is_int.kp T.b__law_is_int .nil pass0 (pa_cons (pv 4) (pa_cons (pv 2) (pa_cons (pv 3) pa_nil)))))))) (fun _ _ _ _ _ => (pv 4))) pa_nil)) pe_int (nomark _)))))) ((pss_cons (ps_set (i := 3) sc__law_walk.nd rfl (.inl rfl) (pe_lst (pa_cons (pe_tup (pa_cons (pe_call (ok__law_pick T) (hr.mono (by decide)) (by rfl) T.g__law_pick T.F__law_pick.kp T.b__law_pick .nil pass0 (pa_cons (pv 0) (pa_cons (pe_op op_add (pv 2) pe_int) pa_nil))) (pa_cons pe_int pa_nil))) pa_nil)))
  (pss_cons (ps_for PassesOwn.never rfl (pi_range1 (by rfl) T.m_range (pa_cons (pe_ix ix_list (pe_lst (pa_cons (pe_call (ok__law_pick T) (hr.mono (by decide)) (by rfl) T.g__law_pick T.F__law_pick.kp T.b__law_pick .nil pass0 (pa_cons (pv 0) (pa_cons pe_int pa_nil))) (pa_cons pe_int (pa_cons pe_int pa_nil)))) (pe_op op_mul (pe_op op_fdivW (pe_call (ok__law_pick T) (hr.mono (by decide)) (by rfl) T.g__law_pick T.F__law_pick.kp T.b__law_pick .nil pass0 (pa_cons (pv 0) (pa_cons pe_int pa_nil))) pe_int) (pe_call (ok__law_pick T) (hr.mono (by decide)) (by rfl) T.g__law_pick T.F__law_pick.kp T.b__law_pick .nil pass0 (pa_cons (pv 0) (pa_cons pe_int pa_nil)))) (fun _ _ => rfl)) pa_nil)) (pg_name (i := 4) sc__law_walk.nd rfl (.inl rfl))
   (pss_cons (ps_asg (pe_ix ix_list (pv 3) (pe_un un_neg pe_int) (fun _ _ => rfl)) (pg_tup rfl (pgs_cons (pg_name (i := 5) sc__law_walk.nd rfl (.inl rfl)) (pgs_cons (pg_name (i := 6) sc__law_walk.nd rfl (.inl rfl)) pgs_nil))))
  (pss_one (ps_if (PW.pt (pw_and (pt_cmpR op_eq (pe_call (ok__law_pick T) (hr.mono (by decide)) (by rfl) T.g__law_pick T.F__law_pick.kp T.b__law_pick .nil pass0 (pa_cons (pv 0) (pa_cons pe_int pa_nil))) pe_int (nomark _)) (pw_and (pt_cmpR op_lt (pv 6) (pv 1) (nomark _)) (pw_and1 (pt_cmpR op_lt (pv 5) (pv 2) (nomark _)))))) (pss_one (ps_expr (pe_bm PySem.F.plainAttrs_list PySem.F.slot_list_append PySem.F.type_list_append mt_append (pv 3) (pa_cons (pe_tup (pa_cons (pe_op op_add (pv 5) pe_int) (pa_cons (pe_op op_add (pv 6) pe_int) pa_nil))) pa_nil)))) (pss_one (ps_expr (pe_bm PySem.F.plainAttrs_list PySem.F.slot_list_append PySem.F.type_list_append mt_append (pv 3) (pa_cons (pe_tup (pa_cons (pe_call (ok__law_pick T) (hr.mono (by decide)) (by rfl) T.g__law_pick T.F__law_pick.kp T.b__law_pick .nil pass0 (pa_cons (pv 0) (pa_cons (pe_op op_add (pv 5) pe_int) pa_nil))) (pa_cons pe_int pa_nil))) pa_nil))))))))
  (pss_cons (ps_set (i := 7) sc__law_walk.nd rfl (.inl rfl) (pe_call (ok__law_pick T) (hr.mono (by decide)) (by rfl) T.g__law_pick T.F__law_pick.kp T.b__law_pick .nil pass0 (pa_cons (pv 0) (pa_cons (pe_callB call_len_seq (by rfl) T.m_len PySem.boot_len (pa_cons (pv 3) pa_nil)) pa_nil))))
  (pss_cons (ps_set (i := 8) sc__law_walk.nd rfl (.inl rfl) (pe_call (ok__law_pick T) (hr.mono (by decide)) (by rfl) T.g__law_pick T.F__law_pick.kp T.b__law_pick .nil pass0 (pa_cons (pv 0) (pa_cons pe_int pa_nil))))
  (pss_cons (ps_if (pt_cmpR op_eq (pv 8) pe_int (nomark _)) (pss_cons (ps_set (i := 9) sc__law_walk.nd rfl (.inl rfl) (pe_ix ix_list (pv 3) (pv 7) (fun _ _ => rfl)))
  (pss_cons (ps_set (i := 10) sc__law_walk.nd rfl (.inl rfl) (pe_lst (pa_cons (pe_tup (pa_cons (pe_op op_add (pe_ix ix_tup (pv 9) pe_int (fun _ _ => rfl)) pe_int) (pa_cons pe_int pa_nil))) (pa_cons (pe_tup (pa_cons (pe_ix ix_tup (pv 9) pe_int (fun _ _ => rfl)) (pa_cons (pe_op op_add (pe_ix ix_tup (pv 9) pe_int (fun _ _ => rfl)) pe_int) pa_nil))) (pa_cons (pe_call (ok__law_odd T) (hr.mono (by decide)) (by rfl) T.g__law_odd T.F__law_odd.kp T.b__law_odd .nil pass0 (pa_cons (pv 0) pa_nil)) (pa_cons (pe_callTy call_list_of (by rfl) T.m_list (by decide +kernel) (pa_cons (pv 9) pa_nil)) (pa_cons (pe_tup (pa_cons (pe_ix ix_tup (pv 9) pe_int (fun _ _ => rfl)) (pa_cons pe_bl pa_nil))) (pa_cons (pe_tup (pa_cons (pe_cmpR op_eq (pe_ix ix_tup (pv 9) pe_int (fun _ _ => rfl)) pe_int (nomark _)) (pa_cons (pe_ix ix_tup (pv 9) pe_int (fun _ _ => rfl)) pa_nil))) pa_nil))))))))
  (pss_one (ps_asg (pe_ix ix_list (pv 10) (pe_call (ok__law_pick T) (hr.mono (by decide)) (by rfl) T.g__law_pick T.F__law_pick.kp T.b__law_pick .nil pass0 (pa_cons (pv 0) (pa_cons pe_int pa_nil))) (fun _ _ => rfl)) (pg_sub (pv 3) (pv 7) set_list))))) pss_nil)
  (pss_cons (ps_if (pt_cmpR op_eq (pv 8) pe_int (nomark _)) (pss_one (ps_expr (pe_bm PySem.F.plainAttrs_list PySem.F.slot_list_pop PySem.F.type_list_pop mt_popAt (pv 3) (pa_cons (pv 7) pa_nil)))) pss_nil)
  (pss_cons (ps_if (pt_cmpR op_eq (pv 8) pe_int (nomark _)) (pss_one (ps_expr (pe_bm PySem.F.plainAttrs_list PySem.F.slot_list_insert PySem.F.type_list_insert mt_insert (pv 3) (pa_cons (pv 7) (pa_cons (pe_ix ix_list (pv 3) (pv 7) (fun _ _ => rfl)) pa_nil))))) pss_nil)
  (pss_cons (ps_if (pt_cmpR op_eq (pv 8) pe_int (nomark _)) (pss_one (ps_ret (pe_callTy call_tuple_of (by rfl) T.m_tuple (by decide +kernel) (pa_cons (pv 3) pa_nil)))) pss_nil)
  (pss_one (ps_ret (pv 3)))))))))))) -/
def tv (l : Ln.Let) : List V := [.int l.1, .int l.2.1, wv l.2.2]
/-- comings that are right -/
def Rt (k : Int) (cs : List Int) : Prop := cs.length ≤ 400 ∧ ∀ c ∈ cs, 0 ≤ c ∧ c ≤ k
theorem Rt.four {k : Int} {cs : List Int} (h : Rt k cs) (hk : k ≤ 4) : ∀ c ∈ cs, c ≤ 4 := fun c hc => by
  have := h.2 c hc
  omega
theorem Rt.all {k : Int} {cs : List Int} (h : Rt k cs) : (cs.all fun n => decide (0 ≤ n) && decide (n ≤ k)) = true := by
  rw [List.all_eq_true]
  intro n hn
  have := h.2 n hn
  rw [Bool.and_eq_true]
  exact ⟨decide_eq_true this.1, decide_eq_true this.2⟩

section
variable {P : Program} {w : World} {K : PySem.W.Frag} {mg : Str → Option Value} {base : Heap}
def spTape (K : PySem.W.Frag) : Sp := fun vs H Q _ => ∃ (a : Addr) (ns : List Int), vs = [.ref a] ∧ SqL K H a (ns.map V.int) ∧ ∀ t s H', H t = none → H s = none → Same H H' → Tape H' t s → Q (.ref t) H'
theorem ok__law_tape (T : Tx K mg) : FnOk P w K mg base CX0 1 T.a__law_tape T.d__law_tape ["script"] (spTape K) := by
  refine T.F__law_tape.ok sc__law_tape (fun vs H Q E h => ?_) (fun cdv A outer s H vs Q E hr h => ?_)
  · obtain ⟨a, ns, rfl, _⟩ := h
    rfl
  · obtain ⟨a, ns, rfl, hS, q⟩ := h
    refine ⟨_, ((pss_one (ps_ret (pe_lst (pa_cons (pe_callTy call_list_of (by rfl) T.m_list (by decide +kernel) (pa_cons (pv 0) pa_nil)) (pa_cons pe_int (pa_cons pe_int (pa_cons pe_int (pa_cons pe_int pa_nil))))))))), ?_⟩
    refine ⟨.ref a, rfl, a, _, rfl, .inl hS, fun l nl => ?_⟩
    refine ⟨by show 5 ≤ sizeLine; decide, fun t nt => ?_⟩
    have nlt : l ≠ t := fun e => by
      rw [← e, upd_same] at nt
      cases nt
    have s1 : Same H (upd H l (.lst (ns.map V.int))) := same_upd nl
    refine q t l _ (Same.free s1 nt) nl (s1.trans (same_upd nt)) ⟨ns, 0, 0, 1, 0, nlt, upd_same, ?_, by decide⟩
    rw [upd_ne nlt, upd_same]
def spPick (K : PySem.W.Frag) : Sp := fun vs H Q _ => ∃ (t s : Addr) (n : Int), vs = [.ref t, .int n] ∧ (0 < n ∧ n < 2 ^ 60) ∧ Tape H t s ∧ ∀ r H', 0 ≤ r → r < n → Moved t H H' → Tape H' t s → Q (.int r) H'
theorem fm_of {a b : Int} (h : 0 < b) : 0 ≤ a.fmod b ∧ a.fmod b < b := by
  rw [Int.fmod_eq_emod_of_nonneg a (Int.le_of_lt h)]
  exact ⟨Int.emod_nonneg a (by omega), Int.emod_lt_of_pos a h⟩
theorem ok__law_pick (T : Tx K mg) : FnOk P w K mg base CX0 1 T.a__law_pick T.d__law_pick ["tape", "size"] (spPick K) := by
  refine T.F__law_pick.ok sc__law_pick (fun vs H Q E h => ?_) (fun cdv A outer s H vs Q E hr h => ?_)
  · obtain ⟨t, l, n, rfl, _⟩ := h
    rfl
  · obtain ⟨t, l, n, rfl, ⟨hn, hn2⟩, ⟨ns, pos, rest, mx, ct, hlt, ht, hl, hp⟩, q⟩ := h
    have wd : ∀ i : Int, CDivW i n := fun i => wide_div hn (b := 60) (by omega) (by decide) (by decide)
    refine ⟨_, ((pss_cons (ps_if (pt_cmpR op_gt (pe_ix ix_list (pv 0) pe_int (fun _ _ => rfl)) pe_int (nomark _)) (pss_cons (ps_set (i := 2) sc__law_pick.nd rfl (.inl rfl) (pe_op op_modN (pe_callTy call_int1 (by rfl) T.m_int (by decide +kernel) (pa_cons (pe_ix ix_list (pv 0) pe_int (fun _ _ => rfl)) pa_nil)) (pv 1)))
  (pss_cons (ps_asg (pe_op op_fdivW (pe_ix ix_list (pv 0) pe_int (fun _ _ => rfl)) (pv 1)) (pg_sub (pv 0) pe_int set_list))
  (pss_one (ps_ret (pv 2))))) pss_nil)
  (pss_cons (ps_asg (pe_op op_add (pe_ix ix_list (pv 0) pe_int (fun _ _ => rfl)) pe_int) (pg_sub (pv 0) pe_int set_list))
  (pss_cons (ps_set (i := 3) sc__law_pick.nd rfl (.inl rfl) pe_int)
  (Evl.pss_cut (ps_if (pt_cmpR op_lt (pe_ix ix_list (pv 0) pe_int (fun _ _ => rfl)) (pe_callB call_len_seq (by rfl) T.m_len PySem.boot_len (pa_cons (pe_ix ix_list (pv 0) pe_int (fun _ _ => rfl)) pa_nil)) (nomark _)) (pss_cons (ps_set (i := 3) sc__law_pick.nd rfl (.inl rfl) (pe_ix ix_list (pe_ix ix_list (pv 0) pe_int (fun _ _ => rfl)) (pe_ix ix_list (pv 0) pe_int (fun _ _ => rfl)) (fun _ _ => rfl)))
  (pss_one (ps_asg (pe_op op_add (pe_ix ix_list (pv 0) pe_int (fun _ _ => rfl)) pe_int) (pg_sub (pv 0) pe_int set_list)))) pss_nil)
  (pss_cons (ps_if (pt_cmpR op_ge (pv 3) (pe_op op_pow pe_int pe_int) (nomark _)) (pss_cons (ps_asg (pe_op op_fdivW (pv 3) (pv 1)) (pg_sub (pv 0) pe_int set_list))
  (pss_one (ps_ret (pe_op op_modN (pe_callTy call_int1 (by rfl) T.m_int (by decide +kernel) (pa_cons (pv 3) pa_nil)) (pv 1))))) pss_nil)
  (pss_cons (ps_set (i := 4) sc__law_pick.nd rfl (.inl rfl) (pe_op op_modN (pe_callTy call_int1 (by rfl) T.m_int (by decide +kernel) (pa_cons (pe_op op_add (pe_op op_add (pe_op op_mul (pe_ix ix_list (pv 0) pe_int (fun _ _ => rfl)) pe_int) (pe_op op_modN (pe_callTy call_int1 (by rfl) T.m_int (by decide +kernel) (pa_cons (pv 3) pa_nil)) pe_int)) (pe_op op_mul (pe_ix ix_list (pv 0) pe_int (fun _ _ => rfl)) pe_int)) pa_nil)) pe_int))
  (pss_cons (ps_set (i := 4) sc__law_pick.nd rfl (.inl rfl) (pe_op op_modN (pe_callTy call_int1 (by rfl) T.m_int (by decide +kernel) (pa_cons (pe_op op_mul (pv 4) (pe_op op_add (pe_op op_fdivW (pv 4) pe_int) pe_int)) pa_nil)) pe_int))
  (pss_cons (ps_asg (pv 4) (pg_sub (pv 0) pe_int set_list))
  (pss_one (ps_ret (pe_op op_modN (pe_callTy call_int1 (by rfl) T.m_int (by decide +kernel) (pa_cons (pe_op op_fdivW (pv 4) pe_int) pa_nil)) (pv 1))))))))))))), ?_⟩
    -- tape[2] > 1
    refine ⟨.ref t, rfl, t, _, 2, _, rfl, rfl, SqL.of ht, atI_nat (j := 2) rfl, _, _, rfl, rfl, _, rfl, ite2 (fun h1 => ?_) (fun h1 => ?_)⟩
    · -- digit
      refine ⟨.ref t, rfl, t, _, 2, _, rfl, rfl, SqL.of ht, atI_nat (j := 2) rfl, .inl ⟨_, rfl, ?_⟩⟩
      refine ⟨.int n, rfl, _, _, rfl, rfl, by omega, ?_⟩
      -- tape[2] = tape[2] // size
      refine ⟨.ref t, rfl, t, _, 2, _, rfl, rfl, SqL.of ht, atI_nat (j := 2) rfl, .int n, rfl, _, _, rfl, rfl, wd _, ?_⟩
      refine ⟨.ref t, rfl, t, _, 2, 2, rfl, rfl, ht, rfl, ?_⟩
      -- return digit
      refine ⟨_, rfl, ?_⟩
      refine q _ _ (fm_of hn).1 (fm_of hn).2 Moved.upd ⟨ns, pos, _, mx, ct, hlt, upd_same, ?_, hp⟩
      rw [upd_ne hlt]
      exact hl
    · -- tape[4] = tape[4] + 1
      refine ⟨.ref t, rfl, t, _, 4, _, rfl, rfl, SqL.of ht, atI_nat (j := 4) rfl, _, _, rfl, rfl, ?_⟩
      refine ⟨.ref t, rfl, t, _, 4, 4, rfl, rfl, ht, rfl, ?_⟩
      -- cell = 0; the first cut
      refine ⟨fun σ' H1 => ∃ (cell p2 : Int) (σ3 σ4 : Option V), σ' = [some (.ref t), some (.int n), σ3, some (.int cell), σ4] ∧ 0 ≤ p2 ∧ H1 t = some (.lst [.ref l, .int p2, .int rest, .int mx, .int (ct + 1)]) ∧ H1 l = some (.lst (ns.map V.int)) ∧ Moved t H H1, ?_, fun σ' H1 hm => ?_⟩
      · have hl1 : (upd H t (.lst [.ref l, .int pos, .int rest, .int mx, .int (ct + 1)])) l = some (.lst (ns.map V.int)) := by
          rw [upd_ne hlt]
          exact hl
        refine ⟨.ref t, rfl, t, _, 1, _, rfl, rfl, SqL.of upd_same, atI_nat (j := 1) rfl, .ref t, rfl, t, _, 0, _, rfl, rfl, SqL.of upd_same, atI_nat (j := 0) rfl, l, _, rfl, .inl (SqL.of hl1), _, _, rfl, rfl, _, rfl, ite2 (fun h2 => ?_) (fun h2 => ?_)⟩
        · have h3 : pos < ((ns.map V.int).length : Int) := of_decide_eq_true h2
          obtain ⟨j, rfl⟩ : ∃ j : Nat, pos = (j : Int) := ⟨pos.toNat, by omega⟩
          have hj : j < ns.length := by
            rw [List.length_map] at h3
            omega
          have gj : (ns.map V.int)[j]? = some (.int ns[j]) := by
            rw [List.getElem?_map, List.getElem?_eq_getElem hj]
            rfl
          -- cell = tape[0][tape[1]]
          refine ⟨.ref t, rfl, t, _, 0, _, rfl, rfl, SqL.of upd_same, atI_nat (j := 0) rfl, .ref t, rfl, t, _, 1, _, rfl, rfl, SqL.of upd_same, atI_nat (j := 1) rfl, l, _, _, _, rfl, rfl, SqL.of hl1, atI_nat gj, ?_⟩
          -- tape[1] = tape[1] + 1
          refine ⟨.ref t, rfl, t, _, 1, _, rfl, rfl, SqL.of upd_same, atI_nat (j := 1) rfl, _, _, rfl, rfl, ?_⟩
          refine ⟨.ref t, rfl, t, _, 1, 1, rfl, rfl, upd_same, rfl, ?_⟩
          rw [upd_upd]
          exact ⟨_, _, _, _, rfl, by omega, upd_same, (by rw [upd_ne hlt]; exact hl), Moved.upd⟩
        · exact ⟨_, _, _, _, rfl, hp, upd_same, hl1, Moved.upd⟩
      · obtain ⟨cell, p2, σ3, σ4, rfl, hp2, ht1, hl1, mv⟩ := hm
        -- cell >= 10 ** 18
        refine ⟨.int cell, rfl, 10, 18, rfl, rfl, ⟨by decide, by decide, by decide⟩, _, _, rfl, rfl, _, rfl, ite2 (fun h2 => ?_) (fun h2 => ?_)⟩
        · refine ⟨.int cell, rfl, .int n, rfl, _, _, rfl, rfl, wd _, .ref t, rfl, t, _, 2, 2, rfl, rfl, ht1, rfl, ?_⟩
          refine ⟨.int cell, rfl, .inl ⟨_, rfl, .int n, rfl, _, _, rfl, rfl, by omega, ?_⟩⟩
          refine q _ _ (fm_of hn).1 (fm_of hn).2 (mv.trans Moved.upd) ⟨ns, p2, _, mx, _, hlt, upd_same, ?_, hp2⟩
          rw [upd_ne hlt]
          exact hl1
        · -- mixed = ..
          refine ⟨.ref t, rfl, t, _, 3, _, rfl, rfl, SqL.of ht1, atI_nat (j := 3) rfl, _, _, rfl, rfl, .inr ⟨by decide, by decide⟩, ?_⟩
          refine ⟨.int cell, rfl, .inl ⟨_, rfl, _, _, rfl, rfl, (by show (2147483629 : Int) ≠ 0; decide), _, _, rfl, rfl, ?_⟩⟩
          refine ⟨.ref t, rfl, t, _, 4, _, rfl, rfl, SqL.of ht1, atI_nat (j := 4) rfl, _, _, rfl, rfl, .inr ⟨by decide, by decide⟩, _, _, rfl, rfl, ?_⟩
          refine .inl ⟨_, rfl, _, _, rfl, rfl, (by show (2147483647 : Int) ≠ 0; decide), ?_⟩
          have bm := fm_of (a := mx * 48271 + cell.fmod 2147483629 + (ct + 1) * 69621) (b := 2147483647) (by decide)
          -- mixed = int(mixed * ..) % ..
          refine ⟨_, rfl, _, rfl, _, _, rfl, rfl, ⟨by decide, by decide⟩, _, _, rfl, rfl, _, _, rfl, rfl, .inl ⟨Int.lt_of_lt_of_le (by decide) bm.1, Int.lt_trans bm.2 (by decide)⟩, .inl ⟨_, rfl, _, _, rfl, rfl, (by show (2147483399 : Int) ≠ 0; decide), ?_⟩⟩
          -- tape[3] = mixed
          refine ⟨_, rfl, .ref t, rfl, t, _, 3, 3, rfl, rfl, ht1, rfl, ?_⟩
          refine ⟨_, rfl, _, _, rfl, rfl, ⟨by decide, by decide⟩, .inl ⟨_, rfl, .int n, rfl, _, _, rfl, rfl, by omega, ?_⟩⟩
          refine q _ _ (fm_of hn).1 (fm_of hn).2 (mv.trans Moved.upd) ⟨ns, p2, _, _, _, hlt, upd_same, ?_, hp2⟩
          rw [upd_ne hlt]
          exact hl1
end

section
variable {P : Program} {w : World} {K : PySem.W.Frag} {mg : Str → Option Value} {base : Heap}
def spIsInt (K : PySem.W.Frag) : Sp := fun vs H Q _ => ∃ i : Int, vs = [.int i] ∧ Q (.bl true) H
theorem ok_is_integer (T : Tx K mg) : FnOk P w K mg base CX0 1 T.a_is_integer T.d_is_integer ["thing"] (spIsInt K) := by
  refine T.F_is_integer.ok sc_is_integer (fun vs H Q E h => ?_) (fun cdv A outer s H vs Q E hr h => ?_)
  · obtain ⟨i, rfl, _⟩ := h
    rfl
  · obtain ⟨i, rfl, q⟩ := h
    refine ⟨_, ((pss_one (ps_ret (pe_and (pe_callB call_isi (by rfl) T.m_isinstance (by decide +kernel) (pa_cons (pv 0) (pa_cons (pe_bltn (v := .ty "int") (by rfl) T.m_int (by decide +kernel) rfl) pa_nil))) (pe_one (pe_not (pe_callB call_isi (by rfl) T.m_isinstance (by decide +kernel) (pa_cons (pv 0) (pa_cons (pe_bltn (v := .ty "bool") (by rfl) T.m_bool (by decide +kernel) rfl) pa_nil))))))))), ?_⟩
    refine ⟨.int i, rfl, .int i, .ty "int", _, _, true, rfl, .ty _, .base (.int i), kit_ty (by decide +kernel), true, rfl, iteT ?_⟩
    refine ⟨.int i, rfl, .int i, .ty "bool", _, _, false, rfl, .ty _, .base (.int i), kit_ty (by decide +kernel), false, rfl, ?_⟩
    exact q
def spIsNum (K : PySem.W.Frag) : Sp := fun vs H Q _ => ∃ i a b : Int, vs = [.int i, .int a, .int b] ∧ Q (.bl (decide (a ≤ i) && decide (i ≤ b))) H
theorem ok_is_number (T : Tx K mg) : FnOk P w K mg base CX0 2 T.a_is_number T.d_is_number ["thing", "least", "most"] (spIsNum K) := by
  refine T.F_is_number.ok sc_is_number (fun vs H Q E h => ?_) (fun cdv A outer s H vs Q E hr h => ?_)
  · obtain ⟨i, a, b, rfl, _⟩ := h
    rfl
  · obtain ⟨i, a, b, rfl, q⟩ := h
    refine ⟨_, ((pss_one (ps_ret (pe_and (pe_call (ok_is_integer T) (hr.mono (by decide)) (by rfl) T.g_is_integer T.F_is_integer.kp T.b_is_integer .nil pass0 (pa_cons (pv 0) pa_nil)) (pe_one (pe_chain op_le op_le (pv 1) (pv 0) (pv 2))))))), ?_⟩
    refine ⟨.int i, rfl, i, rfl, true, rfl, iteT ?_⟩
    refine ⟨.int a, rfl, .int i, rfl, a, i, rfl, rfl, _, rfl, ?_⟩
    by_cases h : a ≤ i
    · rw [decide_eq_true h] at q ⊢
      refine iteT ⟨.int b, rfl, i, b, rfl, rfl, ?_⟩
      exact q
    · rw [decide_eq_false h] at q ⊢
      exact iteF q
def spAreNums (K : PySem.W.Frag) : Sp := fun vs H Q _ => ∃ (a : Addr) (ns : List Int) (lo hi : Int), vs = [.ref a, .int lo, .int hi] ∧ SqT K H a (ns.map V.int) ∧ ns.length ≤ 1000 ∧
  ∀ H', Same H H' → Q (.bl (ns.all fun n => decide (lo ≤ n) && decide (n ≤ hi))) H'
theorem ok_are_numbers (T : Tx K mg) : FnOk P w K mg base CX0 3 T.a_are_numbers T.d_are_numbers ["things", "least", "most"] (spAreNums K) := by
  refine T.F_are_numbers.ok sc_are_numbers (fun vs H Q E h => ?_) (fun cdv A outer s H vs Q E hr h => ?_)
  · obtain ⟨a, ns, lo, hi, rfl, _⟩ := h
    rfl
  · obtain ⟨a, ns, lo, hi, rfl, hT, hlen, q⟩ := h
    refine ⟨_, ((pss_one (ps_ret (pe_callB (cr_all rfl) (by rfl) T.m_all (by decide +kernel) (pa_cons (pe_lc (own := [("thing", 3)]) (g := (gName 3)) (tt := tYes) rfl sc_are_numbers.nd (pi_tup (pv 0)) (blkOk_by (own := [("thing", 3)]) (N := ["things", "least", "most", "thing"]) (sc := defScope s_are_numbers) (by decide +kernel)) (fun _ _ _ _ _ => pg_name (i := 3) sc_are_numbers.nd rfl (.inl rfl)) (fun _ _ _ _ _ => pts_nil) (fun _ _ _ _ _ => (pe_call (ok_is_number T) (hr.mono (by decide)) (by rfl) T.g_is_number T.F_is_number.kp T.b_is_number .nil pass0 (pa_cons (pv 3) (pa_cons (pv 1) (pa_cons (pv 2) pa_nil)))))) pa_nil))))), ?_⟩
    refine ⟨.ref a, rfl, a, rfl, ⟨_, hT⟩, fun D hD => lc_tup (K := K) (a := a) (xs := ns.map V.int)
      (fun i H' => Same H H' ∧ H D = none ∧ H' D = some (.lst (((ns.take i).map fun n => decide (lo ≤ n) && decide (n ≤ hi)).map V.bl)))
      ⟨same_upd hD, hD, upd_same⟩ (fun i H' _ p => sT p.1 hT) (fun i x H' hx p => ?_) (fun H' p => ?_)⟩
    · obtain ⟨sm, nD, eD⟩ := p
      rw [List.getElem?_map] at hx
      obtain ⟨n, hn, rfl⟩ := Option.map_eq_some_iff.mp hx
      refine ⟨rfl, ?_⟩
      refine ⟨.int n, rfl, .int lo, rfl, .int hi, rfl, n, lo, hi, rfl, ?_⟩
      have hi' : i < ns.length := (List.getElem?_eq_some_iff.mp hn).1
      refine ⟨_, eD, ?_, ?_⟩
      · rw [List.length_map, List.length_map, List.length_take]
        exact small1000 (by omega)
      · refine ⟨fun b o e => ?_, nD, ?_⟩
        · rw [upd_ne (ne_of_none e nD)]
          exact sm b o e
        · rw [upd_same, List.take_add_one, hn, List.map_append, List.map_append]
          rfl
    · obtain ⟨sm, nD, eD⟩ := p
      rw [List.length_map, List.take_of_length_le (Nat.le_refl _)] at eD
      refine ⟨D, _, rfl, SqL.of eD, ?_⟩
      have e2 : ((ns.map fun n => decide (lo ≤ n) && decide (n ≤ hi)).all id) = ns.all fun n => decide (lo ≤ n) && decide (n ≤ hi) := by
        rw [List.all_map]
        rfl
      rw [e2]
      exact q H' sm
end

/-! ### the checks -/
section
variable {P : Program} {w : World} {K : PySem.W.Frag} {mg : Str → Option Value} {base : Heap}
def spIsComings (K : PySem.W.Frag) : Sp := fun vs H Q _ => ∃ (a : Addr) (cs : List Int) (k : Int), vs = [.int k, .ref a] ∧ SqT K H a (cs.map V.int) ∧ Rt k cs ∧ ∀ H', Same H H' → Q (.bl true) H'
theorem ok_is_comings (T : Tx K mg) : FnOk P w K mg base CX0 4 T.a_is_comings T.d_is_comings ["comers", "thing"] (spIsComings K) := by
  refine T.F_is_comings.ok sc_is_comings (fun vs H Q E h => ?_) (fun cdv A outer s H vs Q E hr h => ?_)
  · obtain ⟨a, cs, k, rfl, _⟩ := h
    rfl
  · obtain ⟨a, cs, k, rfl, hT, g, q⟩ := h
    refine ⟨_, ((pss_one (ps_ret (pe_and (pe_callB call_isi (by rfl) T.m_isinstance (by decide +kernel) (pa_cons (pv 1) (pa_cons (pe_bltn (v := .ty "tuple") (by rfl) T.m_tuple (by decide +kernel) rfl) pa_nil))) (pe_and (pe_cmpR op_le (pe_callB call_len_seq (by rfl) T.m_len PySem.boot_len (pa_cons (pv 1) pa_nil)) (pe_glob (v := .int 400) rfl T.g_MOST_TICKS ⟨_, rfl⟩) (nomark _)) (pe_one (pe_call (ok_are_numbers T) (hr.mono (by decide)) (by rfl) T.g_are_numbers T.F_are_numbers.kp T.b_are_numbers .nil pass0 (pa_cons (pv 1) (pa_cons pe_int (pa_cons (pv 0) pa_nil)))))))))), ?_⟩
    refine ⟨.ref a, rfl, .ref a, .ty "tuple", _, _, true, rfl, .ty _, tyTup hT, kit_ty (by decide +kernel), true, rfl, iteT ?_⟩
    have g1 := g.1
    refine ⟨.ref a, rfl, a, _, rfl, .inr hT, _, 400, rfl, rfl, true, ?_, iteT ?_⟩
    · show V.bl (decide (((cs.map V.int).length : Int) ≤ (400 : Int))) = V.bl true
      rw [List.length_map, decide_eq_true (by omega)]
    · refine ⟨.ref a, rfl, .int k, rfl, a, cs, 0, k, rfl, hT, by omega, fun H' sm => ?_⟩
      have e := g.all
      rw [e]
      exact q H' sm
def spChkComings (K : PySem.W.Frag) : Sp := fun vs H Q _ => ∃ (a : Addr) (cs : List Int) (k : Int), vs = [.int k, .ref a] ∧ SqT K H a (cs.map V.int) ∧ Rt k cs ∧ ∀ H', Same H H' → Q .non H'
theorem ok_check_comings (T : Tx K mg) : FnOk P w K mg base CX0 5 T.a_check_comings T.d_check_comings ["comers", "thing"] (spChkComings K) := by
  refine T.F_check_comings.ok sc_check_comings (fun vs H Q E h => ?_) (fun cdv A outer s H vs Q E hr h => ?_)
  · obtain ⟨a, cs, k, rfl, _⟩ := h
    rfl
  · obtain ⟨a, cs, k, rfl, hT, g, q⟩ := h
    refine ⟨_, ((pss_one (ps_if (pt_not (pt_val (pe_call (ok_is_comings T) (hr.mono (by decide)) (by rfl) T.g_is_comings T.F_is_comings.kp T.b_is_comings .nil pass0 (pa_cons (pv 0) (pa_cons (pv 1) pa_nil))))) (pss_one ps_never) pss_nil))), ?_⟩
    refine ⟨.int k, rfl, .ref a, rfl, a, cs, k, rfl, hT, g, fun H' sm => ⟨true, rfl, iteF ?_⟩⟩
    exact q H' sm
def spChkNum (lo hi : Int) (K : PySem.W.Frag) : Sp := fun vs H Q _ => ∃ k : Int, vs = [.int k] ∧ lo ≤ k ∧ k ≤ hi ∧ Q .non H
theorem ok_check_comers (T : Tx K mg) : FnOk P w K mg base CX0 3 T.a_check_comers T.d_check_comers ["thing"] (spChkNum 2 4 K) := by
  refine T.F_check_comers.ok sc_check_comers (fun vs H Q E h => ?_) (fun cdv A outer s H vs Q E hr h => ?_)
  · obtain ⟨k, rfl, _⟩ := h
    rfl
  · obtain ⟨k, rfl, h1, h2, q⟩ := h
    refine ⟨_, ((pss_one (ps_if (pt_not (pt_val (pe_call (ok_is_number T) (hr.mono (by decide)) (by rfl) T.g_is_number T.F_is_number.kp T.b_is_number .nil pass0 (pa_cons (pv 0) (pa_cons pe_int (pa_cons (pe_glob (v := .int 4) rfl T.g_MOST_COMERS ⟨_, rfl⟩) pa_nil)))))) (pss_one ps_never) pss_nil))), ?_⟩
    refine ⟨.int k, rfl, k, 2, 4, rfl, true, ?_, iteF ?_⟩
    · rw [decide_eq_true h1, decide_eq_true h2]
      rfl
    · exact q
theorem ok_check_bound (T : Tx K mg) : FnOk P w K mg base CX0 3 T.a_check_bound T.d_check_bound ["thing"] (spChkNum 1 60 K) := by
  refine T.F_check_bound.ok sc_check_bound (fun vs H Q E h => ?_) (fun cdv A outer s H vs Q E hr h => ?_)
  · obtain ⟨k, rfl, _⟩ := h
    rfl
  · obtain ⟨k, rfl, h1, h2, q⟩ := h
    refine ⟨_, ((pss_one (ps_if (pt_not (pt_val (pe_call (ok_is_number T) (hr.mono (by decide)) (by rfl) T.g_is_number T.F_is_number.kp T.b_is_number .nil pass0 (pa_cons (pv 0) (pa_cons pe_int (pa_cons (pe_glob (v := .int 60) rfl T.g_MOST_BOUND ⟨_, rfl⟩) pa_nil)))))) (pss_one ps_never) pss_nil))), ?_⟩
    refine ⟨.int k, rfl, k, 1, 60, rfl, true, ?_, iteF ?_⟩
    · rw [decide_eq_true h1, decide_eq_true h2]
      rfl
    · exact q
/-! ### the line -/
def spFollow (K : PySem.W.Frag) : Sp := fun vs H Q _ => ∃ (a : Addr) (cs : List Int) (b k : Int), vs = [.int b, .int 0, .ref a] ∧ SqT K H a (cs.map V.int) ∧ Rt k cs ∧ k ≤ 4 ∧ 0 ≤ b ∧
  ∀ L B p ps H', Same H H' → H L = none → H B = none → L ≠ B → H' L = some (.lst (ps.map V.ref)) → Tups tv H' ps (Ln.letts b cs) → H' B = some (.lst ((Ln.behind b cs cs.length).map V.int)) → H' p = some (.tup [.ref L, .ref B]) → Q (.ref p) H'
theorem ok_follow_line (T : Tx K mg) : FnOk P w K mg base CX0 1 T.a_follow_line T.d_follow_line ["bound", "line", "comings"] (spFollow K) := by
  refine T.F_follow_line.ok sc_follow_line (fun vs H Q E h => ?_) (fun cdv A outer s H vs Q E hr h => ?_)
  · obtain ⟨a, cs, b, k, rfl, _⟩ := h
    rfl
  · obtain ⟨a, cs, b, k, rfl, hT, g, hk, hb, q⟩ := h
    have g4 := g.four hk
    have g1 := g.1
    refine ⟨_, ((pss_cons (ps_set (i := 3) sc_follow_line.nd rfl (.inl rfl) (pe_lst pa_nil))
  (pss_cons (ps_set (i := 4) sc_follow_line.nd rfl (.inl rfl) (pe_lst pa_nil))
  (pss_cons (ps_for PassesOwn.never rfl (RR.pi_enumT (by rfl) T.m_enumerate (pa_cons (pv 2) pa_nil)) (pg_tup rfl (pgs_cons (pg_name (i := 5) sc_follow_line.nd rfl (.inl rfl)) (pgs_cons (pg_name (i := 6) sc_follow_line.nd rfl (.inl rfl)) pgs_nil)))
   (pss_cons (ps_for PassesOwn.never rfl (pi_range2 (by rfl) T.m_range (pa_cons pe_int (pa_cons (pe_op op_add (pv 6) pe_int) pa_nil))) (pg_name (i := 7) sc_follow_line.nd rfl (.inl rfl))
   (pss_one (ps_if (pt_cmpR op_gt (pv 1) (pv 0) (nomark _)) (pss_one (ps_expr (pe_bm PySem.F.plainAttrs_list PySem.F.slot_list_append PySem.F.type_list_append mt_append (pv 3) (pa_cons (pe_tup (pa_cons (pv 5) (pa_cons (pv 7) (pa_cons pe_non pa_nil)))) pa_nil)))) (pss_cons (ps_expr (pe_bm PySem.F.plainAttrs_list PySem.F.slot_list_append PySem.F.type_list_append mt_append (pv 3) (pa_cons (pe_tup (pa_cons (pv 5) (pa_cons (pv 7) (pa_cons (pv 1) pa_nil)))) pa_nil)))
  (pss_one (ps_aug (i := 1) sc_follow_line.nd rfl (.inl rfl) pe_int ip_add))))))
  (Evl.pss_cut (ps_if (pt_cmpR op_gt (pv 1) pe_int (nomark _)) (pss_one (ps_aug (i := 1) sc_follow_line.nd rfl (.inl rfl) pe_int ip_sub)) pss_nil)
  (pss_one (ps_expr (pe_bm PySem.F.plainAttrs_list PySem.F.slot_list_append PySem.F.type_list_append mt_append (pv 4) (pa_cons (pv 1) pa_nil)))))))
  (pss_one (ps_ret (pe_tup (pa_cons (pv 3) (pa_cons (pv 4) pa_nil))))))))), ?_⟩
    refine ⟨Nat.zero_le _, fun L nL => ⟨Nat.zero_le _, fun B nB => ?_⟩⟩
    have hBL : B ≠ L := fun e => by
      rw [e, upd_same] at nB
      cases nB
    have hHB : H B = none := Same.free (same_upd nL) nB
    have s2 : Same H (upd (upd H L (.lst [])) B (.lst [])) := (same_upd nL).trans (same_upd nB)
    refine ⟨.ref a, rfl, a, _, rfl, sT s2 hT, RR.for_enumT (K := K) (xs := cs.map V.int)
      (fun i σ H' => ∃ y5 y6 y7 ps, σ = [some (.int b), some (.int (Ln.pre b cs i).2), some (.ref a), some (.ref L), some (.ref B), y5, y6, y7] ∧ H' L = some (.lst (ps.map V.ref)) ∧ Tups tv H' ps (Ln.pre b cs i).1 ∧ H' B = some (.lst ((Ln.behind b cs i).map V.int)) ∧ Same H H')
      ⟨_, _, _, [], rfl, by rw [upd_ne hBL.symm, upd_same]; rfl, .nil, upd_same, s2⟩ (fun i σ H' _ h => ?_) (fun i x T σ H' hx h nT => ?_) (fun σ H' h => ?_)⟩
    · obtain ⟨_, _, _, _, _, _, _, _, sm⟩ := h
      exact sT sm hT
    · obtain ⟨y5, y6, y7, ps, rfl, eL, tu, eB, sm⟩ := h
      rw [List.getElem?_map] at hx
      obtain ⟨c, hc, rfl⟩ := Option.map_eq_some_iff.mp hx
      have bc := g.2 c (List.mem_of_getElem? hc)
      have ec := Ln.getD_of hc
      have hi : i < cs.length := (List.getElem?_eq_some_iff.mp hc).1
      have smT : Same H' (upd H' T (.tup [.int (i : Nat), .int c])) := same_upd nT
      refine ⟨T, _, rfl, SqT.of upd_same, rfl, _, [_], rfl, _, [], rfl, rfl, ?_⟩
      refine ⟨.int c, rfl, _, _, rfl, rfl, 1, c + 1, rfl, ⟨by omega, by omega, by omega, by omega⟩, for_range (lo := 1) (n := (c + 1 - 1).toNat)
        (fun j σ H2 => ∃ y7 ps, σ = [some (.int b), some (.int (Ln.turns b (i : Int) j (Ln.pre b cs i)).2), some (.ref a), some (.ref L), some (.ref B), some (.int (i : Nat)), some (.int c), y7] ∧ H2 L = some (.lst (ps.map V.ref)) ∧ Tups tv H2 ps (Ln.turns b (i : Int) j (Ln.pre b cs i)).1 ∧ H2 B = some (.lst ((Ln.behind b cs i).map V.int)) ∧ Same H H2)
        ⟨_, ps, rfl, smT _ _ eL, tu.new nT, smT _ _ eB, sm.trans smT⟩ (fun j σ H2 hj h => ?_) (fun σ H2 h => ?_)⟩
      · obtain ⟨y7, ps, rfl, eL, tu, eB, sm⟩ := h
        have zl : ps.length ≤ 1640 := by
          rw [tu.length, Ln.turns_len]
          have := Ln.pre_len (b := b) g4 i
          omega
        refine ⟨_, rfl, _, rfl, _, _, rfl, rfl, _, rfl, ite2 (fun h1 => ?_) (fun h1 => ?_)⟩
        · have hb1 : (Ln.turns b (i : Int) j (Ln.pre b cs i)).2 > b := of_decide_eq_true h1
          have es : Ln.turns b (i : Int) (j + 1) (Ln.pre b cs i) = ((Ln.turns b (i : Int) j (Ln.pre b cs i)).1 ++ [((i : Int), 1 + (j : Int), none)], (Ln.turns b (i : Int) j (Ln.pre b cs i)).2) := if_pos hb1
          refine ⟨.ref L, rfl, .inl ⟨rfl, _, SqL.of eL⟩, _, rfl, _, rfl, by show 3 ≤ sizeLine; decide, fun p np => ?_⟩
          have s3 := same_upd (o := .tup (tv ((i : Int), 1 + (j : Int), none))) np
          refine ⟨L, _, _, rfl, rfl, s3 _ _ eL, by rw [List.length_map]; exact small2000 (by omega), ?_⟩
          refine ⟨_, ps ++ [p], by rw [es]; rfl, by rw [upd_same, List.map_append]; rfl, ?_, ?_, fun b o e => ?_⟩
          · rw [es]
            exact ((tu.new np).snoc (x := ((i : Int), 1 + (j : Int), none)) upd_same).put (s3 _ _ eL)
          · rw [upd_ne hBL]
            exact s3 _ _ eB
          · rw [upd_ne (ne_of_none e nL)]
            exact s3 _ _ (sm _ _ e)
        · have hb1 : ¬ (Ln.turns b (i : Int) j (Ln.pre b cs i)).2 > b := fun z => h1 (decide_eq_true z)
          have es : Ln.turns b (i : Int) (j + 1) (Ln.pre b cs i) = ((Ln.turns b (i : Int) j (Ln.pre b cs i)).1 ++ [((i : Int), 1 + (j : Int), some (Ln.turns b (i : Int) j (Ln.pre b cs i)).2)], (Ln.turns b (i : Int) j (Ln.pre b cs i)).2 + 1) := if_neg hb1
          refine ⟨.ref L, rfl, .inl ⟨rfl, _, SqL.of eL⟩, _, rfl, _, rfl, _, rfl, by show 3 ≤ sizeLine; decide, fun p np => ?_⟩
          have s3 := same_upd (o := .tup (tv ((i : Int), 1 + (j : Int), some (Ln.turns b (i : Int) j (Ln.pre b cs i)).2))) np
          refine ⟨L, _, _, rfl, rfl, s3 _ _ eL, by rw [List.length_map]; exact small2000 (by omega), ?_⟩
          refine ⟨_, rfl, _, _, rfl, rfl, ?_⟩
          refine ⟨_, ps ++ [p], by rw [es]; rfl, by rw [upd_same, List.map_append]; rfl, ?_, ?_, fun b o e => ?_⟩
          · rw [es]
            exact ((tu.new np).snoc (x := ((i : Int), 1 + (j : Int), some (Ln.turns b (i : Int) j (Ln.pre b cs i)).2)) upd_same).put (s3 _ _ eL)
          · rw [upd_ne hBL]
            exact s3 _ _ eB
          · rw [upd_ne (ne_of_none e nL)]
            exact s3 _ _ (sm _ _ e)
      · obtain ⟨y7, ps, rfl, eL, tu, eB, sm⟩ := h
        have en : (c + 1 - 1).toNat = (cs.getD i 0).toNat := by
          rw [ec]
          omega
        rw [en] at tu ⊢
        refine ⟨fun σ' H3 => ∃ y7, σ' = [some (.int b), some (.int (Ln.pre b cs (i + 1)).2), some (.ref a), some (.ref L), some (.ref B), some (.int (i : Nat)), some (.int c), y7] ∧ H3 = H2, ?_, fun σ' H3 hm => ?_⟩
        · refine ⟨_, rfl, _, _, rfl, rfl, _, rfl, ite2 (fun h1 => ?_) (fun h1 => ?_)⟩
          · refine ⟨_, rfl, _, _, rfl, rfl, ?_⟩
            refine ⟨y7, ?_, rfl⟩
            have e : (Ln.pre b cs (i + 1)).2 = (Ln.turns b (i : Int) (cs.getD i 0).toNat (Ln.pre b cs i)).2 - 1 := if_pos (of_decide_eq_true h1)
            rw [e]
            rfl
          · refine ⟨y7, ?_, rfl⟩
            have e : (Ln.pre b cs (i + 1)).2 = (Ln.turns b (i : Int) (cs.getD i 0).toNat (Ln.pre b cs i)).2 := if_neg (fun z => h1 (decide_eq_true z))
            rw [e]
        · obtain ⟨y7, rfl, rfl⟩ := hm
          refine ⟨.ref B, rfl, .inl ⟨rfl, _, SqL.of eB⟩, _, rfl, B, _, _, rfl, rfl, eB, by rw [List.length_map, Ln.behind_len]; exact small1000 (by omega), ?_⟩
          refine ⟨_, _, _, ps, rfl, by rw [upd_ne hBL.symm]; exact eL, tu.put eB, ?_, fun b o e => ?_⟩
          · rw [upd_same]
            show _ = some (HO.lst ((Ln.behind b cs i ++ [(Ln.pre b cs (i + 1)).2]).map V.int))
            rw [List.map_append]
            rfl
          · rw [upd_ne (ne_of_none e hHB)]
            exact sm _ _ e
    · obtain ⟨y5, y6, y7, ps, rfl, eL, tu, eB, sm⟩ := h
      rw [List.length_map] at tu eB
      refine ⟨.ref L, rfl, .ref B, rfl, by show 2 ≤ sizeLine; decide, fun p np => ?_⟩
      have s3 := same_upd (o := .tup [.ref L, .ref B]) np
      exact q L B p ps _ (sm.trans s3) nL hHB hBL.symm (s3 _ _ eL) (tu.new np) (s3 _ _ eB) upd_same
def spLetters (K : PySem.W.Frag) : Sp := fun vs H Q _ => ∃ (a : Addr) (cs : List Int) (b k : Int), vs = [.int b, .ref a] ∧ SqT K H a (cs.map V.int) ∧ Rt k cs ∧ k ≤ 4 ∧ 0 ≤ b ∧
  ∀ L ps H', Same H H' → H L = none → H' L = some (.lst (ps.map V.ref)) → Tups tv H' ps (Ln.letts b cs) → Q (.ref L) H'
theorem ok_letters_of (T : Tx K mg) : FnOk P w K mg base CX0 2 T.a_letters_of T.d_letters_of ["bound", "comings"] (spLetters K) := by
  refine T.F_letters_of.ok sc_letters_of (fun vs H Q E h => ?_) (fun cdv A outer s H vs Q E hr h => ?_)
  · obtain ⟨a, cs, b, k, rfl, _⟩ := h
    rfl
  · obtain ⟨a, cs, b, k, rfl, hT, g, hk, hb, q⟩ := h
    refine ⟨_, ((pss_cons (ps_asg (pe_call (ok_follow_line T) (hr.mono (by decide)) (by rfl) T.g_follow_line T.F_follow_line.kp T.b_follow_line .nil pass0 (pa_cons (pv 0) (pa_cons pe_int (pa_cons (pv 1) pa_nil)))) (pg_tup rfl (pgs_cons (pg_name (i := 2) sc_letters_of.nd rfl (.inl rfl)) (pgs_cons (pg_name (i := 3) sc_letters_of.nd rfl (.inl rfl)) pgs_nil))))
  (pss_one (ps_ret (pv 2))))), ?_⟩
    refine ⟨.int b, rfl, .ref a, rfl, a, cs, b, k, rfl, hT, g, hk, hb, fun L B p ps H' sm nL nB hLB eL tu eB ep => ?_⟩
    refine ⟨p, _, rfl, SqT.of ep, rfl, _, [_], rfl, _, [], rfl, rfl, ?_⟩
    exact ⟨.ref L, rfl, q L ps H' sm nL eL tu⟩
end

theorem cut1 (xs : List V) : cutV xs (some 1) none = xs.drop 1 := by
  unfold cutV
  rw [show HT.sIx xs.length 0 (some 1) = min 1 xs.length from HT.sIx_nat xs.length 0 1, HT.sIx_none]
  cases xs with
  | nil => rfl
  | cons x r =>
    rw [show min 1 (x :: r).length = 1 by
      rw [List.length_cons]
      omega]
    show (List.take ((x :: r).length - 1) r) = r
    rw [List.length_cons, Nat.add_sub_cancel]
    exact List.take_length
theorem Tups.at {α : Type} {f : α → List V} {H : Hp} {ps : List Addr} {xs : List α} (h : Tups f H ps xs) : ∀ {i : Nat} {x : α}, xs[i]? = some x → ∃ p, (ps.map V.ref)[i]? = some (.ref p) ∧ H p = some (.tup (f x)) := by
  induction h with
  | nil =>
    intro i x h
    simp at h
  | cons a _ ih =>
    intro i x h
    cases i with
    | zero =>
      simp at h
      subst h
      exact ⟨_, rfl, a⟩
    | succ i =>
      simp only [List.map_cons, List.getElem?_cons_succ] at h ⊢
      exact ih h

/-! ### spots and walks -/
def spotB (k b : Int) (s : Wk.Spt) : Bool := decide (0 ≤ s.1) && decide (s.1 ≤ b) && (decide (1 ≤ s.2) && decide (s.2 ≤ k)) && decide (s.1 ≥ s.2 - 1)
theorem spotB_iff {k b : Int} {s : Wk.Spt} : spotB k b s = true ↔ Wk.Spot k b s := by
  unfold spotB Wk.Spot
  simp only [Bool.and_eq_true, decide_eq_true_eq]
  omega
theorem two_eq (a b : Int × Int) : PyData.eqv (dI [a.1, a.2]) (dI [b.1, b.2]) = decide (a = b) := by
  rw [eqvI]
  refine decide_eq_decide.mpr ⟨fun h => ?_, fun h => by rw [h]⟩
  simp at h
  exact Prod.ext h.1 h.2
section
variable {P : Program} {w : World} {K : PySem.W.Frag} {mg : Str → Option Value} {base : Heap}
def spAreInts (K : PySem.W.Frag) : Sp := fun vs H Q _ => ∃ (p : Addr) (ns : List Int) (m : Int), vs = [.ref p, .int m] ∧ SqT K H p (ns.map V.int) ∧ (ns.length : Int) = m ∧ ns.length ≤ 1000 ∧ ∀ H', Same H H' → Q (.bl true) H'
theorem ok_are_integers (T : Tx K mg) : FnOk P w K mg base CX0 2 T.a_are_integers T.d_are_integers ["thing", "many"] (spAreInts K) := by
  refine T.F_are_integers.ok sc_are_integers (fun vs H Q E h => ?_) (fun cdv A outer s H vs Q E hr h => ?_)
  · obtain ⟨p, ns, m, rfl, _⟩ := h
    rfl
  · obtain ⟨p, ns, m, rfl, hT, hm, hlen, q⟩ := h
    refine ⟨_, ((pss_one (ps_ret (pe_and (pe_callB call_isi (by rfl) T.m_isinstance (by decide +kernel) (pa_cons (pv 0) (pa_cons (pe_bltn (v := .ty "tuple") (by rfl) T.m_tuple (by decide +kernel) rfl) pa_nil))) (pe_and (pe_cmpR op_eq (pe_callB call_len_seq (by rfl) T.m_len PySem.boot_len (pa_cons (pv 0) pa_nil)) (pv 1) (nomark _)) (pe_one (pe_callB (cr_all rfl) (by rfl) T.m_all (by decide +kernel) (pa_cons (pe_lc (own := [("item", 2)]) (g := (gName 2)) (tt := tYes) rfl sc_are_integers.nd (pi_tup (pv 0)) (blkOk_by (own := [("item", 2)]) (N := ["thing", "many", "item"]) (sc := defScope s_are_integers) (by decide +kernel)) (fun _ _ _ _ _ => pg_name (i := 2) sc_are_integers.nd rfl (.inl rfl)) (fun _ _ _ _ _ => pts_nil) (fun _ _ _ _ _ => (pe_call (ok_is_integer T) (hr.mono (by decide)) (by rfl) T.g_is_integer T.F_is_integer.kp T.b_is_integer .nil pass0 (pa_cons (pv 2) pa_nil)))) pa_nil)))))))), ?_⟩
    refine ⟨.ref p, rfl, .ref p, .ty "tuple", _, _, true, rfl, .ty _, tyTup hT, kit_ty (by decide +kernel), true, rfl, iteT ?_⟩
    refine ⟨.ref p, rfl, p, _, rfl, .inr hT, .int m, rfl, rfl, true, ?_, iteT ?_⟩
    · rw [List.length_map, decide_eq_true (congrArg V.int hm)]
    · refine ⟨.ref p, rfl, p, rfl, ⟨_, hT⟩, fun D hD => lc_tup (K := K) (a := p) (xs := ns.map V.int)
        (fun i H' => Same H H' ∧ H' D = some (.lst ((List.replicate i true).map V.bl)))
        ⟨same_upd hD, upd_same⟩ (fun i H' _ h => sT h.1 hT) (fun i x H' hx h => ?_) (fun H' h => ?_)⟩
      · obtain ⟨sm, eD⟩ := h
        rw [List.getElem?_map] at hx
        obtain ⟨n, hn, rfl⟩ := Option.map_eq_some_iff.mp hx
        have hi : i < ns.length := (List.getElem?_eq_some_iff.mp hn).1
        refine ⟨rfl, ?_⟩
        refine ⟨.int n, rfl, n, rfl, _, eD, by rw [List.length_map, List.length_replicate]; exact small1000 (by omega), same_put sm hD, ?_⟩
        rw [upd_same, List.replicate_succ', List.map_append]
        rfl
      · obtain ⟨sm, eD⟩ := h
        rw [List.length_map] at eD
        refine ⟨D, _, rfl, SqL.of eD, ?_⟩
        have e : (List.replicate ns.length true).all id = true := by
          rw [List.all_eq_true]
          intro x hx
          rw [(List.mem_replicate.mp hx).2]
          rfl
        rw [e]
        exact q H' sm
def spIsSpot (K : PySem.W.Frag) : Sp := fun vs H Q _ => ∃ (k b : Int) (p : Addr) (s : Wk.Spt), vs = [.int k, .int b, .ref p] ∧ SqT K H p (pv2 s) ∧ ∀ H', Same H H' → Q (.bl (spotB k b s)) H'
theorem ok_is_spot (T : Tx K mg) : FnOk P w K mg base CX0 3 T.a_is_spot T.d_is_spot ["comers", "bound", "thing"] (spIsSpot K) := by
  refine T.F_is_spot.ok sc_is_spot (fun vs H Q E h => ?_) (fun cdv A outer s H vs Q E hr h => ?_)
  · obtain ⟨k, b, p, s, rfl, _⟩ := h
    rfl
  · obtain ⟨k, b, p, ⟨wt, tu⟩, rfl, hT, q⟩ := h
    refine ⟨_, ((pss_cons (ps_if (pt_not (pt_val (pe_call (ok_are_integers T) (hr.mono (by decide)) (by rfl) T.g_are_integers T.F_are_integers.kp T.b_are_integers .nil pass0 (pa_cons (pv 2) (pa_cons pe_int pa_nil))))) (pss_one (ps_ret pe_bl)) pss_nil)
  (pss_cons (ps_asg (pv 2) (pg_tup rfl (pgs_cons (pg_name (i := 3) sc_is_spot.nd rfl (.inl rfl)) (pgs_cons (pg_name (i := 4) sc_is_spot.nd rfl (.inl rfl)) pgs_nil))))
  (pss_one (ps_ret (pe_and (pe_chain op_le op_le pe_int (pv 3) (pv 1)) (pe_and (pe_chain op_le op_le pe_int (pv 4) (pv 0)) (pe_one (pe_cmpR op_ge (pv 3) (pe_op op_sub (pv 4) pe_int) (nomark _)))))))))), ?_⟩
    refine ⟨.ref p, rfl, p, [wt, tu], 2, rfl, hT, rfl, by show 2 ≤ 1000; decide, fun H1 s1 => ⟨true, rfl, iteF ?_⟩⟩
    refine ⟨.ref p, rfl, p, _, rfl, sT s1 hT, rfl, _, [_], rfl, _, [], rfl, rfl, ?_⟩
    have qq := q H1 s1
    unfold spotB at qq
    refine ⟨.int wt, rfl, 0, wt, rfl, rfl, ?_⟩
    by_cases c1 : 0 ≤ wt
    · rw [show decide (0 ≤ ((wt, tu) : Wk.Spt).1) = true from decide_eq_true c1] at qq
      refine ⟨true, congrArg V.bl (decide_eq_true c1), iteT ⟨.int b, rfl, wt, b, rfl, rfl, ?_⟩⟩
      by_cases c2 : wt ≤ b
      · rw [show decide (((wt, tu) : Wk.Spt).1 ≤ b) = true from decide_eq_true c2] at qq
        refine ⟨true, congrArg V.bl (decide_eq_true c2), iteT ?_⟩
        refine ⟨.int tu, rfl, 1, tu, rfl, rfl, ?_⟩
        by_cases c3 : 1 ≤ tu
        · rw [show decide (1 ≤ ((wt, tu) : Wk.Spt).2) = true from decide_eq_true c3] at qq
          refine ⟨true, congrArg V.bl (decide_eq_true c3), iteT ⟨.int k, rfl, tu, k, rfl, rfl, ?_⟩⟩
          by_cases c4 : tu ≤ k
          · rw [show decide (((wt, tu) : Wk.Spt).2 ≤ k) = true from decide_eq_true c4] at qq
            refine ⟨true, congrArg V.bl (decide_eq_true c4), iteT ?_⟩
            exact ⟨.int wt, rfl, .int tu, rfl, _, _, rfl, rfl, _, _, rfl, rfl, qq⟩
          · rw [show decide (((wt, tu) : Wk.Spt).2 ≤ k) = false from decide_eq_false c4] at qq
            exact ⟨false, congrArg V.bl (decide_eq_false c4), iteF qq⟩
        · rw [show decide (1 ≤ ((wt, tu) : Wk.Spt).2) = false from decide_eq_false c3] at qq
          exact ⟨false, congrArg V.bl (decide_eq_false c3), iteF ⟨false, rfl, iteF qq⟩⟩
      · rw [show decide (((wt, tu) : Wk.Spt).1 ≤ b) = false from decide_eq_false c2] at qq
        exact ⟨false, congrArg V.bl (decide_eq_false c2), iteF qq⟩
    · rw [show decide (0 ≤ ((wt, tu) : Wk.Spt).1) = false from decide_eq_false c1] at qq
      exact ⟨false, congrArg V.bl (decide_eq_false c1), iteF ⟨false, rfl, iteF qq⟩⟩
def spIsNext (K : PySem.W.Frag) : Sp := fun vs H Q _ => ∃ (k b : Int) (p o : Addr) (s t : Wk.Spt), vs = [.int k, .int b, .ref p, .ref o] ∧ SqT K H p (pv2 s) ∧ SqT K H o (pv2 t) ∧ Wk.Nx k b s t ∧ ∀ H', Same H H' → Q (.bl true) H'
theorem ok_is_next (T : Tx K mg) : FnOk P w K mg base CX0 4 T.a_is_next T.d_is_next ["comers", "bound", "spot", "other"] (spIsNext K) := by
  refine T.F_is_next.ok sc_is_next (fun vs H Q E h => ?_) (fun cdv A outer s H vs Q E hr h => ?_)
  · obtain ⟨k, b, p, o, s, t, rfl, _⟩ := h
    rfl
  · obtain ⟨k, b, p, o, ⟨wt, tu⟩, ⟨wo, to⟩, rfl, hP, hO, nx, q⟩ := h
    refine ⟨_, ((pss_cons (ps_if (pt_not (pt_val (pe_call (ok_is_spot T) (hr.mono (by decide)) (by rfl) T.g_is_spot T.F_is_spot.kp T.b_is_spot .nil pass0 (pa_cons (pv 0) (pa_cons (pv 1) (pa_cons (pv 3) pa_nil)))))) (pss_one (ps_ret pe_bl)) pss_nil)
  (pss_cons (ps_asg (pv 2) (pg_tup rfl (pgs_cons (pg_name (i := 4) sc_is_next.nd rfl (.inl rfl)) (pgs_cons (pg_name (i := 5) sc_is_next.nd rfl (.inl rfl)) pgs_nil))))
  (pss_one (ps_ret (pe_or (pe_cmpR (op_eqD hr.units) (pv 3) (pe_tup (pa_cons (pe_op op_add (pv 4) pe_int) (pa_cons (pe_op op_add (pv 5) pe_int) pa_nil))) (nomark _)) (pe_one (pe_and (pe_cmpR op_eq (pe_ix ix_tup (pv 3) pe_int (fun _ _ => rfl)) pe_int (nomark _)) (pe_one (pe_cmpR op_le (pe_ix ix_tup (pv 3) pe_int (fun _ _ => rfl)) (pv 4) (nomark _))))))))))), ?_⟩
    have sb := spotB_iff.mpr nx.1
    refine ⟨.int k, rfl, .int b, rfl, .ref o, rfl, k, b, o, (wo, to), rfl, hO, fun H1 s1 => ⟨true, congrArg V.bl sb, iteF ?_⟩⟩
    refine ⟨.ref p, rfl, p, _, rfl, sT s1 hP, rfl, _, [_], rfl, _, [], rfl, rfl, ?_⟩
    refine ⟨.ref o, rfl, .int wt, rfl, _, _, rfl, rfl, .int tu, rfl, _, _, rfl, rfl, by show 2 ≤ sizeLine; decide, fun c nc => ?_⟩
    have s2 := same_upd (o := .tup [.int (wt + 1), .int (tu + 1)]) nc
    have s12 := s1.trans s2
    refine ⟨dI [wo, to], dI [wt + 1, tu + 1], dp_dI (sT s12 hO), dp_dI (SqT.of upd_same), (Shp.dI _).ok (by decide), (Shp.dI _).ok (by decide), ?_⟩
    have e2 := two_eq (wo, to) (wt + 1, tu + 1)
    by_cases c : ((wo, to) : Int × Int) = (wt + 1, tu + 1)
    · rw [decide_eq_true c] at e2
      refine ⟨true, congrArg V.bl e2, iteT ?_⟩
      exact q _ s12
    · rw [decide_eq_false c] at e2
      refine ⟨false, congrArg V.bl e2, iteF ?_⟩
      obtain ⟨h1, h2⟩ : to = 1 ∧ wo ≤ wt := by
        rcases nx.2 with e | ⟨e1, e2⟩
        · exact absurd e c
        · exact ⟨e1, e2⟩
      refine ⟨.ref o, rfl, o, _, 1, _, rfl, rfl, sT s12 hO, atI_nat (j := 1) rfl, rfl, true, congrArg V.bl (decide_eq_true (congrArg V.int h1)), iteT ?_⟩
      refine ⟨.ref o, rfl, o, _, 0, _, rfl, rfl, sT s12 hO, atI_nat (j := 0) rfl, .int wt, rfl, _, _, rfl, rfl, ?_⟩
      have qq := q _ s12
      rw [← decide_eq_true h2] at qq
      exact qq
end

/-! ### walks, as a list or a tuple -/
section
variable {P : Program} {w : World} {K : PySem.W.Frag} {mg : Str → Option Value} {base : Heap}
/-- a list (κ) or a tuple -/
def Kd (κ : Bool) (K : PySem.W.Frag) (H : Hp) (a : Addr) (xs : List V) : Prop := match κ with
  | true => H a = some (.lst xs)
  | false => SqT K H a xs
section
variable {κ : Bool} {H H' : Hp} {a L : Addr} {xs ys : List V}
theorem Kd.same (h : Kd κ K H a xs) (e : Same H H') : Kd κ K H' a xs := match κ, h with
  | true, h => e _ _ h
  | false, h => sT e h
theorem Kd.len (h : Kd κ K H a xs) : SqL K H a xs ∨ SqT K H a xs := match κ, h with
  | true, h => .inl (SqL.of h)
  | false, h => .inr h
theorem Kd.put {o : HO} {zs : List V} (h : Kd κ K H a xs) (e : H L = some (.lst zs)) (n : a ≠ L) : Kd κ K (upd H L o) a xs := match κ, h with
  | true, h => (upd_ne n).trans h
  | false, h => by
    rcases h with (h | ⟨z, h⟩) | h
    · exact .inl (.inl ((upd_ne n).trans h))
    · exact .inl (.inr ⟨z, (upd_ne n).trans h⟩)
    · exact .inr h
theorem ixK {i : Int} {v : V} {Q : VK} (h : Kd κ K H L xs) (e : atI xs i = some v) (q : Q v H) : rIxL K (.ref L) (.int i) H Q ∨ rIxT K (.ref L) (.int i) H Q := match κ, h with
  | true, h => .inl ⟨L, xs, i, v, rfl, rfl, SqL.of h, e, q⟩
  | false, h => .inr ⟨L, xs, i, v, rfl, rfl, h, e, q⟩
theorem slK {Q : VK} (h : Kd κ K H L xs) (hx : 0 < xs.length) (q : ∀ c o, H c = none → Kd κ K (upd H c o) c (xs.drop 1) → Q (.ref c) (upd H c o)) : rSlL K (.ref L) (some 1) none H Q ∨ rSlA K (.ref L) (some 1) none H Q := match κ, h with
  | true, h => .inl ⟨L, xs, rfl, SqL.of h, fun c nc => q c _ nc (by rw [← cut1]; exact upd_same)⟩
  | false, h => .inr ⟨L, xs, rfl, h, fun z => (by
      have e : HT.sIx xs.length 0 (some 1) = min 1 xs.length := HT.sIx_nat xs.length 0 1
      rw [e] at z
      omega), fun _ c nc => q c _ nc (by rw [← cut1]; exact SqT.of upd_same)⟩
theorem Kd.isi (h : Kd κ K H a xs) : ∃ t, TyX K H (.ref a) t ∧ PySem.W.kitAny K t [.type "list", .type "tuple"] = some true := match κ, h with
  | true, h => ⟨_, .base (.lst h), kitAny_cons (kit_ty (r := true) (by decide +kernel)) (fun h => by cases h) (fun _ => rfl)⟩
  | false, h => ⟨_, tyTup h, kitAny_cons (kit_ty (r := false) (by decide +kernel)) (fun _ => kitAny_cons (kit_ty (r := true) (by decide +kernel)) (fun h => by cases h) (fun _ => rfl)) (fun h => by cases h)⟩
end
inductive TupQ (K : PySem.W.Frag) (H : Hp) : List Addr → List Wk.Spt → Prop
  | nil : TupQ K H [] []
  | cons {p : Addr} {x : Wk.Spt} {ps : List Addr} {xs : List Wk.Spt} : SqT K H p (pv2 x) → TupQ K H ps xs → TupQ K H (p :: ps) (x :: xs)
theorem TupQ.length {H : Hp} {ps : List Addr} {xs : List Wk.Spt} (h : TupQ K H ps xs) : ps.length = xs.length := by
  induction h with
  | nil => rfl
  | cons a _ ih => rw [List.length_cons, List.length_cons, ih]
theorem TupQ.get {H : Hp} {ps : List Addr} {xs : List Wk.Spt} (h : TupQ K H ps xs) : ∀ {i : Nat} {v : V}, (ps.map V.ref)[i]? = some v → ∃ p x, v = .ref p ∧ xs[i]? = some x ∧ SqT K H p (pv2 x) := by
  induction h with
  | nil =>
    intro i v h
    simp at h
  | cons a _ ih =>
    intro i v h
    cases i with
    | zero =>
      simp at h
      exact ⟨_, _, h.symm, rfl, a⟩
    | succ i =>
      simp only [List.map_cons, List.getElem?_cons_succ] at h ⊢
      exact ih h
theorem TupQ.at {H : Hp} {ps : List Addr} {xs : List Wk.Spt} (h : TupQ K H ps xs) : ∀ {i : Nat} {x : Wk.Spt}, xs[i]? = some x → ∃ p, (ps.map V.ref)[i]? = some (.ref p) ∧ SqT K H p (pv2 x) := by
  induction h with
  | nil =>
    intro i x h
    simp at h
  | cons a _ ih =>
    intro i x h
    cases i with
    | zero =>
      simp at h
      subst h
      exact ⟨_, rfl, a⟩
    | succ i =>
      simp only [List.map_cons, List.getElem?_cons_succ] at h ⊢
      exact ih h
theorem for_zipK {κ : Bool} {a b : Addr} {xs ys : List V} {g : TG} {tb : TS} {D : Ends} {σ : L2.St} {H : Hp} (hl : ys.length ≤ xs.length) (Pv : Nat → L2.St → Hp → Prop) (h0 : Pv 0 σ H) (hq : ∀ i σ H, Pv i σ H → Kd κ K H a xs ∧ Kd κ K H b ys)
    (hs : ∀ (i : Nat) (x y : V) (T : Addr) (σ : L2.St) (H : Hp), xs[i]? = some x → ys[i]? = some y → Pv i σ H → H T = none → g (.ref T) σ (upd H T (.tup [x, y])) fun σ2 H2 => tb { D with nx := Pv (i + 1), ct := Pv (i + 1), bk := D.nx } σ2 H2) (hd : ∀ σ H, Pv ys.length σ H → D.nx σ H) :
    (SqL K H a xs ∧ SqL K H b ys ∧ ∃ W : Nat → Nat → L2.St → Hp → Prop, (∃ m, W 0 m σ H) ∧ ∀ i m σ H, W i m σ H →
      ((Itz K a b).stop i H ∧ D.nx σ H) ∨ ((Itz K a b).go i H ∧ ∃ N : L2.St → Hp → Prop, (∀ σ' H', N σ' H' → ∃ m', m' < m ∧ W (i + 1) m' σ' H') ∧ ∀ v H', (Itz K a b).yld i H v H' → g v σ H' fun σ2 H2 => tb { D with nx := N, ct := N, bk := D.nx } σ2 H2)) ∨
    (SqT K H a xs ∧ SqT K H b ys ∧ ∃ W : Nat → Nat → L2.St → Hp → Prop, (∃ m, W 0 m σ H) ∧ ∀ i m σ H, W i m σ H →
      ((RZ.ItzT K a b).stop i H ∧ D.nx σ H) ∨ ((RZ.ItzT K a b).go i H ∧ ∃ N : L2.St → Hp → Prop, (∀ σ' H', N σ' H' → ∃ m', m' < m ∧ W (i + 1) m' σ' H') ∧ ∀ v H', (RZ.ItzT K a b).yld i H v H' → g v σ H' fun σ2 H2 => tb { D with nx := N, ct := N, bk := D.nx } σ2 H2)) := by
  cases κ with
  | true =>
    have hq' : ∀ i σ H, Pv i σ H → SqL K H a xs ∧ SqL K H b ys := fun i σ H p => ⟨SqL.of (hq i σ H p).1, SqL.of (hq i σ H p).2⟩
    exact .inl ⟨(hq' 0 σ H h0).1, (hq' 0 σ H h0).2, for_zipS hl Pv h0 hq' hs hd⟩
  | false =>
    refine .inr ⟨(hq 0 σ H h0).1, (hq 0 σ H h0).2, fun k m σ H => k + m = ys.length ∧ Pv k σ H, ⟨ys.length, Nat.zero_add _, h0⟩, ?_⟩
    intro k m σ H h
    obtain ⟨hk, p⟩ := h
    have tt : SqT K H a xs ∧ SqT K H b ys := hq k σ H p
    cases m with
    | zero =>
      have e : k = ys.length := hk
      rw [e] at p ⊢
      exact .inl ⟨⟨xs, ys, tt.1, tt.2, .inr (Nat.le_refl _)⟩, hd σ H p⟩
    | succ m =>
      have lt : k < ys.length := by omega
      have gx : xs[k]? = some xs[k] := List.getElem?_eq_getElem (by omega)
      have gy : ys[k]? = some ys[k] := List.getElem?_eq_getElem lt
      refine .inr ⟨⟨xs, ys, _, _, tt.1, tt.2, gx, gy⟩, Pv (k + 1), fun σ' H' r => ⟨m, Nat.lt_succ_self m, by omega, r⟩, fun v G y => ?_⟩
      obtain ⟨T, x1, y1, e1, nT, e2, e3, e4⟩ := y
      rw [e1, e2]
      exact hs k x1 y1 T σ H (e3 xs tt.1) (e4 ys tt.2) p nT
def spIsWalk (K : PySem.W.Frag) : Sp := fun vs H Q _ => ∃ (k b : Int) (L : Addr) (ps : List Addr) (row : List Wk.Spt) (κ : Bool), vs = [.int k, .int b, .ref L] ∧ Kd κ K H L (ps.map V.ref) ∧ TupQ K H ps row ∧ Wk.Walk k b row ∧ row.length ≤ 60 ∧ ∀ H', Same H H' → Q (.bl true) H'
theorem chain_at {k b : Int} : ∀ (r : List Wk.Spt) (s : Wk.Spt) (i : Nat) (x y : Wk.Spt), Wk.Chain k b s r → (s :: r)[i]? = some x → (s :: r)[i + 1]? = some y → Wk.Nx k b x y
  | [], s, i, x, y, _, _, h => by simp at h
  | o :: r, s, 0, x, y, hc, h1, h2 => by
    simp at h1 h2
    subst h1 h2
    exact hc.1
  | o :: r, s, i + 1, x, y, hc, h1, h2 => chain_at r o i x y hc.2 h1 h2
theorem walk_at {k b : Int} {row : List Wk.Spt} (h : Wk.Walk k b row) {i : Nat} {x y : Wk.Spt} (h1 : row[i]? = some x) (h2 : row[i + 1]? = some y) : Wk.Nx k b x y := by
  cases row with
  | nil => exact False.elim h
  | cons s r => exact chain_at r s i x y h.2.2 h1 h2
theorem ok_is_walk (T : Tx K mg) : FnOk P w K mg base CX0 5 T.a_is_walk T.d_is_walk ["comers", "bound", "thing"] (spIsWalk K) := by
  refine T.F_is_walk.ok sc_is_walk (fun vs H Q E h => ?_) (fun cdv A outer s H vs Q E hr h => ?_)
  · obtain ⟨k, b, L, ps, row, κ, rfl, _⟩ := h
    rfl
  · obtain ⟨k, b, L, ps, row, κ, rfl, eL, tu, hw, h60, q⟩ := h
    have hne : row ≠ [] := fun e => by
      rw [e] at hw
      exact hw
    have hl1 : 1 ≤ row.length := by
      cases row with
      | nil => exact absurd rfl hne
      | cons _ _ => rw [List.length_cons]; omega
    refine ⟨_, ((pss_cons (ps_if (PW.pt (pw_or (pt_not (pt_val (pe_callB call_isiT (by rfl) T.m_isinstance (by decide +kernel) (pa_cons (pv 2) (pa_cons (pe_tup (pa_cons (pe_bltn (v := .ty "list") (by rfl) T.m_list (by decide +kernel) rfl) (pa_cons (pe_bltn (v := .ty "tuple") (by rfl) T.m_tuple (by decide +kernel) rfl) pa_nil))) pa_nil))))) (pw_or1 (pt_cmpR op_eq (pe_callB call_len_seq (by rfl) T.m_len PySem.boot_len (pa_cons (pv 2) pa_nil)) pe_int (nomark _))))) (pss_one (ps_ret pe_bl)) pss_nil)
  (pss_cons (ps_set (i := 3) sc_is_walk.nd rfl (.inl rfl) (pe_ix (ix_list.or ix_tup) (pv 2) pe_int (fun _ _ => rfl)))
  (pss_cons (ps_if (PW.pt (pw_or (pt_not (pt_val (pe_call (ok_is_spot T) (hr.mono (by decide)) (by rfl) T.g_is_spot T.F_is_spot.kp T.b_is_spot .nil pass0 (pa_cons (pv 0) (pa_cons (pv 1) (pa_cons (pv 3) pa_nil)))))) (pw_or1 (pt_cmpR op_ne (pe_ix ix_tup (pv 3) pe_int (fun _ _ => rfl)) pe_int (nomark _))))) (pss_one (ps_ret pe_bl)) pss_nil)
  (pss_cons (ps_for PassesOwn.never rfl (pi_range2 (by rfl) T.m_range (pa_cons pe_int (pa_cons (pe_callB call_len_seq (by rfl) T.m_len PySem.boot_len (pa_cons (pv 2) pa_nil)) pa_nil))) (pg_name (i := 4) sc_is_walk.nd rfl (.inl rfl))
   (pss_one (ps_if (pt_not (pt_val (pe_call (ok_is_next T) (hr.mono (by decide)) (by rfl) T.g_is_next T.F_is_next.kp T.b_is_next .nil pass0 (pa_cons (pv 0) (pa_cons (pv 1) (pa_cons (pe_ix (ix_list.or ix_tup) (pv 2) (pe_op op_sub (pv 4) pe_int) (fun _ _ => rfl)) (pa_cons (pe_ix (ix_list.or ix_tup) (pv 2) (pv 4) (fun _ _ => rfl)) pa_nil))))))) (pss_one (ps_ret pe_bl)) pss_nil)))
  (pss_one (ps_ret pe_bl))))))), ?_⟩
    refine ⟨.ref L, rfl, by show 2 ≤ sizeLine; decide, fun tp ntp => ?_⟩
    have s1 := same_upd (o := .tup [V.ty "list", .ty "tuple"]) ntp
    obtain ⟨ty, kt1, kt2⟩ := (eL.same s1).isi
    refine ⟨.ref L, tp, _, ty, [.type "list", .type "tuple"], true, rfl, upd_same, .cons (.ty _) (.cons (.ty _) .nil), kt1, kt2, true, rfl, iteF ?_⟩
    refine ⟨.ref L, rfl, L, _, rfl, (eL.same s1).len, rfl, false, ?_, iteF ?_⟩
    · rw [List.length_map, tu.length, decide_eq_false (fun z => by
        have := V.int.inj z
        omega)]
    · obtain ⟨s0, hs0⟩ : ∃ s0, row[0]? = some s0 := ⟨_, List.getElem?_eq_getElem (by omega)⟩
      obtain ⟨p0, hp0, e0⟩ := tu.at hs0
      have hsp : Wk.Spot k b s0 ∧ s0.2 = 1 := by
        cases row with
        | nil => exact absurd rfl hne
        | cons s r =>
          simp at hs0
          subst hs0
          exact ⟨hw.1, hw.2.1⟩
      refine ⟨.ref L, rfl, ixK (eL.same s1) (atI_nat (j := 0) hp0) ?_⟩
      have sb := spotB_iff.mpr hsp.1
      refine ⟨.int k, rfl, .int b, rfl, .ref p0, rfl, k, b, p0, s0, rfl, sT s1 e0, fun H2 s2 => ⟨true, congrArg V.bl sb, iteF ?_⟩⟩
      have s12 := s1.trans s2
      refine ⟨.ref p0, rfl, p0, _, 1, _, rfl, rfl, sT s12 e0, atI_nat (j := 1) rfl, rfl, false, ne_no hsp.2, iteF ?_⟩
      refine ⟨.ref L, rfl, L, _, rfl, (eL.same s12).len, 1, _, rfl, ⟨by omega, by omega, by omega, by rw [List.length_map, tu.length]; omega⟩, for_range (lo := 1) (n := ((((ps.map V.ref).length : Nat) : Int) - 1).toNat)
        (fun i σ H' => ∃ (y4 : Option V), σ = [some (.int k), some (.int b), some (.ref L), some (.ref p0), y4] ∧ Same H H') ⟨_, rfl, s12⟩ (fun i σ H' hi h => ?_) (fun σ H' h => ?_)⟩
      · obtain ⟨y4, rfl, sm⟩ := h
        rw [List.length_map, tu.length] at hi
        have hi' : i + 1 < row.length := by omega
        obtain ⟨x, hx⟩ : ∃ x, row[i]? = some x := ⟨_, List.getElem?_eq_getElem (by omega)⟩
        obtain ⟨y, hy⟩ : ∃ y, row[i + 1]? = some y := ⟨_, List.getElem?_eq_getElem hi'⟩
        obtain ⟨px, hpx, ex⟩ := tu.at hx
        obtain ⟨py, hpy, ey⟩ := tu.at hy
        refine ⟨.int k, rfl, .int b, rfl, .ref L, rfl, .int (1 + (i : Int)), rfl, _, _, rfl, rfl, ixK (eL.same sm) (atI_of (by show (0 : Int) ≤ 1 + (i : Int) - 1; omega) (by rw [show ((1 : Int) + (i : Int) - 1).toNat = i by omega]; exact hpx))
          ⟨.ref L, rfl, .int (1 + (i : Int)), rfl, ixK (eL.same sm) (atI_of (by omega) (by rw [show ((1 : Int) + (i : Int)).toNat = i + 1 by omega]; exact hpy)) ⟨k, b, px, py, x, y, rfl, sT sm ex, sT sm ey, walk_at hw hx hy, fun H3 s3 => ⟨true, rfl, iteF ?_⟩⟩⟩⟩
        exact ⟨_, rfl, sm.trans s3⟩
      · obtain ⟨y4, rfl, sm⟩ := h
        exact q H' sm
def spComFor (K : PySem.W.Frag) : Sp := fun vs H Q _ => ∃ (k b : Int) (L : Addr) (ps : List Addr) (row : List Wk.Spt) (κ : Bool), vs = [.int k, .int b, .ref L] ∧ Kd κ K H L (ps.map V.ref) ∧ TupQ K H ps row ∧ Wk.Walk k b row ∧ row.length ≤ 60 ∧ 2 ≤ k ∧ k ≤ 4 ∧ 1 ≤ b ∧ b ≤ 60 ∧
  ∀ p c H', Same H H' → H' p = some (.tup [.ref c, .int (2 * (row.headD (0, 0)).1)]) → H' c = some (.tup ((Wk.cf row).map V.int)) → Q (.ref p) H'
/-- the comings behind so many spots -/
def cfN (row : List Wk.Spt) : Nat → List Int
  | 0 => Wk.start (row.headD (0, 0)).1
  | i + 1 => Wk.grow (cfN row i) (row.getD i (0, 0)) (row.getD (i + 1) (0, 0))
theorem cfN_go : ∀ (r : List Wk.Spt) (row : List Wk.Spt) (i : Nat) (s : Wk.Spt), row.drop i = s :: r → Wk.cfGo (cfN row i) s r = cfN row (i + r.length)
  | [], row, i, s, _ => rfl
  | o :: r, row, i, s, h => by
    have h1 : row.getD i (0, 0) = s := by
      rw [List.getD_eq_getElem?_getD, ← List.head?_drop, h]
      rfl
    have h2 : row.drop (i + 1) = o :: r := by
      rw [← List.tail_drop, h]
      rfl
    have h3 : row.getD (i + 1) (0, 0) = o := by
      rw [List.getD_eq_getElem?_getD, ← List.head?_drop, h2]
      rfl
    show Wk.cfGo (Wk.grow (cfN row i) s o) o r = _
    have e : Wk.grow (cfN row i) s o = cfN row (i + 1) := by
      show _ = Wk.grow (cfN row i) (row.getD i (0, 0)) (row.getD (i + 1) (0, 0))
      rw [h1, h3]
    rw [e, cfN_go r row (i + 1) o h2, List.length_cons]
    congr 1
    omega
theorem cfN_all {row : List Wk.Spt} (h : row ≠ []) : cfN row (row.length - 1) = Wk.cf row := by
  cases row with
  | nil => exact absurd rfl h
  | cons s r =>
    have := cfN_go r (s :: r) 0 s rfl
    rw [Nat.zero_add] at this
    rw [List.length_cons, Nat.add_sub_cancel, ← this]
    rfl
theorem grow_len (cs : List Int) {s o : Wk.Spt} (hs : s.1 ≤ 60) (ho : 0 ≤ o.1) : (Wk.grow cs s o).length ≤ cs.length + 61 := by
  unfold Wk.grow
  split
  · have : ∀ l : List Int, (Wk.incL l).length = l.length := by
      intro l
      induction l with
      | nil => rfl
      | cons x l ih =>
        cases l with
        | nil => rfl
        | cons y l => show (Wk.incL (y :: l)).length + 1 = _; rw [ih]; rfl
    rw [this]
    omega
  · rw [List.length_append, List.length_append, List.length_replicate]
    show cs.length + ((s.1 - o.1).toNat + 1) ≤ _
    omega
theorem last_split {cs : List Int} (h : cs ≠ []) : ∃ ds x, cs = ds ++ [x] := ⟨cs.dropLast, cs.getLast h, (List.dropLast_concat_getLast h).symm⟩
theorem grow_ne (cs : List Int) (s o : Wk.Spt) (h : cs ≠ []) : Wk.grow cs s o ≠ [] := by
  obtain ⟨ds, x, rfl⟩ := last_split h
  unfold Wk.grow
  split
  · rw [Wk.incL_snoc]
    simp
  · simp
theorem cfN_ne (row : List Wk.Spt) : ∀ i, cfN row i ≠ []
  | 0 => by
    show Wk.start _ ≠ []
    unfold Wk.start
    simp
  | i + 1 => grow_ne _ _ _ (cfN_ne row i)
theorem walk_rng {k b : Int} : ∀ (r : List Wk.Spt) (s : Wk.Spt), Wk.Spot k b s → Wk.Chain k b s r → ∀ x ∈ s :: r, Wk.Spot k b x
  | [], s, hs, _, x, hx => by
    rw [List.mem_singleton.mp hx]
    exact hs
  | o :: r, s, hs, hc, x, hx => by
    rcases List.mem_cons.mp hx with e | hx
    · rw [e]
      exact hs
    · exact walk_rng r o hc.1.1 hc.2 x hx
theorem walk_spots {k b : Int} {row : List Wk.Spt} (h : Wk.Walk k b row) : ∀ x ∈ row, Wk.Spot k b x := by
  cases row with
  | nil => exact False.elim h
  | cons s r => exact walk_rng r s h.1 h.2.2
theorem cfN_len {k b : Int} {row : List Wk.Spt} (h : Wk.Walk k b row) (hb : b ≤ 60) : ∀ i, i < row.length → (cfN row i).length ≤ 61 * (i + 1)
  | 0, hi => by
    have hs : (row.headD (0, 0)).1 ≤ 60 := by
      cases row with
      | nil => exact False.elim h
      | cons s r => have := h.1.2.1; show s.1 ≤ 60; omega
    have e : (cfN row 0).length = (row.headD (0, 0)).1.toNat + 1 := by
      show (List.replicate (row.headD (0, 0)).1.toNat (2 : Int) ++ [(1 : Int)]).length = _
      rw [List.length_append, List.length_replicate]
      rfl
    rw [e]
    omega
  | i + 1, hi => by
    have ih := cfN_len h hb i (by omega)
    have h1 : row.getD i (0, 0) ∈ row := by
      rw [List.getD_eq_getElem?_getD, List.getElem?_eq_getElem (by omega)]
      exact List.getElem_mem _
    have h2 : row.getD (i + 1) (0, 0) ∈ row := by
      rw [List.getD_eq_getElem?_getD, List.getElem?_eq_getElem (by omega)]
      exact List.getElem_mem _
    have s1 := walk_spots h _ h1
    have s2 := walk_spots h _ h2
    have := grow_len (cfN row i) (s := row.getD i (0, 0)) (o := row.getD (i + 1) (0, 0)) (by have := s1.2.1; omega) s2.1
    show (Wk.grow _ _ _).length ≤ _
    omega
theorem set_last {ds : List Int} {x y : Int} : ((ds ++ [x]).map V.int).set ds.length (V.int y) = (ds ++ [y]).map V.int := by
  rw [List.map_append, List.map_append]
  have : ds.length = (ds.map V.int).length := by rw [List.length_map]
  rw [this]
  simp
theorem ok_comings_for (T : Tx K mg) : FnOk P w K mg base CX0 6 T.a_comings_for T.d_comings_for ["comers", "bound", "row"] (spComFor K) := by
  refine T.F_comings_for.ok sc_comings_for (fun vs H Q E h => ?_) (fun cdv A outer s H vs Q E hr h => ?_)
  · obtain ⟨k, b, L, ps, row, κ, rfl, _⟩ := h
    rfl
  · obtain ⟨k, b, L, ps, row, κ, rfl, eL, tu, hw, h60, hk2, hk4, hb1, hb60, q⟩ := h
    have hne : row ≠ [] := fun e => by
      rw [e] at hw
      exact hw
    obtain ⟨s0, r0, rfl⟩ : ∃ s0 r0, row = s0 :: r0 := by
      cases row with
      | nil => exact absurd rfl hne
      | cons s r => exact ⟨s, r, rfl⟩
    have hs0 := hw.1
    have hs01 := hs0.1
    have hs02 := hs0.2.1
    obtain ⟨p0, hp0, e0⟩ := tu.at (i := 0) (x := s0) rfl
    have el : ps.length = r0.length + 1 := tu.length
    refine ⟨_, ((pss_cons (ps_expr (pe_call (ok_check_comers T) (hr.mono (by decide)) (by rfl) T.g_check_comers T.F_check_comers.kp T.b_check_comers .nil pass0 (pa_cons (pv 0) pa_nil)))
  (pss_cons (ps_expr (pe_call (ok_check_bound T) (hr.mono (by decide)) (by rfl) T.g_check_bound T.F_check_bound.kp T.b_check_bound .nil pass0 (pa_cons (pv 1) pa_nil)))
  (pss_cons (ps_if (PW.pt (pw_or (pt_not (pt_val (pe_call (ok_is_walk T) (hr.mono (by decide)) (by rfl) T.g_is_walk T.F_is_walk.kp T.b_is_walk .nil pass0 (pa_cons (pv 0) (pa_cons (pv 1) (pa_cons (pv 2) pa_nil)))))) (pw_or1 (pt_cmpR op_gt (pe_callB call_len_seq (by rfl) T.m_len PySem.boot_len (pa_cons (pv 2) pa_nil)) (pe_glob (v := .int 60) rfl T.g_MOST_SPOTS ⟨_, rfl⟩) (nomark _))))) (pss_one ps_never) pss_nil)
  (pss_cons (ps_set (i := 3) sc_comings_for.nd rfl (.inl rfl) (pe_ix ix_tup (pe_ix (ix_list.or ix_tup) (pv 2) pe_int (fun _ _ => rfl)) pe_int (fun _ _ => rfl)))
  (pss_cons (ps_set (i := 4) sc_comings_for.nd rfl (.inl rfl) (pe_op op_cat (pe_op op_rep (pe_lst (pa_cons pe_int pa_nil)) (pv 3)) (pe_lst (pa_cons pe_int pa_nil))))
  (pss_cons (ps_for PassesOwn.never rfl (RZ.pi_zipA (by rfl) T.m_zip (pa_cons (pv 2) (pa_cons (pe_slice (sl_list.or sl_tupA) (pv 2) (po_some pe_int) po_none) pa_nil))) (pg_tup rfl (pgs_cons (pg_tup rfl (pgs_cons (pg_name (i := 5) sc_comings_for.nd rfl (.inl rfl)) (pgs_cons (pg_name (i := 6) sc_comings_for.nd rfl (.inl rfl)) pgs_nil))) (pgs_cons (pg_tup rfl (pgs_cons (pg_name (i := 7) sc_comings_for.nd rfl (.inl rfl)) (pgs_cons (pg_name (i := 8) sc_comings_for.nd rfl (.inl rfl)) pgs_nil))) pgs_nil)))
   (pss_one (ps_if (pt_cmpR op_gt (pv 8) pe_int (nomark _)) (pss_one (ps_augS (pv 4) (pe_un un_neg pe_int) pgetL pe_int ip_add set_list)) (pss_one (ps_expr (pe_bm PySem.F.plainAttrs_list PySem.F.slot_list_extend PySem.F.type_list_extend mt_extend (pv 4) (pa_cons (pe_op op_cat (pe_op op_rep (pe_lst (pa_cons pe_int pa_nil)) (pe_op op_sub (pv 5) (pv 7))) (pe_lst (pa_cons pe_int pa_nil))) pa_nil)))))))
  (pss_one (ps_ret (pe_tup (pa_cons (pe_callTy call_tuple_of (by rfl) T.m_tuple (by decide +kernel) (pa_cons (pv 4) pa_nil)) (pa_cons (pe_op op_mul pe_int (pv 3)) pa_nil)))))))))))), ?_⟩
    refine ⟨.int k, rfl, k, rfl, hk2, hk4, ?_⟩
    refine ⟨.int b, rfl, b, rfl, hb1, hb60, ?_⟩
    refine ⟨.int k, rfl, .int b, rfl, .ref L, rfl, k, b, L, ps, _, κ, rfl, eL, tu, hw, h60, fun H1 s1 => ⟨true, rfl, iteF ?_⟩⟩
    refine ⟨.ref L, rfl, L, _, rfl, (eL.same s1).len, _, _, rfl, rfl, false, ?_, iteF ?_⟩
    · rw [List.length_map]
      exact congrArg V.bl (decide_eq_false (by
        rw [List.length_cons] at h60
        omega))
    refine ⟨.ref L, rfl, ixK (eL.same s1) (atI_nat (j := 0) hp0) ⟨p0, _, 0, _, rfl, rfl, sT s1 e0, atI_nat (j := 0) rfl, ?_⟩⟩
    -- comings = [2] * start + [1]
    refine ⟨by show 1 ≤ sizeLine; decide, fun c1 n1 => ?_⟩
    have t1 := same_upd (o := .lst [V.int 2]) n1
    refine ⟨.int s0.1, rfl, c1, s0.1, _, rfl, rfl, upd_same, by omega, by omega, by show 1 * s0.1.toNat ≤ 2 ^ 24; omega, fun c2 n2 => ?_⟩
    have t2 := same_upd (o := .lst (List.replicate s0.1.toNat [V.int 2]).flatten) n2
    refine ⟨by show 1 ≤ sizeLine; decide, fun c3 n3 => ?_⟩
    have t3 := same_upd (o := .lst [V.int 1]) n3
    refine ⟨c2, c3, _, _, rfl, rfl, t3 _ _ upd_same, upd_same, ?_, fun C nC => ?_⟩
    · rw [flat_one, List.length_replicate]
      show s0.1.toNat + 1 ≤ 2 ^ 24
      omega
    have t4 := same_upd (o := .lst ((List.replicate s0.1.toNat [V.int 2]).flatten ++ [V.int 1])) nC
    have sA := (((s1.trans t1).trans t2).trans t3).trans t4
    have eC0 : (upd (upd (upd (upd H1 c1 (.lst [V.int 2])) c2 (.lst (List.replicate s0.1.toNat [V.int 2]).flatten)) c3 (.lst [V.int 1])) C (.lst ((List.replicate s0.1.toNat [V.int 2]).flatten ++ [V.int 1]))) C = some (.lst ((cfN (s0 :: r0) 0).map V.int)) := by
      rw [upd_same, flat_one]
      show _ = some (HO.lst ((List.replicate s0.1.toNat (2 : Int) ++ [(1 : Int)]).map V.int))
      rw [List.map_append, List.map_replicate]
      rfl
    have nHC : H C = none := Same.free (((s1.trans t1).trans t2).trans t3) nC
    -- zip(row, row[1:])
    refine ⟨.ref L, rfl, .ref L, rfl, 1, rfl, slK (eL.same sA) (by rw [List.length_map, el]; exact Nat.succ_pos _) fun c oc nc kc => ?_⟩
    rw [← List.map_drop] at kc
    have sc' := same_upd (o := oc) nc
    have sB := sA.trans sc'
    have hCc : C ≠ c := ne_of_none eC0 nc
    have hne' := hCc.symm
    refine ⟨L, c, _, _, rfl, for_zipK (K := K) (κ := κ) (xs := ps.map V.ref) (ys := (ps.drop 1).map V.ref) (by rw [List.length_map, List.length_map, List.length_drop]; omega)
      (fun i σ H' => ∃ (y5 y6 y7 y8 : Option V), σ = [some (.int k), some (.int b), some (.ref L), some (.int s0.1), some (.ref C), y5, y6, y7, y8] ∧ H' C = some (.lst ((cfN (s0 :: r0) i).map V.int)) ∧ Kd κ K H' c ((ps.drop 1).map V.ref) ∧ Same H H')
      ⟨_, _, _, _, rfl, sc' _ _ eC0, kc, sB⟩ (fun i σ H' h => ?_) (fun i x y X σ H' hx hy h nX => ?_) (fun σ H' h => ?_)⟩
    · obtain ⟨_, _, _, _, _, _, ec, sm⟩ := h
      exact ⟨eL.same sm, ec⟩
    · obtain ⟨y5, y6, y7, y8, rfl, eC, ec, sm⟩ := h
      obtain ⟨px, sx, rfl, hsx, ex⟩ := tu.get hx
      have hy' : (ps.map V.ref)[i + 1]? = some y := by
        rw [List.getElem?_map, List.getElem?_drop] at hy
        rw [List.getElem?_map, Nat.add_comm i 1]
        exact hy
      obtain ⟨py, sy, rfl, hsy, ey⟩ := tu.get hy'
      have g1 : (s0 :: r0).getD i (0, 0) = sx := by
        rw [List.getD_eq_getElem?_getD, hsx]
        rfl
      have g2 : (s0 :: r0).getD (i + 1) (0, 0) = sy := by
        rw [List.getD_eq_getElem?_getD, hsy]
        rfl
      have hi : i + 1 < (s0 :: r0).length := (List.getElem?_eq_some_iff.mp hsy).1
      have zc := cfN_len hw hb60 i (by omega)
      have spx := walk_spots hw _ (List.mem_of_getElem? hsx)
      have spy := walk_spots hw _ (List.mem_of_getElem? hsy)
      have zc' : (cfN (s0 :: r0) i).length ≤ 3660 := by
        rw [List.length_cons] at hi h60
        omega
      have sX := same_upd (o := .tup [V.ref px, .ref py]) nX
      have hnext : cfN (s0 :: r0) (i + 1) = Wk.grow (cfN (s0 :: r0) i) sx sy := by
        show Wk.grow (cfN (s0 :: r0) i) ((s0 :: r0).getD i (0, 0)) ((s0 :: r0).getD (i + 1) (0, 0)) = _
        rw [g1, g2]
      refine ⟨X, _, rfl, SqT.of upd_same, rfl, _, [_], rfl, px, _, rfl, sT sX (sT sm ex), rfl, _, [_], rfl, _, [], rfl, rfl, _, [], rfl, py, _, rfl, sT sX (sT sm ey), rfl, _, [_], rfl, _, [], rfl, rfl, rfl, ?_⟩
      refine ⟨.int sy.2, rfl, _, _, rfl, rfl, _, rfl, ite2 (fun c1 => ?_) (fun c1 => ?_)⟩
      · have c1' : sy.2 > 1 := of_decide_eq_true c1
        obtain ⟨ds, z, hds⟩ := last_split (cfN_ne (s0 :: r0) i)
        have eg : cfN (s0 :: r0) (i + 1) = ds ++ [z + 1] := by
          rw [hnext]
          unfold Wk.grow
          rw [if_pos c1', hds, Wk.incL_snoc]
        rw [hds] at eC
        have eCX := sX _ _ eC
        have hat : atI ((ds ++ [z]).map V.int) (-1) = some (.int z) := by
          rw [List.map_append]
          exact atI_last _ _
        refine ⟨.ref C, rfl, 1, rfl, C, _, -1, _, rfl, rfl, SqL.of eCX, hat, z, 1, rfl, rfl, C, _, -1, ds.length, rfl, rfl, eCX, ?_, ?_⟩
        · rw [List.length_map, List.length_append]
          unfold ixN
          rw [if_neg (by decide), if_pos (by show -((ds.length + 1 : Nat) : Int) ≤ -1; omega)]
          show some ((-1 : Int) + ((ds.length + 1 : Nat) : Int)).toNat = _
          congr 1
          omega
        · refine ⟨_, _, _, _, rfl, ?_, (ec.same sX).put (sX _ _ eC) hne', same_put (sm.trans sX) nHC⟩
          rw [upd_same, eg]
          exact congrArg (fun l => some (HO.lst l)) set_last
      · have c1' : ¬ sy.2 > 1 := fun z => c1 (decide_eq_true z)
        have eg : cfN (s0 :: r0) (i + 1) = cfN (s0 :: r0) i ++ (List.replicate (sx.1 - sy.1).toNat 0 ++ [1]) := by
          rw [hnext]
          unfold Wk.grow
          rw [if_neg c1']
        refine ⟨.ref C, rfl, .inl ⟨rfl, _, SqL.of (sX _ _ eC)⟩, by show 1 ≤ sizeLine; decide, fun d1 m1 => ?_⟩
        have u1 := same_upd (o := .lst [V.int 0]) m1
        refine ⟨.int sx.1, rfl, .int sy.1, rfl, _, _, rfl, rfl, d1, sx.1 - sy.1, _, rfl, rfl, upd_same, ?_, ?_, by show 1 * (sx.1 - sy.1).toNat ≤ 2 ^ 24; have := spx.2.1; have := spy.1; omega, fun d2 m2 => ?_⟩
        · have := spx.1
          have := spy.2.1
          omega
        · have := spx.2.1
          have := spy.1
          omega
        have u2 := same_upd (o := .lst (List.replicate (sx.1 - sy.1).toNat [V.int 0]).flatten) m2
        refine ⟨by show 1 ≤ sizeLine; decide, fun d3 m3 => ?_⟩
        have u3 := same_upd (o := .lst [V.int 1]) m3
        refine ⟨d2, d3, _, _, rfl, rfl, u3 _ _ upd_same, upd_same, ?_, fun d4 m4 => ?_⟩
        · rw [flat_one, List.length_replicate]
          show (sx.1 - sy.1).toNat + 1 ≤ 2 ^ 24
          have := spx.2.1
          have := spy.1
          omega
        have u4 := same_upd (o := .lst ((List.replicate (sx.1 - sy.1).toNat [V.int 0]).flatten ++ [V.int 1])) m4
        have sU := (((sX.trans u1).trans u2).trans u3).trans u4
        refine ⟨C, d4, _, _, rfl, rfl, sU _ _ eC, upd_same, ?_, ?_⟩
        · rw [List.length_map, List.length_append, flat_one, List.length_replicate]
          show (cfN (s0 :: r0) i).length + ((sx.1 - sy.1).toNat + 1) ≤ 2 ^ 24
          have := spx.2.1
          have := spy.1
          omega
        · refine ⟨_, _, _, _, rfl, ?_, (ec.same sU).put (sU _ _ eC) hne', same_put (sm.trans sU) nHC⟩
          rw [upd_same, eg, flat_one, List.map_append, List.map_append, List.map_replicate]
          rfl
    · obtain ⟨y5, y6, y7, y8, rfl, eC, ec, sm⟩ := h
      have elen : ((ps.drop 1).map V.ref).length = (s0 :: r0).length - 1 := by
        rw [List.length_map, List.length_drop, el, List.length_cons]
      rw [elen, cfN_all hne] at eC
      refine ⟨.ref C, rfl, C, _, rfl, .inl ⟨SqL.of eC, fun p np => ?_⟩⟩
      have s5 := same_upd (o := .tup ((Wk.cf (s0 :: r0)).map V.int)) np
      refine ⟨.int s0.1, rfl, 2, s0.1, rfl, rfl, .inl ⟨by decide, by decide⟩, by show 2 ≤ sizeLine; decide, fun u nu => ?_⟩
      have s6 := same_upd (o := .tup [V.ref p, .int (2 * s0.1)]) nu
      exact q u p _ ((sm.trans s5).trans s6) upd_same (s6 _ _ upd_same)
end

section
variable {P : Program} {w : World} {K : PySem.W.Frag} {mg : Str → Option Value} {base : Heap}
def spWaits (K : PySem.W.Frag) : Sp := fun vs H Q _ => ∃ (a : Addr) (cs : List Int) (k b : Int), vs = [.int k, .int b, .ref a] ∧ SqT K H a (cs.map V.int) ∧ Rt k cs ∧ 2 ≤ k ∧ k ≤ 4 ∧ 1 ≤ b ∧ b ≤ 60 ∧
  ∀ L H', Same H H' → H L = none → H' L = some (.lst ((Ln.letts b cs).map fun l => wv l.2.2)) → Q (.ref L) H'
theorem letts_len {b : Int} {cs : List Int} (g4 : ∀ c ∈ cs, c ≤ 4) (g1 : cs.length ≤ 400) : (Ln.letts b cs).length ≤ 1600 := by
  have := Ln.pre_len (b := b) g4 cs.length
  unfold Ln.letts
  omega
theorem ok_waits (T : Tx K mg) : FnOk P w K mg base CX0 6 T.a_waits T.d_waits ["comers", "bound", "comings"] (spWaits K) := by
  refine T.F_waits.ok sc_waits (fun vs H Q E h => ?_) (fun cdv A outer s H vs Q E hr h => ?_)
  · obtain ⟨a, cs, k, b, rfl, _⟩ := h
    rfl
  · obtain ⟨a, cs, k, b, rfl, hT0, g, hk2, hk, hb1, hb2, q⟩ := h
    have g4 := g.four hk
    have zl := letts_len (b := b) g4 g.1
    refine ⟨_, ((pss_cons (ps_expr (pe_call (ok_check_comers T) (hr.mono (by decide)) (by rfl) T.g_check_comers T.F_check_comers.kp T.b_check_comers .nil pass0 (pa_cons (pv 0) pa_nil)))
  (pss_cons (ps_expr (pe_call (ok_check_bound T) (hr.mono (by decide)) (by rfl) T.g_check_bound T.F_check_bound.kp T.b_check_bound .nil pass0 (pa_cons (pv 1) pa_nil)))
  (pss_cons (ps_expr (pe_call (ok_check_comings T) (hr.mono (by decide)) (by rfl) T.g_check_comings T.F_check_comings.kp T.b_check_comings .nil pass0 (pa_cons (pv 0) (pa_cons (pv 2) pa_nil))))
  (pss_one (ps_ret (pe_lc (own := [("tick", 3), ("turn", 4), ("wait", 5)]) (g := (gTup K 3 (gCons (gName 3) (gCons (gName 4) (gCons (gName 5) gNil))))) (tt := tYes) rfl sc_waits.nd (pi_list (pe_call (ok_letters_of T) (hr.mono (by decide)) (by rfl) T.g_letters_of T.F_letters_of.kp T.b_letters_of .nil pass0 (pa_cons (pv 1) (pa_cons (pv 2) pa_nil)))) (blkOk_by (own := [("tick", 3), ("turn", 4), ("wait", 5)]) (N := ["comers", "bound", "comings", "tick", "turn", "wait"]) (sc := defScope s_waits) (by decide +kernel)) (fun _ _ _ _ _ => pg_tup rfl (pgs_cons (pg_name (i := 3) sc_waits.nd rfl (.inl rfl)) (pgs_cons (pg_name (i := 4) sc_waits.nd rfl (.inl rfl)) (pgs_cons (pg_name (i := 5) sc_waits.nd rfl (.inl rfl)) pgs_nil)))) (fun _ _ _ _ _ => pts_nil) (fun _ _ _ _ _ => (pv 5))))))))), ?_⟩
    refine ⟨.int k, rfl, k, rfl, hk2, hk, ?_⟩
    refine ⟨.int b, rfl, b, rfl, hb1, hb2, ?_⟩
    refine ⟨.int k, rfl, .ref a, rfl, a, cs, k, rfl, hT0, g, fun H0 s0 => ?_⟩
    have hT := sT s0 hT0
    refine ⟨.int b, rfl, .ref a, rfl, a, cs, b, k, rfl, hT, g, hk, by omega, fun L ps H1 s1 nL eL tu => ?_⟩
    refine ⟨L, rfl, ⟨_, SqL.of eL⟩, fun D hD => lc_list (K := K) (a := L) (xs := ps.map V.ref)
      (fun i H' => Same H1 H' ∧ H' D = some (.lst (((Ln.letts b cs).take i).map fun l => wv l.2.2)))
      ⟨same_upd hD, upd_same⟩ (fun i H' _ p => SqL.of (p.1 _ _ eL)) (fun i x H' hx p => ?_) (fun H' p => ?_)⟩
    · obtain ⟨sm, eD⟩ := p
      obtain ⟨r, l, rfl, hl, er⟩ := tu.get hx
      refine ⟨r, _, rfl, SqT.of (sm _ _ er), rfl, _, [_, _], rfl, _, [_], rfl, _, [], rfl, rfl, rfl, ?_⟩
      refine ⟨_, rfl, _, eD, ?_, fun b o e => ?_, ?_⟩
      · rw [List.length_map, List.length_take]
        exact small2000 (by omega)
      · rw [upd_ne (ne_of_none e hD)]
        exact sm _ _ e
      · rw [upd_same, List.take_add_one, hl, List.map_append]
        rfl
    · obtain ⟨sm, eD⟩ := p
      rw [List.length_map, tu.length, List.take_of_length_le (Nat.le_refl _)] at eD
      exact q D H' ((s0.trans s1).trans sm) (Same.free (s0.trans s1) hD) eD
end

/-! ### comes, lines, outs -/
section
variable {P : Program} {w : World} {K : PySem.W.Frag} {mg : Str → Option Value} {base : Heap}
def spComes (K : PySem.W.Frag) : Sp := fun vs H Q _ => ∃ (a : Addr) (cs : List Int) (k : Int), vs = [.int k, .ref a] ∧ SqT K H a (cs.map V.int) ∧ Rt k cs ∧ 2 ≤ k ∧ k ≤ 4 ∧
  ∀ L H', Same H H' → H L = none → H' L = some (.lst ((Ln.ticksOf cs cs.length).map V.int)) → Q (.ref L) H'
theorem ok_comes (T : Tx K mg) : FnOk P w K mg base CX0 6 T.a_comes T.d_comes ["comers", "comings"] (spComes K) := by
  refine T.F_comes.ok sc_comes (fun vs H Q E h => ?_) (fun cdv A outer s H vs Q E hr h => ?_)
  · obtain ⟨a, cs, k, rfl, _⟩ := h
    rfl
  · obtain ⟨a, cs, k, rfl, hT0, g, hk2, hk, q⟩ := h
    have g4 := g.four hk
    have g1 := g.1
    refine ⟨_, ((pss_cons (ps_expr (pe_call (ok_check_comers T) (hr.mono (by decide)) (by rfl) T.g_check_comers T.F_check_comers.kp T.b_check_comers .nil pass0 (pa_cons (pv 0) pa_nil)))
  (pss_cons (ps_expr (pe_call (ok_check_comings T) (hr.mono (by decide)) (by rfl) T.g_check_comings T.F_check_comings.kp T.b_check_comings .nil pass0 (pa_cons (pv 0) (pa_cons (pv 1) pa_nil))))
  (pss_cons (ps_set (i := 2) sc_comes.nd rfl (.inl rfl) (pe_lst pa_nil))
  (pss_cons (ps_for PassesOwn.never rfl (RR.pi_enumT (by rfl) T.m_enumerate (pa_cons (pv 1) pa_nil)) (pg_tup rfl (pgs_cons (pg_name (i := 3) sc_comes.nd rfl (.inl rfl)) (pgs_cons (pg_name (i := 4) sc_comes.nd rfl (.inl rfl)) pgs_nil)))
   (pss_one (ps_expr (pe_bm PySem.F.plainAttrs_list PySem.F.slot_list_extend PySem.F.type_list_extend mt_extend (pv 2) (pa_cons (pe_op op_rep (pe_lst (pa_cons (pv 3) pa_nil)) (pv 4)) pa_nil)))))
  (pss_one (ps_ret (pv 2)))))))), ?_⟩
    refine ⟨.int k, rfl, k, rfl, hk2, hk, ?_⟩
    refine ⟨.int k, rfl, .ref a, rfl, a, cs, k, rfl, hT0, g, fun H0 s0 => ?_⟩
    have hT := sT s0 hT0
    refine ⟨Nat.zero_le _, fun L nL => ?_⟩
    have s1 := same_upd (o := .lst []) nL
    refine ⟨.ref a, rfl, a, _, rfl, sT s1 hT, RR.for_enumT (K := K) (xs := cs.map V.int)
      (fun i σ H' => ∃ y3 y4, σ = [some (.int k), some (.ref a), some (.ref L), y3, y4] ∧ H' L = some (.lst ((Ln.ticksOf cs i).map V.int)) ∧ Same H0 H')
      ⟨_, _, rfl, upd_same, s1⟩ (fun i σ H' _ h => ?_) (fun i x T σ H' hx h nT => ?_) (fun σ H' h => ?_)⟩
    · obtain ⟨_, _, _, _, sm⟩ := h
      exact sT sm hT
    · obtain ⟨y3, y4, rfl, eL, sm⟩ := h
      rw [List.getElem?_map] at hx
      obtain ⟨c, hc, rfl⟩ := Option.map_eq_some_iff.mp hx
      have bc := g.2 c (List.mem_of_getElem? hc)
      have ec := Ln.getD_of hc
      have hi : i < cs.length := (List.getElem?_eq_some_iff.mp hc).1
      have zl := Ln.ticks_len g4 i
      have smT : Same H' (upd H' T (.tup [.int (i : Nat), .int c])) := same_upd nT
      refine ⟨T, _, rfl, SqT.of upd_same, rfl, _, [_], rfl, _, [], rfl, rfl, ?_⟩
      have e1 := smT _ _ eL
      refine ⟨.ref L, rfl, .inl ⟨rfl, _, SqL.of e1⟩, _, rfl, by show 1 ≤ sizeLine; decide, fun l nl => ?_⟩
      have s2 := same_upd (o := .lst [V.int (i : Nat)]) nl
      refine ⟨_, rfl, l, c, _, rfl, rfl, upd_same, by omega, by omega, ?_, fun p np => ?_⟩
      · show 1 * c.toNat ≤ 2 ^ 24
        omega
      · have s3 := same_upd (o := .lst (List.replicate c.toNat [V.int (i : Nat)]).flatten) np
        refine ⟨L, p, _, _, rfl, rfl, s3 _ _ (s2 _ _ e1), upd_same, ?_, ?_⟩
        · rw [flat_one, List.length_map, List.length_replicate]
          show _ ≤ 2 ^ 24
          omega
        · refine ⟨_, _, rfl, ?_, fun b o e => ?_⟩
          · rw [upd_same, flat_one]
            show _ = some (HO.lst ((Ln.ticksOf cs i ++ List.replicate (cs.getD i 0).toNat (i : Int)).map V.int))
            rw [List.map_append, List.map_replicate, ec]
          · rw [upd_ne (ne_of_none e nL)]
            exact s3 _ _ (s2 _ _ (smT _ _ (sm _ _ e)))
    · obtain ⟨y3, y4, rfl, eL, sm⟩ := h
      rw [List.length_map] at eL
      exact ⟨.ref L, rfl, q L H' (s0.trans sm) (Same.free s0 nL) eL⟩
def spLines (K : PySem.W.Frag) : Sp := fun vs H Q _ => ∃ (a : Addr) (cs : List Int) (k b : Int), vs = [.int k, .int b, .ref a] ∧ SqT K H a (cs.map V.int) ∧ Rt k cs ∧ 2 ≤ k ∧ k ≤ 4 ∧ 1 ≤ b ∧ b ≤ 60 ∧
  ∀ L H', Same H H' → H L = none → H' L = some (.lst ((Ln.behind b cs cs.length).map V.int)) → Q (.ref L) H'
theorem ok_lines (T : Tx K mg) : FnOk P w K mg base CX0 6 T.a_lines T.d_lines ["comers", "bound", "comings"] (spLines K) := by
  refine T.F_lines.ok sc_lines (fun vs H Q E h => ?_) (fun cdv A outer s H vs Q E hr h => ?_)
  · obtain ⟨a, cs, k, b, rfl, _⟩ := h
    rfl
  · obtain ⟨a, cs, k, b, rfl, hT0, g, hk2, hk, hb1, hb2, q⟩ := h
    refine ⟨_, ((pss_cons (ps_expr (pe_call (ok_check_comers T) (hr.mono (by decide)) (by rfl) T.g_check_comers T.F_check_comers.kp T.b_check_comers .nil pass0 (pa_cons (pv 0) pa_nil)))
  (pss_cons (ps_expr (pe_call (ok_check_bound T) (hr.mono (by decide)) (by rfl) T.g_check_bound T.F_check_bound.kp T.b_check_bound .nil pass0 (pa_cons (pv 1) pa_nil)))
  (pss_cons (ps_expr (pe_call (ok_check_comings T) (hr.mono (by decide)) (by rfl) T.g_check_comings T.F_check_comings.kp T.b_check_comings .nil pass0 (pa_cons (pv 0) (pa_cons (pv 2) pa_nil))))
  (pss_cons (ps_asg (pe_call (ok_follow_line T) (hr.mono (by decide)) (by rfl) T.g_follow_line T.F_follow_line.kp T.b_follow_line .nil pass0 (pa_cons (pv 1) (pa_cons pe_int (pa_cons (pv 2) pa_nil)))) (pg_tup rfl (pgs_cons (pg_name (i := 3) sc_lines.nd rfl (.inl rfl)) (pgs_cons (pg_name (i := 4) sc_lines.nd rfl (.inl rfl)) pgs_nil))))
  (pss_one (ps_ret (pv 4)))))))), ?_⟩
    refine ⟨.int k, rfl, k, rfl, hk2, hk, ?_⟩
    refine ⟨.int b, rfl, b, rfl, hb1, hb2, ?_⟩
    refine ⟨.int k, rfl, .ref a, rfl, a, cs, k, rfl, hT0, g, fun H0 s0 => ?_⟩
    have hT := sT s0 hT0
    refine ⟨.int b, rfl, .ref a, rfl, a, cs, b, k, rfl, hT, g, hk, by omega, fun L B p ps H' sm nL nB hLB eL tu eB ep => ?_⟩
    refine ⟨p, _, rfl, SqT.of ep, rfl, _, [_], rfl, _, [], rfl, rfl, ?_⟩
    exact ⟨.ref B, rfl, q B H' (s0.trans sm) (Same.free s0 nB) eB⟩
def spOuts (K : PySem.W.Frag) : Sp := fun vs H Q _ => ∃ (a : Addr) (cs : List Int) (k b : Int), vs = [.int k, .int b, .ref a] ∧ SqT K H a (cs.map V.int) ∧ Rt k cs ∧ 2 ≤ k ∧ k ≤ 4 ∧ 1 ≤ b ∧ b ≤ 60 ∧
  ∀ L ps H', Same H H' → H L = none → H' L = some (.lst (ps.map V.ref)) → Tups pv2 H' ps (Ln.outsFrom 0 (Ln.letts b cs)) → Q (.ref L) H'
theorem ok_outs (T : Tx K mg) : FnOk P w K mg base CX0 6 T.a_outs T.d_outs ["comers", "bound", "comings"] (spOuts K) := by
  refine T.F_outs.ok sc_outs (fun vs H Q E h => ?_) (fun cdv A outer s H vs Q E hr h => ?_)
  · obtain ⟨a, cs, k, b, rfl, _⟩ := h
    rfl
  · obtain ⟨a, cs, k, b, rfl, hT0, g, hk2, hk, hb1, hb2, q⟩ := h
    have g4 := g.four hk
    have zl := letts_len (b := b) g4 g.1
    refine ⟨_, ((pss_cons (ps_expr (pe_call (ok_check_comers T) (hr.mono (by decide)) (by rfl) T.g_check_comers T.F_check_comers.kp T.b_check_comers .nil pass0 (pa_cons (pv 0) pa_nil)))
  (pss_cons (ps_expr (pe_call (ok_check_bound T) (hr.mono (by decide)) (by rfl) T.g_check_bound T.F_check_bound.kp T.b_check_bound .nil pass0 (pa_cons (pv 1) pa_nil)))
  (pss_cons (ps_expr (pe_call (ok_check_comings T) (hr.mono (by decide)) (by rfl) T.g_check_comings T.F_check_comings.kp T.b_check_comings .nil pass0 (pa_cons (pv 0) (pa_cons (pv 2) pa_nil))))
  (pss_cons (ps_set (i := 3) sc_outs.nd rfl (.inl rfl) (pe_lst pa_nil))
  (pss_cons (ps_for PassesOwn.never rfl (pi_enum (by rfl) T.m_enumerate (pa_cons (pe_call (ok_letters_of T) (hr.mono (by decide)) (by rfl) T.g_letters_of T.F_letters_of.kp T.b_letters_of .nil pass0 (pa_cons (pv 1) (pa_cons (pv 2) pa_nil))) pa_nil)) (pg_tup rfl (pgs_cons (pg_name (i := 4) sc_outs.nd rfl (.inl rfl)) (pgs_cons (pg_tup rfl (pgs_cons (pg_name (i := 5) sc_outs.nd rfl (.inl rfl)) (pgs_cons (pg_name (i := 6) sc_outs.nd rfl (.inl rfl)) (pgs_cons (pg_name (i := 7) sc_outs.nd rfl (.inl rfl)) pgs_nil)))) pgs_nil)))
   (pss_one (ps_if (pt_cmpR op_notN (pv 7) pe_non (nomark _)) (pss_one (ps_expr (pe_bm PySem.F.plainAttrs_list PySem.F.slot_list_append PySem.F.type_list_append mt_append (pv 3) (pa_cons (pe_tup (pa_cons (pe_op op_add (pv 5) (pv 7)) (pa_cons (pv 4) pa_nil))) pa_nil)))) pss_nil)))
  (pss_one (ps_ret (pv 3))))))))), ?_⟩
    refine ⟨.int k, rfl, k, rfl, hk2, hk, ?_⟩
    refine ⟨.int b, rfl, b, rfl, hb1, hb2, ?_⟩
    refine ⟨.int k, rfl, .ref a, rfl, a, cs, k, rfl, hT0, g, fun H0 s0 => ?_⟩
    have hT := sT s0 hT0
    refine ⟨Nat.zero_le _, fun D nD => ?_⟩
    have sD := same_upd (o := .lst []) nD
    refine ⟨.int b, rfl, .ref a, rfl, a, cs, b, k, rfl, sT sD hT, g, hk, by omega, fun L ps H1 s1 nL eL tu => ?_⟩
    have hLD : L ≠ D := fun e => by
      rw [e, upd_same] at nL
      cases nL
    refine ⟨L, _, rfl, SqL.of eL, RR.for_enumL (K := K) (xs := ps.map V.ref)
      (fun i σ H' => ∃ y4 y5 y6 y7 qs, σ = [some (.int k), some (.int b), some (.ref a), some (.ref D), y4, y5, y6, y7] ∧ H' D = some (.lst (qs.map V.ref)) ∧ Tups pv2 H' qs (Ln.outsFrom 0 ((Ln.letts b cs).take i)) ∧ H' L = some (.lst (ps.map V.ref)) ∧ Tups tv H' ps (Ln.letts b cs) ∧ Same H0 H')
      ⟨_, _, _, _, [], rfl, s1 _ _ upd_same, .nil, eL, tu, sD.trans s1⟩ (fun i σ H' _ h => ?_) (fun i x T σ H' hx h nT => ?_) (fun σ H' h => ?_)⟩
    · obtain ⟨_, _, _, _, _, _, _, _, e, _⟩ := h
      exact SqL.of e
    · obtain ⟨y4, y5, y6, y7, qs, rfl, eD, tq, eL', tu', sm⟩ := h
      obtain ⟨r, l, rfl, hl, er⟩ := tu'.get hx
      have hi : i < (Ln.letts b cs).length := (List.getElem?_eq_some_iff.mp hl).1
      have smT : Same H' (upd H' T (.tup [.int (i : Nat), .ref r])) := same_upd nT
      have et : (Ln.letts b cs).take (i + 1) = (Ln.letts b cs).take i ++ [l] := take_snoc hl
      have eo : Ln.outsFrom 0 ((Ln.letts b cs).take (i + 1)) = Ln.outsFrom 0 ((Ln.letts b cs).take i) ++ Ln.one l (i : Int) := by
        rw [et, Ln.outs_snoc, List.length_take, Int.zero_add, Nat.min_eq_left (by omega)]
      have zq : qs.length ≤ 1600 := by
        rw [tq.length]
        have := Ln.outs_len ((Ln.letts b cs).take i) 0
        rw [List.length_take] at this
        omega
      refine ⟨T, _, rfl, SqT.of upd_same, rfl, _, [_], rfl, _, [], rfl, r, _, rfl, SqT.of (smT _ _ er), rfl, _, [_, _], rfl, _, [_], rfl, _, [], rfl, rfl, rfl, ?_⟩
      obtain ⟨lt, lu, lw⟩ := l
      cases lw with
      | none =>
        refine ⟨.non, rfl, rfl, false, rfl, iteF ?_⟩
        refine ⟨_, _, _, _, qs, rfl, smT _ _ eD, ?_, smT _ _ eL', tu'.new nT, sm.trans smT⟩
        rw [eo]
        show Tups pv2 _ qs (_ ++ [])
        rw [List.append_nil]
        exact tq.new nT
      | some wt =>
        refine ⟨.int wt, rfl, rfl, true, rfl, iteT ?_⟩
        refine ⟨.ref D, rfl, .inl ⟨rfl, _, SqL.of (smT _ _ eD)⟩, _, rfl, _, rfl, lt, wt, rfl, rfl, _, rfl, by show 2 ≤ sizeLine; decide, fun p np => ?_⟩
        have s3 := same_upd (o := .tup (pv2 (lt + wt, (i : Int)))) np
        have eD3 := s3 _ _ (smT _ _ eD)
        refine ⟨D, _, _, rfl, rfl, eD3, by rw [List.length_map]; exact small2000 (by omega), ?_⟩
        refine ⟨_, _, _, _, qs ++ [p], rfl, by rw [upd_same, List.map_append]; rfl, ?_, ?_, ?_, fun b o e => ?_⟩
        · rw [eo]
          exact (((tq.new nT).new np).snoc (x := (lt + wt, (i : Int))) upd_same).put eD3
        · rw [upd_ne hLD]
          exact s3 _ _ (smT _ _ eL')
        · exact ((tu'.new nT).new np).put eD3
        · rw [upd_ne (ne_of_none e nD)]
          exact s3 _ _ (smT _ _ (sm _ _ e))
    · obtain ⟨y4, y5, y6, y7, qs, rfl, eD, tq, eL', tu', sm⟩ := h
      rw [List.length_map, tu.length, List.take_of_length_le (Nat.le_refl _)] at tq
      exact ⟨.ref D, rfl, q D qs H' (s0.trans sm) (Same.free s0 nD) eD tq⟩
end

/-! ### two fors of numbers in a list -/
theorem lc2_num {n : Nat} {g g1 : TG} {tt tt1 : TT} {te : TE} {wi1 : TI} {vs vs1 : List Nat} {σ : L2.St} {H0 : Hp} {D : Addr} {Qd : Hp → Prop} {lo : Int} (R : Nat → Hp → Prop) (a : R 0 (upd H0 D (.lst [])))
    (b : ∀ k G, k < n → R k G → g (.int (lo + k)) (wipe σ vs) G fun σ2 G2 => wipe σ2 vs = wipe σ vs ∧ tt σ2 G2 fun c G3 => if c = true then wi1 σ2 G3 fun J1 G4 => ∃ W1 : Nat → Nat → Hp → Prop, (∃ m, W1 0 m G4) ∧ ∀ j q G, W1 j q G →
      (J1.stop j G ∧ R (k + 1) G) ∨ (J1.go j G ∧ ∃ N1 : Hp → Prop, (∀ G', N1 G' → ∃ q', q' < q ∧ W1 (j + 1) q' G') ∧ ∀ x G', J1.yld j G x G' → g1 x (wipe σ2 vs1) G' fun σ3 G5 => wipe σ3 vs1 = wipe σ2 vs1 ∧ tt1 σ3 G5 fun c G6 =>
        if c = true then te σ3 G6 fun y G7 => ∃ acc, G7 D = some (.lst acc) ∧ acc.length < sizeLine ∧ N1 (upd G7 D (.lst (acc ++ [y]))) else N1 G6) else R (k + 1) G3)
    (d : ∀ G, R n G → Qd G) :
    ∃ W : Nat → Nat → Hp → Prop, (∃ m, W 0 m (upd H0 D (.lst []))) ∧ ∀ i m H, W i m H →
      ((Itr lo n).stop i H ∧ Qd H) ∨ ((Itr lo n).go i H ∧ ∃ Nx : Hp → Prop, (∀ H', Nx H' → ∃ m', m' < m ∧ W (i + 1) m' H') ∧ ∀ x H', (Itr lo n).yld i H x H' → g x (wipe σ vs) H' fun σ2 H2 => wipe σ2 vs = wipe σ vs ∧ tt σ2 H2 fun c H3 =>
        if c = true then wi1 σ2 H3 fun J1 H4 => ∃ W1 : Nat → Nat → Hp → Prop, (∃ m, W1 0 m H4) ∧ ∀ j k H, W1 j k H →
          (J1.stop j H ∧ Nx H) ∨ (J1.go j H ∧ ∃ Nx1 : Hp → Prop, (∀ H', Nx1 H' → ∃ k', k' < k ∧ W1 (j + 1) k' H') ∧ ∀ x H', J1.yld j H x H' → g1 x (wipe σ2 vs1) H' fun σ3 H5 => wipe σ3 vs1 = wipe σ2 vs1 ∧ tt1 σ3 H5 fun c H6 =>
            if c = true then te σ3 H6 fun y H7 => ∃ acc, H7 D = some (.lst acc) ∧ acc.length < sizeLine ∧ Nx1 (upd H7 D (.lst (acc ++ [y]))) else Nx1 H6)
        else Nx H3) := by
  refine ⟨fun k m G => k + m = n ∧ R k G, ⟨n, Nat.zero_add n, a⟩, fun k m G h => ?_⟩
  obtain ⟨hk, r⟩ := h
  cases m with
  | zero =>
    have e : k = n := hk
    rw [e] at r ⊢
    exact .inl ⟨Nat.le_refl n, d G r⟩
  | succ m =>
    have lt : k < n := by omega
    refine .inr ⟨lt, R (k + 1), fun G' r' => ⟨m, Nat.lt_succ_self m, by omega, r'⟩, fun v G' y => ?_⟩
    rw [y.1, y.2]
    exact b k G lt r
theorem in2_num {n : Nat} {g1 : TG} {tt1 : TT} {te : TE} {vs1 : List Nat} {σ2 : L2.St} {H0 : Hp} {D : Addr} {Nx : Hp → Prop} {lo : Int} (R : Nat → Hp → Prop) (a : R 0 H0)
    (b : ∀ k G, k < n → R k G → g1 (.int (lo + k)) (wipe σ2 vs1) G fun σ3 G5 => wipe σ3 vs1 = wipe σ2 vs1 ∧ tt1 σ3 G5 fun c G6 =>
        if c = true then te σ3 G6 fun y G7 => ∃ acc, G7 D = some (.lst acc) ∧ acc.length < sizeLine ∧ R (k + 1) (upd G7 D (.lst (acc ++ [y]))) else R (k + 1) G6)
    (d : ∀ G, R n G → Nx G) :
    ∃ W1 : Nat → Nat → Hp → Prop, (∃ m, W1 0 m H0) ∧ ∀ j k H, W1 j k H →
          ((Itr lo n).stop j H ∧ Nx H) ∨ ((Itr lo n).go j H ∧ ∃ Nx1 : Hp → Prop, (∀ H', Nx1 H' → ∃ k', k' < k ∧ W1 (j + 1) k' H') ∧ ∀ x H', (Itr lo n).yld j H x H' → g1 x (wipe σ2 vs1) H' fun σ3 H5 => wipe σ3 vs1 = wipe σ2 vs1 ∧ tt1 σ3 H5 fun c H6 =>
            if c = true then te σ3 H6 fun y H7 => ∃ acc, H7 D = some (.lst acc) ∧ acc.length < sizeLine ∧ Nx1 (upd H7 D (.lst (acc ++ [y]))) else Nx1 H6) := by
  refine ⟨fun k m G => k + m = n ∧ R k G, ⟨n, Nat.zero_add n, a⟩, fun k m G h => ?_⟩
  obtain ⟨hk, r⟩ := h
  cases m with
  | zero =>
    have e : k = n := hk
    rw [e] at r ⊢
    exact .inl ⟨Nat.le_refl n, d G r⟩
  | succ m =>
    have lt : k < n := by omega
    refine .inr ⟨lt, R (k + 1), fun G' r' => ⟨m, Nat.lt_succ_self m, by omega, r'⟩, fun v G' y => ?_⟩
    rw [y.1, y.2]
    exact b k G lt r

/-! ### spots, nexts, the walk of comings, waits -/
section
variable {P : Program} {w : World} {K : PySem.W.Frag} {mg : Str → Option Value} {base : Heap}
def spSpots (K : PySem.W.Frag) : Sp := fun vs H Q _ => ∃ (k b : Nat), vs = [.int k, .int b] ∧ 2 ≤ k ∧ k ≤ 4 ∧ 1 ≤ b ∧ b ≤ 60 ∧
  ∀ L ps H', Same H H' → H L = none → H' L = some (.lst (ps.map V.ref)) → Tups pv2 H' ps (Wk.spN k (b + 1)) → Q (.ref L) H'
theorem ok_spots (T : Tx K mg) : FnOk P w K mg base CX0 4 T.a_spots T.d_spots ["comers", "bound"] (spSpots K) := by
  refine T.F_spots.ok sc_spots (fun vs H Q E h => ?_) (fun cdv A outer s H vs Q E hr h => ?_)
  · obtain ⟨k, b, rfl, _⟩ := h
    rfl
  · obtain ⟨k, b, rfl, hk2, hk4, hb1, hb60, q⟩ := h
    refine ⟨_, ((pss_cons (ps_expr (pe_call (ok_check_comers T) (hr.mono (by decide)) (by rfl) T.g_check_comers T.F_check_comers.kp T.b_check_comers .nil pass0 (pa_cons (pv 0) pa_nil)))
  (pss_cons (ps_expr (pe_call (ok_check_bound T) (hr.mono (by decide)) (by rfl) T.g_check_bound T.F_check_bound.kp T.b_check_bound .nil pass0 (pa_cons (pv 1) pa_nil)))
  (pss_one (ps_ret (pe_lc2 (own := [("wait", 2), ("turn", 3)]) (vs1 := [3]) (g := gName 2) (g1 := gName 3) (tt := tYes) (tt1 := tYes) rfl sc_spots.nd (pi_range1 (by rfl) T.m_range (pa_cons (pe_op op_add (pv 1) pe_int) pa_nil)) (blkOk_by (own := [("wait", 2), ("turn", 3)]) (N := ["comers", "bound", "wait", "turn"]) (sc := defScope s_spots) (by decide +kernel)) (by decide) (fun _ _ _ _ _ => pg_name (i := 2) sc_spots.nd rfl (.inl rfl)) (fun _ _ _ _ _ => pts_nil) (fun _ _ _ _ _ => (pi_range2 (by rfl) T.m_range (pa_cons pe_int (pa_cons (pe_op op_add (pe_callB (call_min2 rfl) (by rfl) T.m_min (by decide +kernel) (pa_cons (pv 0) (pa_cons (pe_op op_add (pv 2) pe_int) pa_nil))) pe_int) pa_nil)))) (fun _ _ _ _ _ => pg_name (i := 3) sc_spots.nd rfl (.inl rfl)) (fun _ _ _ _ _ => pts_nil) (fun _ _ _ _ _ => (pe_tup (pa_cons (pv 2) (pa_cons (pv 3) pa_nil)))))))))), ?_⟩
    refine ⟨.int k, rfl, k, rfl, by omega, by omega, ?_⟩
    refine ⟨.int b, rfl, b, rfl, by omega, by omega, ?_⟩
    refine ⟨.int b, rfl, _, _, rfl, rfl, (b : Int) + 1, rfl, by omega, by omega, fun D nD => lc2_num (n := ((b : Int) + 1).toNat) (lo := 0)
      (fun i H' => ∃ ps : List Addr, H' D = some (.lst (ps.map V.ref)) ∧ Tups pv2 H' ps (Wk.spN k i) ∧ Same H H')
      ⟨[], upd_same, .nil, same_upd nD⟩ (fun i H' hi h => ?_) (fun H' h => ?_)⟩
    · obtain ⟨ps, eD, tu, sm⟩ := h
      have hi' : i ≤ b := by omega
      have zs := Wk.spN_len k i
      have zk : k * i ≤ 240 := Nat.le_trans (Nat.mul_le_mul hk4 (Nat.le_trans hi' hb60)) (by decide)
      rw [Int.zero_add]
      have em : ∀ x : Int, x = (if (i : Int) + 1 < (k : Int) then (i : Int) + 1 else (k : Int)) → (x + 1 - 1).toNat = min k (i + 1) := fun x hx => by
        rw [hx]
        split <;> omega
      refine ⟨rfl, ?_⟩
      refine ⟨.int k, rfl, .int i, rfl, _, _, rfl, rfl, k, (i : Int) + 1, rfl, _, _, rfl, rfl, 1, _, rfl, ?_, in2_num (n := ((if (i : Int) + 1 < (k : Int) then (i : Int) + 1 else (k : Int)) + 1 - 1).toNat) (lo := 1)
        (fun j H2 => ∃ ps : List Addr, H2 D = some (.lst (ps.map V.ref)) ∧ Tups pv2 H2 ps (Wk.spN k i ++ Wk.rowN (i : Int) j) ∧ Same H H2)
        ⟨ps, eD, by rw [show Wk.spN k i ++ Wk.rowN (i : Int) 0 = Wk.spN k i from List.append_nil _]; exact tu, sm⟩ (fun j H2 hj h => ?_) (fun H2 h => ?_)⟩
      · refine ⟨by omega, ?_⟩
        split <;> omega
      · obtain ⟨ps, eD, tu, sm⟩ := h
        rw [em _ rfl] at hj
        refine ⟨rfl, ?_⟩
        refine ⟨.int i, rfl, .int (1 + (j : Int)), rfl, by show 2 ≤ sizeLine; decide, fun p np => ?_⟩
        have s1 := same_upd (o := .tup [V.int i, .int (1 + (j : Int))]) np
        refine ⟨_, s1 _ _ eD, ?_, ps ++ [p], by rw [upd_same, List.map_append]; rfl, ?_, same_put (sm.trans s1) nD⟩
        · rw [List.length_map, tu.length, List.length_append, Wk.rowN_len]
          exact small1000 (by omega)
        · have := ((tu.new np).snoc (x := ((i : Int), 1 + (j : Int))) upd_same).put (o := .lst ((ps.map V.ref) ++ [.ref p])) (s1 _ _ eD)
          rw [List.append_assoc] at this
          exact this
      · obtain ⟨ps, eD, tu, sm⟩ := h
        rw [em _ rfl] at tu
        exact ⟨ps, eD, tu, sm⟩
    · obtain ⟨ps, eD, tu, sm⟩ := h
      have e : ((b : Int) + 1).toNat = b + 1 := by omega
      rw [e] at tu
      exact q D ps H' sm nD eD tu
def spNexts (K : PySem.W.Frag) : Sp := fun vs H Q _ => ∃ (k b : Int) (p : Addr) (s : Wk.Spt), vs = [.int k, .int b, .ref p] ∧ SqT K H p (pv2 s) ∧ Wk.Spot k b s ∧ 2 ≤ k ∧ k ≤ 4 ∧ 1 ≤ b ∧ b ≤ 60 ∧
  ∀ L ps H', Same H H' → H L = none → H' L = some (.lst (ps.map V.ref)) → Tups pv2 H' ps (Wk.nxL k b s) → Q (.ref L) H'
theorem ok_nexts (T : Tx K mg) : FnOk P w K mg base CX0 4 T.a_nexts T.d_nexts ["comers", "bound", "spot"] (spNexts K) := by
  refine T.F_nexts.ok sc_nexts (fun vs H Q E h => ?_) (fun cdv A outer s H vs Q E hr h => ?_)
  · obtain ⟨k, b, p, s, rfl, _⟩ := h
    rfl
  · obtain ⟨k, b, p, ⟨wt, tu⟩, rfl, hT, hsp, hk2, hk4, hb1, hb60, q⟩ := h
    have sb := spotB_iff.mpr hsp
    have hs := hsp
    unfold Wk.Spot at hs
    simp only at hs
    refine ⟨_, ((pss_cons (ps_expr (pe_call (ok_check_comers T) (hr.mono (by decide)) (by rfl) T.g_check_comers T.F_check_comers.kp T.b_check_comers .nil pass0 (pa_cons (pv 0) pa_nil)))
  (pss_cons (ps_expr (pe_call (ok_check_bound T) (hr.mono (by decide)) (by rfl) T.g_check_bound T.F_check_bound.kp T.b_check_bound .nil pass0 (pa_cons (pv 1) pa_nil)))
  (pss_cons (ps_if (pt_not (pt_val (pe_call (ok_is_spot T) (hr.mono (by decide)) (by rfl) T.g_is_spot T.F_is_spot.kp T.b_is_spot .nil pass0 (pa_cons (pv 0) (pa_cons (pv 1) (pa_cons (pv 2) pa_nil)))))) (pss_one ps_never) pss_nil)
  (pss_cons (ps_asg (pv 2) (pg_tup rfl (pgs_cons (pg_name (i := 3) sc_nexts.nd rfl (.inl rfl)) (pgs_cons (pg_name (i := 4) sc_nexts.nd rfl (.inl rfl)) pgs_nil))))
  (pss_cons (ps_setLc (i := 5) (own := [("other", 7)]) (g := (gName 7)) (tt := tYes) rfl sc_nexts.nd rfl rfl (sw_true rfl rfl rfl (by decide +kernel)) (pi_range1 (by rfl) T.m_range (pa_cons (pe_op op_add (pv 3) pe_int) pa_nil)) (blkOk_by (own := [("other", 7)]) (N := ["comers", "bound", "spot", "wait", "turn", "found", "above", "other"]) (sc := defScope s_nexts) (by decide +kernel)) (fun _ _ _ _ _ => pg_name (i := 7) sc_nexts.nd rfl (.inl rfl)) (fun _ _ _ _ _ => pts_nil) (fun _ _ _ _ _ => (pe_tup (pa_cons (pv 7) (pa_cons pe_int pa_nil)))))
  (pss_cons (ps_set (i := 6) sc_nexts.nd rfl (.inl rfl) (pe_tup (pa_cons (pe_op op_add (pv 3) pe_int) (pa_cons (pe_op op_add (pv 4) pe_int) pa_nil))))
  (pss_cons (ps_if (pt_val (pe_call (ok_is_spot T) (hr.mono (by decide)) (by rfl) T.g_is_spot T.F_is_spot.kp T.b_is_spot .nil pass0 (pa_cons (pv 0) (pa_cons (pv 1) (pa_cons (pv 6) pa_nil))))) (pss_one (ps_expr (pe_bm PySem.F.plainAttrs_list PySem.F.slot_list_append PySem.F.type_list_append mt_append (pv 5) (pa_cons (pv 6) pa_nil)))) pss_nil)
  (pss_one (ps_ret (pv 5))))))))))), ?_⟩
    refine ⟨.int k, rfl, k, rfl, by omega, by omega, ?_⟩
    refine ⟨.int b, rfl, b, rfl, by omega, by omega, ?_⟩
    refine ⟨.int k, rfl, .int b, rfl, .ref p, rfl, k, b, p, (wt, tu), rfl, hT, fun H1 s1 => ⟨true, congrArg V.bl sb, iteF ?_⟩⟩
    refine ⟨.ref p, rfl, p, _, rfl, sT s1 hT, rfl, _, [_], rfl, _, [], rfl, rfl, ?_⟩
    refine ⟨.int wt, rfl, _, _, rfl, rfl, wt + 1, rfl, by omega, by omega, fun D nD => lc_range (n := (wt + 1).toNat) (lo := 0)
      (fun i H' => ∃ ps : List Addr, H' D = some (.lst (ps.map V.ref)) ∧ Tups pv2 H' ps (Wk.onesN i) ∧ Same H1 H')
      ⟨[], upd_same, .nil, same_upd nD⟩ (fun i H' hi h => ?_) (fun H' h => ?_)⟩
    · obtain ⟨ps, eD, tp, sm⟩ := h
      rw [Int.zero_add]
      refine ⟨rfl, ?_⟩
      refine ⟨.int i, rfl, by show 2 ≤ sizeLine; decide, fun c nc => ?_⟩
      have s2 := same_upd (o := .tup [V.int i, .int 1]) nc
      refine ⟨_, s2 _ _ eD, ?_, ps ++ [c], by rw [upd_same, List.map_append]; rfl, ?_, same_put (sm.trans s2) nD⟩
      · rw [List.length_map, tp.length, Wk.onesN_len]
        exact small1000 (by omega)
      · exact ((tp.new nc).snoc (x := ((i : Int), 1)) upd_same).put (s2 _ _ eD)
    · obtain ⟨ps, eD, tp, sm⟩ := h
      have hHD : H D = none := Same.free s1 nD
      refine ⟨.int wt, rfl, _, _, rfl, rfl, .int tu, rfl, _, _, rfl, rfl, by show 2 ≤ sizeLine; decide, fun c nc => ?_⟩
      have s3 := same_upd (o := .tup [V.int (wt + 1), .int (tu + 1)]) nc
      have sA := (s1.trans sm).trans s3
      refine ⟨.int k, rfl, .int b, rfl, .ref c, rfl, k, b, c, (wt + 1, tu + 1), rfl, SqT.of upd_same, fun H3 s4 => ⟨_, rfl, ?_⟩⟩
      have eD3 := s4 _ _ (s3 _ _ eD)
      have tp3 := (tp.same s3).same s4
      have eL : Wk.nxL k b (wt, tu) = Wk.onesN (wt + 1).toNat ++ if wt + 1 ≤ b ∧ tu + 1 ≤ k then [(wt + 1, tu + 1)] else [] := rfl
      by_cases c1 : wt + 1 ≤ b ∧ tu + 1 ≤ k
      · have e1 : spotB k b (wt + 1, tu + 1) = true := spotB_iff.mpr (by unfold Wk.Spot; simp only; omega)
        rw [e1]
        refine iteT ?_
        refine ⟨.ref D, rfl, .inl ⟨rfl, _, SqL.of eD3⟩, .ref c, rfl, D, _, _, rfl, rfl, eD3, ?_, ?_⟩
        · rw [List.length_map, tp.length, Wk.onesN_len]
          exact small1000 (by omega)
        · refine ⟨.ref D, rfl, q D (ps ++ [c]) _ (same_put (sA.trans s4) hHD) hHD (by rw [upd_same, List.map_append]; rfl) ?_⟩
          rw [eL, if_pos c1]
          exact (tp3.snoc (x := (wt + 1, tu + 1)) (s4 _ _ upd_same)).put eD3
      · have e1 : spotB k b (wt + 1, tu + 1) = false := by
          cases z : spotB k b (wt + 1, tu + 1) with
          | false => rfl
          | true =>
            have := spotB_iff.mp z
            unfold Wk.Spot at this
            simp only at this
            exact absurd ⟨this.2.1, this.2.2.2.1⟩ c1
        rw [e1]
        refine iteF ?_
        refine ⟨.ref D, rfl, q D ps _ (sA.trans s4) hHD eD3 ?_⟩
        rw [eL, if_neg c1, List.append_nil]
        exact tp3
def spWalk (K : PySem.W.Frag) : Sp := fun vs H Q _ => ∃ (a : Addr) (cs : List Int) (k b : Int), vs = [.int k, .int b, .ref a] ∧ SqT K H a (cs.map V.int) ∧ Rt k cs ∧ 2 ≤ k ∧ k ≤ 4 ∧ 1 ≤ b ∧ b ≤ 60 ∧
  ∀ L ps H', Same H H' → H L = none → H' L = some (.lst (ps.map V.ref)) → Tups pv2 H' ps (Wk.wkL (Ln.letts b cs)) → Q (.ref L) H'
theorem wk_len {k b : Int} {cs : List Int} (g : Rt k cs) (hk : k ≤ 4) (i : Nat) : (Wk.wkL ((Ln.letts b cs).take i)).length ≤ 1600 := by
  have h1 := Wk.wkL_len ((Ln.letts b cs).take i)
  have h2 := letts_len (b := b) (g.four hk) g.1
  rw [List.length_take] at h1
  omega
theorem ok_walk (T : Tx K mg) : FnOk P w K mg base CX0 6 T.a_walk T.d_walk ["comers", "bound", "comings"] (spWalk K) := by
  refine T.F_walk.ok sc_walk (fun vs H Q E h => ?_) (fun cdv A outer s H vs Q E hr h => ?_)
  · obtain ⟨a, cs, k, b, rfl, _⟩ := h
    rfl
  · obtain ⟨a, cs, k, b, rfl, hT0, g, hk2, hk, hb1, hb2, q⟩ := h
    refine ⟨_, ((pss_cons (ps_expr (pe_call (ok_check_comers T) (hr.mono (by decide)) (by rfl) T.g_check_comers T.F_check_comers.kp T.b_check_comers .nil pass0 (pa_cons (pv 0) pa_nil)))
  (pss_cons (ps_expr (pe_call (ok_check_bound T) (hr.mono (by decide)) (by rfl) T.g_check_bound T.F_check_bound.kp T.b_check_bound .nil pass0 (pa_cons (pv 1) pa_nil)))
  (pss_cons (ps_expr (pe_call (ok_check_comings T) (hr.mono (by decide)) (by rfl) T.g_check_comings T.F_check_comings.kp T.b_check_comings .nil pass0 (pa_cons (pv 0) (pa_cons (pv 2) pa_nil))))
  (pss_one (ps_ret (pe_lc (own := [("tick", 3), ("turn", 4), ("wait", 5)]) (g := (gTup K 3 (gCons (gName 3) (gCons (gName 4) (gCons (gName 5) gNil))))) rfl sc_walk.nd (pi_list (pe_call (ok_letters_of T) (hr.mono (by decide)) (by rfl) T.g_letters_of T.F_letters_of.kp T.b_letters_of .nil pass0 (pa_cons (pv 1) (pa_cons (pv 2) pa_nil)))) (blkOk_by (own := [("tick", 3), ("turn", 4), ("wait", 5)]) (N := ["comers", "bound", "comings", "tick", "turn", "wait"]) (sc := defScope s_walk) (by decide +kernel)) (fun _ _ _ _ _ => pg_tup rfl (pgs_cons (pg_name (i := 3) sc_walk.nd rfl (.inl rfl)) (pgs_cons (pg_name (i := 4) sc_walk.nd rfl (.inl rfl)) (pgs_cons (pg_name (i := 5) sc_walk.nd rfl (.inl rfl)) pgs_nil)))) (fun _ _ _ _ _ => (pts_one (pt_cmpR op_notN (pv 5) pe_non (nomark _)))) (fun _ _ _ _ _ => (pe_tup (pa_cons (pv 5) (pa_cons (pv 4) pa_nil))))))))))), ?_⟩
    refine ⟨.int k, rfl, k, rfl, hk2, hk, ?_⟩
    refine ⟨.int b, rfl, b, rfl, hb1, hb2, ?_⟩
    refine ⟨.int k, rfl, .ref a, rfl, a, cs, k, rfl, hT0, g, fun H0 s0 => ?_⟩
    have hT := sT s0 hT0
    refine ⟨.int b, rfl, .ref a, rfl, a, cs, b, k, rfl, hT, g, hk, by omega, fun L ps H1 s1 nL eL tu => ?_⟩
    refine ⟨L, rfl, ⟨_, SqL.of eL⟩, fun D hD => lc_list (K := K) (a := L) (xs := ps.map V.ref)
      (fun i H' => ∃ qs : List Addr, Same H1 H' ∧ H' D = some (.lst (qs.map V.ref)) ∧ Tups pv2 H' qs (Wk.wkL ((Ln.letts b cs).take i)))
      ⟨[], same_upd hD, upd_same, .nil⟩ (fun i H' _ p => let ⟨_, sm, _⟩ := p; SqL.of (sm _ _ eL)) (fun i x H' hx p => ?_) (fun H' p => ?_)⟩
    · obtain ⟨qs, sm, eD, tq⟩ := p
      obtain ⟨r, l, rfl, hl, er⟩ := tu.get hx
      have et : Wk.wkL ((Ln.letts b cs).take (i + 1)) = Wk.wkL ((Ln.letts b cs).take i) ++ Wk.wk1 l := by
        rw [take_snoc hl, Wk.wkL_snoc]
      have zq := wk_len (b := b) g hk i
      refine ⟨r, _, rfl, SqT.of (sm _ _ er), rfl, _, [_, _], rfl, _, [_], rfl, _, [], rfl, rfl, rfl, ?_⟩
      obtain ⟨lt, lu, lw⟩ := l
      cases lw with
      | none =>
        refine ⟨.non, rfl, rfl, false, rfl, iteF ?_⟩
        refine ⟨qs, sm, eD, ?_⟩
        rw [et]
        show Tups pv2 _ qs (_ ++ [])
        rw [List.append_nil]
        exact tq
      | some wt =>
        refine ⟨.int wt, rfl, rfl, true, rfl, iteT ?_⟩
        refine ⟨.int wt, rfl, .int lu, rfl, by show 2 ≤ sizeLine; decide, fun c nc => ?_⟩
        have s2 := same_upd (o := .tup [V.int wt, .int lu]) nc
        refine ⟨_, s2 _ _ eD, ?_, qs ++ [c], same_put (sm.trans s2) hD, by rw [upd_same, List.map_append]; rfl, ?_⟩
        · rw [List.length_map, tq.length]
          exact small2000 (by omega)
        · rw [et]
          exact ((tq.new nc).snoc (x := (wt, lu)) upd_same).put (s2 _ _ eD)
    · obtain ⟨qs, sm, eD, tq⟩ := p
      rw [List.length_map, tu.length, List.take_of_length_le (Nat.le_refl _)] at tq
      exact q D qs H' ((s0.trans s1).trans sm) (Same.free (s0.trans s1) hD) eD tq
end

/-! ### whole numbers, numbers within bounds, tuples of them: asked of anything, beside the promises for right ones -/
section
variable {P : Program} {w : World} {K : PySem.W.Frag} {mg : Str → Option Value} {base : Heap}
open RO9
def spIsIntA (K : PySem.W.Frag) : Sp := fun vs H Q _ => ∃ (v : V) (d : PyData), vs = [v] ∧ Od K H v d ∧ Q (.bl (isI d)) H
theorem ok_is_integer_o (T : Tx K mg) : FnOk P w K mg base CX0 1 T.a_is_integer T.d_is_integer ["thing"] (spIsIntA K) := by
  refine T.F_is_integer.ok sc_is_integer (fun vs H Q E h => ?_) (fun cdv A outer s H vs Q E hr h => ?_)
  · obtain ⟨v, d, rfl, _⟩ := h
    rfl
  · obtain ⟨v, d, rfl, od, q⟩ := h
    refine ⟨_, ((pss_one (ps_ret (pe_and (pe_callB call_isi (by rfl) T.m_isinstance (by decide +kernel) (pa_cons (pv 0) (pa_cons (pe_bltn (v := .ty "int") (by rfl) T.m_int (by decide +kernel) rfl) pa_nil))) (pe_one (pe_not (pe_callB call_isi (by rfl) T.m_isinstance (by decide +kernel) (pa_cons (pv 0) (pa_cons (pe_bltn (v := .ty "bool") (by rfl) T.m_bool (by decide +kernel) rfl) pa_nil))))))))), ?_⟩
    refine ⟨v, rfl, v, .ty "int", _, _, _, rfl, .ty _, od.ty, kit_int d, _, rfl, ?_⟩
    cases d with
    | int i => exact iteT ⟨v, rfl, v, .ty "bool", _, _, _, rfl, .ty _, od.ty, kit_bool _, _, rfl, q⟩
    | bool b => exact iteT ⟨v, rfl, v, .ty "bool", _, _, _, rfl, .ty _, od.ty, kit_bool _, _, rfl, q⟩
    | none => exact iteF q
    | str _ => exact iteF q
    | list _ => exact iteF q
    | tuple _ => exact iteF q
    | dict _ => exact iteF q
def spIsNumA (K : PySem.W.Frag) : Sp := fun vs H Q _ => ∃ (v : V) (d : PyData) (a b : Int), vs = [v, .int a, .int b] ∧ Od K H v d ∧ Q (.bl (numD a b d)) H
theorem ok_is_number_o (T : Tx K mg) : FnOk P w K mg base CX0 2 T.a_is_number T.d_is_number ["thing", "least", "most"] (spIsNumA K) := by
  refine T.F_is_number.ok sc_is_number (fun vs H Q E h => ?_) (fun cdv A outer s H vs Q E hr h => ?_)
  · obtain ⟨v, d, a, b, rfl, _⟩ := h
    rfl
  · obtain ⟨v, d, a, b, rfl, od, q⟩ := h
    refine ⟨_, ((pss_one (ps_ret (pe_and (pe_call (ok_is_integer_o T) (hr.mono (by decide)) (by rfl) T.g_is_integer T.F_is_integer.kp T.b_is_integer .nil pass0 (pa_cons (pv 0) pa_nil)) (pe_one (pe_chain op_le op_le (pv 1) (pv 0) (pv 2))))))), ?_⟩
    refine ⟨v, rfl, v, d, rfl, od, _, rfl, ?_⟩
    cases d with
    | int i =>
      cases od
      refine iteT ⟨.int a, rfl, .int i, rfl, a, i, rfl, rfl, _, rfl, ?_⟩
      have q' : Q (.bl (decide (a ≤ i) && decide (i ≤ b))) H := q
      by_cases h : a ≤ i
      · rw [decide_eq_true h] at q' ⊢
        exact iteT ⟨.int b, rfl, i, b, rfl, rfl, q'⟩
      · rw [decide_eq_false h] at q' ⊢
        exact iteF q'
    | none => exact iteF q
    | bool _ => exact iteF q
    | str _ => exact iteF q
    | list _ => exact iteF q
    | tuple _ => exact iteF q
    | dict _ => exact iteF q
def spAreNumsA (K : PySem.W.Frag) : Sp := fun vs H Q _ => ∃ (a : Addr) (xs : List V) (ds : List PyData) (lo hi : Int), vs = [.ref a, .int lo, .int hi] ∧ SqT K H a xs ∧ OdAll K H xs ds ∧ ds.length ≤ 1000 ∧
  ∀ H', Same H H' → Q (.bl (ds.all (numD lo hi))) H'
theorem ok_are_numbers_o (T : Tx K mg) : FnOk P w K mg base CX0 3 T.a_are_numbers T.d_are_numbers ["things", "least", "most"] (spAreNumsA K) := by
  refine T.F_are_numbers.ok sc_are_numbers (fun vs H Q E h => ?_) (fun cdv A outer s H vs Q E hr h => ?_)
  · obtain ⟨a, xs, ds, lo, hi, rfl, _⟩ := h
    rfl
  · obtain ⟨a, xs, ds, lo, hi, rfl, hT, oa, hlen, q⟩ := h
    have zl := oa.len
    refine ⟨_, ((pss_one (ps_ret (pe_callB (cr_all rfl) (by rfl) T.m_all (by decide +kernel) (pa_cons (pe_lc (own := [("thing", 3)]) (g := (gName 3)) (tt := tYes) rfl sc_are_numbers.nd (pi_tup (pv 0)) (blkOk_by (own := [("thing", 3)]) (N := ["things", "least", "most", "thing"]) (sc := defScope s_are_numbers) (by decide +kernel)) (fun _ _ _ _ _ => pg_name (i := 3) sc_are_numbers.nd rfl (.inl rfl)) (fun _ _ _ _ _ => pts_nil) (fun _ _ _ _ _ => (pe_call (ok_is_number_o T) (hr.mono (by decide)) (by rfl) T.g_is_number T.F_is_number.kp T.b_is_number .nil pass0 (pa_cons (pv 3) (pa_cons (pv 1) (pa_cons (pv 2) pa_nil)))))) pa_nil))))), ?_⟩
    refine ⟨.ref a, rfl, a, rfl, ⟨_, hT⟩, fun D hD => lc_tup (K := K) (a := a) (xs := xs)
      (fun i H' => Same H H' ∧ H' D = some (.lst (((ds.take i).map (numD lo hi)).map V.bl)))
      ⟨same_upd hD, upd_same⟩ (fun i H' _ p => sT p.1 hT) (fun i x H' hx p => ?_) (fun H' p => ?_)⟩
    · obtain ⟨sm, eD⟩ := p
      obtain ⟨d, hd, od⟩ := oa.get hx
      have hi' : i < ds.length := (List.getElem?_eq_some_iff.mp hd).1
      refine ⟨rfl, x, rfl, .int lo, rfl, .int hi, rfl, x, d, lo, hi, rfl, od.mono sm, ?_⟩
      refine ⟨_, eD, by rw [List.length_map, List.length_map, List.length_take]; exact small1000 (by omega), same_put sm hD, ?_⟩
      rw [upd_same, take_snoc hd, List.map_append, List.map_append]
      rfl
    · obtain ⟨sm, eD⟩ := p
      rw [zl, List.take_of_length_le (Nat.le_refl _)] at eD
      refine ⟨D, _, rfl, .inl (.inl eD), ?_⟩
      have e2 : ((ds.map (numD lo hi)).all id) = ds.all (numD lo hi) := by
        rw [List.all_map]
        rfl
      rw [e2]
      exact q H' sm
end

/-! ### spots, walks, comings: asked of anything -/
section
variable {P : Program} {w : World} {K : PySem.W.Frag} {mg : Str → Option Value} {base : Heap}
open RO9
/-- a tuple is not too long to be looked at -/
def Lim (d : PyData) : Prop := ∀ ds, d = .tuple ds → ds.length ≤ 1000
/-- nor is what is in it -/
def Lim2 (d : PyData) : Prop := ∀ ds, d = .tuple ds ∨ d = .list ds → ds.length ≤ 1000 ∧ ∀ x ∈ ds, Lim x
def areI (n : Int) : PyData → Bool
  | .tuple ds => decide ((ds.length : Int) = n) && ds.all isI
  | _ => false
def spAreIntsO (K : PySem.W.Frag) : Sp := fun vs H Q _ => ∃ (v : V) (d : PyData) (n : Int), vs = [v, .int n] ∧ Od K H v d ∧ Lim d ∧ ∀ H', Same H H' → Q (.bl (areI n d)) H'
theorem ok_are_integers_o (T : Tx K mg) : FnOk P w K mg base CX0 2 T.a_are_integers T.d_are_integers ["thing", "many"] (spAreIntsO K) := by
  refine T.F_are_integers.ok sc_are_integers (fun vs H Q E h => ?_) (fun cdv A outer s H vs Q E hr h => ?_)
  · obtain ⟨v, d, n, rfl, _⟩ := h
    rfl
  · obtain ⟨v, d, n, rfl, od, lm, q⟩ := h
    refine ⟨_, ((pss_one (ps_ret (pe_and (pe_callB call_isi (by rfl) T.m_isinstance (by decide +kernel) (pa_cons (pv 0) (pa_cons (pe_bltn (v := .ty "tuple") (by rfl) T.m_tuple (by decide +kernel) rfl) pa_nil))) (pe_and (pe_cmpR op_eq (pe_callB call_len_seq (by rfl) T.m_len PySem.boot_len (pa_cons (pv 0) pa_nil)) (pv 1) (nomark _)) (pe_one (pe_callB (cr_all rfl) (by rfl) T.m_all (by decide +kernel) (pa_cons (pe_lc (own := [("item", 2)]) (g := (gName 2)) (tt := tYes) rfl sc_are_integers.nd (pi_tup (pv 0)) (blkOk_by (own := [("item", 2)]) (N := ["thing", "many", "item"]) (sc := defScope s_are_integers) (by decide +kernel)) (fun _ _ _ _ _ => pg_name (i := 2) sc_are_integers.nd rfl (.inl rfl)) (fun _ _ _ _ _ => pts_nil) (fun _ _ _ _ _ => (pe_call (ok_is_integer_o T) (hr.mono (by decide)) (by rfl) T.g_is_integer T.F_is_integer.kp T.b_is_integer .nil pass0 (pa_cons (pv 2) pa_nil)))) pa_nil)))))))), ?_⟩
    have same : Same H H := fun _ _ e => e
    refine ⟨v, rfl, v, .ty "tuple", _, _, _, rfl, .ty _, od.ty, kit_tuple d, _, rfl, ?_⟩
    cases d with
    | tuple ds =>
      have l1000 := lm ds rfl
      cases od with
      | @tup r xs _ hT oa =>
        have zl := oa.len
        refine iteT ⟨.ref r, rfl, r, _, rfl, .inr hT, .int n, rfl, rfl, ?_⟩
        by_cases c : ((xs.length : Nat) : Int) = n
        · refine ⟨true, congrArg V.bl (decide_eq_true (congrArg V.int c)), iteT ⟨.ref r, rfl, r, rfl, ⟨_, hT⟩, fun D hD => lc_tup (K := K) (a := r) (xs := xs)
            (fun i H' => Same H H' ∧ H' D = some (.lst (((ds.take i).map isI).map V.bl)))
            ⟨same_upd hD, upd_same⟩ (fun i H' _ p => sT p.1 hT) (fun i x H' hx p => ?_) (fun H' p => ?_)⟩⟩
          · obtain ⟨sm, eD⟩ := p
            obtain ⟨d, hd, od⟩ := oa.get hx
            have hi := (List.getElem?_eq_some_iff.mp hd).1
            refine ⟨rfl, x, rfl, x, d, rfl, od.mono sm, _, eD, by rw [List.length_map, List.length_map, List.length_take]; exact small1000 (by omega), same_put sm hD, ?_⟩
            rw [upd_same, take_snoc hd, List.map_append, List.map_append]
            rfl
          · obtain ⟨sm, eD⟩ := p
            rw [zl, List.take_of_length_le (Nat.le_refl _)] at eD
            refine ⟨D, _, rfl, .inl (.inl eD), ?_⟩
            have e2 : ((ds.map isI).all id) = areI n (.tuple ds) := by
              show _ = (decide ((ds.length : Int) = n) && ds.all isI)
              rw [decide_eq_true (by omega), List.all_map]
              rfl
            rw [e2]
            exact q H' sm
        · refine ⟨false, congrArg V.bl (decide_eq_false fun z => c (V.int.inj z)), iteF ?_⟩
          have e2 : areI n (.tuple ds) = false := by
            show (decide ((ds.length : Int) = n) && ds.all isI) = false
            rw [decide_eq_false (by omega)]
            rfl
          have q' := q H same
          rw [e2] at q'
          exact q'
    | none => exact iteF (q H same)
    | bool _ => exact iteF (q H same)
    | int _ => exact iteF (q H same)
    | str _ => exact iteF (q H same)
    | list _ => exact iteF (q H same)
    | dict _ => exact iteF (q H same)
def comD (k : Int) : PyData → Bool
  | .tuple ds => decide (ds.length ≤ 400) && ds.all (numD 0 k)
  | _ => false
def spIsComO (K : PySem.W.Frag) : Sp := fun vs H Q _ => ∃ (k : Int) (v : V) (d : PyData), vs = [.int k, v] ∧ Od K H v d ∧ Lim d ∧ ∀ H', Same H H' → Q (.bl (comD k d)) H'
theorem ok_is_comings_o (T : Tx K mg) : FnOk P w K mg base CX0 4 T.a_is_comings T.d_is_comings ["comers", "thing"] (spIsComO K) := by
  refine T.F_is_comings.ok sc_is_comings (fun vs H Q E h => ?_) (fun cdv A outer s H vs Q E hr h => ?_)
  · obtain ⟨k, v, d, rfl, _⟩ := h
    rfl
  · obtain ⟨k, v, d, rfl, od, lm, q⟩ := h
    refine ⟨_, ((pss_one (ps_ret (pe_and (pe_callB call_isi (by rfl) T.m_isinstance (by decide +kernel) (pa_cons (pv 1) (pa_cons (pe_bltn (v := .ty "tuple") (by rfl) T.m_tuple (by decide +kernel) rfl) pa_nil))) (pe_and (pe_cmpR op_le (pe_callB call_len_seq (by rfl) T.m_len PySem.boot_len (pa_cons (pv 1) pa_nil)) (pe_glob (v := .int 400) rfl T.g_MOST_TICKS ⟨_, rfl⟩) (nomark _)) (pe_one (pe_call (ok_are_numbers_o T) (hr.mono (by decide)) (by rfl) T.g_are_numbers T.F_are_numbers.kp T.b_are_numbers .nil pass0 (pa_cons (pv 1) (pa_cons pe_int (pa_cons (pv 0) pa_nil)))))))))), ?_⟩
    have same : Same H H := fun _ _ e => e
    refine ⟨v, rfl, v, .ty "tuple", _, _, _, rfl, .ty _, od.ty, kit_tuple d, _, rfl, ?_⟩
    cases d with
    | tuple ds =>
      have l1000 := lm ds rfl
      cases od with
      | @tup r xs _ hT oa =>
        have zl := oa.len
        refine iteT ⟨.ref r, rfl, r, _, rfl, .inr hT, _, 400, rfl, rfl, decide (((xs.length : Nat) : Int) ≤ 400), rfl, ?_⟩
        by_cases c : ((xs.length : Nat) : Int) ≤ 400
        · rw [decide_eq_true c]
          refine iteT ⟨.ref r, rfl, .int k, rfl, r, xs, ds, 0, k, rfl, hT, oa, l1000, fun H' s' => ?_⟩
          have e2 : comD k (.tuple ds) = ds.all (numD 0 k) := by
            show (decide (ds.length ≤ 400) && ds.all (numD 0 k)) = _
            rw [decide_eq_true (by omega)]
            rfl
          rw [← e2]
          exact q H' s'
        · rw [decide_eq_false c]
          have e2 : comD k (.tuple ds) = false := by
            show (decide (ds.length ≤ 400) && ds.all (numD 0 k)) = _
            rw [decide_eq_false (by omega)]
            rfl
          have q' := q H same
          rw [e2] at q'
          exact iteF q'
    | none => exact iteF (q H same)
    | bool _ => exact iteF (q H same)
    | int _ => exact iteF (q H same)
    | str _ => exact iteF (q H same)
    | list _ => exact iteF (q H same)
    | dict _ => exact iteF (q H same)
/-- two whole numbers -/
def pairD : PyData → Option Wk.Spt
  | .tuple [.int a, .int b] => some (a, b)
  | _ => none
theorem pair_of {d : PyData} (h : areI 2 d = true) : ∃ a b : Int, d = .tuple [.int a, .int b] := by
  cases d with
  | tuple ds =>
    have h' : (decide ((ds.length : Int) = 2) && ds.all isI) = true := h
    rw [Bool.and_eq_true] at h'
    have l2 := of_decide_eq_true h'.1
    match ds, l2, h'.2 with
    | [x, y], _, h2 =>
      simp only [List.all_cons, List.all_nil, Bool.and_true, Bool.and_eq_true] at h2
      cases x with
      | int a =>
        cases y with
        | int b => exact ⟨a, b, rfl⟩
        | _ => exact absurd (show false = true from h2.2) Bool.false_ne_true
      | _ => exact absurd (show false = true from h2.1) Bool.false_ne_true
  | _ => exact absurd (show false = true from h) Bool.false_ne_true
theorem pair_no {d : PyData} (h : areI 2 d = false) : pairD d = none := by
  cases e : pairD d with
  | none => rfl
  | some s =>
    unfold pairD at e
    split at e
    · exact absurd (show areI 2 _ = true from rfl) (by rw [h]; exact Bool.false_ne_true)
    · cases e
theorem pair_sq {K : PySem.W.Frag} {H : Hp} {v : V} {a b : Int} (h : Od K H v (.tuple [.int a, .int b])) : ∃ p, v = .ref p ∧ SqT K H p (pv2 (a, b)) := by
  cases h with
  | @tup p xs _ hT oa =>
    cases oa with
    | cons x t =>
      cases t with
      | cons y t =>
        cases t
        cases x
        cases y
        exact ⟨p, rfl, hT⟩
def spotD (k b : Int) (d : PyData) : Bool := match pairD d with
  | some s => spotB k b s
  | none => false
def spIsSpotO (K : PySem.W.Frag) : Sp := fun vs H Q _ => ∃ (k b : Int) (v : V) (d : PyData), vs = [.int k, .int b, v] ∧ Od K H v d ∧ Lim d ∧ ∀ H', Same H H' → Q (.bl (spotD k b d)) H'
theorem ok_is_spot_o (T : Tx K mg) : FnOk P w K mg base CX0 3 T.a_is_spot T.d_is_spot ["comers", "bound", "thing"] (spIsSpotO K) := by
  refine T.F_is_spot.ok sc_is_spot (fun vs H Q E h => ?_) (fun cdv A outer s H vs Q E hr h => ?_)
  · obtain ⟨k, b, v, d, rfl, _⟩ := h
    rfl
  · obtain ⟨k, b, v, d, rfl, od, lm, q⟩ := h
    refine ⟨_, ((pss_cons (ps_if (pt_not (pt_val (pe_call (ok_are_integers_o T) (hr.mono (by decide)) (by rfl) T.g_are_integers T.F_are_integers.kp T.b_are_integers .nil pass0 (pa_cons (pv 2) (pa_cons pe_int pa_nil))))) (pss_one (ps_ret pe_bl)) pss_nil)
  (pss_cons (ps_asg (pv 2) (pg_tup rfl (pgs_cons (pg_name (i := 3) sc_is_spot.nd rfl (.inl rfl)) (pgs_cons (pg_name (i := 4) sc_is_spot.nd rfl (.inl rfl)) pgs_nil))))
  (pss_one (ps_ret (pe_and (pe_chain op_le op_le pe_int (pv 3) (pv 1)) (pe_and (pe_chain op_le op_le pe_int (pv 4) (pv 0)) (pe_one (pe_cmpR op_ge (pv 3) (pe_op op_sub (pv 4) pe_int) (nomark _)))))))))), ?_⟩
    refine ⟨v, rfl, v, d, 2, rfl, od, lm, fun H1 s1 => ⟨_, rfl, ?_⟩⟩
    cases ca : areI 2 d with
    | false =>
      refine iteT ?_
      have q' := q H1 s1
      unfold spotD at q'
      rw [pair_no ca] at q'
      exact q'
    | true =>
      obtain ⟨wt, tu, rfl⟩ := pair_of ca
      obtain ⟨p, rfl, hT⟩ := pair_sq od
      refine iteF ⟨.ref p, rfl, p, _, rfl, sT s1 hT, rfl, _, [_], rfl, _, [], rfl, rfl, ?_⟩
      have qq : Q (.bl (spotB k b (wt, tu))) H1 := q H1 s1
      unfold spotB at qq
      refine ⟨.int wt, rfl, 0, wt, rfl, rfl, ?_⟩
      by_cases c1 : 0 ≤ wt
      · rw [show decide (0 ≤ ((wt, tu) : Wk.Spt).1) = true from decide_eq_true c1] at qq
        refine ⟨true, congrArg V.bl (decide_eq_true c1), iteT ⟨.int b, rfl, wt, b, rfl, rfl, ?_⟩⟩
        by_cases c2 : wt ≤ b
        · rw [show decide (((wt, tu) : Wk.Spt).1 ≤ b) = true from decide_eq_true c2] at qq
          refine ⟨true, congrArg V.bl (decide_eq_true c2), iteT ?_⟩
          refine ⟨.int tu, rfl, 1, tu, rfl, rfl, ?_⟩
          by_cases c3 : 1 ≤ tu
          · rw [show decide (1 ≤ ((wt, tu) : Wk.Spt).2) = true from decide_eq_true c3] at qq
            refine ⟨true, congrArg V.bl (decide_eq_true c3), iteT ⟨.int k, rfl, tu, k, rfl, rfl, ?_⟩⟩
            by_cases c4 : tu ≤ k
            · rw [show decide (((wt, tu) : Wk.Spt).2 ≤ k) = true from decide_eq_true c4] at qq
              refine ⟨true, congrArg V.bl (decide_eq_true c4), iteT ?_⟩
              exact ⟨.int wt, rfl, .int tu, rfl, _, _, rfl, rfl, _, _, rfl, rfl, qq⟩
            · rw [show decide (((wt, tu) : Wk.Spt).2 ≤ k) = false from decide_eq_false c4] at qq
              exact ⟨false, congrArg V.bl (decide_eq_false c4), iteF qq⟩
          · rw [show decide (1 ≤ ((wt, tu) : Wk.Spt).2) = false from decide_eq_false c3] at qq
            exact ⟨false, congrArg V.bl (decide_eq_false c3), iteF ⟨false, rfl, iteF qq⟩⟩
        · rw [show decide (((wt, tu) : Wk.Spt).1 ≤ b) = false from decide_eq_false c2] at qq
          exact ⟨false, congrArg V.bl (decide_eq_false c2), iteF qq⟩
      · rw [show decide (0 ≤ ((wt, tu) : Wk.Spt).1) = false from decide_eq_false c1] at qq
        exact ⟨false, congrArg V.bl (decide_eq_false c1), iteF ⟨false, rfl, iteF qq⟩⟩
/-- the next one of a spot -/
def nextB (k b : Int) (s t : Wk.Spt) : Bool := spotB k b t && (decide (t = (s.1 + 1, s.2 + 1)) || (decide (t.2 = 1) && decide (t.1 ≤ s.1)))
def nextD (k b : Int) (s : Wk.Spt) (d : PyData) : Bool := match pairD d with
  | some t => nextB k b s t
  | none => false
def spIsNextO (K : PySem.W.Frag) : Sp := fun vs H Q _ => ∃ (k b : Int) (p : Addr) (s : Wk.Spt) (v : V) (d : PyData), vs = [.int k, .int b, .ref p, v] ∧ SqT K H p (pv2 s) ∧ Od K H v d ∧ Lim d ∧ ∀ H', Same H H' → Q (.bl (nextD k b s d)) H'
theorem ok_is_next_o (T : Tx K mg) : FnOk P w K mg base CX0 4 T.a_is_next T.d_is_next ["comers", "bound", "spot", "other"] (spIsNextO K) := by
  refine T.F_is_next.ok sc_is_next (fun vs H Q E h => ?_) (fun cdv A outer s H vs Q E hr h => ?_)
  · obtain ⟨k, b, p, s, v, d, rfl, _⟩ := h
    rfl
  · obtain ⟨k, b, p, ⟨wt, tu⟩, v, d, rfl, hP, od, lm, q⟩ := h
    refine ⟨_, ((pss_cons (ps_if (pt_not (pt_val (pe_call (ok_is_spot_o T) (hr.mono (by decide)) (by rfl) T.g_is_spot T.F_is_spot.kp T.b_is_spot .nil pass0 (pa_cons (pv 0) (pa_cons (pv 1) (pa_cons (pv 3) pa_nil)))))) (pss_one (ps_ret pe_bl)) pss_nil)
  (pss_cons (ps_asg (pv 2) (pg_tup rfl (pgs_cons (pg_name (i := 4) sc_is_next.nd rfl (.inl rfl)) (pgs_cons (pg_name (i := 5) sc_is_next.nd rfl (.inl rfl)) pgs_nil))))
  (pss_one (ps_ret (pe_or (pe_cmpR (op_eqD hr.units) (pv 3) (pe_tup (pa_cons (pe_op op_add (pv 4) pe_int) (pa_cons (pe_op op_add (pv 5) pe_int) pa_nil))) (nomark _)) (pe_one (pe_and (pe_cmpR op_eq (pe_ix ix_tup (pv 3) pe_int (fun _ _ => rfl)) pe_int (nomark _)) (pe_one (pe_cmpR op_le (pe_ix ix_tup (pv 3) pe_int (fun _ _ => rfl)) (pv 4) (nomark _))))))))))), ?_⟩
    refine ⟨.int k, rfl, .int b, rfl, v, rfl, k, b, v, d, rfl, od, lm, fun H1 s1 => ⟨_, rfl, ?_⟩⟩
    cases cs : spotD k b d with
    | false =>
      refine iteT ?_
      have q' := q H1 s1
      have e : nextD k b (wt, tu) d = false := by
        unfold nextD
        unfold spotD at cs
        cases e : pairD d with
        | none => rfl
        | some t =>
          rw [e] at cs
          have cs' : spotB k b t = false := cs
          show nextB k b (wt, tu) t = false
          unfold nextB
          rw [cs']
          rfl
      rw [e] at q'
      exact q'
    | true =>
      refine iteF ?_
      obtain ⟨wo, to, rfl⟩ : ∃ a b : Int, d = .tuple [.int a, .int b] := by
        unfold spotD at cs
        unfold pairD at cs
        split at cs
        · rename_i s e
          split at e
          · exact ⟨_, _, rfl⟩
          · cases e
        · cases cs
      have sb : spotB k b (wo, to) = true := cs
      obtain ⟨o, rfl, hO⟩ := pair_sq od
      have eN : nextD k b (wt, tu) (.tuple [.int wo, .int to]) = (decide (((wo, to) : Wk.Spt) = (wt + 1, tu + 1)) || (decide (to = 1) && decide (wo ≤ wt))) := by
        show (spotB k b (wo, to) && _) = _
        rw [sb]
        rfl
      rw [eN] at q
      refine ⟨.ref p, rfl, p, _, rfl, sT s1 hP, rfl, _, [_], rfl, _, [], rfl, rfl, ?_⟩
      refine ⟨.ref o, rfl, .int wt, rfl, _, _, rfl, rfl, .int tu, rfl, _, _, rfl, rfl, by show 2 ≤ sizeLine; decide, fun c nc => ?_⟩
      have s2 := same_upd (o := .tup [.int (wt + 1), .int (tu + 1)]) nc
      have s12 := s1.trans s2
      refine ⟨dI [wo, to], dI [wt + 1, tu + 1], dp_dI (sT s12 hO), dp_dI (SqT.of upd_same), (Shp.dI _).ok (by decide), (Shp.dI _).ok (by decide), ?_⟩
      have e2 := two_eq (wo, to) (wt + 1, tu + 1)
      have qq := q _ s12
      by_cases c : ((wo, to) : Int × Int) = (wt + 1, tu + 1)
      · rw [decide_eq_true c] at e2
        rw [show decide (((wo, to) : Wk.Spt) = (wt + 1, tu + 1)) = true from decide_eq_true c] at qq
        exact ⟨true, congrArg V.bl e2, iteT qq⟩
      · rw [decide_eq_false c] at e2
        rw [show decide (((wo, to) : Wk.Spt) = (wt + 1, tu + 1)) = false from decide_eq_false c, Bool.false_or] at qq
        refine ⟨false, congrArg V.bl e2, iteF ?_⟩
        refine ⟨.ref o, rfl, o, _, 1, _, rfl, rfl, sT s12 hO, atI_nat (j := 1) rfl, rfl, ?_⟩
        by_cases c1 : to = 1
        · rw [decide_eq_true c1, Bool.true_and] at qq
          refine ⟨true, congrArg V.bl (decide_eq_true (congrArg V.int c1)), iteT ?_⟩
          exact ⟨.ref o, rfl, o, _, 0, _, rfl, rfl, sT s12 hO, atI_nat (j := 0) rfl, .int wt, rfl, _, _, rfl, rfl, qq⟩
        · rw [decide_eq_false c1, Bool.false_and] at qq
          exact ⟨false, congrArg V.bl (decide_eq_false fun z => c1 (V.int.inj z)), iteF qq⟩
def itemsD : PyData → Option (List PyData)
  | .list ds => some ds
  | .tuple ds => some ds
  | _ => none
def walkFrom (k b : Int) : Wk.Spt → List PyData → Bool
  | _, [] => true
  | s, d :: ds => match pairD d with
    | some t => nextB k b s t && walkFrom k b t ds
    | none => false
def walkD (k b : Int) (d : PyData) : Bool := match itemsD d with
  | some (d0 :: ds) => (match pairD d0 with
    | some s => spotB k b s && (decide (s.2 = 1) && walkFrom k b s ds)
    | none => false)
  | _ => false
theorem kit_items {K : PySem.W.Frag} (d : PyData) : PySem.W.kitAny K (.type (tyD d)) [.type "list", .type "tuple"] = some (itemsD d).isSome := by
  cases d with
  | list _ => exact kitAny_cons (kit_ty (r := true) (show kitB "list" "list" = some true by decide +kernel)) (fun h => by cases h) (fun _ => rfl)
  | tuple _ => exact kitAny_cons (kit_ty (r := false) (show kitB "tuple" "list" = some false by decide +kernel)) (fun _ => kitAny_cons (kit_ty (r := true) (show kitB "tuple" "tuple" = some true by decide +kernel)) (fun h => by cases h) (fun _ => rfl)) (fun h => by cases h)
  | none => exact kitAny_cons (kit_ty (r := false) (show kitB "NoneType" "list" = some false by decide +kernel)) (fun _ => kitAny_cons (kit_ty (r := false) (show kitB "NoneType" "tuple" = some false by decide +kernel)) (fun _ => rfl) (fun h => by cases h)) (fun h => by cases h)
  | bool _ => exact kitAny_cons (kit_ty (r := false) (show kitB "bool" "list" = some false by decide +kernel)) (fun _ => kitAny_cons (kit_ty (r := false) (show kitB "bool" "tuple" = some false by decide +kernel)) (fun _ => rfl) (fun h => by cases h)) (fun h => by cases h)
  | int _ => exact kitAny_cons (kit_ty (r := false) (show kitB "int" "list" = some false by decide +kernel)) (fun _ => kitAny_cons (kit_ty (r := false) (show kitB "int" "tuple" = some false by decide +kernel)) (fun _ => rfl) (fun h => by cases h)) (fun h => by cases h)
  | str _ => exact kitAny_cons (kit_ty (r := false) (show kitB "str" "list" = some false by decide +kernel)) (fun _ => kitAny_cons (kit_ty (r := false) (show kitB "str" "tuple" = some false by decide +kernel)) (fun _ => rfl) (fun h => by cases h)) (fun h => by cases h)
  | dict _ => exact kitAny_cons (kit_ty (r := false) (show kitB "dict" "list" = some false by decide +kernel)) (fun _ => kitAny_cons (kit_ty (r := false) (show kitB "dict" "tuple" = some false by decide +kernel)) (fun _ => rfl) (fun h => by cases h)) (fun h => by cases h)
theorem spot_of {k b : Int} {d : PyData} (h : spotD k b d = true) : ∃ x y : Int, d = .tuple [.int x, .int y] ∧ spotB k b (x, y) = true := by
  unfold spotD at h
  cases e : pairD d with
  | none =>
    rw [e] at h
    cases h
  | some t =>
    rw [e] at h
    unfold pairD at e
    split at e
    · cases e
      exact ⟨_, _, rfl, h⟩
    · cases e
theorem next_of {k b : Int} {s : Wk.Spt} {d : PyData} (h : nextD k b s d = true) : ∃ t : Wk.Spt, pairD d = some t ∧ d = .tuple [.int t.1, .int t.2] ∧ nextB k b s t = true := by
  unfold nextD at h
  cases e : pairD d with
  | none =>
    rw [e] at h
    cases h
  | some t =>
    rw [e] at h
    refine ⟨t, rfl, ?_, h⟩
    unfold pairD at e
    split at e
    · cases e
      rfl
    · cases e
theorem pairD_of {d : PyData} {t : Wk.Spt} (e : pairD d = some t) : d = .tuple [.int t.1, .int t.2] := by
  unfold pairD at e
  split at e
  · cases e
    rfl
  · cases e
theorem walk_step {k b : Int} {s : Wk.Spt} {ds : List PyData} {i : Nat} {d : PyData} (h : ds[i]? = some d) : walkFrom k b s (ds.drop i) = (nextD k b s d && (match pairD d with
  | some t => walkFrom k b t (ds.drop (i + 1))
  | none => false)) := by
  obtain ⟨hi, e⟩ := List.getElem?_eq_some_iff.mp h
  rw [List.drop_eq_getElem_cons hi, e]
  show (match pairD d with
    | some t => nextB k b s t && walkFrom k b t (ds.drop (i + 1))
    | none => false) = _
  unfold nextD
  cases pairD d <;> rfl
/-- a list or a tuple of things -/
theorem items_of {K : PySem.W.Frag} {H : Hp} {v : V} {d : PyData} {ds : List PyData} (od : Od K H v d) (h : itemsD d = some ds) : ∃ (κ : Bool) (L : Addr) (xs : List V), v = .ref L ∧ Kd κ K H L xs ∧ OdAll K H xs ds ∧ (d = .tuple ds ∨ d = .list ds) := by
  cases od with
  | lst e oa =>
    cases h
    exact ⟨true, _, _, rfl, e, oa, .inr rfl⟩
  | tup e oa =>
    cases h
    exact ⟨false, _, _, rfl, e, oa, .inl rfl⟩
  | _ => cases h
def spIsWalkO (K : PySem.W.Frag) : Sp := fun vs H Q _ => ∃ (k b : Int) (v : V) (d : PyData), vs = [.int k, .int b, v] ∧ Od K H v d ∧ Lim2 d ∧ ∀ H', Same H H' → Q (.bl (walkD k b d)) H'
theorem ok_is_walk_o (T : Tx K mg) : FnOk P w K mg base CX0 5 T.a_is_walk T.d_is_walk ["comers", "bound", "thing"] (spIsWalkO K) := by
  refine T.F_is_walk.ok sc_is_walk (fun vs H Q E h => ?_) (fun cdv A outer s H vs Q E hr h => ?_)
  · obtain ⟨k, b, v, d, rfl, _⟩ := h
    rfl
  · obtain ⟨k, b, v, d, rfl, od, lm, q⟩ := h
    refine ⟨_, ((pss_cons (ps_if (PW.pt (pw_or (pt_not (pt_val (pe_callB call_isiT (by rfl) T.m_isinstance (by decide +kernel) (pa_cons (pv 2) (pa_cons (pe_tup (pa_cons (pe_bltn (v := .ty "list") (by rfl) T.m_list (by decide +kernel) rfl) (pa_cons (pe_bltn (v := .ty "tuple") (by rfl) T.m_tuple (by decide +kernel) rfl) pa_nil))) pa_nil))))) (pw_or1 (pt_cmpR op_eq (pe_callB call_len_seq (by rfl) T.m_len PySem.boot_len (pa_cons (pv 2) pa_nil)) pe_int (nomark _))))) (pss_one (ps_ret pe_bl)) pss_nil)
  (pss_cons (ps_set (i := 3) sc_is_walk.nd rfl (.inl rfl) (pe_ix (ix_list.or ix_tup) (pv 2) pe_int (fun _ _ => rfl)))
  (pss_cons (ps_if (PW.pt (pw_or (pt_not (pt_val (pe_call (ok_is_spot_o T) (hr.mono (by decide)) (by rfl) T.g_is_spot T.F_is_spot.kp T.b_is_spot .nil pass0 (pa_cons (pv 0) (pa_cons (pv 1) (pa_cons (pv 3) pa_nil)))))) (pw_or1 (pt_cmpR op_ne (pe_ix ix_tup (pv 3) pe_int (fun _ _ => rfl)) pe_int (nomark _))))) (pss_one (ps_ret pe_bl)) pss_nil)
  (pss_cons (ps_for PassesOwn.never rfl (pi_range2 (by rfl) T.m_range (pa_cons pe_int (pa_cons (pe_callB call_len_seq (by rfl) T.m_len PySem.boot_len (pa_cons (pv 2) pa_nil)) pa_nil))) (pg_name (i := 4) sc_is_walk.nd rfl (.inl rfl))
   (pss_one (ps_if (pt_not (pt_val (pe_call (ok_is_next_o T) (hr.mono (by decide)) (by rfl) T.g_is_next T.F_is_next.kp T.b_is_next .nil pass0 (pa_cons (pv 0) (pa_cons (pv 1) (pa_cons (pe_ix (ix_list.or ix_tup) (pv 2) (pe_op op_sub (pv 4) pe_int) (fun _ _ => rfl)) (pa_cons (pe_ix (ix_list.or ix_tup) (pv 2) (pv 4) (fun _ _ => rfl)) pa_nil))))))) (pss_one (ps_ret pe_bl)) pss_nil)))
  (pss_one (ps_ret pe_bl))))))), ?_⟩
    refine ⟨v, rfl, by show 2 ≤ sizeLine; decide, fun tp ntp => ?_⟩
    have s1 := same_upd (o := .tup [V.ty "list", .ty "tuple"]) ntp
    refine ⟨v, tp, _, _, [.type "list", .type "tuple"], _, rfl, upd_same, .cons (.ty _) (.cons (.ty _) .nil), (od.mono s1).ty, kit_items d, ?_⟩
    cases ci : itemsD d with
    | none =>
      refine ⟨false, rfl, iteT ?_⟩
      have q' := q _ s1
      unfold walkD at q'
      rw [ci] at q'
      exact q'
    | some ds =>
      obtain ⟨κ, L, xs, rfl, eL, oa, ed⟩ := items_of od ci
      obtain ⟨l1000, lims⟩ := lm ds ed
      have zl := oa.len
      refine ⟨true, rfl, iteF ⟨.ref L, rfl, L, _, rfl, (eL.same s1).len, rfl, ?_⟩⟩
      cases ds with
      | nil =>
        have e0 : xs.length = 0 := zl
        refine ⟨true, congrArg V.bl (decide_eq_true (by rw [e0]; rfl)), iteT ?_⟩
        have q' := q _ s1
        unfold walkD at q'
        rw [ci] at q'
        exact q'
      | cons d0 ds =>
        rw [List.length_cons] at zl
        have l1001 : ds.length + 1 ≤ 1000 := l1000
        refine ⟨false, congrArg V.bl (decide_eq_false fun z => by have := V.int.inj z; omega), iteF ?_⟩
        obtain ⟨x0, hx0⟩ : ∃ x0, xs[0]? = some x0 := ⟨_, List.getElem?_eq_getElem (by omega)⟩
        obtain ⟨d0', hd0, od0⟩ := oa.get hx0
        cases hd0
        refine ⟨.ref L, rfl, ixK (eL.same s1) (atI_nat (j := 0) hx0) ?_⟩
        refine ⟨.int k, rfl, .int b, rfl, x0, rfl, k, b, x0, d0, rfl, od0.mono s1, lims d0 List.mem_cons_self, fun H2 s2 => ?_⟩
        have s12 := s1.trans s2
        have q2 := q H2 s12
        unfold walkD at q2
        rw [ci] at q2
        cases cs : spotD k b d0 with
        | false =>
          refine ⟨false, rfl, iteT ?_⟩
          have e : (match pairD d0 with | some s => spotB k b s && (decide (s.2 = 1) && walkFrom k b s ds) | none => false) = false := by
            unfold spotD at cs
            cases e : pairD d0 with
            | none => rfl
            | some t =>
              rw [e] at cs
              have cs' : spotB k b t = false := cs
              show (spotB k b t && _) = false
              rw [cs']
              rfl
          have q3 : Q (.bl (match pairD d0 with | some s => spotB k b s && (decide (s.2 = 1) && walkFrom k b s ds) | none => false)) H2 := q2
          rw [e] at q3
          exact iteT q3
        | true =>
          refine ⟨true, rfl, iteF ?_⟩
          obtain ⟨a0, b0, rfl, sb⟩ := spot_of cs
          obtain ⟨p0, rfl, hp0⟩ := pair_sq od0
          have q3 : ∀ H', Same H H' → Q (.bl (decide (b0 = 1) && walkFrom k b (a0, b0) ds)) H' := fun H' s' => by
            have q4 := q H' s'
            unfold walkD at q4
            rw [ci] at q4
            have q5 : Q (.bl (spotB k b (a0, b0) && (decide (b0 = 1) && walkFrom k b (a0, b0) ds))) H' := q4
            rw [sb, Bool.true_and] at q5
            exact q5
          by_cases c1 : b0 = 1
          · rw [decide_eq_true c1] at q3
            refine ⟨.ref p0, rfl, p0, _, 1, _, rfl, rfl, sT s12 hp0, atI_nat (j := 1) rfl, rfl, false, ne_no c1, iteF ?_⟩
            refine ⟨.ref L, rfl, L, _, rfl, (eL.same s12).len, 1, _, rfl, ⟨by omega, by omega, by omega, by omega⟩, for_range (lo := 1) (n := (((xs.length : Nat) : Int) - 1).toNat)
              (fun i σ H' => ∃ (y4 : Option V) (s : Wk.Spt) (di : PyData), σ = [some (.int k), some (.int b), some (.ref L), some (.ref p0), y4] ∧ Same H H' ∧ (PyData.tuple [.int a0, .int b0] :: ds)[i]? = some di ∧ pairD di = some s ∧ walkFrom k b (a0, b0) ds = walkFrom k b s (ds.drop i))
              ⟨_, (a0, b0), _, rfl, s12, rfl, rfl, rfl⟩ (fun i σ H' hi h => ?_) (fun σ H' h => ?_)⟩
            · obtain ⟨y4, s, di, rfl, sm, hdi, hs, ew⟩ := h
              have hi' : i < ds.length := by omega
              obtain ⟨x, hx⟩ : ∃ x, xs[i]? = some x := ⟨_, List.getElem?_eq_getElem (by omega)⟩
              obtain ⟨y, hy⟩ : ∃ y, xs[i + 1]? = some y := ⟨_, List.getElem?_eq_getElem (by omega)⟩
              obtain ⟨di', hdi', odx⟩ := oa.get hx
              rw [hdi] at hdi'
              cases hdi'
              obtain ⟨dy, hdy, ody⟩ := oa.get hy
              have hdy' : ds[i]? = some dy := hdy
              have edi := pairD_of hs
              rw [edi] at odx
              obtain ⟨px, rfl, hpx⟩ := pair_sq odx
              refine ⟨.int k, rfl, .int b, rfl, .ref L, rfl, .int (1 + (i : Int)), rfl, _, _, rfl, rfl, ixK (eL.same sm) (atI_of (by show (0 : Int) ≤ 1 + (i : Int) - 1; omega) (by rw [show ((1 : Int) + (i : Int) - 1).toNat = i by omega]; exact hx))
                ⟨.ref L, rfl, .int (1 + (i : Int)), rfl, ixK (eL.same sm) (atI_of (by omega) (by rw [show ((1 : Int) + (i : Int)).toNat = i + 1 by omega]; exact hy)) ⟨k, b, px, s, y, dy, rfl, sT sm hpx, ody.mono sm, lims dy (List.mem_of_getElem? hdy), fun H3 s3 => ⟨_, rfl, ?_⟩⟩⟩⟩
              have st := walk_step (k := k) (b := b) (s := s) hdy'
              have q4 := q3 H3 (sm.trans s3)
              rw [ew, st] at q4
              cases cn : nextD k b s dy with
              | false =>
                rw [cn] at q4
                exact iteT q4
              | true =>
                obtain ⟨t, et, _, _⟩ := next_of cn
                refine iteF ⟨_, t, dy, rfl, sm.trans s3, hdy, et, ?_⟩
                rw [ew, st, cn, et]
                rfl
            · obtain ⟨y4, s, di, rfl, sm, hdi, hs, ew⟩ := h
              have q4 := q3 H' sm
              rw [ew, show (((xs.length : Nat) : Int) - 1).toNat = ds.length by omega, List.drop_length] at q4
              exact q4
          · rw [decide_eq_false c1, Bool.false_and] at q3
            refine ⟨.ref p0, rfl, p0, _, 1, _, rfl, rfl, sT s12 hp0, atI_nat (j := 1) rfl, rfl, true, ?_, iteT (q3 H2 s12)⟩
            show V.bl (!decide (V.int b0 = V.int 1)) = _
            rw [decide_eq_false fun z => c1 (V.int.inj z)]
            rfl
/-- a walk that is right -/
theorem walkFrom_chain {K : PySem.W.Frag} {H : Hp} {k b : Int} : ∀ {xs : List V} {ds : List PyData} {s : Wk.Spt}, OdAll K H xs ds → walkFrom k b s ds = true → ∃ (ps : List Addr) (row : List Wk.Spt), xs = ps.map V.ref ∧ TupQ K H ps row ∧ Wk.Chain k b s row ∧ row.length = ds.length
  | _, _, _, .nil, _ => ⟨[], [], rfl, .nil, trivial, rfl⟩
  | _ :: xs, d :: ds, s, .cons a t, h => by
    have h' : (match pairD d with
      | some t => nextB k b s t && walkFrom k b t ds
      | none => false) = true := h
    cases e : pairD d with
    | none =>
      rw [e] at h'
      cases h'
    | some u =>
      rw [e] at h'
      have h2 : (nextB k b s u && walkFrom k b u ds) = true := h'
      rw [Bool.and_eq_true] at h2
      obtain ⟨ps, row, rfl, tu, ch, hl⟩ := walkFrom_chain t h2.2
      have ed := pairD_of e
      subst ed
      obtain ⟨p, rfl, hp⟩ := pair_sq a
      refine ⟨p :: ps, u :: row, rfl, .cons hp tu, ⟨?_, ch⟩, by rw [List.length_cons, List.length_cons, hl]⟩
      have hn := h2.1
      unfold nextB at hn
      simp only [Bool.and_eq_true, Bool.or_eq_true, decide_eq_true_eq] at hn
      exact ⟨spotB_iff.mp hn.1, hn.2⟩
theorem walk_of {K : PySem.W.Frag} {H : Hp} {k b : Int} {v : V} {d : PyData} (od : Od K H v d) (h : walkD k b d = true) : ∃ (κ : Bool) (L : Addr) (ps : List Addr) (row : List Wk.Spt) (ds : List PyData), v = .ref L ∧ Kd κ K H L (ps.map V.ref) ∧ TupQ K H ps row ∧ Wk.Walk k b row ∧ itemsD d = some ds ∧ row.length = ds.length := by
  unfold walkD at h
  cases ci : itemsD d with
  | none =>
    rw [ci] at h
    cases h
  | some ds =>
    rw [ci] at h
    obtain ⟨κ, L, xs, rfl, eL, oa, ed⟩ := items_of od ci
    cases ds with
    | nil => cases h
    | cons d0 ds =>
      have h' : (match pairD d0 with
        | some s => spotB k b s && (decide (s.2 = 1) && walkFrom k b s ds)
        | none => false) = true := h
      cases e : pairD d0 with
      | none =>
        rw [e] at h'
        cases h'
      | some s =>
        rw [e] at h'
        have h2 : (spotB k b s && (decide (s.2 = 1) && walkFrom k b s ds)) = true := h'
        rw [Bool.and_eq_true, Bool.and_eq_true] at h2
        cases oa with
        | cons a t =>
          obtain ⟨ps, row, rfl, tu, ch, hl⟩ := walkFrom_chain t h2.2.2
          have ed := pairD_of e
          subst ed
          obtain ⟨p, rfl, hp⟩ := pair_sq a
          exact ⟨κ, L, p :: ps, s :: row, _, rfl, eL, .cons hp tu, ⟨spotB_iff.mp h2.1, of_decide_eq_true h2.2.1, ch⟩, rfl, by rw [List.length_cons, List.length_cons, hl]⟩
end

/-! ### what is refused -/
theorem exm_self {K : PySem.W.Frag} {S : Addr} (h1 : PySem.W.subIn K (.ref S) (.type "BaseException") = some true) (h2 : PySem.W.isClsIn K S = true) (h3 : PySem.W.typeIn K (.ref S) = some (.type "type")) (h4 : PySem.W.subIn K (.ref S) (.ref S) = some true) :
    PySem.W.exmOne K (.ref S) (.ref S) = some true := by
  have a : (PySem.W.subIn K (.ref S) (.type "BaseException") == some true) = true := by
    rw [h1]
    rfl
  have h2' : (PySem.W.clsIn K S).isSome = true := h2
  have b : ((PySem.W.clsIn K S).isSome && PySem.W.typeIn K (.ref S) == some (.type "type")) = true := by
    rw [h2', h3]
    rfl
  unfold PySem.W.exmOne
  rw [if_pos a]
  show (if _ then PySem.W.subIn K (.ref S) (.ref S) else none) = some true
  rw [if_pos b]
  exact h4
section
variable {P : Program} {w : World} {K : PySem.W.Frag} {mg : Str → Option Value} {base : Heap}
open RO9
def spI0 : Sp := fun vs H Q _ => ∃ a : Addr, vs = [.ref a] ∧ Q .non H
theorem ok_NoComers___init__ (T : Tx K mg) : FnOk P w K mg base CX0 1 T.a_NoComers___init__ T.d_NoComers___init__ ["self"] spI0 := by
  refine T.F_NoComers___init__.ok sc_NoComers___init__ (fun vs H Q E h => ?_) (fun cdv A outer s H vs Q E hr h => ?_)
  · obtain ⟨a, rfl, _⟩ := h
    rfl
  · obtain ⟨a, rfl, q⟩ := h
    exact ⟨_, ((pss_one ps_pass)), q⟩
theorem ok_NoBound___init__ (T : Tx K mg) : FnOk P w K mg base CX0 1 T.a_NoBound___init__ T.d_NoBound___init__ ["self"] spI0 := by
  refine T.F_NoBound___init__.ok sc_NoBound___init__ (fun vs H Q E h => ?_) (fun cdv A outer s H vs Q E hr h => ?_)
  · obtain ⟨a, rfl, _⟩ := h
    rfl
  · obtain ⟨a, rfl, q⟩ := h
    exact ⟨_, ((pss_one ps_pass)), q⟩
theorem ok_NoComings___init__ (T : Tx K mg) : FnOk P w K mg base CX0 1 T.a_NoComings___init__ T.d_NoComings___init__ ["self"] spI0 := by
  refine T.F_NoComings___init__.ok sc_NoComings___init__ (fun vs H Q E h => ?_) (fun cdv A outer s H vs Q E hr h => ?_)
  · obtain ⟨a, rfl, _⟩ := h
    rfl
  · obtain ⟨a, rfl, q⟩ := h
    exact ⟨_, ((pss_one ps_pass)), q⟩
theorem ok_NoSpot___init__ (T : Tx K mg) : FnOk P w K mg base CX0 1 T.a_NoSpot___init__ T.d_NoSpot___init__ ["self"] spI0 := by
  refine T.F_NoSpot___init__.ok sc_NoSpot___init__ (fun vs H Q E h => ?_) (fun cdv A outer s H vs Q E hr h => ?_)
  · obtain ⟨a, rfl, _⟩ := h
    rfl
  · obtain ⟨a, rfl, q⟩ := h
    exact ⟨_, ((pss_one ps_pass)), q⟩
theorem ok_NoWalk___init__ (T : Tx K mg) : FnOk P w K mg base CX0 1 T.a_NoWalk___init__ T.d_NoWalk___init__ ["self"] spI0 := by
  refine T.F_NoWalk___init__.ok sc_NoWalk___init__ (fun vs H Q E h => ?_) (fun cdv A outer s H vs Q E hr h => ?_)
  · obtain ⟨a, rfl, _⟩ := h
    rfl
  · obtain ⟨a, rfl, q⟩ := h
    exact ⟨_, ((pss_one ps_pass)), q⟩
def spChkX (lo hi : Int) (K : PySem.W.Frag) (C : Addr) : Sp := fun vs H Q E => ∃ (v : V) (d : PyData), vs = [v] ∧ Od K H v d ∧ (numD lo hi d = true → Q .non H) ∧ (numD lo hi d = false → E (.ref C) none H)
theorem ok_check_comers_x (T : Tx K mg) : FnOk P w K mg base (L2N.CX P w) 4 T.a_check_comers T.d_check_comers ["thing"] (spChkX 2 4 K T.c_NoComers) := by
  refine HL11.okN T.F_check_comers sc_check_comers (fun vs H Q E h => ?_) (fun cdv A outer s H vs Q E hr h => ?_)
  · obtain ⟨v, d, rfl, _⟩ := h
    rfl
  · obtain ⟨v, d, rfl, od, qn, qe⟩ := h
    refine ⟨_, ((pss_one (ps_if (pt_not (pt_val (pe_call (ok_is_number_o T) (hr.mono (by decide)) (by rfl) T.g_is_number T.F_is_number.kp T.b_is_number .nil pass0 (pa_cons (pv 0) (pa_cons pe_int (pa_cons (pe_glob (v := .int 4) rfl T.g_MOST_COMERS ⟨_, rfl⟩) pa_nil)))))) (pss_one (L2N.ps_raise rfl (L2N.takes_of rfl rfl rfl rfl) (EXN.pmk_oex0N T.x_NoComers T.i_NoComers T.ti_NoComers (ok_NoComers___init__ T) (fun a H Q E h => ⟨a, rfl, h⟩) (hr.mono (by decide)) T.b_NoComers___init__ pass0 (by rfl) T.g_NoComers))) pss_nil))), ?_⟩
    refine ⟨v, rfl, v, d, 2, 4, rfl, od, _, rfl, ?_⟩
    cases c : numD 2 4 d with
    | false => exact iteT (qe c)
    | true => exact iteF (qn c)
theorem ok_check_bound_x (T : Tx K mg) : FnOk P w K mg base (L2N.CX P w) 4 T.a_check_bound T.d_check_bound ["thing"] (spChkX 1 60 K T.c_NoBound) := by
  refine HL11.okN T.F_check_bound sc_check_bound (fun vs H Q E h => ?_) (fun cdv A outer s H vs Q E hr h => ?_)
  · obtain ⟨v, d, rfl, _⟩ := h
    rfl
  · obtain ⟨v, d, rfl, od, qn, qe⟩ := h
    refine ⟨_, ((pss_one (ps_if (pt_not (pt_val (pe_call (ok_is_number_o T) (hr.mono (by decide)) (by rfl) T.g_is_number T.F_is_number.kp T.b_is_number .nil pass0 (pa_cons (pv 0) (pa_cons pe_int (pa_cons (pe_glob (v := .int 60) rfl T.g_MOST_BOUND ⟨_, rfl⟩) pa_nil)))))) (pss_one (L2N.ps_raise rfl (L2N.takes_of rfl rfl rfl rfl) (EXN.pmk_oex0N T.x_NoBound T.i_NoBound T.ti_NoBound (ok_NoBound___init__ T) (fun a H Q E h => ⟨a, rfl, h⟩) (hr.mono (by decide)) T.b_NoBound___init__ pass0 (by rfl) T.g_NoBound))) pss_nil))), ?_⟩
    refine ⟨v, rfl, v, d, 1, 60, rfl, od, _, rfl, ?_⟩
    cases c : numD 1 60 d with
    | false => exact iteT (qe c)
    | true => exact iteF (qn c)
def spChkKX (K : PySem.W.Frag) (C : Addr) : Sp := fun vs H Q E => ∃ (k : Int) (v : V) (d : PyData), vs = [.int k, v] ∧ Od K H v d ∧ Lim d ∧ (comD k d = true → ∀ H', Same H H' → Q .non H') ∧ (comD k d = false → ∀ H', Same H H' → E (.ref C) none H')
theorem ok_check_comings_x (T : Tx K mg) : FnOk P w K mg base (L2N.CX P w) 5 T.a_check_comings T.d_check_comings ["comers", "thing"] (spChkKX K T.c_NoComings) := by
  refine HL11.okN T.F_check_comings sc_check_comings (fun vs H Q E h => ?_) (fun cdv A outer s H vs Q E hr h => ?_)
  · obtain ⟨k, v, d, rfl, _⟩ := h
    rfl
  · obtain ⟨k, v, d, rfl, od, lm, qn, qe⟩ := h
    refine ⟨_, ((pss_one (ps_if (pt_not (pt_val (pe_call (ok_is_comings_o T) (hr.mono (by decide)) (by rfl) T.g_is_comings T.F_is_comings.kp T.b_is_comings .nil pass0 (pa_cons (pv 0) (pa_cons (pv 1) pa_nil))))) (pss_one (L2N.ps_raise rfl (L2N.takes_of rfl rfl rfl rfl) (EXN.pmk_oex0N T.x_NoComings T.i_NoComings T.ti_NoComings (ok_NoComings___init__ T) (fun a H Q E h => ⟨a, rfl, h⟩) (hr.mono (by decide)) T.b_NoComings___init__ pass0 (by rfl) T.g_NoComings))) pss_nil))), ?_⟩
    refine ⟨.int k, rfl, v, rfl, k, v, d, rfl, od, lm, fun H' s' => ⟨_, rfl, ?_⟩⟩
    cases c : comD k d with
    | false => exact iteT (qe c H' s')
    | true => exact iteF (qn c H' s')
def intD : PyData → Int
  | .int i => i
  | _ => 0
theorem num_of {K : PySem.W.Frag} {H : Hp} {lo hi : Int} {v : V} {d : PyData} (od : Od K H v d) (h : numD lo hi d = true) : v = .int (intD d) ∧ d = .int (intD d) ∧ lo ≤ intD d ∧ intD d ≤ hi := by
  cases od with
  | int i =>
    have h' : (decide (lo ≤ i) && decide (i ≤ hi)) = true := h
    rw [Bool.and_eq_true] at h'
    exact ⟨rfl, rfl, of_decide_eq_true h'.1, of_decide_eq_true h'.2⟩
  | _ => exact absurd (show false = true from h) Bool.false_ne_true
theorem ints_of {lo hi : Int} {K : PySem.W.Frag} {H : Hp} : ∀ {xs : List V} {ds : List PyData}, OdAll K H xs ds → ds.all (numD lo hi) = true → ∃ ns : List Int, xs = ns.map V.int ∧ ds = ns.map PyData.int ∧ ∀ n ∈ ns, lo ≤ n ∧ n ≤ hi
  | [], _, h, _ => by
    cases h
    exact ⟨[], rfl, rfl, fun _ h => by simp at h⟩
  | x :: xs, _, h, ha => by
    cases h with
    | @cons _ _ d ds a t =>
      rw [List.all_cons, Bool.and_eq_true] at ha
      obtain ⟨ns, e1, e2, e3⟩ := ints_of t ha.2
      obtain ⟨ev, ed, h1, h2⟩ := num_of a ha.1
      refine ⟨intD d :: ns, by rw [ev, e1]; rfl, by rw [e2, List.map_cons, ← ed], fun n hn => ?_⟩
      rcases List.mem_cons.mp hn with rfl | hn
      · exact ⟨h1, h2⟩
      · exact e3 n hn
theorem com_of {K : PySem.W.Frag} {H : Hp} {k : Int} {v : V} {d : PyData} (od : Od K H v d) (h : comD k d = true) : ∃ (a : Addr) (cs : List Int), v = .ref a ∧ SqT K H a (cs.map V.int) ∧ Rt k cs := by
  cases od with
  | @tup a xs ds hT oa =>
    have h' : (decide (ds.length ≤ 400) && ds.all (numD 0 k)) = true := h
    rw [Bool.and_eq_true] at h'
    obtain ⟨ns, rfl, rfl, hb⟩ := ints_of oa h'.2
    have l4 := of_decide_eq_true h'.1
    rw [List.length_map] at l4
    exact ⟨a, ns, rfl, hT, l4, hb⟩
  | _ => exact absurd (show false = true from h) Bool.false_ne_true
/-- what is due: the number of the error's class -/
def dueC (d1 d3 : PyData) : Option Nat := if numD 2 4 d1 then (if comD (intD d1) d3 then none else some 2) else some 0
def dueB (d1 d2 : PyData) (r : Option Nat) : Option Nat := if numD 2 4 d1 then (if numD 1 60 d2 then r else some 1) else some 0
def due3 (d1 d2 d3 : PyData) : Option Nat := dueB d1 d2 (if comD (intD d1) d3 then none else some 2)
def dueS (d1 d2 d4 : PyData) : Option Nat := dueB d1 d2 (if spotD (intD d1) (intD d2) d4 then none else some 3)
def few (d : PyData) : Bool := match itemsD d with
  | some ds => decide (ds.length ≤ 60)
  | none => false
def dueW (d1 d2 d5 : PyData) : Option Nat := dueB d1 d2 (if walkD (intD d1) (intD d2) d5 && few d5 then none else some 4)
/-- refused: nothing else -/
def Refused (cs : Nat → Addr) (du : Option Nat) (H : Hp) (E : XK) : Prop := ∃ c, du = some c ∧ ∀ H', Same H H' → E (.ref (cs c)) none H'
/-- let or refused -/
def Judged (cs : Nat → Addr) (du : Option Nat) (H : Hp) (Q : VK) (E : XK) : Prop := (du = none → ∀ v H', Same H H' → Q v H') ∧ ∀ c, du = some c → ∀ H', Same H H' → E (.ref (cs c)) none H'
def clsT (T : Tx K mg) : Nat → Addr
  | 0 => T.c_NoComers
  | 1 => T.c_NoBound
  | 2 => T.c_NoComings
  | 3 => T.c_NoSpot
  | _ => T.c_NoWalk
end

/-! ### the functions of the line: let or refused -/
section
variable {P : Program} {w : World} {K : PySem.W.Frag} {mg : Str → Option Value} {base : Heap}
open RO9
theorem dueB_none {d1 d2 : PyData} {r : Option Nat} (h : dueB d1 d2 r = none) : numD 2 4 d1 = true ∧ numD 1 60 d2 = true ∧ r = none := by
  unfold dueB at h
  by_cases h1 : numD 2 4 d1 = true
  · rw [if_pos h1] at h
    by_cases h2 : numD 1 60 d2 = true
    · rw [if_pos h2] at h
      exact ⟨h1, h2, h⟩
    · rw [if_neg h2] at h
      cases h
  · rw [if_neg h1] at h
    cases h
theorem dueB_ok {d1 d2 : PyData} {r : Option Nat} (h1 : numD 2 4 d1 = true) (h2 : numD 1 60 d2 = true) : dueB d1 d2 r = r := by
  unfold dueB
  rw [if_pos h1, if_pos h2]
theorem dueB_1 {d1 d2 : PyData} {r : Option Nat} (h1 : numD 2 4 d1 = true) (h2 : numD 1 60 d2 = false) : dueB d1 d2 r = some 1 := by
  unfold dueB
  rw [if_pos h1, if_neg (by rw [h2]; exact Bool.false_ne_true)]
theorem dueB_0 {d1 d2 : PyData} {r : Option Nat} (h1 : numD 2 4 d1 = false) : dueB d1 d2 r = some 0 := by
  unfold dueB
  rw [if_neg (by rw [h1]; exact Bool.false_ne_true)]
theorem ifN {b : Bool} {n : Nat} (h : (if b = true then none else some n : Option Nat) = none) : b = true := by
  cases b with
  | true => rfl
  | false => cases h
theorem ifS {b : Bool} {n : Nat} (h : b = false) : (if b = true then none else some n : Option Nat) = some n := by
  subst h
  rfl
def spXC (cs : Nat → Addr) (K : PySem.W.Frag) : Sp := fun vs H Q E => ∃ (v1 v3 : V) (d1 d3 : PyData), vs = [v1, v3] ∧ Od K H v1 d1 ∧ Od K H v3 d3 ∧ Lim d3 ∧ Judged cs (dueC d1 d3) H Q E
def spXCR (cs : Nat → Addr) (K : PySem.W.Frag) : Sp := fun vs H Q E => ∃ (v1 v3 : V) (d1 d3 : PyData), vs = [v1, v3] ∧ Od K H v1 d1 ∧ Od K H v3 d3 ∧ Lim d3 ∧ Refused cs (dueC d1 d3) H E
def spX3 (cs : Nat → Addr) (K : PySem.W.Frag) : Sp := fun vs H Q E => ∃ (v1 v2 v3 : V) (d1 d2 d3 : PyData), vs = [v1, v2, v3] ∧ Od K H v1 d1 ∧ Od K H v2 d2 ∧ Od K H v3 d3 ∧ Lim d3 ∧ Judged cs (due3 d1 d2 d3) H Q E
def spX3R (cs : Nat → Addr) (K : PySem.W.Frag) : Sp := fun vs H Q E => ∃ (v1 v2 v3 : V) (d1 d2 d3 : PyData), vs = [v1, v2, v3] ∧ Od K H v1 d1 ∧ Od K H v2 d2 ∧ Od K H v3 d3 ∧ Lim d3 ∧ Refused cs (due3 d1 d2 d3) H E
def spXB (cs : Nat → Addr) (K : PySem.W.Frag) : Sp := fun vs H Q E => ∃ (v1 v2 : V) (d1 d2 : PyData), vs = [v1, v2] ∧ Od K H v1 d1 ∧ Od K H v2 d2 ∧ Judged cs (dueB d1 d2 none) H Q E
def spXBR (cs : Nat → Addr) (K : PySem.W.Frag) : Sp := fun vs H Q E => ∃ (v1 v2 : V) (d1 d2 : PyData), vs = [v1, v2] ∧ Od K H v1 d1 ∧ Od K H v2 d2 ∧ Refused cs (dueB d1 d2 none) H E
def spXS (cs : Nat → Addr) (K : PySem.W.Frag) : Sp := fun vs H Q E => ∃ (v1 v2 v3 : V) (d1 d2 d3 : PyData), vs = [v1, v2, v3] ∧ Od K H v1 d1 ∧ Od K H v2 d2 ∧ Od K H v3 d3 ∧ Lim d3 ∧ Judged cs (dueS d1 d2 d3) H Q E
def spXSR (cs : Nat → Addr) (K : PySem.W.Frag) : Sp := fun vs H Q E => ∃ (v1 v2 v3 : V) (d1 d2 d3 : PyData), vs = [v1, v2, v3] ∧ Od K H v1 d1 ∧ Od K H v2 d2 ∧ Od K H v3 d3 ∧ Lim d3 ∧ Refused cs (dueS d1 d2 d3) H E
def spXW (cs : Nat → Addr) (K : PySem.W.Frag) : Sp := fun vs H Q E => ∃ (v1 v2 v3 : V) (d1 d2 d3 : PyData), vs = [v1, v2, v3] ∧ Od K H v1 d1 ∧ Od K H v2 d2 ∧ Od K H v3 d3 ∧ Lim2 d3 ∧ Judged cs (dueW d1 d2 d3) H Q E
def spXWR (cs : Nat → Addr) (K : PySem.W.Frag) : Sp := fun vs H Q E => ∃ (v1 v2 v3 : V) (d1 d2 d3 : PyData), vs = [v1, v2, v3] ∧ Od K H v1 d1 ∧ Od K H v2 d2 ∧ Od K H v3 d3 ∧ Lim2 d3 ∧ Refused cs (dueW d1 d2 d3) H E
theorem ok_comes_r (T : Tx K mg) : FnOk P w K mg base (L2N.CX P w) 7 T.a_comes T.d_comes ["comers", "comings"] (spXCR (clsT T) K) := by
  refine HL11.okN T.F_comes sc_comes (fun vs H Q E h => ?_) (fun cdv A outer s H vs Q E hr h => ?_)
  · obtain ⟨v1, v3, d1, d3, rfl, _⟩ := h
    rfl
  · obtain ⟨v1, v3, d1, d3, rfl, o1, o3, lm, c, hc, q⟩ := h
    refine ⟨_, ((pss_cons (ps_expr (pe_callS (ok_check_comers_x T) (hr.mono (by decide)) (by rfl) T.g_check_comers T.F_check_comers.kp T.b_check_comers (fun σ => L2N.passAt (L2N.takes_of rfl rfl rfl rfl) σ) (pa_cons (pv 0) pa_nil)))
  (pss_cons (ps_expr (pe_callS (ok_check_comings_x T) (hr.mono (by decide)) (by rfl) T.g_check_comings T.F_check_comings.kp T.b_check_comings (fun σ => L2N.passAt (L2N.takes_of rfl rfl rfl rfl) σ) (pa_cons (pv 0) (pa_cons (pv 1) pa_nil))))
  (pss_cons (ps_set (i := 2) sc_comes.nd rfl (.inl rfl) (pe_lst pa_nil))
  (pss_cons (ps_for (passes_of rfl) rfl (RR.pi_enumT (by rfl) T.m_enumerate (pa_cons (pv 1) pa_nil)) (pg_tup rfl (pgs_cons (pg_name (i := 3) sc_comes.nd rfl (.inl rfl)) (pgs_cons (pg_name (i := 4) sc_comes.nd rfl (.inl rfl)) pgs_nil)))
   (pss_one (ps_expr (pe_bm PySem.F.plainAttrs_list PySem.F.slot_list_extend PySem.F.type_list_extend mt_extend (pv 2) (pa_cons (pe_op op_rep (pe_lst (pa_cons (pv 3) pa_nil)) (pv 4)) pa_nil)))))
  (pss_one (ps_ret (pv 2)))))))), ?_⟩
    refine ⟨v1, rfl, v1, d1, rfl, o1, fun h1 => ?_, fun h1 => ?_⟩
    · obtain ⟨e1, _, _, _⟩ := num_of o1 h1
      refine ⟨v1, rfl, v3, rfl, intD d1, v3, d3, by rw [← e1], o3, lm, fun h3 H' s' => ?_, fun h3 H' s' => ?_⟩
      · have e : dueC d1 d3 = none := by
          unfold dueC
          rw [if_pos h1, if_pos h3]
        rw [e] at hc
        cases hc
      · have e : dueC d1 d3 = some 2 := by
          unfold dueC
          rw [if_pos h1, ifS h3]
        rw [e] at hc
        cases hc
        exact q H' s'
    · have e : dueC d1 d3 = some 0 := by
        unfold dueC
        rw [if_neg (by rw [h1]; exact Bool.false_ne_true)]
      rw [e] at hc
      cases hc
      exact q H fun _ _ e => e
theorem ok_comes_x (T : Tx K mg) : FnOk P w K mg base (L2N.CX P w) 7 T.a_comes T.d_comes ["comers", "comings"] (spXC (clsT T) K) := (FN11.or (FN11.lift ((ok_comes T).mono (by decide))) (ok_comes_r T)).imp fun vs H Q E h => by
  obtain ⟨v1, v3, d1, d3, rfl, o1, o3, lm, jd⟩ := h
  cases hd : dueC d1 d3 with
  | some c => exact .inr ⟨v1, v3, d1, d3, rfl, o1, o3, lm, c, hd, fun H' s' => jd.2 c hd H' s'⟩
  | none =>
    unfold dueC at hd
    by_cases h1 : numD 2 4 d1 = true
    · have hd0 := hd
      rw [if_pos h1] at hd
      obtain ⟨rfl, _, k2, k4⟩ := num_of o1 h1
      obtain ⟨a, cs, rfl, hT, g⟩ := com_of o3 (ifN hd)
      exact .inl ⟨a, cs, _, rfl, hT, g, k2, k4, fun L H' s' _ _ => jd.1 (by unfold dueC; exact hd0) _ H' s'⟩
    · rw [if_neg h1] at hd
      cases hd
theorem ok_waits_r (T : Tx K mg) : FnOk P w K mg base (L2N.CX P w) 7 T.a_waits T.d_waits ["comers", "bound", "comings"] (spX3R (clsT T) K) := by
  refine HL11.okN T.F_waits sc_waits (fun vs H Q E h => ?_) (fun cdv A outer s H vs Q E hr h => ?_)
  · obtain ⟨v1, v2, v3, d1, d2, d3, rfl, _⟩ := h
    rfl
  · obtain ⟨v1, v2, v3, d1, d2, d3, rfl, o1, o2, o3, lm, c, hc, q⟩ := h
    refine ⟨_, ((pss_cons (ps_expr (pe_callS (ok_check_comers_x T) (hr.mono (by decide)) (by rfl) T.g_check_comers T.F_check_comers.kp T.b_check_comers (fun σ => L2N.passAt (L2N.takes_of rfl rfl rfl rfl) σ) (pa_cons (pv 0) pa_nil)))
  (pss_cons (ps_expr (pe_callS (ok_check_bound_x T) (hr.mono (by decide)) (by rfl) T.g_check_bound T.F_check_bound.kp T.b_check_bound (fun σ => L2N.passAt (L2N.takes_of rfl rfl rfl rfl) σ) (pa_cons (pv 1) pa_nil)))
  (pss_cons (ps_expr (pe_callS (ok_check_comings_x T) (hr.mono (by decide)) (by rfl) T.g_check_comings T.F_check_comings.kp T.b_check_comings (fun σ => L2N.passAt (L2N.takes_of rfl rfl rfl rfl) σ) (pa_cons (pv 0) (pa_cons (pv 2) pa_nil))))
  (pss_one (ps_ret (pe_lc (own := [("tick", 3), ("turn", 4), ("wait", 5)]) (g := (gTup K 3 (gCons (gName 3) (gCons (gName 4) (gCons (gName 5) gNil))))) (tt := tYes) rfl sc_waits.nd (pi_list (pe_call (ok_letters_of T) (hr.mono (by decide)) (by rfl) T.g_letters_of T.F_letters_of.kp T.b_letters_of .nil pass0 (pa_cons (pv 1) (pa_cons (pv 2) pa_nil)))) (blkOk_by (own := [("tick", 3), ("turn", 4), ("wait", 5)]) (N := ["comers", "bound", "comings", "tick", "turn", "wait"]) (sc := defScope s_waits) (by decide +kernel)) (fun _ _ _ _ _ => pg_tup rfl (pgs_cons (pg_name (i := 3) sc_waits.nd rfl (.inl rfl)) (pgs_cons (pg_name (i := 4) sc_waits.nd rfl (.inl rfl)) (pgs_cons (pg_name (i := 5) sc_waits.nd rfl (.inl rfl)) pgs_nil)))) (fun _ _ _ _ _ => pts_nil) (fun _ _ _ _ _ => (pv 5))))))))), ?_⟩
    refine ⟨v1, rfl, v1, d1, rfl, o1, fun h1 => ?_, fun h1 => ?_⟩
    · refine ⟨v2, rfl, v2, d2, rfl, o2, fun h2 => ?_, fun h2 => ?_⟩
      · obtain ⟨e1, _, _, _⟩ := num_of o1 h1
        refine ⟨v1, rfl, v3, rfl, intD d1, v3, d3, by rw [← e1], o3, lm, fun h3 H' s' => ?_, fun h3 H' s' => ?_⟩
        · have e : due3 d1 d2 d3 = none := (dueB_ok h1 h2).trans (by rw [if_pos h3])
          rw [e] at hc
          cases hc
        · have e : due3 d1 d2 d3 = some 2 := (dueB_ok h1 h2).trans (ifS h3)
          rw [e] at hc
          cases hc
          exact q H' s'
      · have e : due3 d1 d2 d3 = some 1 := dueB_1 h1 h2
        rw [e] at hc
        cases hc
        exact q H fun _ _ e => e
    · have e : due3 d1 d2 d3 = some 0 := dueB_0 h1
      rw [e] at hc
      cases hc
      exact q H fun _ _ e => e
theorem ok_waits_x (T : Tx K mg) : FnOk P w K mg base (L2N.CX P w) 7 T.a_waits T.d_waits ["comers", "bound", "comings"] (spX3 (clsT T) K) := (FN11.or (FN11.lift ((ok_waits T).mono (by decide))) (ok_waits_r T)).imp fun vs H Q E h => by
  obtain ⟨v1, v2, v3, d1, d2, d3, rfl, o1, o2, o3, lm, jd⟩ := h
  cases hd : due3 d1 d2 d3 with
  | some c => exact .inr ⟨v1, v2, v3, d1, d2, d3, rfl, o1, o2, o3, lm, c, hd, fun H' s' => jd.2 c hd H' s'⟩
  | none =>
    obtain ⟨h1, h2, h3⟩ := dueB_none hd
    obtain ⟨rfl, _, k2, k4⟩ := num_of o1 h1
    obtain ⟨rfl, _, b1, b60⟩ := num_of o2 h2
    obtain ⟨a, cs, rfl, hT, g⟩ := com_of o3 (ifN h3)
    exact .inl ⟨a, cs, _, _, rfl, hT, g, k2, k4, b1, b60, fun L H' s' _ _ => jd.1 hd _ H' s'⟩
theorem ok_lines_r (T : Tx K mg) : FnOk P w K mg base (L2N.CX P w) 7 T.a_lines T.d_lines ["comers", "bound", "comings"] (spX3R (clsT T) K) := by
  refine HL11.okN T.F_lines sc_lines (fun vs H Q E h => ?_) (fun cdv A outer s H vs Q E hr h => ?_)
  · obtain ⟨v1, v2, v3, d1, d2, d3, rfl, _⟩ := h
    rfl
  · obtain ⟨v1, v2, v3, d1, d2, d3, rfl, o1, o2, o3, lm, c, hc, q⟩ := h
    refine ⟨_, ((pss_cons (ps_expr (pe_callS (ok_check_comers_x T) (hr.mono (by decide)) (by rfl) T.g_check_comers T.F_check_comers.kp T.b_check_comers (fun σ => L2N.passAt (L2N.takes_of rfl rfl rfl rfl) σ) (pa_cons (pv 0) pa_nil)))
  (pss_cons (ps_expr (pe_callS (ok_check_bound_x T) (hr.mono (by decide)) (by rfl) T.g_check_bound T.F_check_bound.kp T.b_check_bound (fun σ => L2N.passAt (L2N.takes_of rfl rfl rfl rfl) σ) (pa_cons (pv 1) pa_nil)))
  (pss_cons (ps_expr (pe_callS (ok_check_comings_x T) (hr.mono (by decide)) (by rfl) T.g_check_comings T.F_check_comings.kp T.b_check_comings (fun σ => L2N.passAt (L2N.takes_of rfl rfl rfl rfl) σ) (pa_cons (pv 0) (pa_cons (pv 2) pa_nil))))
  (pss_cons (ps_asg (pe_call (ok_follow_line T) (hr.mono (by decide)) (by rfl) T.g_follow_line T.F_follow_line.kp T.b_follow_line .nil pass0 (pa_cons (pv 1) (pa_cons pe_int (pa_cons (pv 2) pa_nil)))) (pg_tup rfl (pgs_cons (pg_name (i := 3) sc_lines.nd rfl (.inl rfl)) (pgs_cons (pg_name (i := 4) sc_lines.nd rfl (.inl rfl)) pgs_nil))))
  (pss_one (ps_ret (pv 4)))))))), ?_⟩
    refine ⟨v1, rfl, v1, d1, rfl, o1, fun h1 => ?_, fun h1 => ?_⟩
    · refine ⟨v2, rfl, v2, d2, rfl, o2, fun h2 => ?_, fun h2 => ?_⟩
      · obtain ⟨e1, _, _, _⟩ := num_of o1 h1
        refine ⟨v1, rfl, v3, rfl, intD d1, v3, d3, by rw [← e1], o3, lm, fun h3 H' s' => ?_, fun h3 H' s' => ?_⟩
        · have e : due3 d1 d2 d3 = none := (dueB_ok h1 h2).trans (by rw [if_pos h3])
          rw [e] at hc
          cases hc
        · have e : due3 d1 d2 d3 = some 2 := (dueB_ok h1 h2).trans (ifS h3)
          rw [e] at hc
          cases hc
          exact q H' s'
      · have e : due3 d1 d2 d3 = some 1 := dueB_1 h1 h2
        rw [e] at hc
        cases hc
        exact q H fun _ _ e => e
    · have e : due3 d1 d2 d3 = some 0 := dueB_0 h1
      rw [e] at hc
      cases hc
      exact q H fun _ _ e => e
theorem ok_lines_x (T : Tx K mg) : FnOk P w K mg base (L2N.CX P w) 7 T.a_lines T.d_lines ["comers", "bound", "comings"] (spX3 (clsT T) K) := (FN11.or (FN11.lift ((ok_lines T).mono (by decide))) (ok_lines_r T)).imp fun vs H Q E h => by
  obtain ⟨v1, v2, v3, d1, d2, d3, rfl, o1, o2, o3, lm, jd⟩ := h
  cases hd : due3 d1 d2 d3 with
  | some c => exact .inr ⟨v1, v2, v3, d1, d2, d3, rfl, o1, o2, o3, lm, c, hd, fun H' s' => jd.2 c hd H' s'⟩
  | none =>
    obtain ⟨h1, h2, h3⟩ := dueB_none hd
    obtain ⟨rfl, _, k2, k4⟩ := num_of o1 h1
    obtain ⟨rfl, _, b1, b60⟩ := num_of o2 h2
    obtain ⟨a, cs, rfl, hT, g⟩ := com_of o3 (ifN h3)
    exact .inl ⟨a, cs, _, _, rfl, hT, g, k2, k4, b1, b60, fun L H' s' _ _ => jd.1 hd _ H' s'⟩
theorem ok_outs_r (T : Tx K mg) : FnOk P w K mg base (L2N.CX P w) 7 T.a_outs T.d_outs ["comers", "bound", "comings"] (spX3R (clsT T) K) := by
  refine HL11.okN T.F_outs sc_outs (fun vs H Q E h => ?_) (fun cdv A outer s H vs Q E hr h => ?_)
  · obtain ⟨v1, v2, v3, d1, d2, d3, rfl, _⟩ := h
    rfl
  · obtain ⟨v1, v2, v3, d1, d2, d3, rfl, o1, o2, o3, lm, c, hc, q⟩ := h
    refine ⟨_, ((pss_cons (ps_expr (pe_callS (ok_check_comers_x T) (hr.mono (by decide)) (by rfl) T.g_check_comers T.F_check_comers.kp T.b_check_comers (fun σ => L2N.passAt (L2N.takes_of rfl rfl rfl rfl) σ) (pa_cons (pv 0) pa_nil)))
  (pss_cons (ps_expr (pe_callS (ok_check_bound_x T) (hr.mono (by decide)) (by rfl) T.g_check_bound T.F_check_bound.kp T.b_check_bound (fun σ => L2N.passAt (L2N.takes_of rfl rfl rfl rfl) σ) (pa_cons (pv 1) pa_nil)))
  (pss_cons (ps_expr (pe_callS (ok_check_comings_x T) (hr.mono (by decide)) (by rfl) T.g_check_comings T.F_check_comings.kp T.b_check_comings (fun σ => L2N.passAt (L2N.takes_of rfl rfl rfl rfl) σ) (pa_cons (pv 0) (pa_cons (pv 2) pa_nil))))
  (pss_cons (ps_set (i := 3) sc_outs.nd rfl (.inl rfl) (pe_lst pa_nil))
  (pss_cons (ps_for (passes_of rfl) rfl (pi_enum (by rfl) T.m_enumerate (pa_cons (pe_call (ok_letters_of T) (hr.mono (by decide)) (by rfl) T.g_letters_of T.F_letters_of.kp T.b_letters_of .nil pass0 (pa_cons (pv 1) (pa_cons (pv 2) pa_nil))) pa_nil)) (pg_tup rfl (pgs_cons (pg_name (i := 4) sc_outs.nd rfl (.inl rfl)) (pgs_cons (pg_tup rfl (pgs_cons (pg_name (i := 5) sc_outs.nd rfl (.inl rfl)) (pgs_cons (pg_name (i := 6) sc_outs.nd rfl (.inl rfl)) (pgs_cons (pg_name (i := 7) sc_outs.nd rfl (.inl rfl)) pgs_nil)))) pgs_nil)))
   (pss_one (ps_if (pt_cmpR op_notN (pv 7) pe_non (nomark _)) (pss_one (ps_expr (pe_bm PySem.F.plainAttrs_list PySem.F.slot_list_append PySem.F.type_list_append mt_append (pv 3) (pa_cons (pe_tup (pa_cons (pe_op op_add (pv 5) (pv 7)) (pa_cons (pv 4) pa_nil))) pa_nil)))) pss_nil)))
  (pss_one (ps_ret (pv 3))))))))), ?_⟩
    refine ⟨v1, rfl, v1, d1, rfl, o1, fun h1 => ?_, fun h1 => ?_⟩
    · refine ⟨v2, rfl, v2, d2, rfl, o2, fun h2 => ?_, fun h2 => ?_⟩
      · obtain ⟨e1, _, _, _⟩ := num_of o1 h1
        refine ⟨v1, rfl, v3, rfl, intD d1, v3, d3, by rw [← e1], o3, lm, fun h3 H' s' => ?_, fun h3 H' s' => ?_⟩
        · have e : due3 d1 d2 d3 = none := (dueB_ok h1 h2).trans (by rw [if_pos h3])
          rw [e] at hc
          cases hc
        · have e : due3 d1 d2 d3 = some 2 := (dueB_ok h1 h2).trans (ifS h3)
          rw [e] at hc
          cases hc
          exact q H' s'
      · have e : due3 d1 d2 d3 = some 1 := dueB_1 h1 h2
        rw [e] at hc
        cases hc
        exact q H fun _ _ e => e
    · have e : due3 d1 d2 d3 = some 0 := dueB_0 h1
      rw [e] at hc
      cases hc
      exact q H fun _ _ e => e
theorem ok_outs_x (T : Tx K mg) : FnOk P w K mg base (L2N.CX P w) 7 T.a_outs T.d_outs ["comers", "bound", "comings"] (spX3 (clsT T) K) := (FN11.or (FN11.lift ((ok_outs T).mono (by decide))) (ok_outs_r T)).imp fun vs H Q E h => by
  obtain ⟨v1, v2, v3, d1, d2, d3, rfl, o1, o2, o3, lm, jd⟩ := h
  cases hd : due3 d1 d2 d3 with
  | some c => exact .inr ⟨v1, v2, v3, d1, d2, d3, rfl, o1, o2, o3, lm, c, hd, fun H' s' => jd.2 c hd H' s'⟩
  | none =>
    obtain ⟨h1, h2, h3⟩ := dueB_none hd
    obtain ⟨rfl, _, k2, k4⟩ := num_of o1 h1
    obtain ⟨rfl, _, b1, b60⟩ := num_of o2 h2
    obtain ⟨a, cs, rfl, hT, g⟩ := com_of o3 (ifN h3)
    exact .inl ⟨a, cs, _, _, rfl, hT, g, k2, k4, b1, b60, fun L ps H' s' _ _ _ => jd.1 hd _ H' s'⟩
theorem ok_walk_r (T : Tx K mg) : FnOk P w K mg base (L2N.CX P w) 7 T.a_walk T.d_walk ["comers", "bound", "comings"] (spX3R (clsT T) K) := by
  refine HL11.okN T.F_walk sc_walk (fun vs H Q E h => ?_) (fun cdv A outer s H vs Q E hr h => ?_)
  · obtain ⟨v1, v2, v3, d1, d2, d3, rfl, _⟩ := h
    rfl
  · obtain ⟨v1, v2, v3, d1, d2, d3, rfl, o1, o2, o3, lm, c, hc, q⟩ := h
    refine ⟨_, ((pss_cons (ps_expr (pe_callS (ok_check_comers_x T) (hr.mono (by decide)) (by rfl) T.g_check_comers T.F_check_comers.kp T.b_check_comers (fun σ => L2N.passAt (L2N.takes_of rfl rfl rfl rfl) σ) (pa_cons (pv 0) pa_nil)))
  (pss_cons (ps_expr (pe_callS (ok_check_bound_x T) (hr.mono (by decide)) (by rfl) T.g_check_bound T.F_check_bound.kp T.b_check_bound (fun σ => L2N.passAt (L2N.takes_of rfl rfl rfl rfl) σ) (pa_cons (pv 1) pa_nil)))
  (pss_cons (ps_expr (pe_callS (ok_check_comings_x T) (hr.mono (by decide)) (by rfl) T.g_check_comings T.F_check_comings.kp T.b_check_comings (fun σ => L2N.passAt (L2N.takes_of rfl rfl rfl rfl) σ) (pa_cons (pv 0) (pa_cons (pv 2) pa_nil))))
  (pss_one (ps_ret (pe_lc (own := [("tick", 3), ("turn", 4), ("wait", 5)]) (g := (gTup K 3 (gCons (gName 3) (gCons (gName 4) (gCons (gName 5) gNil))))) rfl sc_walk.nd (pi_list (pe_call (ok_letters_of T) (hr.mono (by decide)) (by rfl) T.g_letters_of T.F_letters_of.kp T.b_letters_of .nil pass0 (pa_cons (pv 1) (pa_cons (pv 2) pa_nil)))) (blkOk_by (own := [("tick", 3), ("turn", 4), ("wait", 5)]) (N := ["comers", "bound", "comings", "tick", "turn", "wait"]) (sc := defScope s_walk) (by decide +kernel)) (fun _ _ _ _ _ => pg_tup rfl (pgs_cons (pg_name (i := 3) sc_walk.nd rfl (.inl rfl)) (pgs_cons (pg_name (i := 4) sc_walk.nd rfl (.inl rfl)) (pgs_cons (pg_name (i := 5) sc_walk.nd rfl (.inl rfl)) pgs_nil)))) (fun _ _ _ _ _ => (pts_one (pt_cmpR op_notN (pv 5) pe_non (nomark _)))) (fun _ _ _ _ _ => (pe_tup (pa_cons (pv 5) (pa_cons (pv 4) pa_nil))))))))))), ?_⟩
    refine ⟨v1, rfl, v1, d1, rfl, o1, fun h1 => ?_, fun h1 => ?_⟩
    · refine ⟨v2, rfl, v2, d2, rfl, o2, fun h2 => ?_, fun h2 => ?_⟩
      · obtain ⟨e1, _, _, _⟩ := num_of o1 h1
        refine ⟨v1, rfl, v3, rfl, intD d1, v3, d3, by rw [← e1], o3, lm, fun h3 H' s' => ?_, fun h3 H' s' => ?_⟩
        · have e : due3 d1 d2 d3 = none := (dueB_ok h1 h2).trans (by rw [if_pos h3])
          rw [e] at hc
          cases hc
        · have e : due3 d1 d2 d3 = some 2 := (dueB_ok h1 h2).trans (ifS h3)
          rw [e] at hc
          cases hc
          exact q H' s'
      · have e : due3 d1 d2 d3 = some 1 := dueB_1 h1 h2
        rw [e] at hc
        cases hc
        exact q H fun _ _ e => e
    · have e : due3 d1 d2 d3 = some 0 := dueB_0 h1
      rw [e] at hc
      cases hc
      exact q H fun _ _ e => e
theorem ok_walk_x (T : Tx K mg) : FnOk P w K mg base (L2N.CX P w) 7 T.a_walk T.d_walk ["comers", "bound", "comings"] (spX3 (clsT T) K) := (FN11.or (FN11.lift ((ok_walk T).mono (by decide))) (ok_walk_r T)).imp fun vs H Q E h => by
  obtain ⟨v1, v2, v3, d1, d2, d3, rfl, o1, o2, o3, lm, jd⟩ := h
  cases hd : due3 d1 d2 d3 with
  | some c => exact .inr ⟨v1, v2, v3, d1, d2, d3, rfl, o1, o2, o3, lm, c, hd, fun H' s' => jd.2 c hd H' s'⟩
  | none =>
    obtain ⟨h1, h2, h3⟩ := dueB_none hd
    obtain ⟨rfl, _, k2, k4⟩ := num_of o1 h1
    obtain ⟨rfl, _, b1, b60⟩ := num_of o2 h2
    obtain ⟨a, cs, rfl, hT, g⟩ := com_of o3 (ifN h3)
    exact .inl ⟨a, cs, _, _, rfl, hT, g, k2, k4, b1, b60, fun L ps H' s' _ _ _ => jd.1 hd _ H' s'⟩
theorem ok_spots_r (T : Tx K mg) : FnOk P w K mg base (L2N.CX P w) 7 T.a_spots T.d_spots ["comers", "bound"] (spXBR (clsT T) K) := by
  refine HL11.okN T.F_spots sc_spots (fun vs H Q E h => ?_) (fun cdv A outer s H vs Q E hr h => ?_)
  · obtain ⟨v1, v2, d1, d2, rfl, _⟩ := h
    rfl
  · obtain ⟨v1, v2, d1, d2, rfl, o1, o2, c, hc, q⟩ := h
    refine ⟨_, ((pss_cons (ps_expr (pe_callS (ok_check_comers_x T) (hr.mono (by decide)) (by rfl) T.g_check_comers T.F_check_comers.kp T.b_check_comers (fun σ => L2N.passAt (L2N.takes_of rfl rfl rfl rfl) σ) (pa_cons (pv 0) pa_nil)))
  (pss_cons (ps_expr (pe_callS (ok_check_bound_x T) (hr.mono (by decide)) (by rfl) T.g_check_bound T.F_check_bound.kp T.b_check_bound (fun σ => L2N.passAt (L2N.takes_of rfl rfl rfl rfl) σ) (pa_cons (pv 1) pa_nil)))
  (pss_one (ps_ret (pe_lc2 (own := [("wait", 2), ("turn", 3)]) (vs1 := [3]) (g := gName 2) (g1 := gName 3) (tt := tYes) (tt1 := tYes) rfl sc_spots.nd (pi_range1 (by rfl) T.m_range (pa_cons (pe_op op_add (pv 1) pe_int) pa_nil)) (blkOk_by (own := [("wait", 2), ("turn", 3)]) (N := ["comers", "bound", "wait", "turn"]) (sc := defScope s_spots) (by decide +kernel)) (by decide) (fun _ _ _ _ _ => pg_name (i := 2) sc_spots.nd rfl (.inl rfl)) (fun _ _ _ _ _ => pts_nil) (fun _ _ _ _ _ => (pi_range2 (by rfl) T.m_range (pa_cons pe_int (pa_cons (pe_op op_add (pe_callB (call_min2 rfl) (by rfl) T.m_min (by decide +kernel) (pa_cons (pv 0) (pa_cons (pe_op op_add (pv 2) pe_int) pa_nil))) pe_int) pa_nil)))) (fun _ _ _ _ _ => pg_name (i := 3) sc_spots.nd rfl (.inl rfl)) (fun _ _ _ _ _ => pts_nil) (fun _ _ _ _ _ => (pe_tup (pa_cons (pv 2) (pa_cons (pv 3) pa_nil)))))))))), ?_⟩
    refine ⟨v1, rfl, v1, d1, rfl, o1, fun h1 => ?_, fun h1 => ?_⟩
    · refine ⟨v2, rfl, v2, d2, rfl, o2, fun h2 => ?_, fun h2 => ?_⟩
      · rw [dueB_ok h1 h2] at hc
        cases hc
      · rw [dueB_1 h1 h2] at hc
        cases hc
        exact q H fun _ _ e => e
    · rw [dueB_0 h1] at hc
      cases hc
      exact q H fun _ _ e => e
theorem ok_spots_x (T : Tx K mg) : FnOk P w K mg base (L2N.CX P w) 7 T.a_spots T.d_spots ["comers", "bound"] (spXB (clsT T) K) := (FN11.or (FN11.lift ((ok_spots T).mono (by decide))) (ok_spots_r T)).imp fun vs H Q E h => by
  obtain ⟨v1, v2, d1, d2, rfl, o1, o2, jd⟩ := h
  cases hd : dueB d1 d2 none with
  | some c => exact .inr ⟨v1, v2, d1, d2, rfl, o1, o2, c, hd, fun H' s' => jd.2 c hd H' s'⟩
  | none =>
    obtain ⟨h1, h2, _⟩ := dueB_none hd
    obtain ⟨rfl, _, k2, k4⟩ := num_of o1 h1
    obtain ⟨rfl, _, b1, b60⟩ := num_of o2 h2
    exact .inl ⟨(intD d1).toNat, (intD d2).toNat, by rw [Int.toNat_of_nonneg (by omega), Int.toNat_of_nonneg (by omega)], by omega, by omega, by omega, by omega, fun L ps H' s' _ _ _ => jd.1 hd _ H' s'⟩
theorem ok_nexts_r (T : Tx K mg) : FnOk P w K mg base (L2N.CX P w) 7 T.a_nexts T.d_nexts ["comers", "bound", "spot"] (spXSR (clsT T) K) := by
  refine HL11.okN T.F_nexts sc_nexts (fun vs H Q E h => ?_) (fun cdv A outer s H vs Q E hr h => ?_)
  · obtain ⟨v1, v2, v3, d1, d2, d3, rfl, _⟩ := h
    rfl
  · obtain ⟨v1, v2, v3, d1, d2, d3, rfl, o1, o2, o3, lm, c, hc, q⟩ := h
    refine ⟨_, ((pss_cons (ps_expr (pe_callS (ok_check_comers_x T) (hr.mono (by decide)) (by rfl) T.g_check_comers T.F_check_comers.kp T.b_check_comers (fun σ => L2N.passAt (L2N.takes_of rfl rfl rfl rfl) σ) (pa_cons (pv 0) pa_nil)))
  (pss_cons (ps_expr (pe_callS (ok_check_bound_x T) (hr.mono (by decide)) (by rfl) T.g_check_bound T.F_check_bound.kp T.b_check_bound (fun σ => L2N.passAt (L2N.takes_of rfl rfl rfl rfl) σ) (pa_cons (pv 1) pa_nil)))
  (pss_cons (ps_if (pt_not (pt_val (pe_call (ok_is_spot_o T) (hr.mono (by decide)) (by rfl) T.g_is_spot T.F_is_spot.kp T.b_is_spot .nil pass0 (pa_cons (pv 0) (pa_cons (pv 1) (pa_cons (pv 2) pa_nil)))))) (pss_one (L2N.ps_raise rfl (L2N.takes_of rfl rfl rfl rfl) (EXN.pmk_oex0N T.x_NoSpot T.i_NoSpot T.ti_NoSpot (ok_NoSpot___init__ T) (fun a H Q E h => ⟨a, rfl, h⟩) (hr.mono (by decide)) T.b_NoSpot___init__ pass0 (by rfl) T.g_NoSpot))) pss_nil)
  (pss_cons (ps_asg (pv 2) (pg_tup rfl (pgs_cons (pg_name (i := 3) sc_nexts.nd rfl (.inl rfl)) (pgs_cons (pg_name (i := 4) sc_nexts.nd rfl (.inl rfl)) pgs_nil))))
  (pss_cons (ps_setLc (i := 5) (own := [("other", 7)]) (g := (gName 7)) (tt := tYes) rfl sc_nexts.nd rfl rfl (sw_true rfl rfl rfl (by decide +kernel)) (pi_range1 (by rfl) T.m_range (pa_cons (pe_op op_add (pv 3) pe_int) pa_nil)) (blkOk_by (own := [("other", 7)]) (N := ["comers", "bound", "spot", "wait", "turn", "found", "above", "other"]) (sc := defScope s_nexts) (by decide +kernel)) (fun _ _ _ _ _ => pg_name (i := 7) sc_nexts.nd rfl (.inl rfl)) (fun _ _ _ _ _ => pts_nil) (fun _ _ _ _ _ => (pe_tup (pa_cons (pv 7) (pa_cons pe_int pa_nil)))))
  (pss_cons (ps_set (i := 6) sc_nexts.nd rfl (.inl rfl) (pe_tup (pa_cons (pe_op op_add (pv 3) pe_int) (pa_cons (pe_op op_add (pv 4) pe_int) pa_nil))))
  (pss_cons (ps_if (pt_val (pe_call (ok_is_spot T) (hr.mono (by decide)) (by rfl) T.g_is_spot T.F_is_spot.kp T.b_is_spot .nil pass0 (pa_cons (pv 0) (pa_cons (pv 1) (pa_cons (pv 6) pa_nil))))) (pss_one (ps_expr (pe_bm PySem.F.plainAttrs_list PySem.F.slot_list_append PySem.F.type_list_append mt_append (pv 5) (pa_cons (pv 6) pa_nil)))) pss_nil)
  (pss_one (ps_ret (pv 5))))))))))), ?_⟩
    refine ⟨v1, rfl, v1, d1, rfl, o1, fun h1 => ?_, fun h1 => ?_⟩
    · refine ⟨v2, rfl, v2, d2, rfl, o2, fun h2 => ?_, fun h2 => ?_⟩
      · obtain ⟨e1, _, _, _⟩ := num_of o1 h1
        obtain ⟨e2, _, _, _⟩ := num_of o2 h2
        refine ⟨v1, rfl, v2, rfl, v3, rfl, intD d1, intD d2, v3, d3, (by rw [← e1, ← e2]; rfl), o3, lm, fun H' s' => ⟨_, rfl, ?_⟩⟩
        have e : dueS d1 d2 d3 = _ := dueB_ok h1 h2
        rw [e] at hc
        cases cs : spotD (intD d1) (intD d2) d3 with
        | true =>
          rw [cs] at hc
          cases hc
        | false =>
          rw [cs] at hc
          cases hc
          exact iteT (q H' s')
      · have e : dueS d1 d2 d3 = some 1 := dueB_1 h1 h2
        rw [e] at hc
        cases hc
        exact q H fun _ _ e => e
    · have e : dueS d1 d2 d3 = some 0 := dueB_0 h1
      rw [e] at hc
      cases hc
      exact q H fun _ _ e => e
theorem ok_nexts_x (T : Tx K mg) : FnOk P w K mg base (L2N.CX P w) 7 T.a_nexts T.d_nexts ["comers", "bound", "spot"] (spXS (clsT T) K) := (FN11.or (FN11.lift ((ok_nexts T).mono (by decide))) (ok_nexts_r T)).imp fun vs H Q E h => by
  obtain ⟨v1, v2, v3, d1, d2, d3, rfl, o1, o2, o3, lm, jd⟩ := h
  cases hd : dueS d1 d2 d3 with
  | some c => exact .inr ⟨v1, v2, v3, d1, d2, d3, rfl, o1, o2, o3, lm, c, hd, fun H' s' => jd.2 c hd H' s'⟩
  | none =>
    obtain ⟨h1, h2, h3⟩ := dueB_none hd
    obtain ⟨x, y, rfl, sb⟩ := spot_of (ifN h3)
    obtain ⟨rfl, _, k2, k4⟩ := num_of o1 h1
    obtain ⟨rfl, _, b1, b60⟩ := num_of o2 h2
    obtain ⟨p, rfl, hp⟩ := pair_sq o3
    exact .inl ⟨_, _, p, (x, y), rfl, hp, spotB_iff.mp sb, k2, k4, b1, b60, fun L ps H' s' _ _ _ => jd.1 hd _ H' s'⟩
theorem ok_comings_for_r (T : Tx K mg) : FnOk P w K mg base (L2N.CX P w) 7 T.a_comings_for T.d_comings_for ["comers", "bound", "row"] (spXWR (clsT T) K) := by
  refine HL11.okN T.F_comings_for sc_comings_for (fun vs H Q E h => ?_) (fun cdv A outer s H vs Q E hr h => ?_)
  · obtain ⟨v1, v2, v3, d1, d2, d3, rfl, _⟩ := h
    rfl
  · obtain ⟨v1, v2, v3, d1, d2, d3, rfl, o1, o2, o3, lm, c, hc, q⟩ := h
    refine ⟨_, ((pss_cons (ps_expr (pe_callS (ok_check_comers_x T) (hr.mono (by decide)) (by rfl) T.g_check_comers T.F_check_comers.kp T.b_check_comers (fun σ => L2N.passAt (L2N.takes_of rfl rfl rfl rfl) σ) (pa_cons (pv 0) pa_nil)))
  (pss_cons (ps_expr (pe_callS (ok_check_bound_x T) (hr.mono (by decide)) (by rfl) T.g_check_bound T.F_check_bound.kp T.b_check_bound (fun σ => L2N.passAt (L2N.takes_of rfl rfl rfl rfl) σ) (pa_cons (pv 1) pa_nil)))
  (pss_cons (ps_if (PW.pt (pw_or (pt_not (pt_val (pe_call (ok_is_walk_o T) (hr.mono (by decide)) (by rfl) T.g_is_walk T.F_is_walk.kp T.b_is_walk .nil pass0 (pa_cons (pv 0) (pa_cons (pv 1) (pa_cons (pv 2) pa_nil)))))) (pw_or1 (pt_cmpR op_gt (pe_callB call_len_seq (by rfl) T.m_len PySem.boot_len (pa_cons (pv 2) pa_nil)) (pe_glob (v := .int 60) rfl T.g_MOST_SPOTS ⟨_, rfl⟩) (nomark _))))) (pss_one (L2N.ps_raise rfl (L2N.takes_of rfl rfl rfl rfl) (EXN.pmk_oex0N T.x_NoWalk T.i_NoWalk T.ti_NoWalk (ok_NoWalk___init__ T) (fun a H Q E h => ⟨a, rfl, h⟩) (hr.mono (by decide)) T.b_NoWalk___init__ pass0 (by rfl) T.g_NoWalk))) pss_nil)
  (pss_cons (ps_set (i := 3) sc_comings_for.nd rfl (.inl rfl) (pe_ix ix_tup (pe_ix (ix_list.or ix_tup) (pv 2) pe_int (fun _ _ => rfl)) pe_int (fun _ _ => rfl)))
  (pss_cons (ps_set (i := 4) sc_comings_for.nd rfl (.inl rfl) (pe_op op_cat (pe_op op_rep (pe_lst (pa_cons pe_int pa_nil)) (pv 3)) (pe_lst (pa_cons pe_int pa_nil))))
  (pss_cons (ps_for (passes_of rfl) rfl (RZ.pi_zipA (by rfl) T.m_zip (pa_cons (pv 2) (pa_cons (pe_slice (sl_list.or sl_tupA) (pv 2) (po_some pe_int) po_none) pa_nil))) (pg_tup rfl (pgs_cons (pg_tup rfl (pgs_cons (pg_name (i := 5) sc_comings_for.nd rfl (.inl rfl)) (pgs_cons (pg_name (i := 6) sc_comings_for.nd rfl (.inl rfl)) pgs_nil))) (pgs_cons (pg_tup rfl (pgs_cons (pg_name (i := 7) sc_comings_for.nd rfl (.inl rfl)) (pgs_cons (pg_name (i := 8) sc_comings_for.nd rfl (.inl rfl)) pgs_nil))) pgs_nil)))
   (pss_one (ps_if (pt_cmpR op_gt (pv 8) pe_int (nomark _)) (pss_one (ps_augS (pv 4) (pe_un un_neg pe_int) pgetL pe_int ip_add set_list)) (pss_one (ps_expr (pe_bm PySem.F.plainAttrs_list PySem.F.slot_list_extend PySem.F.type_list_extend mt_extend (pv 4) (pa_cons (pe_op op_cat (pe_op op_rep (pe_lst (pa_cons pe_int pa_nil)) (pe_op op_sub (pv 5) (pv 7))) (pe_lst (pa_cons pe_int pa_nil))) pa_nil)))))))
  (pss_one (ps_ret (pe_tup (pa_cons (pe_callTy call_tuple_of (by rfl) T.m_tuple (by decide +kernel) (pa_cons (pv 4) pa_nil)) (pa_cons (pe_op op_mul pe_int (pv 3)) pa_nil)))))))))))), ?_⟩
    refine ⟨v1, rfl, v1, d1, rfl, o1, fun h1 => ?_, fun h1 => ?_⟩
    · refine ⟨v2, rfl, v2, d2, rfl, o2, fun h2 => ?_, fun h2 => ?_⟩
      · obtain ⟨e1, _, _, _⟩ := num_of o1 h1
        obtain ⟨e2, _, _, _⟩ := num_of o2 h2
        refine ⟨v1, rfl, v2, rfl, v3, rfl, intD d1, intD d2, v3, d3, (by rw [← e1, ← e2]; rfl), o3, lm, fun H' s' => ⟨_, rfl, ?_⟩⟩
        have e : dueW d1 d2 d3 = _ := dueB_ok h1 h2
        rw [e] at hc
        cases cs : walkD (intD d1) (intD d2) d3 with
        | true =>
          obtain ⟨κ, L, ps, row, ds, rfl, eL, tu, wk, ci, el⟩ := walk_of o3 cs
          rw [cs, Bool.true_and] at hc
          have ef : few d3 = decide (ds.length ≤ 60) := by
            unfold few
            rw [ci]
          have zl := tu.length
          refine iteF ⟨.ref L, rfl, L, _, rfl, (eL.same s').len, _, 60, rfl, rfl, ?_⟩
          by_cases c60 : ds.length ≤ 60
          · rw [ef, decide_eq_true c60] at hc
            cases hc
          · rw [ef, decide_eq_false c60] at hc
            cases hc
            refine ⟨true, congrArg V.bl (decide_eq_true (by rw [List.length_map]; omega)), iteT (q H' s')⟩
        | false =>
          rw [cs] at hc
          cases hc
          exact iteT (q H' s')
      · have e : dueW d1 d2 d3 = some 1 := dueB_1 h1 h2
        rw [e] at hc
        cases hc
        exact q H fun _ _ e => e
    · have e : dueW d1 d2 d3 = some 0 := dueB_0 h1
      rw [e] at hc
      cases hc
      exact q H fun _ _ e => e
theorem ok_comings_for_x (T : Tx K mg) : FnOk P w K mg base (L2N.CX P w) 7 T.a_comings_for T.d_comings_for ["comers", "bound", "row"] (spXW (clsT T) K) := (FN11.or (FN11.lift ((ok_comings_for T).mono (by decide))) (ok_comings_for_r T)).imp fun vs H Q E h => by
  obtain ⟨v1, v2, v3, d1, d2, d3, rfl, o1, o2, o3, lm, jd⟩ := h
  cases hd : dueW d1 d2 d3 with
  | some c => exact .inr ⟨v1, v2, v3, d1, d2, d3, rfl, o1, o2, o3, lm, c, hd, fun H' s' => jd.2 c hd H' s'⟩
  | none =>
    obtain ⟨h1, h2, h3⟩ := dueB_none hd
    have h4 := ifN h3
    rw [Bool.and_eq_true] at h4
    obtain ⟨κ, L, ps, row, ds, rfl, eL, tu, wk, ci, el⟩ := walk_of o3 h4.1
    obtain ⟨rfl, _, k2, k4⟩ := num_of o1 h1
    obtain ⟨rfl, _, b1, b60⟩ := num_of o2 h2
    have l60 : row.length ≤ 60 := by
      have h5 := h4.2
      unfold few at h5
      rw [ci] at h5
      have := of_decide_eq_true h5
      omega
    exact .inl ⟨_, _, L, ps, row, κ, rfl, eL, tu, wk, l60, k2, k4, b1, b60, fun p c H' s' _ _ => jd.1 hd _ H' s'⟩
end

/-! ### asked, tried -/
section
variable {P : Program} {w : World} {K : PySem.W.Frag} {mg : Str → Option Value} {base : Heap}
open RO9
def dueK (kd : Int) (d1 d2 d3 d4 d5 : PyData) : Option Nat :=
  if kd = 0 then dueC d1 d3 else if kd = 4 then dueB d1 d2 none else if kd = 5 then dueS d1 d2 d4 else if kd = 7 then dueW d1 d2 d5 else due3 d1 d2 d3
def five (v1 v2 v3 v4 v5 : V) : List (Key × V) := [(.inr "comers", v1), (.inr "bound", v2), (.inr "comings", v3), (.inr "spot", v4), (.inr "walk", v5)]
theorem eqFi {a b : Int} (h : a ≠ b) : V.bl (decide (V.int a = V.int b)) = V.bl false := congrArg V.bl (decide_eq_false fun z => h (V.int.inj z))
theorem eqTi {a b : Int} (h : a = b) : V.bl (decide (V.int a = V.int b)) = V.bl true := congrArg V.bl (decide_eq_true (congrArg V.int h))
def spAsked (cs : Nat → Addr) (K : PySem.W.Frag) : Sp := fun vs H Q E => ∃ (kd : Int) (a : Addr) (v1 v2 v3 v4 v5 : V) (d1 d2 d3 d4 d5 : PyData), vs = [.int kd, .ref a] ∧ (0 ≤ kd ∧ kd ≤ 7) ∧ H a = some (.dK (five v1 v2 v3 v4 v5)) ∧
  Od K H v1 d1 ∧ Od K H v2 d2 ∧ Od K H v3 d3 ∧ Od K H v4 d4 ∧ Od K H v5 d5 ∧ Lim d3 ∧ Lim d4 ∧ Lim2 d5 ∧ Judged cs (dueK kd d1 d2 d3 d4 d5) H Q E
theorem ok__law_asked (T : Tx K mg) : FnOk P w K mg base (L2N.CX P w) 8 T.a__law_asked T.d__law_asked ["kind", "a"] (spAsked (clsT T) K) := by
  refine HL11.okN T.F__law_asked sc__law_asked (fun vs H Q E h => ?_) (fun cdv A outer s H vs Q E hr h => ?_)
  · obtain ⟨kd, a, v1, v2, v3, v4, v5, d1, d2, d3, d4, d5, rfl, _⟩ := h
    rfl
  · obtain ⟨kd, a, v1, v2, v3, v4, v5, d1, d2, d3, d4, d5, rfl, hk, ea, o1, o2, o3, o4, o5, l3, l4, l5, jd⟩ := h
    refine ⟨_, ((pss_cons (ps_if (pt_cmpR op_eq (pv 0) pe_int (nomark _)) (pss_one (ps_ret (pe_callS (ok_comes_x T) (hr.mono (by decide)) (by rfl) T.g_comes T.F_comes.kp T.b_comes (fun σ => L2N.passAt (L2N.takes_of rfl rfl rfl rfl) σ) (pa_cons (pe_dget (by exact hu_of hr) (pv 1) pe_str (fun _ _ => rfl)) (pa_cons (pe_dget (by exact hu_of hr) (pv 1) pe_str (fun _ _ => rfl)) pa_nil))))) pss_nil)
  (pss_cons (ps_if (pt_cmpR op_eq (pv 0) pe_int (nomark _)) (pss_one (ps_ret (pe_callS (ok_waits_x T) (hr.mono (by decide)) (by rfl) T.g_waits T.F_waits.kp T.b_waits (fun σ => L2N.passAt (L2N.takes_of rfl rfl rfl rfl) σ) (pa_cons (pe_dget (by exact hu_of hr) (pv 1) pe_str (fun _ _ => rfl)) (pa_cons (pe_dget (by exact hu_of hr) (pv 1) pe_str (fun _ _ => rfl)) (pa_cons (pe_dget (by exact hu_of hr) (pv 1) pe_str (fun _ _ => rfl)) pa_nil)))))) pss_nil)
  (pss_cons (ps_if (pt_cmpR op_eq (pv 0) pe_int (nomark _)) (pss_one (ps_ret (pe_callS (ok_lines_x T) (hr.mono (by decide)) (by rfl) T.g_lines T.F_lines.kp T.b_lines (fun σ => L2N.passAt (L2N.takes_of rfl rfl rfl rfl) σ) (pa_cons (pe_dget (by exact hu_of hr) (pv 1) pe_str (fun _ _ => rfl)) (pa_cons (pe_dget (by exact hu_of hr) (pv 1) pe_str (fun _ _ => rfl)) (pa_cons (pe_dget (by exact hu_of hr) (pv 1) pe_str (fun _ _ => rfl)) pa_nil)))))) pss_nil)
  (pss_cons (ps_if (pt_cmpR op_eq (pv 0) pe_int (nomark _)) (pss_one (ps_ret (pe_callS (ok_outs_x T) (hr.mono (by decide)) (by rfl) T.g_outs T.F_outs.kp T.b_outs (fun σ => L2N.passAt (L2N.takes_of rfl rfl rfl rfl) σ) (pa_cons (pe_dget (by exact hu_of hr) (pv 1) pe_str (fun _ _ => rfl)) (pa_cons (pe_dget (by exact hu_of hr) (pv 1) pe_str (fun _ _ => rfl)) (pa_cons (pe_dget (by exact hu_of hr) (pv 1) pe_str (fun _ _ => rfl)) pa_nil)))))) pss_nil)
  (pss_cons (ps_if (pt_cmpR op_eq (pv 0) pe_int (nomark _)) (pss_one (ps_ret (pe_callS (ok_spots_x T) (hr.mono (by decide)) (by rfl) T.g_spots T.F_spots.kp T.b_spots (fun σ => L2N.passAt (L2N.takes_of rfl rfl rfl rfl) σ) (pa_cons (pe_dget (by exact hu_of hr) (pv 1) pe_str (fun _ _ => rfl)) (pa_cons (pe_dget (by exact hu_of hr) (pv 1) pe_str (fun _ _ => rfl)) pa_nil))))) pss_nil)
  (pss_cons (ps_if (pt_cmpR op_eq (pv 0) pe_int (nomark _)) (pss_one (ps_ret (pe_callS (ok_nexts_x T) (hr.mono (by decide)) (by rfl) T.g_nexts T.F_nexts.kp T.b_nexts (fun σ => L2N.passAt (L2N.takes_of rfl rfl rfl rfl) σ) (pa_cons (pe_dget (by exact hu_of hr) (pv 1) pe_str (fun _ _ => rfl)) (pa_cons (pe_dget (by exact hu_of hr) (pv 1) pe_str (fun _ _ => rfl)) (pa_cons (pe_dget (by exact hu_of hr) (pv 1) pe_str (fun _ _ => rfl)) pa_nil)))))) pss_nil)
  (pss_cons (ps_if (pt_cmpR op_eq (pv 0) pe_int (nomark _)) (pss_one (ps_ret (pe_callS (ok_walk_x T) (hr.mono (by decide)) (by rfl) T.g_walk T.F_walk.kp T.b_walk (fun σ => L2N.passAt (L2N.takes_of rfl rfl rfl rfl) σ) (pa_cons (pe_dget (by exact hu_of hr) (pv 1) pe_str (fun _ _ => rfl)) (pa_cons (pe_dget (by exact hu_of hr) (pv 1) pe_str (fun _ _ => rfl)) (pa_cons (pe_dget (by exact hu_of hr) (pv 1) pe_str (fun _ _ => rfl)) pa_nil)))))) pss_nil)
  (pss_one (ps_ret (pe_callS (ok_comings_for_x T) (hr.mono (by decide)) (by rfl) T.g_comings_for T.F_comings_for.kp T.b_comings_for (fun σ => L2N.passAt (L2N.takes_of rfl rfl rfl rfl) σ) (pa_cons (pe_dget (by exact hu_of hr) (pv 1) pe_str (fun _ _ => rfl)) (pa_cons (pe_dget (by exact hu_of hr) (pv 1) pe_str (fun _ _ => rfl)) (pa_cons (pe_dget (by exact hu_of hr) (pv 1) pe_str (fun _ _ => rfl)) pa_nil)))))))))))))), ?_⟩
    have gt_comers : DGet H a (V.str "comers") (some v1) := .inl ⟨_, .inr "comers", .inl ea, rfl, rfl⟩
    have gt_bound : DGet H a (V.str "bound") (some v2) := .inl ⟨_, .inr "bound", .inl ea, rfl, rfl⟩
    have gt_comings : DGet H a (V.str "comings") (some v3) := .inl ⟨_, .inr "comings", .inl ea, rfl, rfl⟩
    have gt_spot : DGet H a (V.str "spot") (some v4) := .inl ⟨_, .inr "spot", .inl ea, rfl, rfl⟩
    have gt_walk : DGet H a (V.str "walk") (some v5) := .inl ⟨_, .inr "walk", .inl ea, rfl, rfl⟩
    have hk' : kd = 0 ∨ kd = 1 ∨ kd = 2 ∨ kd = 3 ∨ kd = 4 ∨ kd = 5 ∨ kd = 6 ∨ kd = 7 := by omega
    rcases hk' with rfl | rfl | rfl | rfl | rfl | rfl | rfl | rfl
    · exact ⟨_, rfl, rfl, true, eqTi rfl, iteT ⟨.ref a, rfl, a, v1, rfl, gt_comers, .ref a, rfl, a, v3, rfl, gt_comings, v1, v3, d1, d3, rfl, o1, o3, l3, jd⟩⟩
    · exact ⟨_, rfl, rfl, false, eqFi (by decide), iteF ⟨_, rfl, rfl, true, eqTi rfl, iteT ⟨.ref a, rfl, a, v1, rfl, gt_comers, .ref a, rfl, a, v2, rfl, gt_bound, .ref a, rfl, a, v3, rfl, gt_comings, v1, v2, v3, d1, d2, d3, rfl, o1, o2, o3, l3, jd⟩⟩⟩
    · exact ⟨_, rfl, rfl, false, eqFi (by decide), iteF ⟨_, rfl, rfl, false, eqFi (by decide), iteF ⟨_, rfl, rfl, true, eqTi rfl, iteT ⟨.ref a, rfl, a, v1, rfl, gt_comers, .ref a, rfl, a, v2, rfl, gt_bound, .ref a, rfl, a, v3, rfl, gt_comings, v1, v2, v3, d1, d2, d3, rfl, o1, o2, o3, l3, jd⟩⟩⟩⟩
    · exact ⟨_, rfl, rfl, false, eqFi (by decide), iteF ⟨_, rfl, rfl, false, eqFi (by decide), iteF ⟨_, rfl, rfl, false, eqFi (by decide), iteF ⟨_, rfl, rfl, true, eqTi rfl, iteT ⟨.ref a, rfl, a, v1, rfl, gt_comers, .ref a, rfl, a, v2, rfl, gt_bound, .ref a, rfl, a, v3, rfl, gt_comings, v1, v2, v3, d1, d2, d3, rfl, o1, o2, o3, l3, jd⟩⟩⟩⟩⟩
    · exact ⟨_, rfl, rfl, false, eqFi (by decide), iteF ⟨_, rfl, rfl, false, eqFi (by decide), iteF ⟨_, rfl, rfl, false, eqFi (by decide), iteF ⟨_, rfl, rfl, false, eqFi (by decide), iteF ⟨_, rfl, rfl, true, eqTi rfl, iteT ⟨.ref a, rfl, a, v1, rfl, gt_comers, .ref a, rfl, a, v2, rfl, gt_bound, v1, v2, d1, d2, rfl, o1, o2, jd⟩⟩⟩⟩⟩⟩
    · exact ⟨_, rfl, rfl, false, eqFi (by decide), iteF ⟨_, rfl, rfl, false, eqFi (by decide), iteF ⟨_, rfl, rfl, false, eqFi (by decide), iteF ⟨_, rfl, rfl, false, eqFi (by decide), iteF ⟨_, rfl, rfl, false, eqFi (by decide), iteF ⟨_, rfl, rfl, true, eqTi rfl, iteT ⟨.ref a, rfl, a, v1, rfl, gt_comers, .ref a, rfl, a, v2, rfl, gt_bound, .ref a, rfl, a, v4, rfl, gt_spot, v1, v2, v4, d1, d2, d4, rfl, o1, o2, o4, l4, jd⟩⟩⟩⟩⟩⟩⟩
    · exact ⟨_, rfl, rfl, false, eqFi (by decide), iteF ⟨_, rfl, rfl, false, eqFi (by decide), iteF ⟨_, rfl, rfl, false, eqFi (by decide), iteF ⟨_, rfl, rfl, false, eqFi (by decide), iteF ⟨_, rfl, rfl, false, eqFi (by decide), iteF ⟨_, rfl, rfl, false, eqFi (by decide), iteF ⟨_, rfl, rfl, true, eqTi rfl, iteT ⟨.ref a, rfl, a, v1, rfl, gt_comers, .ref a, rfl, a, v2, rfl, gt_bound, .ref a, rfl, a, v3, rfl, gt_comings, v1, v2, v3, d1, d2, d3, rfl, o1, o2, o3, l3, jd⟩⟩⟩⟩⟩⟩⟩⟩
    · exact ⟨_, rfl, rfl, false, eqFi (by decide), iteF ⟨_, rfl, rfl, false, eqFi (by decide), iteF ⟨_, rfl, rfl, false, eqFi (by decide), iteF ⟨_, rfl, rfl, false, eqFi (by decide), iteF ⟨_, rfl, rfl, false, eqFi (by decide), iteF ⟨_, rfl, rfl, false, eqFi (by decide), iteF ⟨_, rfl, rfl, false, eqFi (by decide), iteF ⟨.ref a, rfl, a, v1, rfl, gt_comers, .ref a, rfl, a, v2, rfl, gt_bound, .ref a, rfl, a, v5, rfl, gt_walk, v1, v2, v5, d1, d2, d5, rfl, o1, o2, o5, l5, jd⟩⟩⟩⟩⟩⟩⟩⟩
def wordO : Option Nat → Str
  | none => ""
  | some 0 => "comers"
  | some 1 => "bound"
  | some 2 => "comings"
  | some 3 => "spot"
  | some _ => "walk"
theorem kitT (T : Tx K mg) : ∀ (c j : Nat), c ≤ 4 → j ≤ 4 → PySem.W.kitOne K (.ref (clsT T c)) (.ref (clsT T j)) = some (decide (c = j))
  | 0, 0, _, _ => T.kt_NoComers_NoComers
  | 0, 1, _, _ => T.kt_NoComers_NoBound
  | 0, 2, _, _ => T.kt_NoComers_NoComings
  | 0, 3, _, _ => T.kt_NoComers_NoSpot
  | 0, 4, _, _ => T.kt_NoComers_NoWalk
  | 1, 0, _, _ => T.kt_NoBound_NoComers
  | 1, 1, _, _ => T.kt_NoBound_NoBound
  | 1, 2, _, _ => T.kt_NoBound_NoComings
  | 1, 3, _, _ => T.kt_NoBound_NoSpot
  | 1, 4, _, _ => T.kt_NoBound_NoWalk
  | 2, 0, _, _ => T.kt_NoComings_NoComers
  | 2, 1, _, _ => T.kt_NoComings_NoBound
  | 2, 2, _, _ => T.kt_NoComings_NoComings
  | 2, 3, _, _ => T.kt_NoComings_NoSpot
  | 2, 4, _, _ => T.kt_NoComings_NoWalk
  | 3, 0, _, _ => T.kt_NoSpot_NoComers
  | 3, 1, _, _ => T.kt_NoSpot_NoBound
  | 3, 2, _, _ => T.kt_NoSpot_NoComings
  | 3, 3, _, _ => T.kt_NoSpot_NoSpot
  | 3, 4, _, _ => T.kt_NoSpot_NoWalk
  | 4, 0, _, _ => T.kt_NoWalk_NoComers
  | 4, 1, _, _ => T.kt_NoWalk_NoBound
  | 4, 2, _, _ => T.kt_NoWalk_NoComings
  | 4, 3, _, _ => T.kt_NoWalk_NoSpot
  | 4, 4, _, _ => T.kt_NoWalk_NoWalk
  | c + 5, _, h, _ => absurd h (by omega)
  | _, j + 5, _, h => absurd h (by omega)
theorem ecT (T : Tx K mg) : ∀ c : Nat, ExcC K (clsT T c)
  | 0 => T.ec_NoComers
  | 1 => T.ec_NoBound
  | 2 => T.ec_NoComings
  | 3 => T.ec_NoSpot
  | _ + 4 => T.ec_NoWalk
theorem xmT (T : Tx K mg) : ∀ c : Nat, PySem.W.exmOne K (.ref (clsT T c)) (.ref T.c_LoopError) = some true
  | 0 => T.xm_NoComers_LoopError
  | 1 => T.xm_NoBound_LoopError
  | 2 => T.xm_NoComings_LoopError
  | 3 => T.xm_NoSpot_LoopError
  | _ + 4 => T.xm_NoWalk_LoopError
theorem dueB_le {d1 d2 : PyData} {r : Option Nat} {c : Nat} (h : dueB d1 d2 r = some c) (hr : ∀ c, r = some c → c ≤ 4) : c ≤ 4 := by
  unfold dueB at h
  split at h
  · split at h
    · exact hr c h
    · cases h
      decide
  · cases h
    decide
theorem if_le {b : Bool} {n c : Nat} (hn : n ≤ 4) (h : (if b = true then none else some n : Option Nat) = some c) : c ≤ 4 := by
  split at h
  · cases h
  · cases h
    exact hn
theorem due_le {kd : Int} {d1 d2 d3 d4 d5 : PyData} {c : Nat} (h : dueK kd d1 d2 d3 d4 d5 = some c) : c ≤ 4 := by
  unfold dueK at h
  split at h
  · unfold dueC at h
    split at h
    · exact if_le (by decide) h
    · cases h
      decide
  · split at h
    · exact dueB_le h fun c z => by cases z
    · split at h
      · exact dueB_le h fun c z => if_le (by decide) z
      · split at h
        · exact dueB_le h fun c z => if_le (by decide) z
        · exact dueB_le h fun c z => if_le (by decide) z
/-- the words of the errors -/
def ws5 : List Str := ["comers", "bound", "comings", "spot", "walk"]
def fl5 (c : Nat) : List V := [.bl (decide (c = 0)), .bl (decide (c = 1)), .bl (decide (c = 2)), .bl (decide (c = 3)), .bl (decide (c = 4))]
theorem fl_at (c : Nat) : ∀ i : Nat, i < 5 → (fl5 c)[i]? = some (.bl (decide (c = i)))
  | 0, _ => rfl
  | 1, _ => rfl
  | 2, _ => rfl
  | 3, _ => rfl
  | 4, _ => rfl
  | i + 5, h => absurd h (by omega)
theorem ws_at : ∀ i : Nat, i < 5 → (ws5.map V.str)[i]? = some (.str (wordO (some i)))
  | 0, _ => rfl
  | 1, _ => rfl
  | 2, _ => rfl
  | 3, _ => rfl
  | 4, _ => rfl
  | i + 5, h => absurd h (by omega)
theorem join_one (a x : Str) : Txt.join a [x] = x := by
  first | rfl | simp [Txt.join]
theorem word_len : ∀ i : Nat, i < 5 → (wordO (some i)).length ≤ 100
  | 0, _ => by decide +kernel
  | 1, _ => by decide +kernel
  | 2, _ => by decide +kernel
  | 3, _ => by decide +kernel
  | 4, _ => by decide +kernel
  | i + 5, h => absurd h (by omega)
def spTried (K : PySem.W.Frag) : Sp := fun vs H Q _ => ∃ (kd : Int) (a : Addr) (v1 v2 v3 v4 v5 : V) (d1 d2 d3 d4 d5 : PyData), vs = [.int kd, .ref a] ∧ (0 ≤ kd ∧ kd ≤ 7) ∧ H a = some (.dK (five v1 v2 v3 v4 v5)) ∧
  Od K H v1 d1 ∧ Od K H v2 d2 ∧ Od K H v3 d3 ∧ Od K H v4 d4 ∧ Od K H v5 d5 ∧ Lim d3 ∧ Lim d4 ∧ Lim2 d5 ∧ ∀ H', Same H H' → Q (.str (wordO (dueK kd d1 d2 d3 d4 d5))) H'
theorem ok__law_tried (T : Tx K mg) : FnOk P w K mg base CX0 9 T.a__law_tried T.d__law_tried ["kind", "a"] (spTried K) := by
  refine T.F__law_tried.ok sc__law_tried (fun vs H Q E h => ?_) (fun cdv A outer s H vs Q E hr h => ?_)
  · obtain ⟨kd, a, v1, v2, v3, v4, v5, d1, d2, d3, d4, d5, rfl, _⟩ := h
    rfl
  · obtain ⟨kd, a, v1, v2, v3, v4, v5, d1, d2, d3, d4, d5, rfl, hk, ea, o1, o2, o3, o4, o5, l3, l4, l5, q⟩ := h
    refine ⟨_, ((pss_cons (ps_set (i := 2) sc__law_tried.nd rfl (.inl rfl) pe_str)
  (pss_cons (L2N.ps_try_as (i := 3) (Wout := fun _ _ _ _ => False) rfl rfl sc__law_tried.nd rfl rfl ⟨by rfl, by decide, .inl T.g_LoopError⟩ HL11.takes0N (fun W pn xe tk _ => (pss_one (ps_expr (pe_callS (ok__law_asked T) (hr.mono (by decide)) (by rfl) T.g__law_asked T.F__law_asked.kp T.b__law_asked (fun σ => L2N.passAt tk σ) (pa_cons (pv 0) (pa_cons (pv 1) pa_nil)))))) (fun a oe cls d pn hz hf => (pss_cons (ps_set (i := 4) sc__law_tried.nd rfl (.inr rfl) (pe_lst (pa_cons (pe_callB (EXN.call_isN hz.zc hf) (by rfl) T.m_isinstance (by decide +kernel) (pa_cons (pv 3) (pa_cons (pe_glob (v := .ref T.c_NoComers) rfl T.g_NoComers rfl) pa_nil))) (pa_cons (pe_callB (EXN.call_isN hz.zc hf) (by rfl) T.m_isinstance (by decide +kernel) (pa_cons (pv 3) (pa_cons (pe_glob (v := .ref T.c_NoBound) rfl T.g_NoBound rfl) pa_nil))) (pa_cons (pe_callB (EXN.call_isN hz.zc hf) (by rfl) T.m_isinstance (by decide +kernel) (pa_cons (pv 3) (pa_cons (pe_glob (v := .ref T.c_NoComings) rfl T.g_NoComings rfl) pa_nil))) (pa_cons (pe_callB (EXN.call_isN hz.zc hf) (by rfl) T.m_isinstance (by decide +kernel) (pa_cons (pv 3) (pa_cons (pe_glob (v := .ref T.c_NoSpot) rfl T.g_NoSpot rfl) pa_nil))) pa_nil))))))
  (pss_cons (ps_expr (EXN.pe_bmK (K := K) (by rfl) PySem.F.plainAttrs_list PySem.F.slot_list_append PySem.F.type_list_append mt_append (pv 4) (pa_cons (pe_callB (EXN.call_isN hz.zc hf) (by rfl) T.m_isinstance (by decide +kernel) (pa_cons (pv 3) (pa_cons (pe_glob (v := .ref T.c_NoWalk) rfl T.g_NoWalk rfl) pa_nil))) pa_nil)))
  (pss_cons (ps_set (i := 5) sc__law_tried.nd rfl (.inr rfl) (pe_lst (pa_cons pe_str (pa_cons pe_str (pa_cons pe_str (pa_cons pe_str (pa_cons pe_str pa_nil)))))))
  (pss_one (ps_set (i := 2) sc__law_tried.nd rfl (.inl rfl) (EXN.pe_bmK (K := K) (by rfl) PySem.F.plainAttrs_str PySem.F.slot_str_join PySem.F.type_str_join (EXN.mt_joinK (K := K) (by rfl)) pe_str (pa_cons (HL11.pe_lcH (own := [("k", 6)]) (g := (gName 6)) (HL11.hotS hz hf) sc__law_tried.nd (L2H.pi_range1H (by rfl) T.m_range (pa_cons pe_int pa_nil)) (blkOk_by (own := [("k", 6)]) (N := ["kind", "a", "found", "e", "flags", "words", "k"]) (sc := defScope s__law_tried) (by decide +kernel)) (fun _ _ _ _ _ => pg_name (i := 6) sc__law_tried.nd rfl (.inl rfl)) (fun _ _ _ _ _ => (pts_one (pt_val (pe_ix (ixLK (K := K) (by rfl)) (pv 4) (pv 6) (fun _ _ => rfl))))) (fun _ _ _ _ _ => (pe_ix (ixLK (K := K) (by rfl)) (pv 5) (pv 6) (fun _ _ => rfl)))) pa_nil)))))))))
  (pss_one (ps_ret (pv 2)))))), ?_⟩
    refine ⟨.int kd, rfl, .ref a, rfl, kd, a, v1, v2, v3, v4, v5, d1, d2, d3, d4, d5, rfl, hk, ea, o1, o2, o3, o4, o5, l3, l4, l5, fun hd v H1 s1 => ?_, fun c hc H1 s1 => ?_⟩
    · have q' := q H1 s1
      rw [hd] at q'
      exact ⟨.str "", rfl, q'⟩
    · have c4 : c ≤ 4 := due_le hc
      have q' := fun H' s' => q H' s'
      rw [hc] at q'
      refine ⟨true, xmT T c, fun _ a0 ha0 => ?_, fun z => nomatch z⟩
      refine ⟨.ref a0, rfl, clsT T c, _, _, _, rfl, rfl, rfl, ecT T c, .own _, kitT T c 0 c4 (by decide), .ref a0, rfl, clsT T c, _, _, _, rfl, rfl, rfl, ecT T c, .own _, kitT T c 1 c4 (by decide), .ref a0, rfl, clsT T c, _, _, _, rfl, rfl, rfl, ecT T c, .own _, kitT T c 2 c4 (by decide), .ref a0, rfl, clsT T c, _, _, _, rfl, rfl, rfl, ecT T c, .own _, kitT T c 3 c4 (by decide), by show 4 ≤ sizeLine; decide, fun F nF => ?_⟩
      refine ⟨.ref F, rfl, .inl ⟨rfl, _, SqL.of upd_same⟩, .ref a0, rfl, clsT T c, _, _, _, rfl, rfl, rfl, ecT T c, .own _, kitT T c 4 c4 (by decide), F, _, _, rfl, rfl, upd_same, by show 4 < sizeLine; decide, ?_⟩
      rw [upd_upd]
      have sF : Same H1 (upd H1 F (.lst (fl5 c))) := same_upd nF
      have eF : upd H1 F (.lst (fl5 c)) F = some (.lst (fl5 c)) := upd_same
      show tSeq _ _ _ _ (upd H1 F (.lst (fl5 c)))
      generalize upd H1 F (.lst (fl5 c)) = H2 at *
      refine ⟨by show 5 ≤ sizeLine; decide, fun W nW => ?_⟩
      have sW : Same H2 (upd H2 W (.lst [V.str "comers", .str "bound", .str "comings", .str "spot", .str "walk"])) := same_upd nW
      have eW : upd H2 W (.lst [V.str "comers", .str "bound", .str "comings", .str "spot", .str "walk"]) W = some (.lst [V.str "comers", .str "bound", .str "comings", .str "spot", .str "walk"]) := upd_same
      generalize upd H2 W (.lst [V.str "comers", .str "bound", .str "comings", .str "spot", .str "walk"]) = H3 at *
      have eF3 := sW _ _ eF
      refine ⟨rfl, 5, rfl, by decide, by decide, fun D nD => lc_range (lo := 0) (n := (5 : Int).toNat)
        (fun i H' => Same H3 H' ∧ H' D = some (.lst ((if i ≤ c then [] else [wordO (some c)]).map V.str)))
        ⟨same_upd nD, by rw [upd_same, if_pos (Nat.zero_le c)]; rfl⟩ (fun i H' hi p => ?_) (fun H' p => ?_)⟩
      · obtain ⟨sm, eD⟩ := p
        have hi5 : i < 5 := hi
        rw [Int.zero_add]
        refine ⟨rfl, .ref F, rfl, .int (i : Int), rfl, F, _, _, _, rfl, rfl, SqL.of (sm _ _ eF3), atI_nat (fl_at c i hi5), _, rfl, ?_⟩
        by_cases ci : c = i
        · subst ci
          rw [decide_eq_true rfl]
          refine iteT ⟨.ref W, rfl, .int (c : Int), rfl, W, _, _, _, rfl, rfl, SqL.of (sm _ _ eW), atI_nat (ws_at c hi5), _, eD, by rw [if_pos (Nat.le_refl c)]; decide, same_put sm nD, ?_⟩
          rw [upd_same, if_pos (Nat.le_refl c), if_neg (by omega)]
          rfl
        · rw [decide_eq_false ci]
          refine iteF ⟨sm, ?_⟩
          rw [eD]
          by_cases le : i ≤ c
          · rw [if_pos le, if_pos (by omega)]
          · rw [if_neg le, if_neg (by omega)]
      · obtain ⟨sm, eD⟩ := p
        have e5 : (if (5 : Int).toNat ≤ c then ([] : List Str) else [wordO (some c)]) = [wordO (some c)] := if_neg (by show ¬ 5 ≤ c; omega)
        rw [e5] at eD
        have wl := word_len c (by omega)
        refine ⟨" ", D, [wordO (some c)], rfl, rfl, .inl (SqL.of eD), ?_, ?_⟩
        · show (wordO (some c)).length + 0 + 1 * (" " : Str).length ≤ 16777216
          have : (" " : Str).length = 1 := by decide +kernel
          omega
        · rw [join_one]
          exact ⟨_, rfl, q' H' (((s1.trans sF).trans sW).trans sm)⟩
end

/-! ### the law's own checks of anything -/
section
variable {P : Program} {w : World} {K : PySem.W.Frag} {mg : Str → Option Value} {base : Heap}
open RO9
def spLIsInt (K : PySem.W.Frag) : Sp := fun vs H Q _ => ∃ (v : V) (d : PyData) (a b : Int), vs = [v, .int a, .int b] ∧ Od K H v d ∧ Q (.bl (numD a b d)) H
theorem ok__law_is_int (T : Tx K mg) : FnOk P w K mg base CX0 1 T.a__law_is_int T.d__law_is_int ["thing", "least", "most"] (spLIsInt K) := by
  refine T.F__law_is_int.ok sc__law_is_int (fun vs H Q E h => ?_) (fun cdv A outer s H vs Q E hr h => ?_)
  · obtain ⟨v, d, a, b, rfl, _⟩ := h
    rfl
  · obtain ⟨v, d, a, b, rfl, od, q⟩ := h
    refine ⟨_, ((pss_one (ps_ret (pe_and (pe_callB call_isi (by rfl) T.m_isinstance (by decide +kernel) (pa_cons (pv 0) (pa_cons (pe_bltn (v := .ty "int") (by rfl) T.m_int (by decide +kernel) rfl) pa_nil))) (pe_and (pe_not (pe_callB call_isi (by rfl) T.m_isinstance (by decide +kernel) (pa_cons (pv 0) (pa_cons (pe_bltn (v := .ty "bool") (by rfl) T.m_bool (by decide +kernel) rfl) pa_nil)))) (pe_and (pe_cmpR op_le (pv 1) (pv 0) (nomark _)) (pe_one (pe_cmpR op_le (pv 0) (pv 2) (nomark _))))))))), ?_⟩
    refine ⟨v, rfl, v, .ty "int", _, _, _, rfl, .ty _, od.ty, kit_int d, _, rfl, ?_⟩
    cases d with
    | int i =>
      cases od
      refine iteT ⟨.int i, rfl, .int i, .ty "bool", _, _, _, rfl, .ty _, (Od.int (K := K) (H := H) i).ty, kit_bool _, _, rfl, true, rfl, iteT ?_⟩
      have q' : Q (.bl (decide (a ≤ i) && decide (i ≤ b))) H := q
      refine ⟨.int a, rfl, .int i, rfl, a, i, rfl, rfl, decide (a ≤ i), rfl, ?_⟩
      by_cases h : a ≤ i
      · rw [decide_eq_true h] at q' ⊢
        exact iteT ⟨.int i, rfl, .int b, rfl, i, b, rfl, rfl, q'⟩
      · rw [decide_eq_false h] at q' ⊢
        exact iteF q'
    | bool x => exact iteT ⟨v, rfl, v, .ty "bool", _, _, _, rfl, .ty _, od.ty, kit_bool _, _, rfl, false, rfl, iteF q⟩
    | none => exact iteF q
    | str _ => exact iteF q
    | list _ => exact iteF q
    | tuple _ => exact iteF q
    | dict _ => exact iteF q
def areIntsD (many lo hi : Int) : PyData → Bool
  | .tuple ds => decide ((ds.length : Int) ≤ many) && ds.all (numD lo hi)
  | _ => false
def spLAreInts (K : PySem.W.Frag) : Sp := fun vs H Q _ => ∃ (v : V) (d : PyData) (n a b : Int), vs = [v, .int n, .int a, .int b] ∧ Od K H v d ∧ n ≤ 1000 ∧ ∀ H', Same H H' → Q (.bl (areIntsD n a b d)) H'
theorem ok__law_are_ints (T : Tx K mg) : FnOk P w K mg base CX0 2 T.a__law_are_ints T.d__law_are_ints ["thing", "many", "least", "most"] (spLAreInts K) := by
  refine T.F__law_are_ints.ok sc__law_are_ints (fun vs H Q E h => ?_) (fun cdv A outer s H vs Q E hr h => ?_)
  · obtain ⟨v, d, n, a, b, rfl, _⟩ := h
    rfl
  · obtain ⟨v, d, n, lo, hi, rfl, od, n1000, q⟩ := h
    refine ⟨_, ((pss_cons (ps_if (PW.pt (pw_or (pt_not (pt_val (pe_callB call_isi (by rfl) T.m_isinstance (by decide +kernel) (pa_cons (pv 0) (pa_cons (pe_bltn (v := .ty "tuple") (by rfl) T.m_tuple (by decide +kernel) rfl) pa_nil))))) (pw_or1 (pt_cmpR op_gt (pe_callB call_len_seq (by rfl) T.m_len PySem.boot_len (pa_cons (pv 0) pa_nil)) (pv 1) (nomark _))))) (pss_one (ps_ret pe_bl)) pss_nil)
  (pss_one (ps_ret (pe_cmpR op_eq (pe_callB call_len_seq (by rfl) T.m_len PySem.boot_len (pa_cons (pe_lc (own := [("item", 4)]) (g := (gName 4)) rfl sc__law_are_ints.nd (pi_tup (pv 0)) (blkOk_by (own := [("item", 4)]) (N := ["thing", "many", "least", "most", "item"]) (sc := defScope s__law_are_ints) (by decide +kernel)) (fun _ _ _ _ _ => pg_name (i := 4) sc__law_are_ints.nd rfl (.inl rfl)) (fun _ _ _ _ _ => (pts_one (pt_not (pt_val (pe_call (ok__law_is_int T) (hr.mono (by decide)) (by rfl) T.g__law_is_int T.F__law_is_int.kp T.b__law_is_int .nil pass0 (pa_cons (pv 4) (pa_cons (pv 2) (pa_cons (pv 3) pa_nil)))))))) (fun _ _ _ _ _ => (pv 4))) pa_nil)) pe_int (nomark _)))))), ?_⟩
    have same : Same H H := fun _ _ e => e
    refine ⟨v, rfl, v, .ty "tuple", _, _, _, rfl, .ty _, od.ty, kit_tuple d, _, rfl, ?_⟩
    cases d with
    | tuple ds =>
      cases od with
      | @tup r xs _ hT oa =>
        have zl := oa.len
        refine iteF ⟨.ref r, rfl, r, _, rfl, .inr hT, .int n, rfl, _, _, rfl, rfl, _, rfl, ite2 (fun c => ?_) (fun c => ?_)⟩
        · have c' := of_decide_eq_true c
          have e : areIntsD n lo hi (.tuple ds) = false := by
            show (decide ((ds.length : Int) ≤ n) && ds.all (numD lo hi)) = false
            rw [decide_eq_false (by omega), Bool.false_and]
          have q' := q H same
          rw [e] at q'
          exact q'
        · have c' : ¬ (n < ((xs.length : Nat) : Int)) := fun z => c (decide_eq_true z)
          have e : areIntsD n lo hi (.tuple ds) = ds.all (numD lo hi) := by
            show (decide ((ds.length : Int) ≤ n) && ds.all (numD lo hi)) = _
            rw [decide_eq_true (by omega), Bool.true_and]
          refine ⟨.ref r, rfl, r, rfl, ⟨_, hT⟩, fun D hD => lc_tup (K := K) (a := r) (xs := xs)
            (fun i H' => ∃ ys : List V, Same H H' ∧ H' D = some (.lst ys) ∧ ys.length ≤ i ∧ ys.length = (ds.take i).countP fun x => !numD lo hi x)
            ⟨[], same_upd hD, upd_same, Nat.le_refl _, rfl⟩ (fun i H' _ p => let ⟨_, sm, _⟩ := p; sT sm hT) (fun i x H' hx p => ?_) (fun H' p => ?_)⟩
          · obtain ⟨ys, sm, eD, zy, ey⟩ := p
            obtain ⟨d, hd, od⟩ := oa.get hx
            have hi' := (List.getElem?_eq_some_iff.mp hd).1
            have en : (ds.take (i + 1)).countP (fun x => !numD lo hi x) = (ds.take i).countP (fun x => !numD lo hi x) + if numD lo hi d then 0 else 1 := by
              rw [take_snoc hd, List.countP_append, List.countP_cons, List.countP_nil]
              cases numD lo hi d <;> simp
            refine ⟨rfl, x, rfl, .int lo, rfl, .int hi, rfl, x, d, lo, hi, rfl, od.mono sm, numD lo hi d, rfl, ?_⟩
            cases b : numD lo hi d with
            | true =>
              rw [b] at en
              exact iteF ⟨ys, sm, eD, by omega, by rw [en, ey]; rfl⟩
            | false =>
              rw [b] at en
              refine iteT ⟨x, rfl, _, eD, small1000 (by omega), ys ++ [x], same_put sm hD, upd_same, by rw [List.length_append]; show ys.length + 1 ≤ i + 1; omega, ?_⟩
              rw [en, List.length_append, ey]
              rfl
          · obtain ⟨ys, sm, eD, zy, ey⟩ := p
            rw [zl, List.take_of_length_le (Nat.le_refl _)] at ey
            refine ⟨D, _, rfl, .inl (SqL.of eD), rfl, ?_⟩
            have e3 : decide (V.int ((ys.length : Nat) : Int) = V.int 0) = ds.all (numD lo hi) := by
              rw [ey]
              by_cases h : ds.all (numD lo hi) = true
              · rw [h]
                refine decide_eq_true (congrArg V.int ?_)
                have : ds.countP (fun x => !numD lo hi x) = 0 := List.countP_eq_zero.mpr fun x hx => by
                  rw [List.all_eq_true.mp h x hx]
                  decide
                rw [this]
                rfl
              · have hf : ds.all (numD lo hi) = false := by
                  cases z : ds.all (numD lo hi) with
                  | true => exact absurd z h
                  | false => rfl
                rw [hf]
                refine decide_eq_false fun z => h (List.all_eq_true.mpr fun x hx => ?_)
                have z' : (((ds.countP fun x => !numD lo hi x) : Nat) : Int) = 0 := V.int.inj z
                have z2 : ds.countP (fun x => !numD lo hi x) = 0 := by omega
                have := List.countP_eq_zero.mp z2 x hx
                cases b : numD lo hi x with
                | true => rfl
                | false =>
                  rw [b] at this
                  exact absurd rfl this
            have q' := q H' sm
            rw [e, ← e3] at q'
            exact q'
    | none => exact iteT (iteT (q H same))
    | bool _ => exact iteT (iteT (q H same))
    | int _ => exact iteT (iteT (q H same))
    | str _ => exact iteT (iteT (q H same))
    | list _ => exact iteT (iteT (q H same))
    | dict _ => exact iteT (iteT (q H same))
end

/-! ### what is due, by the law's own checks -/
section
variable {P : Program} {w : World} {K : PySem.W.Frag} {mg : Str → Option Value} {base : Heap}
open RO9
def spLIsSpot (K : PySem.W.Frag) : Sp := fun vs H Q _ => ∃ (k b : Int) (v : V) (d : PyData), vs = [.int k, .int b, v] ∧ Od K H v d ∧ Q (.bl (spotD k b d)) H
theorem two_of {ds : List PyData} (h : ds.length = 2) : ∃ x y, ds = [x, y] := by
  cases ds with
  | nil => cases h
  | cons x ds =>
    cases ds with
    | nil => cases h
    | cons y ds =>
      cases ds with
      | nil => exact ⟨x, y, rfl⟩
      | cons z ds => simp at h
theorem spotD_two (k b : Int) (x y : PyData) : spotD k b (.tuple [x, y]) = (numD 0 b x && (numD 1 k y && decide (intD x ≥ intD y - 1))) := by
  cases x with
  | int w =>
    cases y with
    | int t =>
      show ((decide (0 ≤ w) && decide (w ≤ b)) && (decide (1 ≤ t) && decide (t ≤ k)) && decide (w ≥ t - 1)) = ((decide (0 ≤ w) && decide (w ≤ b)) && ((decide (1 ≤ t) && decide (t ≤ k)) && decide (w ≥ t - 1)))
      rw [Bool.and_assoc]
    | _ =>
      show false = ((decide (0 ≤ w) && decide (w ≤ b)) && (false && _))
      rw [Bool.false_and, Bool.and_false]
  | _ => rfl
theorem ok__law_is_spot (T : Tx K mg) : FnOk P w K mg base CX0 2 T.a__law_is_spot T.d__law_is_spot ["comers", "bound", "thing"] (spLIsSpot K) := by
  refine T.F__law_is_spot.ok sc__law_is_spot (fun vs H Q E h => ?_) (fun cdv A outer s H vs Q E hr h => ?_)
  · obtain ⟨k, b, v, d, rfl, _⟩ := h
    rfl
  · obtain ⟨k, b, v, d, rfl, od, q⟩ := h
    refine ⟨_, ((pss_cons (ps_if (PW.pt (pw_or (pt_not (pt_val (pe_callB call_isi (by rfl) T.m_isinstance (by decide +kernel) (pa_cons (pv 2) (pa_cons (pe_bltn (v := .ty "tuple") (by rfl) T.m_tuple (by decide +kernel) rfl) pa_nil))))) (pw_or1 (pt_cmpR op_ne (pe_callB call_len_seq (by rfl) T.m_len PySem.boot_len (pa_cons (pv 2) pa_nil)) pe_int (nomark _))))) (pss_one (ps_ret pe_bl)) pss_nil)
  (pss_one (ps_ret (pe_and (pe_call (ok__law_is_int T) (hr.mono (by decide)) (by rfl) T.g__law_is_int T.F__law_is_int.kp T.b__law_is_int .nil pass0 (pa_cons (pe_ix ix_tup (pv 2) pe_int (fun _ _ => rfl)) (pa_cons pe_int (pa_cons (pv 1) pa_nil)))) (pe_and (pe_call (ok__law_is_int T) (hr.mono (by decide)) (by rfl) T.g__law_is_int T.F__law_is_int.kp T.b__law_is_int .nil pass0 (pa_cons (pe_ix ix_tup (pv 2) pe_int (fun _ _ => rfl)) (pa_cons pe_int (pa_cons (pv 0) pa_nil)))) (pe_one (pe_cmpR op_ge (pe_ix ix_tup (pv 2) pe_int (fun _ _ => rfl)) (pe_op op_sub (pe_ix ix_tup (pv 2) pe_int (fun _ _ => rfl)) pe_int) (nomark _))))))))), ?_⟩
    refine ⟨v, rfl, v, .ty "tuple", _, _, _, rfl, .ty _, od.ty, kit_tuple d, _, rfl, ?_⟩
    cases d with
    | tuple ds =>
      cases od with
      | @tup r xs _ hT oa =>
        have zl := oa.len
        refine iteF ⟨.ref r, rfl, r, _, rfl, .inr hT, rfl, ?_⟩
        by_cases c2 : ds.length = 2
        · refine ⟨false, ne_no (by rw [zl, c2]; rfl), iteF ?_⟩
          obtain ⟨x, y, rfl⟩ := two_of c2
          cases oa with
          | @cons vx _ _ _ ox t =>
          cases t with
          | @cons vy _ _ _ oy t =>
          cases t
          rw [spotD_two] at q
          refine ⟨.ref r, rfl, r, _, 0, vx, rfl, rfl, hT, atI_nat (j := 0) rfl, .int b, rfl, vx, x, 0, b, rfl, ox, _, rfl, ?_⟩
          cases cx : numD 0 b x with
          | false =>
            rw [cx] at q
            exact iteF q
          | true =>
            rw [cx, Bool.true_and] at q
            refine iteT ⟨.ref r, rfl, r, _, 1, vy, rfl, rfl, hT, atI_nat (j := 1) rfl, .int k, rfl, vy, y, 1, k, rfl, oy, _, rfl, ?_⟩
            cases cy : numD 1 k y with
            | false =>
              rw [cy] at q
              exact iteF q
            | true =>
              rw [cy, Bool.true_and] at q
              obtain ⟨ex, _, _, _⟩ := num_of ox cx
              obtain ⟨ey, _, _, _⟩ := num_of oy cy
              exact iteT ⟨.ref r, rfl, r, _, 0, vx, rfl, rfl, hT, atI_nat (j := 0) rfl, .ref r, rfl, r, _, 1, vy, rfl, rfl, hT, atI_nat (j := 1) rfl, intD y, 1, ey, rfl, intD x, intD y - 1, ex, rfl, q⟩
        · refine ⟨true, ?_, iteT ?_⟩
          · show V.bl (!decide (V.int ((xs.length : Nat) : Int) = V.int 2)) = _
            rw [decide_eq_false fun z => c2 (by have := V.int.inj z; omega)]
            rfl
          · have e : spotD k b (.tuple ds) = false := by
              cases h : spotD k b (.tuple ds) with
              | false => rfl
              | true =>
                obtain ⟨x, y, e, _⟩ := spot_of h
                cases e
                exact absurd rfl c2
            rw [e] at q
            exact q
    | none => exact iteT (iteT q)
    | bool _ => exact iteT (iteT q)
    | int _ => exact iteT (iteT q)
    | str _ => exact iteT (iteT q)
    | list _ => exact iteT (iteT q)
    | dict _ => exact iteT (iteT q)
theorem walkD_at {k b : Int} {d d0 : PyData} {ds : List PyData} (ci : itemsD d = some ds) (h : ds[0]? = some d0) : walkD k b d = (spotD k b d0 && (match pairD d0 with
  | some s => decide (s.2 = 1) && walkFrom k b s (ds.drop 1)
  | none => false)) := by
  unfold walkD
  rw [ci]
  cases ds with
  | nil => simp at h
  | cons e ds =>
    simp at h
    subst h
    show (match pairD e with
      | some s => spotB k b s && (decide (s.2 = 1) && walkFrom k b s ds)
      | none => false) = _
    unfold spotD
    cases pairD e <;> rfl
theorem next_spot {k b : Int} {s : Wk.Spt} {d : PyData} (h : spotD k b d = false) : nextD k b s d = false := by
  unfold nextD
  unfold spotD at h
  cases e : pairD d with
  | none => rfl
  | some t =>
    rw [e] at h
    have h' : spotB k b t = false := h
    show nextB k b s t = false
    unfold nextB
    rw [h']
    rfl
theorem spot_pair {k b : Int} {x y : Int} (h : spotB k b (x, y) = true) : spotD k b (.tuple [.int x, .int y]) = true := h
theorem spot_turn {k b : Int} {s : Wk.Spt} (h : spotB k b s = true) : 1 ≤ s.2 := by
  unfold spotB at h
  simp only [Bool.and_eq_true, decide_eq_true_eq] at h
  exact h.1.2.1
def spLIsWalk (K : PySem.W.Frag) : Sp := fun vs H Q _ => ∃ (k b : Int) (v : V) (d : PyData), vs = [.int k, .int b, v] ∧ Od K H v d ∧ Lim2 d ∧ ∀ H', Same H H' → Q (.bl (walkD k b d && few d)) H'
theorem ok__law_is_walk (T : Tx K mg) : FnOk P w K mg base CX0 3 T.a__law_is_walk T.d__law_is_walk ["comers", "bound", "thing"] (spLIsWalk K) := by
  refine T.F__law_is_walk.ok sc__law_is_walk (fun vs H Q E h => ?_) (fun cdv A outer s H vs Q E hr h => ?_)
  · obtain ⟨k, b, v, d, rfl, _⟩ := h
    rfl
  · obtain ⟨k, b, v, d, rfl, od, lm, q⟩ := h
    refine ⟨_, ((pss_cons (ps_if (PW.pt (pw_or (pt_not (pt_val (pe_callB call_isiT (by rfl) T.m_isinstance (by decide +kernel) (pa_cons (pv 2) (pa_cons (pe_tup (pa_cons (pe_bltn (v := .ty "list") (by rfl) T.m_list (by decide +kernel) rfl) (pa_cons (pe_bltn (v := .ty "tuple") (by rfl) T.m_tuple (by decide +kernel) rfl) pa_nil))) pa_nil))))) (pw_or (pt_cmpR op_lt (pe_callB call_len_seq (by rfl) T.m_len PySem.boot_len (pa_cons (pv 2) pa_nil)) pe_int (nomark _)) (pw_or1 (pt_cmpR op_gt (pe_callB call_len_seq (by rfl) T.m_len PySem.boot_len (pa_cons (pv 2) pa_nil)) pe_int (nomark _)))))) (pss_one (ps_ret pe_bl)) pss_nil)
  (pss_cons (ps_for PassesOwn.never rfl (pi_range1 (by rfl) T.m_range (pa_cons (pe_callB call_len_seq (by rfl) T.m_len PySem.boot_len (pa_cons (pv 2) pa_nil)) pa_nil)) (pg_name (i := 3) sc__law_is_walk.nd rfl (.inl rfl))
   (pss_cons (ps_if (pt_not (pt_val (pe_call (ok__law_is_spot T) (hr.mono (by decide)) (by rfl) T.g__law_is_spot T.F__law_is_spot.kp T.b__law_is_spot .nil pass0 (pa_cons (pv 0) (pa_cons (pv 1) (pa_cons (pe_ix (ix_list.or ix_tup) (pv 2) (pv 3) (fun _ _ => rfl)) pa_nil)))))) (pss_one (ps_ret pe_bl)) pss_nil)
  (pss_cons (ps_if (PW.pt (pw_and (pt_cmpR op_eq (pv 3) pe_int (nomark _)) (pw_and1 (pt_cmpR op_ne (pe_ix ix_tup (pe_ix (ix_list.or ix_tup) (pv 2) (pv 3) (fun _ _ => rfl)) pe_int (fun _ _ => rfl)) pe_int (nomark _))))) (pss_one (ps_ret pe_bl)) pss_nil)
  (pss_one (ps_if (pt_cmpR op_gt (pv 3) pe_int (nomark _)) (pss_cons (ps_set (i := 4) sc__law_is_walk.nd rfl (.inl rfl) (pe_ix (ix_list.or ix_tup) (pv 2) (pe_op op_sub (pv 3) pe_int) (fun _ _ => rfl)))
  (pss_cons (ps_if (PW.pt (pw_and (pt_cmpR op_eq (pe_ix ix_tup (pe_ix (ix_list.or ix_tup) (pv 2) (pv 3) (fun _ _ => rfl)) pe_int (fun _ _ => rfl)) pe_int (nomark _)) (pw_and1 (pt_cmpR op_gt (pe_ix ix_tup (pe_ix (ix_list.or ix_tup) (pv 2) (pv 3) (fun _ _ => rfl)) pe_int (fun _ _ => rfl)) (pe_ix ix_tup (pv 4) pe_int (fun _ _ => rfl)) (nomark _))))) (pss_one (ps_ret pe_bl)) pss_nil)
  (pss_one (ps_if (PW.pt (pw_and (pt_cmpR op_gt (pe_ix ix_tup (pe_ix (ix_list.or ix_tup) (pv 2) (pv 3) (fun _ _ => rfl)) pe_int (fun _ _ => rfl)) pe_int (nomark _)) (pw_and1 (pt_cmpR (op_neD hr.units) (pe_ix (ix_list.or ix_tup) (pv 2) (pv 3) (fun _ _ => rfl)) (pe_tup (pa_cons (pe_op op_add (pe_ix ix_tup (pv 4) pe_int (fun _ _ => rfl)) pe_int) (pa_cons (pe_op op_add (pe_ix ix_tup (pv 4) pe_int (fun _ _ => rfl)) pe_int) pa_nil))) (nomark _))))) (pss_one (ps_ret pe_bl)) pss_nil)))) pss_nil)))))
  (pss_one (ps_ret pe_bl))))), ?_⟩
    refine ⟨v, rfl, by show 2 ≤ sizeLine; decide, fun tp ntp => ?_⟩
    have s1 := same_upd (o := .tup [V.ty "list", .ty "tuple"]) ntp
    refine ⟨v, tp, _, _, [.type "list", .type "tuple"], _, rfl, upd_same, .cons (.ty _) (.cons (.ty _) .nil), (od.mono s1).ty, kit_items d, _, rfl, ?_⟩
    cases ci : itemsD d with
    | none =>
      have q' := q _ s1
      unfold walkD at q'
      rw [ci] at q'
      exact iteT (iteT q')
    | some ds =>
      obtain ⟨κ, L, xs, rfl, eL, oa, ed⟩ := items_of od ci
      have zl := oa.len
      have ef : few d = decide (ds.length ≤ 60) := by
        unfold few
        rw [ci]
      rw [ef] at q
      refine iteF ⟨.ref L, rfl, L, _, rfl, (eL.same s1).len, _, 1, rfl, rfl, decide (((xs.length : Nat) : Int) < 1), rfl, ?_⟩
      by_cases c1 : ((xs.length : Nat) : Int) < 1
      · rw [decide_eq_true c1]
        have e0 : ds = [] := List.eq_nil_of_length_eq_zero (by omega)
        have ew : walkD k b d = false := by
          unfold walkD
          rw [ci, e0]
        rw [ew, Bool.false_and] at q
        exact iteT (iteT (q _ s1))
      · rw [decide_eq_false c1]
        refine iteF ⟨.ref L, rfl, L, _, rfl, (eL.same s1).len, _, 60, rfl, rfl, decide (((xs.length : Nat) : Int) > 60), rfl, ?_⟩
        by_cases c60 : ((xs.length : Nat) : Int) > 60
        · rw [decide_eq_true c60]
          rw [decide_eq_false (by omega : ¬ ds.length ≤ 60), Bool.and_false] at q
          exact iteT (q _ s1)
        · rw [decide_eq_false c60]
          rw [decide_eq_true (by omega : ds.length ≤ 60), Bool.and_true] at q
          obtain ⟨W, hW⟩ : ∃ W, W = walkD k b d := ⟨_, rfl⟩
          rw [← hW] at q
          refine iteF ⟨.ref L, rfl, L, _, rfl, (eL.same s1).len, _, rfl, by omega, by omega, for_range (lo := 0) (n := (((xs.length : Nat) : Int)).toNat)
            (fun i σ H' => ∃ y3 y4, σ = [some (.int k), some (.int b), some (.ref L), y3, y4] ∧ Same H H' ∧ (i = 0 ∨ ∃ j s dj, i = j + 1 ∧ ds[j]? = some dj ∧ pairD dj = some s ∧ spotB k b s = true ∧ W = walkFrom k b s (ds.drop (j + 1))))
            ⟨_, _, rfl, s1, .inl rfl⟩ (fun i σ H' hi h => ?_) (fun σ H' h => ?_)⟩
          · obtain ⟨y3, y4, rfl, sm, iv⟩ := h
            have hi' : i < ds.length := by omega
            obtain ⟨x, hx⟩ : ∃ x, xs[i]? = some x := ⟨_, List.getElem?_eq_getElem (by omega)⟩
            obtain ⟨di, hdi, odi⟩ := oa.get hx
            rw [Int.zero_add]
            have gx := fun {H2 : Hp} (s2 : Same H H2) {Q2 : VK} (qq : Q2 x H2) => ixK (K := K) (Q := Q2) (eL.same s2) (atI_nat hx) qq
            refine ⟨.int k, rfl, .int b, rfl, .ref L, rfl, .int (i : Int), rfl, gx sm ⟨k, b, x, di, rfl, odi.mono sm, _, rfl, ?_⟩⟩
            cases cs : spotD k b di with
            | false =>
              have eW : W = false := by
                rcases iv with rfl | ⟨j, s, dj, rfl, hdj, ps, sb, ew⟩
                · rw [hW, walkD_at ci hdi, cs]
                  rfl
                · rw [ew, walk_step hdi, next_spot cs]
                  rfl
              have q' := q H' sm
              rw [eW] at q'
              exact iteT q'
            | true =>
              obtain ⟨a1, b1, rfl, sb1⟩ := spot_of cs
              obtain ⟨p, rfl, hp⟩ := pair_sq odi
              have t1 := spot_turn sb1
              refine iteF ?_
              rcases iv with rfl | ⟨j, s, dj, rfl, hdj, ps, sb, ew⟩
              · have eW : W = (decide (b1 = 1) && walkFrom k b (a1, b1) (ds.drop 1)) := by
                  rw [hW, walkD_at ci hdi, cs]
                  rfl
                refine ⟨_, rfl, rfl, true, eqTi rfl, iteT ⟨.ref L, rfl, .int ((0 : Nat) : Int), rfl, gx sm ⟨p, _, 1, .int b1, rfl, rfl, sT sm hp, atI_nat (j := 1) rfl, rfl, ?_⟩⟩⟩
                by_cases cb : b1 = 1
                · rw [decide_eq_true cb, Bool.true_and] at eW
                  refine ⟨false, ne_no cb, iteF ⟨_, rfl, _, _, rfl, rfl, _, rfl, ite2 (fun c => absurd (of_decide_eq_true c) (by decide)) (fun _ => ?_)⟩⟩
                  exact ⟨_, _, rfl, sm, .inr ⟨0, (a1, b1), _, rfl, hdi, rfl, sb1, eW⟩⟩
                · rw [decide_eq_false cb, Bool.false_and] at eW
                  have q' := q H' sm
                  rw [eW] at q'
                  refine ⟨true, ?_, iteT q'⟩
                  show V.bl (!decide (V.int b1 = V.int 1)) = _
                  rw [decide_eq_false fun z => cb (V.int.inj z)]
                  rfl
              · have eW : W = (nextB k b s (a1, b1) && walkFrom k b (a1, b1) (ds.drop (j + 1 + 1))) := by
                  rw [ew, walk_step hdi]
                  rfl
                have eN : nextB k b s (a1, b1) = (decide (((a1, b1) : Wk.Spt) = (s.1 + 1, s.2 + 1)) || (decide (b1 = 1) && decide (a1 ≤ s.1))) := by
                  unfold nextB
                  rw [sb1]
                  rfl
                have t0 := spot_turn sb
                obtain ⟨xj, hxj⟩ : ∃ xj, xs[j]? = some xj := ⟨_, List.getElem?_eq_getElem (by omega)⟩
                obtain ⟨dj', hdj', odj⟩ := oa.get hxj
                rw [hdj] at hdj'
                cases hdj'
                have edj := pairD_of ps
                subst edj
                obtain ⟨pj, rfl, hpj⟩ := pair_sq odj
                obtain ⟨s0, s1'⟩ := s
                have i0 : ((j + 1 : Nat) : Int) ≠ 0 := by omega
                have i1 : ((j + 1 : Nat) : Int) > 0 := by omega
                have stop : W = false → Q (.bl false) H' := fun e => by
                  have q' := q H' sm
                  rw [e] at q'
                  exact q'
                refine ⟨_, rfl, rfl, false, eqFi i0, iteF ⟨_, rfl, _, _, rfl, rfl, true, congrArg V.bl (decide_eq_true i1), iteT ?_⟩⟩
                refine ⟨.ref L, rfl, .int ((j + 1 : Nat) : Int), rfl, _, _, rfl, rfl, ixK (eL.same sm) (atI_of (by omega) (by rw [show (((j + 1 : Nat) : Int) - 1).toNat = j by omega]; exact hxj)) ?_⟩
                refine ⟨.ref L, rfl, .int ((j + 1 : Nat) : Int), rfl, gx sm ⟨p, _, 1, .int b1, rfl, rfl, sT sm hp, atI_nat (j := 1) rfl, rfl, ?_⟩⟩
                by_cases cb : b1 = 1
                · have neq : ¬ ((a1, b1) : Wk.Spt) = (s0 + 1, s1' + 1) := fun z => by
                    have z2 := congrArg Prod.snd z
                    have z3 : b1 = s1' + 1 := z2
                    have t0' : 1 ≤ s1' := t0
                    omega
                  have eN' : nextB k b (s0, s1') (a1, b1) = decide (a1 ≤ s0) := by
                    rw [eN, decide_eq_false neq, decide_eq_true cb, Bool.false_or, Bool.true_and]
                  refine ⟨true, congrArg V.bl (decide_eq_true (congrArg V.int cb)), iteT ⟨.ref L, rfl, .int ((j + 1 : Nat) : Int), rfl, gx sm ⟨p, _, 0, .int a1, rfl, rfl, sT sm hp, atI_nat (j := 0) rfl, .ref pj, rfl, pj, _, 0, .int s0, rfl, rfl, sT sm hpj, atI_nat (j := 0) rfl, _, _, rfl, rfl, ?_⟩⟩⟩
                  by_cases ca : a1 > s0
                  · refine ⟨true, congrArg V.bl (decide_eq_true ca), iteT (stop ?_)⟩
                    rw [eW, eN', decide_eq_false (by omega), Bool.false_and]
                  · refine ⟨false, congrArg V.bl (decide_eq_false ca), iteF ⟨.ref L, rfl, .int ((j + 1 : Nat) : Int), rfl, gx sm ⟨p, _, 1, .int b1, rfl, rfl, sT sm hp, atI_nat (j := 1) rfl, _, _, rfl, rfl, false, congrArg V.bl (decide_eq_false (by omega)), iteF ?_⟩⟩⟩
                    refine ⟨_, _, rfl, sm, .inr ⟨j + 1, (a1, b1), _, rfl, hdi, rfl, sb1, ?_⟩⟩
                    rw [eW, eN', decide_eq_true (by omega), Bool.true_and]
                · have t2 : 1 ≤ b1 := spot_turn sb1
                  have eN' : nextB k b (s0, s1') (a1, b1) = decide (((a1, b1) : Wk.Spt) = (s0 + 1, s1' + 1)) := by
                    rw [eN, decide_eq_false cb, Bool.false_and, Bool.or_false]
                  refine ⟨false, eqFi cb, iteF ⟨.ref L, rfl, .int ((j + 1 : Nat) : Int), rfl, gx sm ⟨p, _, 1, .int b1, rfl, rfl, sT sm hp, atI_nat (j := 1) rfl, _, _, rfl, rfl, true, congrArg V.bl (decide_eq_true (by omega)), iteT ?_⟩⟩⟩
                  refine ⟨.ref L, rfl, .int ((j + 1 : Nat) : Int), rfl, gx sm ⟨.ref pj, rfl, pj, _, 0, .int s0, rfl, rfl, sT sm hpj, atI_nat (j := 0) rfl, _, _, rfl, rfl, .ref pj, rfl, pj, _, 1, .int s1', rfl, rfl, sT sm hpj, atI_nat (j := 1) rfl, _, _, rfl, rfl, by show 2 ≤ sizeLine; decide, fun u nu => ?_⟩⟩
                  have su := same_upd (o := .tup [V.int (s0 + 1), .int (s1' + 1)]) nu
                  refine ⟨dI [a1, b1], dI [s0 + 1, s1' + 1], dp_dI (sT su (sT sm hp)), dp_dI (SqT.of upd_same), (Shp.dI _).ok (by decide), (Shp.dI _).ok (by decide), ?_⟩
                  have e2 := two_eq (a1, b1) (s0 + 1, s1' + 1)
                  by_cases c : ((a1, b1) : Int × Int) = (s0 + 1, s1' + 1)
                  · rw [decide_eq_true c] at e2
                    refine ⟨false, congrArg (fun z => V.bl (!z)) e2, iteF ?_⟩
                    refine ⟨_, _, rfl, sm.trans su, .inr ⟨j + 1, (a1, b1), _, rfl, hdi, rfl, sb1, ?_⟩⟩
                    rw [eW, eN', show decide (((a1, b1) : Wk.Spt) = (s0 + 1, s1' + 1)) = true from decide_eq_true c, Bool.true_and]
                  · rw [decide_eq_false c] at e2
                    have eW0 : W = false := by
                      rw [eW, eN', show decide (((a1, b1) : Wk.Spt) = (s0 + 1, s1' + 1)) = false from decide_eq_false c, Bool.false_and]
                    have q' := q _ (sm.trans su)
                    rw [eW0] at q'
                    exact ⟨true, congrArg (fun z => V.bl (!z)) e2, iteT q'⟩
          · obtain ⟨y3, y4, rfl, sm, iv⟩ := h
            rcases iv with e | ⟨j, s, dj, e, hdj, ps, sb, ew⟩
            · omega
            · have q' := q H' sm
              rw [ew, ← e, show (((xs.length : Nat) : Int)).toNat = ds.length by omega, List.drop_length] at q'
              exact q'
theorem com_eq (k : Int) (d : PyData) : areIntsD 400 0 k d = comD k d := by
  cases d with
  | tuple ds =>
    show (decide ((ds.length : Int) ≤ 400) && ds.all (numD 0 k)) = (decide (ds.length ≤ 400) && ds.all (numD 0 k))
    rw [show decide ((ds.length : Int) ≤ 400) = decide (ds.length ≤ 400) from decide_eq_decide.mpr ⟨fun h => by omega, fun h => by omega⟩]
  | _ => rfl
def spDue (K : PySem.W.Frag) : Sp := fun vs H Q _ => ∃ (kd : Int) (a : Addr) (v1 v2 v3 v4 v5 : V) (d1 d2 d3 d4 d5 : PyData), vs = [.int kd, .ref a] ∧ (0 ≤ kd ∧ kd ≤ 7) ∧ H a = some (.dK (five v1 v2 v3 v4 v5)) ∧
  Od K H v1 d1 ∧ Od K H v2 d2 ∧ Od K H v3 d3 ∧ Od K H v4 d4 ∧ Od K H v5 d5 ∧ Lim2 d5 ∧ ∀ H', Same H H' → Q (.str (wordO (dueK kd d1 d2 d3 d4 d5))) H'
theorem ok__law_due (T : Tx K mg) : FnOk P w K mg base CX0 4 T.a__law_due T.d__law_due ["kind", "a"] (spDue K) := by
  refine T.F__law_due.ok sc__law_due (fun vs H Q E h => ?_) (fun cdv A outer s H vs Q E hr h => ?_)
  · obtain ⟨kd, a, v1, v2, v3, v4, v5, d1, d2, d3, d4, d5, rfl, _⟩ := h
    rfl
  · obtain ⟨kd, a, v1, v2, v3, v4, v5, d1, d2, d3, d4, d5, rfl, hk, ea, o1, o2, o3, o4, o5, l5, q⟩ := h
    refine ⟨_, ((pss_cons (ps_if (pt_not (pt_val (pe_call (ok__law_is_int T) (hr.mono (by decide)) (by rfl) T.g__law_is_int T.F__law_is_int.kp T.b__law_is_int .nil pass0 (pa_cons (pe_dget (by exact hu_of hr) (pv 1) pe_str (fun _ _ => rfl)) (pa_cons pe_int (pa_cons pe_int pa_nil)))))) (pss_one (ps_ret pe_str)) pss_nil)
  (pss_cons (ps_if (PW.pt (pw_and (pt_cmpR op_gt (pv 0) pe_int (nomark _)) (pw_and1 (pt_not (pt_val (pe_call (ok__law_is_int T) (hr.mono (by decide)) (by rfl) T.g__law_is_int T.F__law_is_int.kp T.b__law_is_int .nil pass0 (pa_cons (pe_dget (by exact hu_of hr) (pv 1) pe_str (fun _ _ => rfl)) (pa_cons pe_int (pa_cons pe_int pa_nil))))))))) (pss_one (ps_ret pe_str)) pss_nil)
  (pss_cons (ps_if (PW.pt (pw_and (pt_cmpR op_in_seq (pv 0) (pe_lst (pa_cons pe_int (pa_cons pe_int (pa_cons pe_int (pa_cons pe_int (pa_cons pe_int pa_nil)))))) (by rfl)) (pw_and1 (pt_not (pt_val (pe_call (ok__law_are_ints T) (hr.mono (by decide)) (by rfl) T.g__law_are_ints T.F__law_are_ints.kp T.b__law_are_ints .nil pass0 (pa_cons (pe_dget (by exact hu_of hr) (pv 1) pe_str (fun _ _ => rfl)) (pa_cons pe_int (pa_cons pe_int (pa_cons (pe_dget (by exact hu_of hr) (pv 1) pe_str (fun _ _ => rfl)) pa_nil)))))))))) (pss_one (ps_ret pe_str)) pss_nil)
  (pss_cons (ps_if (PW.pt (pw_and (pt_cmpR op_eq (pv 0) pe_int (nomark _)) (pw_and1 (pt_not (pt_val (pe_call (ok__law_is_spot T) (hr.mono (by decide)) (by rfl) T.g__law_is_spot T.F__law_is_spot.kp T.b__law_is_spot .nil pass0 (pa_cons (pe_dget (by exact hu_of hr) (pv 1) pe_str (fun _ _ => rfl)) (pa_cons (pe_dget (by exact hu_of hr) (pv 1) pe_str (fun _ _ => rfl)) (pa_cons (pe_dget (by exact hu_of hr) (pv 1) pe_str (fun _ _ => rfl)) pa_nil))))))))) (pss_one (ps_ret pe_str)) pss_nil)
  (pss_cons (ps_if (PW.pt (pw_and (pt_cmpR op_eq (pv 0) pe_int (nomark _)) (pw_and1 (pt_not (pt_val (pe_call (ok__law_is_walk T) (hr.mono (by decide)) (by rfl) T.g__law_is_walk T.F__law_is_walk.kp T.b__law_is_walk .nil pass0 (pa_cons (pe_dget (by exact hu_of hr) (pv 1) pe_str (fun _ _ => rfl)) (pa_cons (pe_dget (by exact hu_of hr) (pv 1) pe_str (fun _ _ => rfl)) (pa_cons (pe_dget (by exact hu_of hr) (pv 1) pe_str (fun _ _ => rfl)) pa_nil))))))))) (pss_one (ps_ret pe_str)) pss_nil)
  (pss_one (ps_ret pe_str)))))))), ?_⟩
    have gt : ∀ {H2 : Hp}, Same H H2 → DGet H2 a (V.str "comers") (some v1) ∧ DGet H2 a (V.str "bound") (some v2) ∧ DGet H2 a (V.str "comings") (some v3) ∧ DGet H2 a (V.str "spot") (some v4) ∧ DGet H2 a (V.str "walk") (some v5) := fun s => ⟨.inl ⟨_, .inr "comers", .inl (s _ _ ea), rfl, rfl⟩, .inl ⟨_, .inr "bound", .inl (s _ _ ea), rfl, rfl⟩, .inl ⟨_, .inr "comings", .inl (s _ _ ea), rfl, rfl⟩, .inl ⟨_, .inr "spot", .inl (s _ _ ea), rfl, rfl⟩, .inl ⟨_, .inr "walk", .inl (s _ _ ea), rfl, rfl⟩⟩
    have same : Same H H := fun _ _ e => e
    refine ⟨.ref a, rfl, a, v1, rfl, (gt same).1, v1, d1, 2, 4, rfl, o1, _, rfl, ?_⟩
    cases h1 : numD 2 4 d1 with
    | false =>
      have e : dueK kd d1 d2 d3 d4 d5 = some 0 := by
        unfold dueK
        split
        · unfold dueC
          rw [if_neg (by rw [h1]; exact Bool.false_ne_true)]
        · split
          · exact dueB_0 h1
          · split
            · exact dueB_0 h1
            · split
              · exact dueB_0 h1
              · exact dueB_0 h1
      have q' := q H same
      rw [e] at q'
      exact iteT q'
    | true =>
      obtain ⟨rfl, _, _, _⟩ := num_of o1 h1
      refine iteF ?_
      have tell : ∀ {H2 : Hp} {o : Option Nat}, Same H H2 → dueK kd d1 d2 d3 d4 d5 = o → Q (.str (wordO o)) H2 := fun s e => by
        have q' := q _ s
        rw [e] at q'
        exact q'
      have hk' : kd = 0 ∨ kd = 1 ∨ kd = 2 ∨ kd = 3 ∨ kd = 4 ∨ kd = 5 ∨ kd = 6 ∨ kd = 7 := by omega
      rcases hk' with rfl | rfl | rfl | rfl | rfl | rfl | rfl | rfl
      · have ek : dueK 0 d1 d2 d3 d4 d5 = dueC d1 d3 := by
          unfold dueK
          rw [if_pos rfl]
        refine ⟨_, rfl, _, _, rfl, rfl, false, congrArg V.bl (decide_eq_false (by decide)), iteF ?_⟩
        refine ⟨_, rfl, by show 5 ≤ sizeLine; decide, fun L nL => ?_⟩
        have sL := same_upd (o := .lst [V.int 0, .int 1, .int 2, .int 3, .int 6]) nL
        refine ⟨L, [V.int 0, .int 1, .int 2, .int 3, .int 6], rfl, .inl (SqL.of upd_same), rfl, rfl, true, rfl, iteT ?_⟩
        refine ⟨.ref a, rfl, a, v3, rfl, (gt sL).2.2.1, .ref a, rfl, a, _, rfl, (gt sL).1, v3, d3, 400, 0, intD d1, rfl, o3.mono sL, by decide, fun H2 s2 => ⟨_, rfl, ?_⟩⟩
        rw [com_eq]
        cases h3 : comD (intD d1) d3 with
        | false => exact iteT (tell (o := some 2) (sL.trans s2) (ek.trans (by unfold dueC; rw [if_pos h1, ifS h3])))
        | true =>
          refine iteF ⟨_, rfl, rfl, false, eqFi (by decide), iteF ⟨_, rfl, rfl, false, eqFi (by decide), iteF ?_⟩⟩
          exact tell (o := none) (sL.trans s2) (ek.trans (by unfold dueC; rw [if_pos h1, if_pos h3]))
      · have ek : dueK 1 d1 d2 d3 d4 d5 = due3 d1 d2 d3 := by
          unfold dueK
          rw [if_neg (by decide), if_neg (by decide), if_neg (by decide), if_neg (by decide)]
        refine ⟨_, rfl, _, _, rfl, rfl, true, congrArg V.bl (decide_eq_true (by decide)), iteT ⟨.ref a, rfl, a, v2, rfl, (gt same).2.1, v2, d2, 1, 60, rfl, o2, _, rfl, ?_⟩⟩
        cases h2 : numD 1 60 d2 with
        | false => exact iteT (tell (o := some 1) same (ek.trans (dueB_1 h1 h2)))
        | true =>
          obtain ⟨rfl, _, _, _⟩ := num_of o2 h2
          refine iteF ?_
          refine ⟨_, rfl, by show 5 ≤ sizeLine; decide, fun L nL => ?_⟩
          have sL := same_upd (o := .lst [V.int 0, .int 1, .int 2, .int 3, .int 6]) nL
          refine ⟨L, [V.int 0, .int 1, .int 2, .int 3, .int 6], rfl, .inl (SqL.of upd_same), rfl, rfl, true, rfl, iteT ?_⟩
          refine ⟨.ref a, rfl, a, v3, rfl, (gt sL).2.2.1, .ref a, rfl, a, _, rfl, (gt sL).1, v3, d3, 400, 0, intD d1, rfl, o3.mono sL, by decide, fun H2 s2 => ⟨_, rfl, ?_⟩⟩
          rw [com_eq]
          cases h3 : comD (intD d1) d3 with
          | false => exact iteT (tell (o := some 2) (sL.trans s2) (ek.trans ((dueB_ok h1 h2).trans (ifS h3))))
          | true =>
            refine iteF ⟨_, rfl, rfl, false, eqFi (by decide), iteF ⟨_, rfl, rfl, false, eqFi (by decide), iteF ?_⟩⟩
            exact tell (o := none) (sL.trans s2) (ek.trans ((dueB_ok h1 h2).trans (by rw [if_pos h3])))
      · have ek : dueK 2 d1 d2 d3 d4 d5 = due3 d1 d2 d3 := by
          unfold dueK
          rw [if_neg (by decide), if_neg (by decide), if_neg (by decide), if_neg (by decide)]
        refine ⟨_, rfl, _, _, rfl, rfl, true, congrArg V.bl (decide_eq_true (by decide)), iteT ⟨.ref a, rfl, a, v2, rfl, (gt same).2.1, v2, d2, 1, 60, rfl, o2, _, rfl, ?_⟩⟩
        cases h2 : numD 1 60 d2 with
        | false => exact iteT (tell (o := some 1) same (ek.trans (dueB_1 h1 h2)))
        | true =>
          obtain ⟨rfl, _, _, _⟩ := num_of o2 h2
          refine iteF ?_
          refine ⟨_, rfl, by show 5 ≤ sizeLine; decide, fun L nL => ?_⟩
          have sL := same_upd (o := .lst [V.int 0, .int 1, .int 2, .int 3, .int 6]) nL
          refine ⟨L, [V.int 0, .int 1, .int 2, .int 3, .int 6], rfl, .inl (SqL.of upd_same), rfl, rfl, true, rfl, iteT ?_⟩
          refine ⟨.ref a, rfl, a, v3, rfl, (gt sL).2.2.1, .ref a, rfl, a, _, rfl, (gt sL).1, v3, d3, 400, 0, intD d1, rfl, o3.mono sL, by decide, fun H2 s2 => ⟨_, rfl, ?_⟩⟩
          rw [com_eq]
          cases h3 : comD (intD d1) d3 with
          | false => exact iteT (tell (o := some 2) (sL.trans s2) (ek.trans ((dueB_ok h1 h2).trans (ifS h3))))
          | true =>
            refine iteF ⟨_, rfl, rfl, false, eqFi (by decide), iteF ⟨_, rfl, rfl, false, eqFi (by decide), iteF ?_⟩⟩
            exact tell (o := none) (sL.trans s2) (ek.trans ((dueB_ok h1 h2).trans (by rw [if_pos h3])))
      · have ek : dueK 3 d1 d2 d3 d4 d5 = due3 d1 d2 d3 := by
          unfold dueK
          rw [if_neg (by decide), if_neg (by decide), if_neg (by decide), if_neg (by decide)]
        refine ⟨_, rfl, _, _, rfl, rfl, true, congrArg V.bl (decide_eq_true (by decide)), iteT ⟨.ref a, rfl, a, v2, rfl, (gt same).2.1, v2, d2, 1, 60, rfl, o2, _, rfl, ?_⟩⟩
        cases h2 : numD 1 60 d2 with
        | false => exact iteT (tell (o := some 1) same (ek.trans (dueB_1 h1 h2)))
        | true =>
          obtain ⟨rfl, _, _, _⟩ := num_of o2 h2
          refine iteF ?_
          refine ⟨_, rfl, by show 5 ≤ sizeLine; decide, fun L nL => ?_⟩
          have sL := same_upd (o := .lst [V.int 0, .int 1, .int 2, .int 3, .int 6]) nL
          refine ⟨L, [V.int 0, .int 1, .int 2, .int 3, .int 6], rfl, .inl (SqL.of upd_same), rfl, rfl, true, rfl, iteT ?_⟩
          refine ⟨.ref a, rfl, a, v3, rfl, (gt sL).2.2.1, .ref a, rfl, a, _, rfl, (gt sL).1, v3, d3, 400, 0, intD d1, rfl, o3.mono sL, by decide, fun H2 s2 => ⟨_, rfl, ?_⟩⟩
          rw [com_eq]
          cases h3 : comD (intD d1) d3 with
          | false => exact iteT (tell (o := some 2) (sL.trans s2) (ek.trans ((dueB_ok h1 h2).trans (ifS h3))))
          | true =>
            refine iteF ⟨_, rfl, rfl, false, eqFi (by decide), iteF ⟨_, rfl, rfl, false, eqFi (by decide), iteF ?_⟩⟩
            exact tell (o := none) (sL.trans s2) (ek.trans ((dueB_ok h1 h2).trans (by rw [if_pos h3])))
      · have ek : dueK 4 d1 d2 d3 d4 d5 = dueB d1 d2 none := by
          unfold dueK
          rw [if_neg (by decide), if_pos rfl]
        refine ⟨_, rfl, _, _, rfl, rfl, true, congrArg V.bl (decide_eq_true (by decide)), iteT ⟨.ref a, rfl, a, v2, rfl, (gt same).2.1, v2, d2, 1, 60, rfl, o2, _, rfl, ?_⟩⟩
        cases h2 : numD 1 60 d2 with
        | false => exact iteT (tell (o := some 1) same (ek.trans (dueB_1 h1 h2)))
        | true =>
          obtain ⟨rfl, _, _, _⟩ := num_of o2 h2
          refine iteF ?_
          refine ⟨_, rfl, by show 5 ≤ sizeLine; decide, fun L nL => ?_⟩
          have sL := same_upd (o := .lst [V.int 0, .int 1, .int 2, .int 3, .int 6]) nL
          refine ⟨L, [V.int 0, .int 1, .int 2, .int 3, .int 6], rfl, .inl (SqL.of upd_same), rfl, rfl, false, rfl, iteF ?_⟩
          refine ⟨_, rfl, rfl, false, eqFi (by decide), iteF ⟨_, rfl, rfl, false, eqFi (by decide), iteF ?_⟩⟩
          exact tell (o := none) sL (ek.trans (dueB_ok h1 h2))
      · have ek : dueK 5 d1 d2 d3 d4 d5 = dueS d1 d2 d4 := by
          unfold dueK
          rw [if_neg (by decide), if_neg (by decide), if_pos rfl]
        refine ⟨_, rfl, _, _, rfl, rfl, true, congrArg V.bl (decide_eq_true (by decide)), iteT ⟨.ref a, rfl, a, v2, rfl, (gt same).2.1, v2, d2, 1, 60, rfl, o2, _, rfl, ?_⟩⟩
        cases h2 : numD 1 60 d2 with
        | false => exact iteT (tell (o := some 1) same (ek.trans (dueB_1 h1 h2)))
        | true =>
          obtain ⟨rfl, _, _, _⟩ := num_of o2 h2
          refine iteF ?_
          refine ⟨_, rfl, by show 5 ≤ sizeLine; decide, fun L nL => ?_⟩
          have sL := same_upd (o := .lst [V.int 0, .int 1, .int 2, .int 3, .int 6]) nL
          refine ⟨L, [V.int 0, .int 1, .int 2, .int 3, .int 6], rfl, .inl (SqL.of upd_same), rfl, rfl, false, rfl, iteF ?_⟩
          refine ⟨_, rfl, rfl, true, eqTi rfl, iteT ⟨.ref a, rfl, a, _, rfl, (gt sL).1, .ref a, rfl, a, _, rfl, (gt sL).2.1, .ref a, rfl, a, v4, rfl, (gt sL).2.2.2.1, intD d1, intD d2, v4, d4, rfl, o4.mono sL, _, rfl, ?_⟩⟩
          cases h4 : spotD (intD d1) (intD d2) d4 with
          | false => exact iteT (tell (o := some 3) sL (ek.trans ((dueB_ok h1 h2).trans (ifS h4))))
          | true =>
            refine iteF ⟨_, rfl, rfl, false, eqFi (by decide), iteF ?_⟩
            exact tell (o := none) sL (ek.trans ((dueB_ok h1 h2).trans (by rw [if_pos h4])))
      · have ek : dueK 6 d1 d2 d3 d4 d5 = due3 d1 d2 d3 := by
          unfold dueK
          rw [if_neg (by decide), if_neg (by decide), if_neg (by decide), if_neg (by decide)]
        refine ⟨_, rfl, _, _, rfl, rfl, true, congrArg V.bl (decide_eq_true (by decide)), iteT ⟨.ref a, rfl, a, v2, rfl, (gt same).2.1, v2, d2, 1, 60, rfl, o2, _, rfl, ?_⟩⟩
        cases h2 : numD 1 60 d2 with
        | false => exact iteT (tell (o := some 1) same (ek.trans (dueB_1 h1 h2)))
        | true =>
          obtain ⟨rfl, _, _, _⟩ := num_of o2 h2
          refine iteF ?_
          refine ⟨_, rfl, by show 5 ≤ sizeLine; decide, fun L nL => ?_⟩
          have sL := same_upd (o := .lst [V.int 0, .int 1, .int 2, .int 3, .int 6]) nL
          refine ⟨L, [V.int 0, .int 1, .int 2, .int 3, .int 6], rfl, .inl (SqL.of upd_same), rfl, rfl, true, rfl, iteT ?_⟩
          refine ⟨.ref a, rfl, a, v3, rfl, (gt sL).2.2.1, .ref a, rfl, a, _, rfl, (gt sL).1, v3, d3, 400, 0, intD d1, rfl, o3.mono sL, by decide, fun H2 s2 => ⟨_, rfl, ?_⟩⟩
          rw [com_eq]
          cases h3 : comD (intD d1) d3 with
          | false => exact iteT (tell (o := some 2) (sL.trans s2) (ek.trans ((dueB_ok h1 h2).trans (ifS h3))))
          | true =>
            refine iteF ⟨_, rfl, rfl, false, eqFi (by decide), iteF ⟨_, rfl, rfl, false, eqFi (by decide), iteF ?_⟩⟩
            exact tell (o := none) (sL.trans s2) (ek.trans ((dueB_ok h1 h2).trans (by rw [if_pos h3])))
      · have ek : dueK 7 d1 d2 d3 d4 d5 = dueW d1 d2 d5 := by
          unfold dueK
          rw [if_neg (by decide), if_neg (by decide), if_neg (by decide), if_pos rfl]
        refine ⟨_, rfl, _, _, rfl, rfl, true, congrArg V.bl (decide_eq_true (by decide)), iteT ⟨.ref a, rfl, a, v2, rfl, (gt same).2.1, v2, d2, 1, 60, rfl, o2, _, rfl, ?_⟩⟩
        cases h2 : numD 1 60 d2 with
        | false => exact iteT (tell (o := some 1) same (ek.trans (dueB_1 h1 h2)))
        | true =>
          obtain ⟨rfl, _, _, _⟩ := num_of o2 h2
          refine iteF ?_
          refine ⟨_, rfl, by show 5 ≤ sizeLine; decide, fun L nL => ?_⟩
          have sL := same_upd (o := .lst [V.int 0, .int 1, .int 2, .int 3, .int 6]) nL
          refine ⟨L, [V.int 0, .int 1, .int 2, .int 3, .int 6], rfl, .inl (SqL.of upd_same), rfl, rfl, false, rfl, iteF ?_⟩
          refine ⟨_, rfl, rfl, false, eqFi (by decide), iteF ⟨_, rfl, rfl, true, eqTi rfl, iteT ⟨.ref a, rfl, a, _, rfl, (gt sL).1, .ref a, rfl, a, _, rfl, (gt sL).2.1, .ref a, rfl, a, v5, rfl, (gt sL).2.2.2.2, intD d1, intD d2, v5, d5, rfl, o5.mono sL, l5, fun H2 s2 => ⟨_, rfl, ?_⟩⟩⟩⟩
          cases h5 : (walkD (intD d1) (intD d2) d5 && few d5) with
          | false => exact iteT (tell (o := some 4) (sL.trans s2) (ek.trans ((dueB_ok h1 h2).trans (ifS h5))))
          | true => exact iteF (tell (o := none) (sL.trans s2) (ek.trans ((dueB_ok h1 h2).trans (by rw [if_pos h5]))))
end

/-! ### all but lists stays -/
def Nl (H H' : Hp) : Prop := ∀ b o, (∀ ys, o ≠ HO.lst ys) → H b = some o → H' b = some o
theorem Nl.trans {H H1 H2 : Hp} (a : Nl H H1) (b : Nl H1 H2) : Nl H H2 := fun c o n h => b c o n (a c o n h)
theorem Nl.moved {t s : Addr} {H H' : Hp} (tp : Tape H t s) (m : Moved t H H') : Nl H H' := fun b o n e => m b o (fun z => by
  obtain ⟨_, _, _, _, _, _, h2, _⟩ := tp
  rw [z, h2] at e
  exact n _ (Option.some.inj e).symm) e
theorem Nl.same {H H' : Hp} (m : Same H H') : Nl H H' := fun b o _ e => m b o e
theorem Nl.put {H : Hp} {L : Addr} {ys : List V} {o : HO} (h : H L = some (.lst ys)) : Nl H (upd H L o) := fun b o' n e => by
  rw [upd_ne (fun z => by rw [z, h] at e; exact n _ (Option.some.inj e).symm)]
  exact e
theorem sT_nl {K : PySem.W.Frag} {H H' : Hp} {a : Addr} {xs : List V} (h : SqT K H a xs) (e : Nl H H') : SqT K H' a xs :=
  h.elim (fun h => .inl (h.elim (fun h => .inl (e _ _ (fun _ z => by cases z) h)) fun ⟨o, h⟩ => .inr ⟨o, e _ _ (fun _ z => by cases z) h⟩)) fun h => .inr h

/-! ### odd things drawn -/
theorem noT {d : PyData} (h : ∀ ds, d ≠ .tuple ds) (g : ∀ ds, d ≠ .list ds) : Lim d ∧ Lim2 d := ⟨fun ds z => absurd z (h ds), fun ds z => z.elim (fun z => absurd z (h ds)) fun z => absurd z (g ds)⟩
theorem limN {d : PyData} (h : ∀ ds, d ≠ .tuple ds) : Lim d := fun ds z => absurd z (h ds)
theorem flT {ds : List PyData} (h : ds.length ≤ 1000) (g : ∀ x ∈ ds, ∀ es, x ≠ .tuple es) : Lim (.tuple ds) ∧ Lim2 (.tuple ds) := ⟨fun es z => by cases z; exact h, fun es z => by
  rcases z with z | z
  · cases z
    exact ⟨h, fun x hx => limN (g x hx)⟩
  · cases z⟩
theorem flL {ds : List PyData} (h : ds.length ≤ 1000) (g : ∀ x ∈ ds, ∀ es, x ≠ .tuple es) : Lim (.list ds) ∧ Lim2 (.list ds) := ⟨fun es z => (by cases z), fun es z => by
  rcases z with z | z
  · cases z
  · cases z
    exact ⟨h, fun x hx => limN (g x hx)⟩⟩
theorem rep_all {K : PySem.W.Frag} {H : Hp} (i : Int) : ∀ n : Nat, RO9.OdAll K H (List.replicate n [V.int i]).flatten (List.replicate n (PyData.int i))
  | 0 => .nil
  | n + 1 => .cons (.int i) (rep_all i n)
theorem repT {i k : Int} (hk : k ≤ 1000) (hi : -1000000000 ≤ i ∧ i ≤ 1000000000) : (Lim (.tuple (List.replicate k.toNat (.int i))) ∧ Lim2 (.tuple (List.replicate k.toNat (.int i)))) ∧ RO9.Ro 3 2000 (.tuple (List.replicate k.toNat (.int i))) :=
  ⟨flT (by rw [List.length_replicate]; omega) (fun x hx => by
    rw [(List.mem_replicate.mp hx).2]
    exact fun _ z => by cases z), (RO9.Ro.tup (k := 0) (n := 0) (fun d hd => by
      rw [(List.mem_replicate.mp hd).2]
      exact .int hi.1 hi.2) (by rw [List.length_replicate]; exact (Nat.le_refl _))).up (by decide) (by omega)⟩
/-- all but lists and dicts stays -/
def Nld (H H' : Hp) : Prop := ∀ b o, (∀ ys, o ≠ HO.lst ys) → (∀ kvs, o ≠ HO.dK kvs) → H b = some o → H' b = some o
theorem Nld.of {H H' : Hp} (n : Nl H H') : Nld H H' := fun b o h _ e => n b o h e
theorem Nld.trans {H H1 H2 : Hp} (a : Nld H H1) (b : Nld H1 H2) : Nld H H2 := fun c o n m h => b c o n m (a c o n m h)
theorem Nld.same {H H' : Hp} (s : Same H H') : Nld H H' := fun b o _ _ e => s b o e
theorem sT_nld {K : PySem.W.Frag} {H H' : Hp} {a : Addr} {xs : List V} (h : SqT K H a xs) (e : Nld H H') : SqT K H' a xs :=
  h.elim (fun h => .inl (h.elim (fun h => .inl (e _ _ (fun _ z => by cases z) (fun _ z => by cases z) h)) fun ⟨o, h⟩ => .inr ⟨o, e _ _ (fun _ z => by cases z) (fun _ z => by cases z) h⟩)) fun h => .inr h
theorem nTd {H H' : Hp} {b : Addr} {xs : List V} (n : Nld H H') (e : H b = some (.tup xs)) : H' b = some (.tup xs) := n _ _ (fun _ z => by cases z) (fun _ z => by cases z) e
theorem nT {H H' : Hp} {b : Addr} {xs : List V} (n : Nl H H') (e : H b = some (.tup xs)) : H' b = some (.tup xs) := n _ _ (fun _ z => by cases z) e
theorem nD {H H' : Hp} {b : Addr} {xs : List (Key × V)} (n : Nl H H') (e : H b = some (.dK xs)) : H' b = some (.dK xs) := n _ _ (fun _ z => by cases z) e
/-- what was new in H' behind H stays in H'' -/
def NewStays (H H' H'' : Hp) : Prop := ∀ b o, H b = none → H' b = some o → H'' b = some o
def odd1 (p1 p2 p3 p4 p5 p6 p8 p9 : Addr) : List V := [.non, .bl true, .bl false, .int 0, .int 1, .int 5, .int 61, .int (-1), .int (10 ^ Int.toNat 20), .str "", .str "2", .ref p1, .ref p2, .ref p3, .ref p4, .ref p5, .ref p6, .ref p8, .ref p9]
section
variable {P : Program} {w : World} {K : PySem.W.Frag} {mg : Str → Option Value} {base : Heap}
open RO9
def spOdd (K : PySem.W.Frag) : Sp := fun vs H Q _ => ∃ (t s : Addr), vs = [.ref t] ∧ Tape H t s ∧ ∀ (v : V) (d : PyData) H', (∀ H'', Nld H' H'' → NewStays H H' H'' → Od K H'' v d) → (Lim d ∧ Lim2 d) → Ro 3 2000 d → Moved t H H' → Tape H' t s → Q v H'
theorem ok__law_odd (T : Tx K mg) : FnOk P w K mg base CX0 2 T.a__law_odd T.d__law_odd ["tape"] (spOdd K) := by
  refine T.F__law_odd.ok sc__law_odd (fun vs H Q E h => ?_) (fun cdv A outer s H vs Q E hr h => ?_)
  · obtain ⟨t, sc, rfl, _⟩ := h
    rfl
  · obtain ⟨t, sc, rfl, tp, q⟩ := h
    refine ⟨_, ((pss_cons (ps_set (i := 1) sc__law_odd.nd rfl (.inl rfl) (pe_lst (pa_cons pe_non (pa_cons pe_bl (pa_cons pe_bl (pa_cons pe_int (pa_cons pe_int (pa_cons pe_int (pa_cons pe_int (pa_cons (pe_un un_neg pe_int) (pa_cons (pe_op op_pow pe_int pe_int) (pa_cons pe_str (pa_cons pe_str (pa_cons (pe_tup pa_nil) (pa_cons (pe_lst pa_nil) (pa_cons pe_dnewK (pa_cons (pe_tup (pa_cons pe_int pa_nil)) (pa_cons (pe_lst (pa_cons pe_int pa_nil)) (pa_cons (pe_tup (pa_cons pe_int (pa_cons pe_int pa_nil))) (pa_cons (pe_lst (pa_cons (pe_lst (pa_cons pe_int pa_nil)) (pa_cons pe_int pa_nil))) (pa_cons (pe_disp (pps_cons pe_str pe_int pps_nil) (by rfl) rfl (by simp) (by decide)) pa_nil)))))))))))))))))))))
  (pss_cons (ps_set (i := 1) sc__law_odd.nd rfl (.inl rfl) (pe_op op_cat (pv 1) (pe_lst (pa_cons (pe_tup (pa_cons pe_bl pa_nil)) (pa_cons (pe_tup (pa_cons pe_int (pa_cons pe_non pa_nil))) (pa_cons (pe_tup (pa_cons pe_int (pa_cons pe_str pa_nil))) (pa_cons (pe_tup (pa_cons (pe_tup (pa_cons pe_int (pa_cons pe_int pa_nil))) pa_nil)) (pa_cons (pe_op RN6.op_repN (pe_tup (pa_cons pe_int pa_nil)) pe_int) (pa_cons (pe_op RN6.op_repN (pe_tup (pa_cons pe_int pa_nil)) pe_int) (pa_cons (pe_tup (pa_cons pe_int pa_nil)) (pa_cons (pe_tup (pa_cons pe_int (pa_cons pe_int pa_nil))) pa_nil)))))))))))
  (pss_one (ps_ret (pe_ix ix_list (pv 1) (pe_call (ok__law_pick T) (hr.mono (by decide)) (by rfl) T.g__law_pick T.F__law_pick.kp T.b__law_pick .nil pass0 (pa_cons (pv 0) (pa_cons (pe_callB call_len_seq (by rfl) T.m_len PySem.boot_len (pa_cons (pv 1) pa_nil)) pa_nil))) (fun _ _ => rfl))))))), ?_⟩
    refine ⟨1, rfl, 10, 20, rfl, rfl, ⟨by decide, by decide, by decide⟩, Nat.zero_le _, fun p1 np1 => ?_⟩
    have s1 : Same H (upd H p1 (.tup [])) := same_upd np1
    have e1 : upd H p1 (.tup []) p1 = some (.tup []) := upd_same
    generalize upd H p1 (.tup []) = H1 at *
    refine ⟨Nat.zero_le _, fun p2 np2 => ?_⟩
    have s2 : Same H1 (upd H1 p2 (.lst [])) := same_upd np2
    have e2 : upd H1 p2 (.lst []) p2 = some (.lst []) := upd_same
    generalize upd H1 p2 (.lst []) = H2 at *
    refine fun p3 np3 => ?_
    have s3 : Same H2 (upd H2 p3 (.dK [])) := same_upd np3
    have e3 : upd H2 p3 (.dK []) p3 = some (.dK []) := upd_same
    generalize upd H2 p3 (.dK []) = H3 at *
    refine ⟨by show 1 ≤ sizeLine; decide, fun p4 np4 => ?_⟩
    have s4 : Same H3 (upd H3 p4 (.tup [V.int 1])) := same_upd np4
    have e4 : upd H3 p4 (.tup [V.int 1]) p4 = some (.tup [V.int 1]) := upd_same
    generalize upd H3 p4 (.tup [V.int 1]) = H4 at *
    refine ⟨by show 1 ≤ sizeLine; decide, fun p5 np5 => ?_⟩
    have s5 : Same H4 (upd H4 p5 (.lst [V.int 2])) := same_upd np5
    have e5 : upd H4 p5 (.lst [V.int 2]) p5 = some (.lst [V.int 2]) := upd_same
    generalize upd H4 p5 (.lst [V.int 2]) = H5 at *
    refine ⟨by show 2 ≤ sizeLine; decide, fun p6 np6 => ?_⟩
    have s6 : Same H5 (upd H5 p6 (.tup [V.int 0, .int 1])) := same_upd np6
    have e6 : upd H5 p6 (.tup [V.int 0, .int 1]) p6 = some (.tup [V.int 0, .int 1]) := upd_same
    generalize upd H5 p6 (.tup [V.int 0, .int 1]) = H6 at *
    refine ⟨by show 1 ≤ sizeLine; decide, fun p7 np7 => ?_⟩
    have s7 : Same H6 (upd H6 p7 (.lst [V.int 1])) := same_upd np7
    have e7 : upd H6 p7 (.lst [V.int 1]) p7 = some (.lst [V.int 1]) := upd_same
    generalize upd H6 p7 (.lst [V.int 1]) = H7 at *
    refine ⟨by show 2 ≤ sizeLine; decide, fun p8 np8 => ?_⟩
    have s8 : Same H7 (upd H7 p8 (.lst [V.ref p7, .int 2])) := same_upd np8
    have e8 : upd H7 p8 (.lst [V.ref p7, .int 2]) p8 = some (.lst [V.ref p7, .int 2]) := upd_same
    generalize upd H7 p8 (.lst [V.ref p7, .int 2]) = H8 at *
    refine fun p9 np9 => ⟨upd_same, [(.inr "a", .int 1)], rfl, by decide, ?_⟩
    have s9 : Same H8 (upd (upd H8 p9 (.dK [])) p9 (.dK (mergeK [] [(.inr "a", .int 1)]))) := fun b o e => by
      rw [upd_ne (ne_of_none e np9), upd_ne (ne_of_none e np9)]
      exact e
    have e9 : (upd (upd H8 p9 (.dK [])) p9 (.dK (mergeK [] [(.inr "a", .int 1)]))) p9 = some (.dK [(.inr "a", .int 1)]) := upd_same
    generalize (upd (upd H8 p9 (.dK [])) p9 (.dK (mergeK [] [(.inr "a", .int 1)]))) = H9 at *
    refine ⟨by show 19 ≤ sizeLine; decide, fun p10 np10 => ?_⟩
    dsimp only
    have s10 : Same H9 (upd H9 p10 (.lst (odd1 p1 p2 p3 p4 p5 p6 p8 p9))) := same_upd np10
    have e10 : upd H9 p10 (.lst (odd1 p1 p2 p3 p4 p5 p6 p8 p9)) p10 = some (.lst (odd1 p1 p2 p3 p4 p5 p6 p8 p9)) := upd_same
    unfold odd1 at s10 e10
    generalize upd H9 p10 (.lst [.non, .bl true, .bl false, .int 0, .int 1, .int 5, .int 61, .int (-1), .int (10 ^ Int.toNat 20), .str "", .str "2", .ref p1, .ref p2, .ref p3, .ref p4, .ref p5, .ref p6, .ref p8, .ref p9]) = H10 at *
    refine ⟨.ref p10, rfl, by show 1 ≤ sizeLine; decide, fun p11 np11 => ?_⟩
    have s11 : Same H10 (upd H10 p11 (.tup [V.bl true])) := same_upd np11
    have e11 : upd H10 p11 (.tup [V.bl true]) p11 = some (.tup [V.bl true]) := upd_same
    generalize upd H10 p11 (.tup [V.bl true]) = H11 at *
    refine ⟨by show 2 ≤ sizeLine; decide, fun p12 np12 => ?_⟩
    have s12 : Same H11 (upd H11 p12 (.tup [V.int 2, .non])) := same_upd np12
    have e12 : upd H11 p12 (.tup [V.int 2, .non]) p12 = some (.tup [V.int 2, .non]) := upd_same
    generalize upd H11 p12 (.tup [V.int 2, .non]) = H12 at *
    refine ⟨by show 2 ≤ sizeLine; decide, fun p13 np13 => ?_⟩
    have s13 : Same H12 (upd H12 p13 (.tup [V.int 1, .str "1"])) := same_upd np13
    have e13 : upd H12 p13 (.tup [V.int 1, .str "1"]) p13 = some (.tup [V.int 1, .str "1"]) := upd_same
    generalize upd H12 p13 (.tup [V.int 1, .str "1"]) = H13 at *
    refine ⟨by show 2 ≤ sizeLine; decide, fun p14 np14 => ?_⟩
    have s14 : Same H13 (upd H13 p14 (.tup [V.int 1, .int 2])) := same_upd np14
    have e14 : upd H13 p14 (.tup [V.int 1, .int 2]) p14 = some (.tup [V.int 1, .int 2]) := upd_same
    generalize upd H13 p14 (.tup [V.int 1, .int 2]) = H14 at *
    refine ⟨by show 1 ≤ sizeLine; decide, fun p15 np15 => ?_⟩
    have s15 : Same H14 (upd H14 p15 (.tup [V.ref p14])) := same_upd np15
    have e15 : upd H14 p15 (.tup [V.ref p14]) p15 = some (.tup [V.ref p14]) := upd_same
    generalize upd H14 p15 (.tup [V.ref p14]) = H15 at *
    refine ⟨by show 1 ≤ sizeLine; decide, fun p16 np16 => ?_⟩
    have s16 : Same H15 (upd H15 p16 (.tup [V.int 0])) := same_upd np16
    have e16 : upd H15 p16 (.tup [V.int 0]) p16 = some (.tup [V.int 0]) := upd_same
    generalize upd H15 p16 (.tup [V.int 0]) = H16 at *
    refine ⟨p16, 401, _, rfl, rfl, SqT.of e16, by decide, by decide, by show 1 ≤ 1000; decide, fun p17 H17 s17 h17 => ?_⟩
    refine ⟨by show 1 ≤ sizeLine; decide, fun p18 np18 => ?_⟩
    have s18 : Same H17 (upd H17 p18 (.tup [V.int 1])) := same_upd np18
    have e18 : upd H17 p18 (.tup [V.int 1]) p18 = some (.tup [V.int 1]) := upd_same
    generalize upd H17 p18 (.tup [V.int 1]) = H18 at *
    refine ⟨p18, 9, _, rfl, rfl, SqT.of e18, by decide, by decide, by show 1 ≤ 1000; decide, fun p19 H19 s19 h19 => ?_⟩
    refine ⟨by show 1 ≤ sizeLine; decide, fun p20 np20 => ?_⟩
    have s20 : Same H19 (upd H19 p20 (.tup [V.int 41])) := same_upd np20
    have e20 : upd H19 p20 (.tup [V.int 41]) p20 = some (.tup [V.int 41]) := upd_same
    generalize upd H19 p20 (.tup [V.int 41]) = H20 at *
    refine ⟨by show 2 ≤ sizeLine; decide, fun p21 np21 => ?_⟩
    have s21 : Same H20 (upd H20 p21 (.tup [V.int 1, .int 0])) := same_upd np21
    have e21 : upd H20 p21 (.tup [V.int 1, .int 0]) p21 = some (.tup [V.int 1, .int 0]) := upd_same
    generalize upd H20 p21 (.tup [V.int 1, .int 0]) = H21 at *
    refine ⟨by show 8 ≤ sizeLine; decide, fun p22 np22 => ?_⟩
    have s22 : Same H21 (upd H21 p22 (.lst [V.ref p11, .ref p12, .ref p13, .ref p15, .ref p17, .ref p19, .ref p20, .ref p21])) := same_upd np22
    have e22 : upd H21 p22 (.lst [V.ref p11, .ref p12, .ref p13, .ref p15, .ref p17, .ref p19, .ref p20, .ref p21]) p22 = some (.lst [V.ref p11, .ref p12, .ref p13, .ref p15, .ref p17, .ref p19, .ref p20, .ref p21]) := upd_same
    generalize upd H21 p22 (.lst [V.ref p11, .ref p12, .ref p13, .ref p15, .ref p17, .ref p19, .ref p20, .ref p21]) = H22 at *
    refine ⟨p10, p22, _, _, rfl, rfl, s22 _ _ (s21 _ _ (s20 _ _ (s19 _ _ (s18 _ _ (s17 _ _ (s16 _ _ (s15 _ _ (s14 _ _ (s13 _ _ (s12 _ _ (s11 _ _ e10))))))))))), e22, by show 19 + 8 ≤ sizeLine; decide, fun p23 np23 => ?_⟩
    have s23 := same_upd (o := .lst (odd1 p1 p2 p3 p4 p5 p6 p8 p9 ++ [V.ref p11, .ref p12, .ref p13, .ref p15, .ref p17, .ref p19, .ref p20, .ref p21])) np23
    have s17 : Same H16 H17 := s17
    have s19 : Same H18 H19 := s19
    have c22 := s23
    have c21 := s22.trans c22
    have c20 := s21.trans c21
    have c19 := s20.trans c20
    have c18 := s19.trans c19
    have c17 := s18.trans c18
    have c16 := s17.trans c17
    have c15 := s16.trans c16
    have c14 := s15.trans c15
    have c13 := s14.trans c14
    have c12 := s13.trans c13
    have c11 := s12.trans c12
    have c10 := s11.trans c11
    have c9 := s10.trans c10
    have c8 := s9.trans c9
    have c7 := s8.trans c8
    have c6 := s7.trans c7
    have c5 := s6.trans c6
    have c4 := s5.trans c5
    have c3 := s4.trans c4
    have c2 := s3.trans c3
    have c1 := s2.trans c2
    have c0 := s1.trans c1
    have tp23 := tp.keep c0
    have p23t : p23 ≠ t := (tp.keep (s1.trans (s2.trans (s3.trans (s4.trans (s5.trans (s6.trans (s7.trans (s8.trans (s9.trans (s10.trans (s11.trans (s12.trans (s13.trans (s14.trans (s15.trans (s16.trans (s17.trans (s18.trans (s19.trans (s20.trans (s21.trans s22)))))))))))))))))))))).ne np23
    refine ⟨.ref p23, rfl, .ref t, rfl, .ref p23, rfl, p23, _, rfl, .inl (SqL.of upd_same), t, sc, 27, rfl, ⟨by decide, by decide⟩, tp23, fun r H24 r0 r1 mv tp24 => ?_⟩
    have e23 := mv _ _ p23t (upd_same (H := H22) (o := .lst (odd1 p1 p2 p3 p4 p5 p6 p8 p9 ++ [V.ref p11, .ref p12, .ref p13, .ref p15, .ref p17, .ref p19, .ref p20, .ref p21])))
    have nl : Nl _ H24 := .moved tp23 mv
    obtain ⟨tns, tpos, trest, tmx, tct, _, ht5, _, _⟩ := id tp23
    have nt : ∀ (b : Addr) (xs : List V), upd H22 p23 (.lst (odd1 p1 p2 p3 p4 p5 p6 p8 p9 ++ [V.ref p11, .ref p12, .ref p13, .ref p15, .ref p17, .ref p19, .ref p20, .ref p21])) b = some (.lst xs) → xs.length ≠ 5 → b ≠ t := fun b xs e h z => by
      rw [z, ht5] at e
      cases e
      exact h rfl
    have E1 := nl _ _ (fun _ z => by cases z) (c1 _ _ e1)
    have E3 := nl _ _ (fun _ z => by cases z) (c3 _ _ e3)
    have E4 := nl _ _ (fun _ z => by cases z) (c4 _ _ e4)
    have E6 := nl _ _ (fun _ z => by cases z) (c6 _ _ e6)
    have E9 := nl _ _ (fun _ z => by cases z) (c9 _ _ e9)
    have E11 := nl _ _ (fun _ z => by cases z) (c11 _ _ e11)
    have E12 := nl _ _ (fun _ z => by cases z) (c12 _ _ e12)
    have E13 := nl _ _ (fun _ z => by cases z) (c13 _ _ e13)
    have E14 := nl _ _ (fun _ z => by cases z) (c14 _ _ e14)
    have E15 := nl _ _ (fun _ z => by cases z) (c15 _ _ e15)
    have E16 := nl _ _ (fun _ z => by cases z) (c16 _ _ e16)
    have E18 := nl _ _ (fun _ z => by cases z) (c18 _ _ e18)
    have E20 := nl _ _ (fun _ z => by cases z) (c20 _ _ e20)
    have E21 := nl _ _ (fun _ z => by cases z) (c21 _ _ e21)
    have E2 := mv _ _ (nt _ _ (c2 _ _ e2) (by decide)) (c2 _ _ e2)
    have E5 := mv _ _ (nt _ _ (c5 _ _ e5) (by show _ ≠ 5; simp)) (c5 _ _ e5)
    have E7 := mv _ _ (nt _ _ (c7 _ _ e7) (by show _ ≠ 5; simp)) (c7 _ _ e7)
    have E8 := mv _ _ (nt _ _ (c8 _ _ e8) (by show _ ≠ 5; simp)) (c8 _ _ e8)
    have E17 := sT_nl (sT c17 h17) nl
    have E19 := sT_nl (sT c19 h19) nl
    have f2 := s1
    have g2 := Same.free f2 np2
    have f3 := f2.trans s2
    have g3 := Same.free f3 np3
    have f5 := f3.trans (s3.trans s4)
    have g5 := Same.free f5 np5
    have f7 := f5.trans (s5.trans s6)
    have g7 := Same.free f7 np7
    have f8 := f7.trans s7
    have g8 := Same.free f8 np8
    have f9 := f8.trans s8
    have g9 := Same.free f9 np9
    have things : ∀ v ∈ (odd1 p1 p2 p3 p4 p5 p6 p8 p9 ++ [V.ref p11, .ref p12, .ref p13, .ref p15, .ref p17, .ref p19, .ref p20, .ref p21]), ∃ d, (∀ H'', Nld H24 H'' → NewStays H H24 H'' → Od K H'' v d) ∧ (Lim d ∧ Lim2 d) ∧ Ro 3 2000 d := by
      intro v hv
      unfold odd1 at hv
      simp only [List.mem_append, List.mem_cons, List.not_mem_nil, or_false] at hv
      rcases hv with (rfl | rfl | rfl | rfl | rfl | rfl | rfl | rfl | rfl | rfl | rfl | rfl | rfl | rfl | rfl | rfl | rfl | rfl | rfl) | (rfl | rfl | rfl | rfl | rfl | rfl | rfl | rfl)
      · exact ⟨_, fun H'' nl2 up => .non, (noT (fun _ z => by cases z) (fun _ z => by cases z)), roOf (by decide +kernel)⟩
      · exact ⟨_, fun H'' nl2 up => .bl _, (noT (fun _ z => by cases z) (fun _ z => by cases z)), roOf (by decide +kernel)⟩
      · exact ⟨_, fun H'' nl2 up => .bl _, (noT (fun _ z => by cases z) (fun _ z => by cases z)), roOf (by decide +kernel)⟩
      · exact ⟨_, fun H'' nl2 up => .int _, (noT (fun _ z => by cases z) (fun _ z => by cases z)), roOf (by decide +kernel)⟩
      · exact ⟨_, fun H'' nl2 up => .int _, (noT (fun _ z => by cases z) (fun _ z => by cases z)), roOf (by decide +kernel)⟩
      · exact ⟨_, fun H'' nl2 up => .int _, (noT (fun _ z => by cases z) (fun _ z => by cases z)), roOf (by decide +kernel)⟩
      · exact ⟨_, fun H'' nl2 up => .int _, (noT (fun _ z => by cases z) (fun _ z => by cases z)), roOf (by decide +kernel)⟩
      · exact ⟨_, fun H'' nl2 up => .int _, (noT (fun _ z => by cases z) (fun _ z => by cases z)), roOf (by decide +kernel)⟩
      · exact ⟨_, fun H'' nl2 up => .int _, (noT (fun _ z => by cases z) (fun _ z => by cases z)), roOf (by decide +kernel)⟩
      · exact ⟨_, fun H'' nl2 up => .str _, (noT (fun _ z => by cases z) (fun _ z => by cases z)), roOf (by decide +kernel)⟩
      · exact ⟨_, fun H'' nl2 up => .str _, (noT (fun _ z => by cases z) (fun _ z => by cases z)), roOf (by decide +kernel)⟩
      · exact ⟨_, fun H'' nl2 up => .tup (SqT.of (nTd nl2 E1)) .nil, (flT (by decide) fun _ h => by simp at h), roOf (by decide +kernel)⟩
      · exact ⟨_, fun H'' nl2 up => .lst (up _ _ g2 E2) .nil, (flL (by decide) fun _ h => by simp at h), roOf (by decide +kernel)⟩
      · exact ⟨_, fun H'' nl2 up => .dct (up _ _ g3 E3) .nil, (noT (fun _ z => by cases z) (fun _ z => by cases z)), roOf (by decide +kernel)⟩
      · exact ⟨_, fun H'' nl2 up => .tup (SqT.of (nTd nl2 E4)) (.cons (.int _) .nil), (flT (by show 1 ≤ 1000; decide) fun x h => by simp at h; subst h; exact fun _ z => by cases z), roOf (by decide +kernel)⟩
      · exact ⟨_, fun H'' nl2 up => .lst (up _ _ g5 E5) (.cons (.int _) .nil), (flL (by show 1 ≤ 1000; decide) fun x h => by simp at h; subst h; exact fun _ z => by cases z), roOf (by decide +kernel)⟩
      · exact ⟨_, fun H'' nl2 up => .tup (SqT.of (nTd nl2 E6)) (.cons (.int _) (.cons (.int _) .nil)), (flT (by show 2 ≤ 1000; decide) fun x h => by simp at h; rcases h with rfl | rfl <;> exact fun _ z => by cases z), roOf (by decide +kernel)⟩
      · exact ⟨_, fun H'' nl2 up => .lst (up _ _ g8 E8) (.cons (.lst (up _ _ g7 E7) (.cons (.int _) .nil)) (.cons (.int _) .nil)), (flL (by show 2 ≤ 1000; decide) fun x h => by simp at h; rcases h with rfl | rfl <;> exact fun _ z => by cases z), roOf (by decide +kernel)⟩
      · exact ⟨_, fun H'' nl2 up => .dct (up _ _ g9 E9) (.cons (.int _) .nil), (noT (fun _ z => by cases z) (fun _ z => by cases z)), roOf (by decide +kernel)⟩
      · exact ⟨_, fun H'' nl2 up => .tup (SqT.of (nTd nl2 E11)) (.cons (.bl _) .nil), (flT (by show 1 ≤ 1000; decide) fun x h => by simp at h; subst h; exact fun _ z => by cases z), roOf (by decide +kernel)⟩
      · exact ⟨_, fun H'' nl2 up => .tup (SqT.of (nTd nl2 E12)) (.cons (.int _) (.cons .non .nil)), (flT (by show 2 ≤ 1000; decide) fun x h => by simp at h; rcases h with rfl | rfl <;> exact fun _ z => by cases z), roOf (by decide +kernel)⟩
      · exact ⟨_, fun H'' nl2 up => .tup (SqT.of (nTd nl2 E13)) (.cons (.int _) (.cons (.str _) .nil)), (flT (by show 2 ≤ 1000; decide) fun x h => by simp at h; rcases h with rfl | rfl <;> exact fun _ z => by cases z), roOf (by decide +kernel)⟩
      · refine ⟨_, fun H'' nl2 up => .tup (SqT.of (nTd nl2 E15)) (.cons (.tup (SqT.of (nTd nl2 E14)) (.cons (.int _) (.cons (.int _) .nil))) .nil), ⟨fun ds z => by cases z; decide, fun ds z => ?_⟩, roOf (by decide +kernel)⟩
        have z := z.resolve_right (fun z => by cases z)
        cases z
        refine ⟨by decide, fun x h => ?_⟩
        simp at h
        subst h
        exact fun ds z => by cases z; decide
      · exact ⟨_, fun H'' nl2 up => .tup (sT_nld E17 nl2) (rep_all 0 _), repT (by decide) (by decide)⟩
      · exact ⟨_, fun H'' nl2 up => .tup (sT_nld E19 nl2) (rep_all 1 _), repT (by decide) (by decide)⟩
      · exact ⟨_, fun H'' nl2 up => .tup (SqT.of (nTd nl2 E20)) (.cons (.int _) .nil), (flT (by show 1 ≤ 1000; decide) fun x h => by simp at h; subst h; exact fun _ z => by cases z), roOf (by decide +kernel)⟩
      · exact ⟨_, fun H'' nl2 up => .tup (SqT.of (nTd nl2 E21)) (.cons (.int _) (.cons (.int _) .nil)), (flT (by show 2 ≤ 1000; decide) fun x h => by simp at h; rcases h with rfl | rfl <;> exact fun _ z => by cases z), roOf (by decide +kernel)⟩
    have r27 : r.toNat < (odd1 p1 p2 p3 p4 p5 p6 p8 p9 ++ [V.ref p11, .ref p12, .ref p13, .ref p15, .ref p17, .ref p19, .ref p20, .ref p21]).length := by
      show r.toNat < 27
      omega
    obtain ⟨v, hv⟩ : ∃ v, (odd1 p1 p2 p3 p4 p5 p6 p8 p9 ++ [V.ref p11, .ref p12, .ref p13, .ref p15, .ref p17, .ref p19, .ref p20, .ref p21])[r.toNat]? = some v := ⟨_, List.getElem?_eq_getElem r27⟩
    obtain ⟨d, od, ll, ro⟩ := things v (List.mem_of_getElem? hv)
    refine ⟨p23, _, _, v, rfl, rfl, SqL.of e23, atI_of r0 hv, ?_⟩
    exact q v d H24 od ll ro ((Moved.same c0).trans mv) tp24
end

/-! ### a drawn walk -/
theorem at_lastV {xs : List V} {v : V} (h : xs[xs.length - 1]? = some v) (h1 : 1 ≤ xs.length) : atI xs (-1) = some v := by
  have e : ixN xs.length (-1) = some (xs.length - 1) := by
    unfold ixN
    rw [if_neg (by decide), if_pos (by omega)]
    exact congrArg some (by omega)
  unfold atI
  rw [e]
  exact h
theorem seqIx1 {n j : Nat} (h : j < n) : seqIndex? (j : Int) n = some j := by
  unfold seqIndex?
  simp
  omega
/-- spots drawn -/
def Drawn (k b : Int) (row : List Wk.Spt) : Prop := ∀ s ∈ row, 0 ≤ s.1 ∧ s.1 ≤ b ∧ 1 ≤ s.2 ∧ s.2 ≤ k
theorem Drawn.snoc {k b : Int} {row : List Wk.Spt} (h : Drawn k b row) {x y : Int} (g : 0 ≤ x ∧ x ≤ b ∧ 1 ≤ y ∧ y ≤ k) : Drawn k b (row ++ [(x, y)]) := fun s hs => by
  rcases List.mem_append.mp hs with hs | hs
  · exact h s hs
  · rw [List.mem_singleton.mp hs]
    exact g
def sD (s : Wk.Spt) : PyData := .tuple [.int s.1, .int s.2]
theorem od_rows {K : PySem.W.Frag} {H : Hp} {ps : List Addr} {row : List Wk.Spt} (h : Tups pv2 H ps row) : RO9.OdAll K H (ps.map V.ref) (row.map sD) := by
  induction h with
  | nil => exact .nil
  | cons a _ ih => exact .cons (.tup (SqT.of a) (.cons (.int _) (.cons (.int _) .nil))) ih
theorem sD_ok {k b : Int} (k4 : k ≤ 4) (b60 : b ≤ 60) {row : List Wk.Spt} (h : Drawn k b row) : ∀ d ∈ row.map sD, Lim d ∧ RO9.Ro 3 2000 d := fun d hd => by
  obtain ⟨s, hs, rfl⟩ := List.mem_map.mp hd
  have g := h s hs
  exact ⟨fun ds z => (by cases z; show 2 ≤ 1000; decide), (RO9.Ro.ints (ns := [s.1, s.2]) (m := 2) (fun n hn => by
    simp at hn
    rcases hn with rfl | rfl <;> omega) (Nat.le_refl _)).up (by decide) (by decide)⟩
section
variable {P : Program} {w : World} {K : PySem.W.Frag} {mg : Str → Option Value} {base : Heap}
open RO9
def spDWalk (K : PySem.W.Frag) : Sp := fun vs H Q _ => ∃ (t s : Addr) (k b : Int), vs = [.ref t, .int k, .int b] ∧ 2 ≤ k ∧ k ≤ 4 ∧ 1 ≤ b ∧ b ≤ 60 ∧ Tape H t s ∧
  ∀ (v : V) (d : PyData) H', (∀ H'', Nld H' H'' → NewStays H H' H'' → Od K H'' v d) → Lim2 d → Ro 4 150000 d → Moved t H H' → Tape H' t s → Q v H'
theorem ok__law_walk (T : Tx K mg) : FnOk P w K mg base CX0 3 T.a__law_walk T.d__law_walk ["tape", "comers", "bound"] (spDWalk K) := by
  refine T.F__law_walk.ok sc__law_walk (fun vs H Q E h => ?_) (fun cdv A outer s H vs Q E hr h => ?_)
  · obtain ⟨t, sc, k, b, rfl, _⟩ := h
    rfl
  · obtain ⟨t, sc, k, b, rfl, k2, k4, b1, b60, tp, q⟩ := h
    refine ⟨_, ((pss_cons (ps_set (i := 3) sc__law_walk.nd rfl (.inl rfl) (pe_lst (pa_cons (pe_tup (pa_cons (pe_call (ok__law_pick T) (hr.mono (by decide)) (by rfl) T.g__law_pick T.F__law_pick.kp T.b__law_pick .nil pass0 (pa_cons (pv 0) (pa_cons (pe_op op_add (pv 2) pe_int) pa_nil))) (pa_cons pe_int pa_nil))) pa_nil)))
  (pss_cons (ps_for PassesOwn.never rfl (pi_range1 (by rfl) T.m_range (pa_cons (pe_ix ix_list (pe_lst (pa_cons (pe_call (ok__law_pick T) (hr.mono (by decide)) (by rfl) T.g__law_pick T.F__law_pick.kp T.b__law_pick .nil pass0 (pa_cons (pv 0) (pa_cons pe_int pa_nil))) (pa_cons pe_int (pa_cons pe_int pa_nil)))) (pe_op op_mul (pe_op op_fdivW (pe_call (ok__law_pick T) (hr.mono (by decide)) (by rfl) T.g__law_pick T.F__law_pick.kp T.b__law_pick .nil pass0 (pa_cons (pv 0) (pa_cons pe_int pa_nil))) pe_int) (pe_call (ok__law_pick T) (hr.mono (by decide)) (by rfl) T.g__law_pick T.F__law_pick.kp T.b__law_pick .nil pass0 (pa_cons (pv 0) (pa_cons pe_int pa_nil)))) (fun _ _ => rfl)) pa_nil)) (pg_name (i := 4) sc__law_walk.nd rfl (.inl rfl))
   (pss_cons (ps_asg (pe_ix ix_list (pv 3) (pe_un un_neg pe_int) (fun _ _ => rfl)) (pg_tup rfl (pgs_cons (pg_name (i := 5) sc__law_walk.nd rfl (.inl rfl)) (pgs_cons (pg_name (i := 6) sc__law_walk.nd rfl (.inl rfl)) pgs_nil))))
  (pss_one (ps_if (PW.pt (pw_and (pt_cmpR op_eq (pe_call (ok__law_pick T) (hr.mono (by decide)) (by rfl) T.g__law_pick T.F__law_pick.kp T.b__law_pick .nil pass0 (pa_cons (pv 0) (pa_cons pe_int pa_nil))) pe_int (nomark _)) (pw_and (pt_cmpR op_lt (pv 6) (pv 1) (nomark _)) (pw_and1 (pt_cmpR op_lt (pv 5) (pv 2) (nomark _)))))) (pss_one (ps_expr (pe_bm PySem.F.plainAttrs_list PySem.F.slot_list_append PySem.F.type_list_append mt_append (pv 3) (pa_cons (pe_tup (pa_cons (pe_op op_add (pv 5) pe_int) (pa_cons (pe_op op_add (pv 6) pe_int) pa_nil))) pa_nil)))) (pss_one (ps_expr (pe_bm PySem.F.plainAttrs_list PySem.F.slot_list_append PySem.F.type_list_append mt_append (pv 3) (pa_cons (pe_tup (pa_cons (pe_call (ok__law_pick T) (hr.mono (by decide)) (by rfl) T.g__law_pick T.F__law_pick.kp T.b__law_pick .nil pass0 (pa_cons (pv 0) (pa_cons (pe_op op_add (pv 5) pe_int) pa_nil))) (pa_cons pe_int pa_nil))) pa_nil))))))))
  (pss_cons (ps_set (i := 7) sc__law_walk.nd rfl (.inl rfl) (pe_call (ok__law_pick T) (hr.mono (by decide)) (by rfl) T.g__law_pick T.F__law_pick.kp T.b__law_pick .nil pass0 (pa_cons (pv 0) (pa_cons (pe_callB call_len_seq (by rfl) T.m_len PySem.boot_len (pa_cons (pv 3) pa_nil)) pa_nil))))
  (pss_cons (ps_set (i := 8) sc__law_walk.nd rfl (.inl rfl) (pe_call (ok__law_pick T) (hr.mono (by decide)) (by rfl) T.g__law_pick T.F__law_pick.kp T.b__law_pick .nil pass0 (pa_cons (pv 0) (pa_cons pe_int pa_nil))))
  (pss_cons (ps_if (pt_cmpR op_eq (pv 8) pe_int (nomark _)) (pss_cons (ps_set (i := 9) sc__law_walk.nd rfl (.inl rfl) (pe_ix ix_list (pv 3) (pv 7) (fun _ _ => rfl)))
  (pss_cons (ps_set (i := 10) sc__law_walk.nd rfl (.inl rfl) (pe_lst (pa_cons (pe_tup (pa_cons (pe_op op_add (pe_ix ix_tup (pv 9) pe_int (fun _ _ => rfl)) pe_int) (pa_cons pe_int pa_nil))) (pa_cons (pe_tup (pa_cons (pe_ix ix_tup (pv 9) pe_int (fun _ _ => rfl)) (pa_cons (pe_op op_add (pe_ix ix_tup (pv 9) pe_int (fun _ _ => rfl)) pe_int) pa_nil))) (pa_cons (pe_call (ok__law_odd T) (hr.mono (by decide)) (by rfl) T.g__law_odd T.F__law_odd.kp T.b__law_odd .nil pass0 (pa_cons (pv 0) pa_nil)) (pa_cons (pe_callTy call_list_of (by rfl) T.m_list (by decide +kernel) (pa_cons (pv 9) pa_nil)) (pa_cons (pe_tup (pa_cons (pe_ix ix_tup (pv 9) pe_int (fun _ _ => rfl)) (pa_cons pe_bl pa_nil))) (pa_cons (pe_tup (pa_cons (pe_cmpR op_eq (pe_ix ix_tup (pv 9) pe_int (fun _ _ => rfl)) pe_int (nomark _)) (pa_cons (pe_ix ix_tup (pv 9) pe_int (fun _ _ => rfl)) pa_nil))) pa_nil))))))))
  (pss_one (ps_asg (pe_ix ix_list (pv 10) (pe_call (ok__law_pick T) (hr.mono (by decide)) (by rfl) T.g__law_pick T.F__law_pick.kp T.b__law_pick .nil pass0 (pa_cons (pv 0) (pa_cons pe_int pa_nil))) (fun _ _ => rfl)) (pg_sub (pv 3) (pv 7) set_list))))) pss_nil)
  (pss_cons (ps_if (pt_cmpR op_eq (pv 8) pe_int (nomark _)) (pss_one (ps_expr (pe_bm PySem.F.plainAttrs_list PySem.F.slot_list_pop PySem.F.type_list_pop mt_popAt (pv 3) (pa_cons (pv 7) pa_nil)))) pss_nil)
  (pss_cons (ps_if (pt_cmpR op_eq (pv 8) pe_int (nomark _)) (pss_one (ps_expr (pe_bm PySem.F.plainAttrs_list PySem.F.slot_list_insert PySem.F.type_list_insert mt_insert (pv 3) (pa_cons (pv 7) (pa_cons (pe_ix ix_list (pv 3) (pv 7) (fun _ _ => rfl)) pa_nil))))) pss_nil)
  (pss_cons (ps_if (pt_cmpR op_eq (pv 8) pe_int (nomark _)) (pss_one (ps_ret (pe_callTy call_tuple_of (by rfl) T.m_tuple (by decide +kernel) (pa_cons (pv 3) pa_nil)))) pss_nil)
  (pss_one (ps_ret (pv 3)))))))))))), ?_⟩
    refine ⟨.ref t, rfl, .int b, rfl, _, _, rfl, rfl, t, sc, b + 1, rfl, ⟨by omega, by omega⟩, tp, fun w0 H1 w00 w01 mv1 tp1 => ?_⟩
    refine ⟨by show 2 ≤ sizeLine; decide, fun p0 np0 => ?_⟩
    have s2 := same_upd (o := .tup [V.int w0, .int 1]) np0
    have e2 : upd H1 p0 (.tup [V.int w0, .int 1]) p0 = some (.tup [V.int w0, .int 1]) := upd_same
    generalize upd H1 p0 (.tup [V.int w0, .int 1]) = H2 at *
    refine ⟨by show 1 ≤ sizeLine; decide, fun L nL => ?_⟩
    have s3 := same_upd (o := .lst [V.ref p0]) nL
    have e3 : upd H2 L (.lst [V.ref p0]) L = some (.lst [V.ref p0]) := upd_same
    have tp2 := tp1.keep s2
    have Lt : L ≠ t := tp2.ne nL
    have Ls : L ≠ sc := tp2.ne2 nL
    have mv13 : Moved t H (upd H2 L (.lst [V.ref p0])) := mv1.trans (Moved.same (s2.trans s3))
    have tp3 := tp2.keep s3
    have LH : H L = none := Same.free (fun b o e => e) (by
      cases c : H L with
      | none => rfl
      | some o => 
        have := s2 _ _ (mv1 L o Lt c)
        rw [nL] at this
        cases this)
    have tu3 : Tups pv2 (upd H2 L (.lst [V.ref p0])) [p0] [(w0, 1)] := .cons (s3 _ _ e2) .nil
    generalize upd H2 L (.lst [V.ref p0]) = H3 at *
    refine ⟨.ref t, rfl, t, sc, 8, rfl, ⟨by decide, by decide⟩, tp3, fun n1 H4 n10 n11 mv4 tp4 => ?_⟩
    refine ⟨by show 3 ≤ sizeLine; decide, fun W nW => ?_⟩
    have s5 := same_upd (o := .lst [V.int n1, .int 59, .int 60]) nW
    have e5 : upd H4 W (.lst [V.int n1, .int 59, .int 60]) W = some (.lst [V.int n1, .int 59, .int 60]) := upd_same
    have Wt : W ≠ t := tp4.ne nW
    have tp5 := tp4.keep s5
    generalize upd H4 W (.lst [V.int n1, .int 59, .int 60]) = H5 at *
    refine ⟨.ref t, rfl, t, sc, 6, rfl, ⟨by decide, by decide⟩, tp5, fun n2 H6 n20 n21 mv6 tp6 => ?_⟩
    have q2 : (n2 / 3 = 0 ∨ n2 / 3 = 1) := by omega
    refine ⟨_, _, rfl, rfl, wide_div (b := 60) (by omega) (by omega) (by decide) (by decide), .ref t, rfl, t, sc, 3, rfl, ⟨by decide, by decide⟩, tp6, fun n3 H7 n30 n31 mv7 tp7 => ?_⟩
    have e7 := mv7 W _ Wt (mv6 W _ Wt e5)
    have e7L := mv7 L _ Lt (mv6 L _ Lt (s5 _ _ (mv4 L _ Lt e3)))
    have mv47 : Moved t H3 H7 := ((mv4.trans (Moved.same s5)).trans mv6).trans mv7
    have tu7 := mv47.tups tp3 tu3
    have mv17 := mv13.trans mv47
    obtain ⟨ix, eix, ix0, ix3⟩ : ∃ ix : Int, n2 / 3 * n3 = ix ∧ 0 ≤ ix ∧ ix < 3 := by
      rcases q2 with z | z
      · exact ⟨0, by rw [z]; omega, by omega, by omega⟩
      · exact ⟨n3, by rw [z]; omega, n30, n31⟩
    have h2 : -(2 ^ 64) < n2 / 3 ∧ n2 / 3 < 2 ^ 64 := by omega
    obtain ⟨m, em, m0, m60⟩ : ∃ m : Int, [V.int n1, .int 59, .int 60][ix.toNat]? = some (.int m) ∧ 0 ≤ m ∧ m ≤ 60 := by
      have z : ix = 0 ∨ ix = 1 ∨ ix = 2 := by omega
      rcases z with rfl | rfl | rfl
      · exact ⟨n1, rfl, n10, by omega⟩
      · exact ⟨59, rfl, by decide, by decide⟩
      · exact ⟨60, rfl, by decide, by decide⟩
    refine ⟨_, _, rfl, rfl, .inl h2, W, _, ix, .int m, rfl, congrArg V.int eix, SqL.of e7, atI_of ix0 em, m, rfl, by omega, by omega, for_range (lo := 0) (n := m.toNat)
      (fun i σ H' => ∃ y4 y5 y6 ps row, σ = [some (.ref t), some (.int k), some (.int b), some (.ref L), y4, y5, y6, none, none, none, none] ∧ H' L = some (.lst (ps.map V.ref)) ∧ Tups pv2 H' ps row ∧ row.length = 1 + i ∧ Drawn k b row ∧ Moved t H H' ∧ Tape H' t sc)
      ⟨_, _, _, [p0], [(w0, 1)], rfl, e7L, tu7, rfl, fun s hs => by rw [List.mem_singleton.mp hs]; exact ⟨w00, by show w0 ≤ b; omega, by show (1 : Int) ≤ 1; omega, by show (1 : Int) ≤ k; omega⟩, mv17, tp7⟩ (fun i σ H8 hi h => ?_) (fun σ H8 h => ?_)⟩
    · obtain ⟨y4, y5, y6, ps, row, rfl, eL, tu, len, dr, mv, tp8⟩ := h
      have zl := tu.length
      have p1 : (ps.map V.ref).length - 1 < row.length := by rw [List.length_map]; omega
      obtain ⟨⟨x, y⟩, hrow⟩ : ∃ s, row[(ps.map V.ref).length - 1]? = some s := ⟨_, List.getElem?_eq_getElem p1⟩
      obtain ⟨p, hp, ep⟩ := tu.at hrow
      obtain ⟨g1, g2, g3, g4⟩ := dr _ (List.mem_of_getElem? hrow)
      have g1 : 0 ≤ x := g1
      have g2 : x ≤ b := g2
      have g3 : 1 ≤ y := g3
      have g4 : y ≤ k := g4
      refine ⟨.ref L, rfl, 1, rfl, L, _, -1, .ref p, rfl, rfl, SqL.of eL, at_lastV hp (by rw [List.length_map]; omega), p, _, rfl, SqT.of ep, rfl, _, [_], rfl, _, [], rfl, rfl, ?_⟩
      refine ⟨.ref t, rfl, t, sc, 2, rfl, ⟨by decide, by decide⟩, tp8, fun r H9 r0 r1 mv9 tp9 => ?_⟩
      have eL9 := mv9 L _ Lt eL
      have tu9 := mv9.tups tp8 tu
      have fin : ∀ (x' y' : Int) (H' : Hp) (p' : Addr), (0 ≤ x' ∧ x' ≤ b ∧ 1 ≤ y' ∧ y' ≤ k) → H' L = some (.lst (ps.map V.ref)) → Tups pv2 H' ps row → Moved t H H' → Tape H' t sc → H' p' = none → ∃ ps2 row2, (upd (upd H' p' (.tup [V.int x', .int y'])) L (.lst (ps.map V.ref ++ [.ref p']))) L = some (.lst (List.map V.ref ps2)) ∧ Tups pv2 (upd (upd H' p' (.tup [V.int x', .int y'])) L (.lst (ps.map V.ref ++ [.ref p']))) ps2 row2 ∧ row2.length = 1 + (i + 1) ∧ Drawn k b row2 ∧ Moved t H (upd (upd H' p' (.tup [V.int x', .int y'])) L (.lst (ps.map V.ref ++ [.ref p']))) ∧ Tape (upd (upd H' p' (.tup [V.int x', .int y'])) L (.lst (ps.map V.ref ++ [.ref p']))) t sc := fun x' y' H' p' g e tu mv tp np => by
        have s1 := same_upd (o := .tup [V.int x', .int y']) np
        have e1 : upd H' p' (.tup [V.int x', .int y']) p' = some (.tup (pv2 (x', y'))) := upd_same
        refine ⟨ps ++ [p'], row ++ [(x', y')], by rw [upd_same, List.map_append]; rfl, ((tu.same s1).snoc e1).put (s1 _ _ e), by rw [List.length_append, len]; show 1 + i + 1 = _; omega, dr.snoc g, fun b' o nb eb => ?_, (tp.keep s1).but Lt Ls⟩
        rw [upd_ne (fun z => by rw [z, LH] at eb; cases eb)]
        exact s1 _ _ (mv b' o nb eb)
      by_cases c : r = 0
      · refine ⟨rfl, true, eqTi c, iteT ⟨.int y, rfl, .int k, rfl, _, _, rfl, rfl, _, rfl, ite2 (fun c1 => ⟨.int x, rfl, .int b, rfl, _, _, rfl, rfl, _, rfl, ite2 (fun c2 => ?_) (fun c2 => ?_)⟩) (fun c1 => ?_)⟩⟩
        · have d1 : y + 1 ≤ k := by
            have := of_decide_eq_true c1
            omega
          have d2 : x + 1 ≤ b := by
            have := of_decide_eq_true c2
            omega
          refine ⟨.ref L, rfl, .inl ⟨rfl, _, SqL.of eL9⟩, .int x, rfl, _, _, rfl, rfl, .int y, rfl, _, _, rfl, rfl, by show 2 ≤ sizeLine; decide, fun p' np' => ⟨L, _, _, rfl, rfl, (same_upd np') _ _ eL9, by rw [List.length_map]; show _ < 2 ^ 24; omega, ?_⟩⟩
          obtain ⟨ps2, row2, z1, z2, z3, z4, z5, z6⟩ := fin (x + 1) (y + 1) H9 p' (by omega) eL9 tu9 (mv.trans mv9) tp9 np'
          exact ⟨_, _, _, ps2, row2, rfl, z1, z2, z3, z4, z5, z6⟩
        all_goals
          refine ⟨.ref L, rfl, .inl ⟨rfl, _, SqL.of eL9⟩, .ref t, rfl, .int x, rfl, _, _, rfl, rfl, t, sc, x + 1, rfl, ⟨by omega, by omega⟩, tp9, fun n H10 n0 n1 mv10 tp10 => ?_⟩
          refine ⟨by show 2 ≤ sizeLine; decide, fun p' np' => ⟨L, _, _, rfl, rfl, (same_upd np') _ _ (mv10 L _ Lt eL9), by rw [List.length_map]; show _ < 2 ^ 24; omega, ?_⟩⟩
          obtain ⟨ps2, row2, z1, z2, z3, z4, z5, z6⟩ := fin n 1 H10 p' (by omega) (mv10 L _ Lt eL9) (mv10.tups tp9 tu9) ((mv.trans mv9).trans mv10) tp10 np'
          exact ⟨_, _, _, ps2, row2, rfl, z1, z2, z3, z4, z5, z6⟩
      · refine ⟨rfl, false, eqFi c, iteF ?_⟩
        refine ⟨.ref L, rfl, .inl ⟨rfl, _, SqL.of eL9⟩, .ref t, rfl, .int x, rfl, _, _, rfl, rfl, t, sc, x + 1, rfl, ⟨by omega, by omega⟩, tp9, fun n H10 n0 n1 mv10 tp10 => ?_⟩
        refine ⟨by show 2 ≤ sizeLine; decide, fun p' np' => ⟨L, _, _, rfl, rfl, (same_upd np') _ _ (mv10 L _ Lt eL9), by rw [List.length_map]; show _ < 2 ^ 24; omega, ?_⟩⟩
        obtain ⟨ps2, row2, z1, z2, z3, z4, z5, z6⟩ := fin n 1 H10 p' (by omega) (mv10 L _ Lt eL9) (mv10.tups tp9 tu9) ((mv.trans mv9).trans mv10) tp10 np'
        exact ⟨_, _, _, ps2, row2, rfl, z1, z2, z3, z4, z5, z6⟩
    · obtain ⟨y4, y5, y6, ps, row, rfl, eL, tu, len, dr, mv, tp8⟩ := h
      have zl := tu.length
      have rl := sD_ok k4 b60 dr
      refine ⟨.ref t, rfl, .ref L, rfl, L, _, rfl, .inl (SqL.of eL), t, sc, _, rfl, ⟨by rw [List.length_map]; omega, by rw [List.length_map]; omega⟩, tp8, fun at_ H9 a0 a1 mv9 tp9 => ?_⟩
      rw [List.length_map] at a1
      refine ⟨.ref t, rfl, t, sc, 8, rfl, ⟨by decide, by decide⟩, tp9, fun kd H10 k0 k7 mv10 tp10 => ?_⟩
      have eL10 := mv10 L _ Lt (mv9 L _ Lt eL)
      have tu10 := mv10.tups tp9 (mv9.tups tp8 tu)
      have mvA : Moved t H H10 := (mv.trans mv9).trans mv10
      have fin : ∀ (vs : List V) (ds : List PyData) (Hk : Hp), Hk L = some (.lst vs) → (∀ H'', Nld Hk H'' → NewStays H Hk H'' → OdAll K H'' vs ds) → ds.length ≤ 62 → (∀ d ∈ ds, Lim d ∧ Ro 3 2000 d) → Moved t H Hk → Tape Hk t sc → Q (.ref L) Hk := fun vs ds Hk e o hl hd mvk tpk =>
        q (.ref L) (.list ds) Hk (fun H'' n st => .lst (st _ _ LH e) (o H'' n st)) (fun es z => by
          rcases z with z | z
          · cases z
          · cases z
            exact ⟨by omega, fun x hx => (hd x hx).1⟩) (Ro.lst (k := 3) (n := 2000) (fun d hh => (hd d hh).2) (by omega)) mvk tpk
      have atr : at_.toNat < row.length := by omega
      obtain ⟨⟨x, y⟩, hrow⟩ : ∃ s, row[at_.toNat]? = some s := ⟨_, List.getElem?_eq_getElem atr⟩
      obtain ⟨p, hp, ep⟩ := tu10.at hrow
      obtain ⟨g1, g2, g3, g4⟩ := dr _ (List.mem_of_getElem? hrow)
      have g1 : 0 ≤ x := g1
      have g2 : x ≤ b := g2
      have g3 : 1 ≤ y := g3
      have g4 : y ≤ k := g4
      have rows : ∀ {Hk H''}, Nld H10 Hk → Nld Hk H'' → OdAll K H'' (ps.map V.ref) (row.map sD) := fun n1 n2 => od_rows (tu10.keep fun b ys e => nTd (n1.trans n2) e)
      have nlP : ∀ ys, Nld H10 (upd H10 L (.lst ys)) := fun ys => .of (.put eL10)
      have mvP : ∀ ys, Moved t H (upd H10 L (.lst ys)) := fun ys b' o nb eb => by
        rw [upd_ne (fun z => by rw [z, LH] at eb; cases eb)]
        exact mvA b' o nb eb
      have hk : kd = 0 ∨ kd = 1 ∨ kd = 2 ∨ kd = 3 ∨ (4 ≤ kd) := by omega
      rcases hk with rfl | rfl | rfl | rfl | k4'
      · refine ⟨_, rfl, rfl, true, eqTi rfl, iteT ?_⟩
        refine ⟨.ref L, rfl, .int at_, rfl, L, _, at_, .ref p, rfl, rfl, SqL.of eL10, atI_of a0 hp, ?_⟩
        refine ⟨.ref p, rfl, p, _, 0, .int x, rfl, rfl, SqT.of ep, atI_nat (j := 0) rfl, _, _, rfl, rfl, by show 2 ≤ sizeLine; decide, fun o1 no1 => ?_⟩
        have so1 := same_upd (o := .tup [V.int (x + 1), .int 1]) no1
        have eo1 : upd H10 o1 (.tup [V.int (x + 1), .int 1]) o1 = some (.tup [V.int (x + 1), .int 1]) := upd_same
        have ep1 := so1 _ _ ep
        generalize upd H10 o1 (.tup [V.int (x + 1), .int 1]) = H11 at *
        refine ⟨.ref p, rfl, p, _, 0, .int x, rfl, rfl, SqT.of ep1, atI_nat (j := 0) rfl, .ref p, rfl, p, _, 1, .int y, rfl, rfl, SqT.of ep1, atI_nat (j := 1) rfl, _, _, rfl, rfl, by show 2 ≤ sizeLine; decide, fun o2 no2 => ?_⟩
        have so2 := same_upd (o := .tup [V.int x, .int (y + 1)]) no2
        have eo2 : upd H11 o2 (.tup [V.int x, .int (y + 1)]) o2 = some (.tup [V.int x, .int (y + 1)]) := upd_same
        have ep2 := so2 _ _ ep1
        generalize upd H11 o2 (.tup [V.int x, .int (y + 1)]) = H12 at *
        have s12 := so1.trans so2
        have tp12 := tp10.keep s12
        refine ⟨.ref t, rfl, t, sc, rfl, tp12, fun v d H13 od ll ro mv13 tp13 => ?_⟩
        have nl13 : Nld H12 H13 := .of (.moved tp12 mv13)
        have ep3 := nTd nl13 ep2
        refine ⟨.ref p, rfl, p, _, rfl, .inr (SqT.of ep3), fun X nX => ?_⟩
        have sX := same_upd (o := .lst (pv2 (x, y))) nX
        have eX : upd H13 X (.lst (pv2 (x, y))) X = some (.lst (pv2 (x, y))) := upd_same
        have ep4 := sX _ _ ep3
        have Xt : X ≠ t := tp13.ne nX
        generalize upd H13 X (.lst (pv2 (x, y))) = H14 at *
        refine ⟨.ref p, rfl, p, _, 0, .int x, rfl, rfl, SqT.of ep4, atI_nat (j := 0) rfl, by show 2 ≤ sizeLine; decide, fun o3 no3 => ?_⟩
        have so3 := same_upd (o := .tup [V.int x, .bl true]) no3
        have eo3 : upd H14 o3 (.tup [V.int x, .bl true]) o3 = some (.tup [V.int x, .bl true]) := upd_same
        have ep5 := so3 _ _ ep4
        generalize upd H14 o3 (.tup [V.int x, .bl true]) = H15 at *
        refine ⟨.ref p, rfl, p, _, 0, .int x, rfl, rfl, SqT.of ep5, atI_nat (j := 0) rfl, rfl, .ref p, rfl, p, _, 1, .int y, rfl, rfl, SqT.of ep5, atI_nat (j := 1) rfl, by show 2 ≤ sizeLine; decide, fun o4 no4 => ?_⟩
        have so4 := same_upd (o := .tup [V.bl (decide (V.int x = V.int 1)), .int y]) no4
        have eo4 : upd H15 o4 (.tup [V.bl (decide (V.int x = V.int 1)), .int y]) o4 = some (.tup [V.bl (decide (V.int x = V.int 1)), .int y]) := upd_same
        generalize upd H15 o4 (.tup [V.bl (decide (V.int x = V.int 1)), .int y]) = H16 at *
        have s1316 := (sX.trans so3).trans so4
        have tp16 := tp13.keep s1316
        refine ⟨by show 6 ≤ sizeLine; decide, fun Z nZ => ?_⟩
        have sZ := same_upd (o := .lst [V.ref o1, .ref o2, v, .ref X, .ref o3, .ref o4]) nZ
        have eZ : upd H16 Z (.lst [V.ref o1, .ref o2, v, .ref X, .ref o3, .ref o4]) Z = some (.lst [V.ref o1, .ref o2, v, .ref X, .ref o3, .ref o4]) := upd_same
        have Zt : Z ≠ t := tp16.ne nZ
        have tp17 := tp16.keep sZ
        generalize upd H16 Z (.lst [V.ref o1, .ref o2, v, .ref X, .ref o3, .ref o4]) = H17 at *
        have s1317 := s1316.trans sZ
        refine ⟨.ref Z, rfl, .ref t, rfl, t, sc, 6, rfl, ⟨by decide, by decide⟩, tp17, fun r H18 r0 r1 mv18 tp18 => ?_⟩
        have nl18 : Nld H17 H18 := .of (.moved tp17 mv18)
        have n1318 : Nld H13 H18 := (Nld.same s1317).trans nl18
        have n1018 : Nld H10 H18 := ((Nld.same s12).trans nl13).trans n1318
        have eZ18 := mv18 Z _ Zt eZ
        have mvZ : Moved t H10 H18 := (((Moved.same s12).trans mv13).trans (Moved.same s1317)).trans mv18
        have eL18 := mvZ L _ Lt eL10
        have XL : X ≠ L := fun z => by
          rw [z, mv13 L _ Lt (s12 _ _ eL10)] at nX
          cases nX
        have eX18 : H18 X = some (.lst (pv2 (x, y))) := mv18 X _ Xt (((so3.trans so4).trans sZ) _ _ eX)
        have Xn : H X = none := by
          cases c : H X with
          | none => rfl
          | some o =>
            have := mv13 X o Xt (s12 _ _ (mvA X o Xt c))
            rw [nX] at this
            cases this
        have nlL : ∀ ys, Nld H18 (upd H18 L (.lst ys)) := fun ys => .of (.put eL18)
        have keepL : ∀ (ys : List V) b o, b ≠ L → H18 b = some o → upd H18 L (.lst ys) b = some o := fun ys b o n e => by
          rw [upd_ne n]
          exact e
        have things : ∀ z ∈ [V.ref o1, .ref o2, v, .ref X, .ref o3, .ref o4], ∃ dz, (∀ ys H'', Nld (upd H18 L (.lst ys)) H'' → NewStays H (upd H18 L (.lst ys)) H'' → Od K H'' z dz) ∧ Lim dz ∧ Ro 3 2000 dz := by
          intro z hz
          simp only [List.mem_cons, List.not_mem_nil, or_false] at hz
          rcases hz with rfl | rfl | rfl | rfl | rfl | rfl
          · exact ⟨sD (x + 1, 1), fun ys H'' n _ => .tup (SqT.of (nTd (((((Nld.same so2).trans nl13).trans n1318).trans (nlL ys)).trans n) eo1)) (.cons (.int _) (.cons (.int _) .nil)), fun ds z => (by cases z; show 2 ≤ 1000; decide), (Ro.ints (ns := [x + 1, 1]) (m := 2) (fun n hn => by
              simp at hn
              rcases hn with rfl | rfl <;> omega) (Nat.le_refl _)).up (by decide) (by decide)⟩
          · exact ⟨sD (x, y + 1), fun ys H'' n _ => .tup (SqT.of (nTd (((nl13.trans n1318).trans (nlL ys)).trans n) eo2)) (.cons (.int _) (.cons (.int _) .nil)), fun ds z => (by cases z; show 2 ≤ 1000; decide), (Ro.ints (ns := [x, y + 1]) (m := 2) (fun n hn => by
              simp at hn
              rcases hn with rfl | rfl <;> omega) (Nat.le_refl _)).up (by decide) (by decide)⟩
          · refine ⟨d, fun ys H'' n st => od H'' ((n1318.trans (nlL ys)).trans n) fun b' o hb e => ?_, ll.1, ro⟩
            have bt : b' ≠ t := tp12.ne hb
            have bL : b' ≠ L := fun z => by
              rw [z, s12 _ _ eL10] at hb
              cases hb
            have bn : H b' = none := by
              cases c : H b' with
              | none => rfl
              | some o' =>
                have := s12 _ _ (mvA b' o' bt c)
                rw [hb] at this
                cases this
            exact st b' o bn (keepL ys b' o bL (mv18 b' o bt (s1317 _ _ e)))
          · exact ⟨.list [.int x, .int y], fun ys H'' n st => .lst (st _ _ Xn (keepL ys X _ XL eX18)) (.cons (.int _) (.cons (.int _) .nil)), fun ds z => (by cases z), (Ro.lst (k := 0) (n := 0) (ds := [.int x, .int y]) (fun d hd => by
              simp at hd
              rcases hd with rfl | rfl
              · exact .int (by omega) (by omega)
              · exact .int (by omega) (by omega)) (Nat.le_refl _)).up (by decide) (by show 2 * 1 ≤ 2000; decide)⟩
          · exact ⟨.tuple [.int x, .bool true], fun ys H'' n _ => .tup (SqT.of (nTd (((((Nld.same so4).trans (Nld.same sZ)).trans nl18).trans (nlL ys)).trans n) eo3)) (.cons (.int _) (.cons (.bl _) .nil)), fun ds z => (by cases z; show 2 ≤ 1000; decide), (Ro.tup (k := 0) (n := 0) (ds := [.int x, .bool true]) (fun d hd => by
              simp at hd
              rcases hd with rfl | rfl
              · exact .int (by omega) (by omega)
              · exact .of (.bl _)) (Nat.le_refl _)).up (by decide) (by show 2 * 1 ≤ 2000; decide)⟩
          · exact ⟨.tuple [.bool (decide (V.int x = V.int 1)), .int y], fun ys H'' n _ => .tup (SqT.of (nTd ((((Nld.same sZ).trans nl18).trans (nlL ys)).trans n) eo4)) (.cons (.bl _) (.cons (.int _) .nil)), fun ds z => (by cases z; show 2 ≤ 1000; decide), (Ro.tup (k := 0) (n := 0) (ds := [.bool (decide (V.int x = V.int 1)), .int y]) (fun d hd => by
              simp at hd
              rcases hd with rfl | rfl
              · exact .of (.bl _)
              · exact .int (by omega) (by omega)) (Nat.le_refl _)).up (by decide) (by show 2 * 1 ≤ 2000; decide)⟩
        have r6 : r.toNat < [V.ref o1, .ref o2, v, .ref X, .ref o3, .ref o4].length := by
          show r.toNat < 6
          omega
        obtain ⟨z, hz⟩ : ∃ z, [V.ref o1, .ref o2, v, .ref X, .ref o3, .ref o4][r.toNat]? = some z := ⟨_, List.getElem?_eq_getElem r6⟩
        obtain ⟨dz, odz, lz, rz⟩ := things z (List.mem_of_getElem? hz)
        refine ⟨Z, _, r, z, rfl, rfl, SqL.of eZ18, atI_of r0 hz, .ref L, rfl, .int at_, rfl, L, _, at_, at_.toNat, rfl, rfl, eL18, ixN_nat a0 (by rw [List.length_map]; omega), ?_⟩
        refine ⟨_, rfl, rfl, false, eqFi (by decide), iteF ⟨_, rfl, rfl, false, eqFi (by decide), iteF ⟨_, rfl, rfl, false, eqFi (by decide), iteF ⟨_, rfl, ?_⟩⟩⟩⟩
        refine fin _ ((row.map sD).set at_.toNat dz) _ upd_same (fun H'' n st => OdAll.set (odz _ H'' n st) _ (rows (n1018.trans (nlL _)) n)) (by rw [List.length_set, List.length_map]; omega) (fun x hx => ?_) (fun b' o nb eb => ?_) (tp18.but Lt Ls)
        · rcases List.mem_or_eq_of_mem_set hx with hx | rfl
          · exact rl x hx
          · exact ⟨lz, rz⟩
        · rw [upd_ne (fun z => by rw [z, LH] at eb; cases eb)]
          exact (mvA.trans mvZ) b' o nb eb
      · refine ⟨_, rfl, rfl, false, eqFi (by decide), iteF ⟨_, rfl, rfl, true, eqTi rfl, iteT ?_⟩⟩
        refine ⟨.ref L, rfl, .inl ⟨rfl, _, SqL.of eL10⟩, .int at_, rfl, L, _, at_, at_.toNat, _, rfl, rfl, eL10, by omega, by omega, ?_, hp, ?_⟩
        · have z : at_ = ((at_.toNat : Nat) : Int) := by omega
          rw [z]
          exact seqIx1 (by rw [List.length_map]; omega)
        · refine ⟨_, rfl, rfl, false, eqFi (by decide), iteF ⟨_, rfl, rfl, false, eqFi (by decide), iteF ⟨_, rfl, ?_⟩⟩⟩
          refine fin _ ((row.map sD).eraseIdx at_.toNat) _ upd_same (fun H'' n _ => ?_) ?_ (fun d hd => rl d (List.mem_of_mem_eraseIdx hd)) (mvP _) (tp10.but Lt Ls)
          · rw [List.eraseIdx_eq_take_drop_succ, List.eraseIdx_eq_take_drop_succ]
            exact OdAll.append (OdAll.drop _ (rows (nlP _) n)) (OdAll.take _ (rows (nlP _) n))
          · have := List.length_eraseIdx_le (row.map sD) at_.toNat
            rw [List.length_map] at this
            omega
      · refine ⟨_, rfl, rfl, false, eqFi (by decide), iteF ⟨_, rfl, rfl, false, eqFi (by decide), iteF ⟨_, rfl, rfl, true, eqTi rfl, iteT ?_⟩⟩⟩
        refine ⟨.ref L, rfl, .inl ⟨rfl, _, SqL.of eL10⟩, .int at_, rfl, .ref L, rfl, .int at_, rfl, L, _, at_, _, rfl, rfl, SqL.of eL10, atI_of a0 hp, L, _, at_, _, rfl, rfl, eL10, by rw [List.length_map]; show _ < 2 ^ 24; omega, a0, by omega, ?_⟩
        refine ⟨_, rfl, rfl, false, eqFi (by decide), iteF ⟨_, rfl, ?_⟩⟩
        refine fin _ ((row.map sD).take at_.toNat ++ [sD (x, y)] ++ (row.map sD).drop at_.toNat) _ upd_same (fun H'' n _ => ?_) ?_ (fun d hd => ?_) (mvP _) (tp10.but Lt Ls)
        · exact OdAll.append (OdAll.drop _ (rows (nlP _) n)) (OdAll.append (.cons (.tup (SqT.of (nTd ((nlP _).trans n) ep)) (.cons (.int _) (.cons (.int _) .nil))) .nil) (OdAll.take _ (rows (nlP _) n)))
        · simp only [List.length_append, List.length_take, List.length_drop, List.length_map, List.length_singleton]
          omega
        · refine rl d ?_
          rcases List.mem_append.mp hd with hd | hd
          · rcases List.mem_append.mp hd with hd | hd
            · exact List.mem_of_mem_take hd
            · rw [List.mem_singleton.mp hd]
              exact List.mem_map.mpr ⟨_, List.mem_of_getElem? hrow, rfl⟩
          · exact List.mem_of_mem_drop hd
      · refine ⟨_, rfl, rfl, false, eqFi (by decide), iteF ⟨_, rfl, rfl, false, eqFi (by decide), iteF ⟨_, rfl, rfl, false, eqFi (by decide), iteF ⟨_, rfl, rfl, true, eqTi rfl, iteT ?_⟩⟩⟩⟩
        refine ⟨.ref L, rfl, L, _, rfl, .inl ⟨SqL.of eL10, fun u nu => ?_⟩⟩
        have su := same_upd (o := .tup (ps.map V.ref)) nu
        refine q (.ref u) (.tuple (row.map sD)) _ (fun H'' n _ => .tup (SqT.of (nTd n upd_same)) (rows (.same su) n)) (fun es z => ?_) (Ro.tup (k := 3) (n := 2000) (fun d hh => (rl d hh).2) (by rw [List.length_map]; omega)) (mvA.trans (Moved.same su)) (tp10.keep su)
        rcases z with z | z
        · cases z
          exact ⟨by rw [List.length_map]; omega, fun x hx => (rl x hx).1⟩
        · cases z
      · refine ⟨_, rfl, rfl, false, eqFi (by omega), iteF ⟨_, rfl, rfl, false, eqFi (by omega), iteF ⟨_, rfl, rfl, false, eqFi (by omega), iteF ⟨_, rfl, rfl, false, eqFi (by omega), iteF ⟨_, rfl, ?_⟩⟩⟩⟩⟩
        exact fin _ _ _ eL10 (fun H'' n _ => rows (fun _ _ _ _ e => e) n) (by rw [List.length_map]; omega) rl mvA tp10
end

/-! ### the law -/
section
variable {P : Program} {w : World} {K : PySem.W.Frag} {mg : Str → Option Value} {base : Heap}
open RO9
theorem neSelf (x : V) : V.bl (!decide (x = x)) = V.bl false := by
  rw [decide_eq_true rfl]
  rfl
/-- all but the dict and the tape stays -/
def Mv2 (A t : Addr) (H H' : Hp) : Prop := ∀ b o, b ≠ A → b ≠ t → H b = some o → H' b = some o
theorem Mv2.trans {A t : Addr} {H H1 H2 : Hp} (a : Mv2 A t H H1) (b : Mv2 A t H1 H2) : Mv2 A t H H2 := fun c o n m h => b c o n m (a c o n m h)
theorem Mv2.moved {A t : Addr} {H H' : Hp} (m : Moved t H H') : Mv2 A t H H' := fun b o _ n e => m b o n e
theorem Mv2.same {A t : Addr} {H H' : Hp} (m : Same H H') : Mv2 A t H H' := fun b o _ _ e => m b o e
theorem Mv2.put {A t : Addr} {H : Hp} {o : HO} : Mv2 A t H (upd H A o) := fun b x n _ e => by
  rw [upd_ne n]
  exact e
/-- a thing that depends on neither -/
def Pst (K : PySem.W.Frag) (A t : Addr) (H : Hp) (v : V) (d : PyData) : Prop := ∀ H'', Mv2 A t H H'' → Od K H'' v d
theorem Pst.step {K : PySem.W.Frag} {A t : Addr} {H H' : Hp} {v : V} {d : PyData} (p : Pst K A t H v d) (m : Mv2 A t H H') : Pst K A t H' v d := fun H'' m2 => p H'' (m.trans m2)
theorem Pst.odd {K : PySem.W.Frag} {A t s : Addr} {H H' : Hp} {v : V} {d : PyData} {kvs : List (Key × V)} (p : ∀ H'', Nld H' H'' → NewStays H H' H'' → Od K H'' v d) (eA : H A = some (.dK kvs)) (tp : Tape H t s) (m : Moved t H H') (At : A ≠ t) (tp' : Tape H' t s) : Pst K A t H' v d := by
  intro H'' m2
  obtain ⟨_, _, _, _, _, _, et, _, _⟩ := id tp
  obtain ⟨_, _, _, _, _, _, et', _, _⟩ := id tp'
  refine p H'' (fun b o nl nd e => m2 b o (fun z => ?_) (fun z => ?_) e) (fun b o hb e => m2 b o (fun z => ?_) (fun z => ?_) e)
  · rw [z, m A _ At eA] at e
    cases e
    exact nd _ rfl
  · rw [z, et'] at e
    cases e
    exact nl _ rfl
  · rw [z, eA] at hb
    cases hb
  · rw [z, et] at hb
    cases hb
theorem Mv2.nld {A t s : Addr} {H H' : Hp} {kvs : List (Key × V)} (m : Mv2 A t H H') (eA : H A = some (.dK kvs)) (tp : Tape H t s) : Nld H H' := fun b o nl nd e => m b o (fun z => by
  rw [z, eA] at e
  cases e
  exact nd _ rfl) (fun z => by
  obtain ⟨_, _, _, _, _, _, et, _, _⟩ := id tp
  rw [z, et] at e
  cases e
  exact nl _ rfl) e
theorem Pst.tup {K : PySem.W.Frag} {A t p : Addr} {H : Hp} {xs : List V} {ds : List PyData} (e : H p = some (.tup xs)) (nA : p ≠ A) (nt : p ≠ t) (h : ∀ H'', OdAll K H'' xs ds) : Pst K A t H (.ref p) (.tuple ds) := fun H'' m => .tup (SqT.of (m p _ nA nt e)) (h H'')
theorem SysK.dk {K : PySem.W.Frag} {A : Addr} {H : Hp} {kvs : List (Key × V)} (h : SysK K H) : SysK K (upd H A (.dK kvs)) := h.elim (fun ⟨u, e, n⟩ => .inl (by
  by_cases c : sysModules = A
  · exact ⟨.dK kvs, by rw [c]; exact upd_same, fun _ z => by cases z⟩
  · exact ⟨u, by rw [upd_ne c]; exact e, n⟩)) .inr
/-- what stands all along -/
structure Cr (K : PySem.W.Frag) (A t s N : Addr) (ns : List Int) (H : Hp) : Prop where
  tp : Tape H t s
  sk : SysK K H
  en : H N = some (.lst (ns.map V.int))
theorem Cr.moved {K : PySem.W.Frag} {A t s N : Addr} {ns : List Int} {H H' : Hp} (c : Cr K A t s N ns H) (m : Moved t H H') (tp : Tape H' t s) (Nt : N ≠ t) : Cr K A t s N ns H' := ⟨tp, c.sk.nl (Nl.moved c.tp m), m _ _ Nt c.en⟩
theorem Cr.same {K : PySem.W.Frag} {A t s N : Addr} {ns : List Int} {H H' : Hp} (c : Cr K A t s N ns H) (m : Same H H') : Cr K A t s N ns H' := ⟨c.tp.keep m, c.sk.same m, m _ _ c.en⟩
theorem Cr.put {K : PySem.W.Frag} {A t s N : Addr} {ns : List Int} {H : Hp} {kvs : List (Key × V)} (c : Cr K A t s N ns H) (At : A ≠ t) (As : A ≠ s) (NA : N ≠ A) : Cr K A t s N ns (upd H A (.dK kvs)) := ⟨c.tp.but At As, SysK.dk c.sk, by rw [upd_ne NA]; exact c.en⟩
def thr (v1 v2 v3 : V) : List (Key × V) := [(.inr "comers", v1), (.inr "bound", v2), (.inr "comings", v3)]
def fou (v1 v2 v3 v4 : V) : List (Key × V) := [(.inr "comers", v1), (.inr "bound", v2), (.inr "comings", v3), (.inr "spot", v4)]
theorem put3 {v1 v2 v3 v : V} : putK (thr v1 v2 v3) (.inr "comings") v = thr v1 v2 v := rfl
theorem put4 {v1 v2 v3 v : V} : putK (thr v1 v2 v3) (.inr "spot") v = fou v1 v2 v3 v := rfl
theorem put4' {v1 v2 v3 v4 v : V} : putK (fou v1 v2 v3 v4) (.inr "spot") v = fou v1 v2 v3 v := rfl
theorem put5 {v1 v2 v3 v4 v : V} : putK (fou v1 v2 v3 v4) (.inr "walk") v = five v1 v2 v3 v4 v := rfl
theorem put51 {v1 v2 v3 v4 v5 v : V} : putK (five v1 v2 v3 v4 v5) (.inr "comers") v = five v v2 v3 v4 v5 := rfl
theorem put52 {v1 v2 v3 v4 v5 v : V} : putK (five v1 v2 v3 v4 v5) (.inr "bound") v = five v1 v v3 v4 v5 := rfl
theorem put53 {v1 v2 v3 v4 v5 v : V} : putK (five v1 v2 v3 v4 v5) (.inr "comings") v = five v1 v2 v v4 v5 := rfl
theorem put54 {v1 v2 v3 v4 v5 v : V} : putK (five v1 v2 v3 v4 v5) (.inr "spot") v = five v1 v2 v3 v v5 := rfl
theorem put55 {v1 v2 v3 v4 v5 v : V} : putK (five v1 v2 v3 v4 v5) (.inr "walk") v = five v1 v2 v3 v4 v := rfl
/-- the dict of five things as it stands -/
structure Fv (K : PySem.W.Frag) (A t : Addr) (H : Hp) : Prop where
  ex : ∃ v1 v2 v3 v4 v5 d1 d2 d3 d4 d5, H A = some (.dK (five v1 v2 v3 v4 v5)) ∧ (Pst K A t H v1 d1 ∧ Ro 3 2000 d1) ∧ (Pst K A t H v2 d2 ∧ Ro 3 2000 d2) ∧ (Pst K A t H v3 d3 ∧ Ro 3 2000 d3 ∧ Lim d3) ∧ (Pst K A t H v4 d4 ∧ Ro 3 2000 d4 ∧ Lim d4) ∧ (Pst K A t H v5 d5 ∧ Ro 4 150000 d5 ∧ Lim2 d5)
theorem Fv.moved {K : PySem.W.Frag} {A t : Addr} {H H' : Hp} (f : Fv K A t H) (m : Moved t H H') (At : A ≠ t) : Fv K A t H' := by
  obtain ⟨v1, v2, v3, v4, v5, d1, d2, d3, d4, d5, e, ⟨a1, b1⟩, ⟨a2, b2⟩, ⟨a3, b3⟩, ⟨a4, b4⟩, ⟨a5, b5⟩⟩ := f.ex
  exact ⟨v1, v2, v3, v4, v5, d1, d2, d3, d4, d5, m _ _ At e, ⟨a1.step (.moved m), b1⟩, ⟨a2.step (.moved m), b2⟩, ⟨a3.step (.moved m), b3⟩, ⟨a4.step (.moved m), b4⟩, ⟨a5.step (.moved m), b5⟩⟩
def nm (i : Nat) : Str := match i with
  | 0 => "comers"
  | 1 => "bound"
  | 2 => "comings"
  | 3 => "spot"
  | _ => "walk"
theorem Fv.put {K : PySem.W.Frag} {A t : Addr} {H : Hp} (f : Fv K A t H) {i : Nat} (hi : i < 5) {v : V} {d : PyData} (p : Pst K A t H v d) (r : Ro 3 2000 d) (l : Lim d) (l2 : Lim2 d) : ∃ kvs, H A = some (.dK kvs) ∧ kvs.length < sizeLine ∧ Fv K A t (upd H A (.dK (putK kvs (.inr (nm i)) v))) := by
  obtain ⟨v1, v2, v3, v4, v5, d1, d2, d3, d4, d5, e, ⟨a1, b1⟩, ⟨a2, b2⟩, ⟨a3, b3⟩, ⟨a4, b4⟩, ⟨a5, b5⟩⟩ := f.ex
  have a1 := fun o => a1.step (Mv2.put (o := o))
  have a2 := fun o => a2.step (Mv2.put (o := o))
  have a3 := fun o => a3.step (Mv2.put (o := o))
  have a4 := fun o => a4.step (Mv2.put (o := o))
  have a5 := fun o => a5.step (Mv2.put (o := o))
  have p := fun o => p.step (Mv2.put (o := o))
  have hi : i = 0 ∨ i = 1 ∨ i = 2 ∨ i = 3 ∨ i = 4 := by omega
  refine ⟨_, e, by show 5 < 2 ^ 24; decide, ?_⟩
  rcases hi with rfl | rfl | rfl | rfl | rfl
  · exact ⟨_, _, _, _, _, _, _, _, _, _, upd_same, ⟨p _, r⟩, ⟨a2 _, b2⟩, ⟨a3 _, b3⟩, ⟨a4 _, b4⟩, ⟨a5 _, b5⟩⟩
  · exact ⟨_, _, _, _, _, _, _, _, _, _, upd_same, ⟨a1 _, b1⟩, ⟨p _, r⟩, ⟨a3 _, b3⟩, ⟨a4 _, b4⟩, ⟨a5 _, b5⟩⟩
  · exact ⟨_, _, _, _, _, _, _, _, _, _, upd_same, ⟨a1 _, b1⟩, ⟨a2 _, b2⟩, ⟨p _, r, l⟩, ⟨a4 _, b4⟩, ⟨a5 _, b5⟩⟩
  · exact ⟨_, _, _, _, _, _, _, _, _, _, upd_same, ⟨a1 _, b1⟩, ⟨a2 _, b2⟩, ⟨a3 _, b3⟩, ⟨p _, r, l⟩, ⟨a5 _, b5⟩⟩
  · exact ⟨_, _, _, _, _, _, _, _, _, _, upd_same, ⟨a1 _, b1⟩, ⟨a2 _, b2⟩, ⟨a3 _, b3⟩, ⟨a4 _, b4⟩, ⟨p _, r.up (by decide) (by decide), l2⟩⟩
def dic (d1 d2 d3 d4 d5 : PyData) : PyData := .dict [(.str "comers", d1), (.str "bound", d2), (.str "comings", d3), (.str "spot", d4), (.str "walk", d5)]
theorem ro_dic {d1 d2 d3 d4 d5 : PyData} (h1 : Ro 3 2000 d1) (h2 : Ro 3 2000 d2) (h3 : Ro 3 2000 d3) (h4 : Ro 3 2000 d4) (h5 : Ro 4 150000 d5) : Ro 6 200000 (dic d1 d2 d3 d4 d5) := by
  have k1 : Ro 2 1000 (.str "comers") := roOf (by decide +kernel)
  have k2 : Ro 2 1000 (.str "bound") := roOf (by decide +kernel)
  have k3 : Ro 2 1000 (.str "comings") := roOf (by decide +kernel)
  have k4 : Ro 2 1000 (.str "spot") := roOf (by decide +kernel)
  have k5 : Ro 2 1000 (.str "walk") := roOf (by decide +kernel)
  unfold dic
  refine ⟨?_, ?_, ?_, ?_⟩
  · rw [PyData.showable]
    simp only [PyData.showableKv, h1.sh, h2.sh, h3.sh, h4.sh, h5.sh, k1.sh, k2.sh, k3.sh, k4.sh, k5.sh, Bool.and_true]
  · have := h1.dp
    have := h2.dp
    have := h3.dp
    have := h4.dp
    have := h5.dp
    have := k1.dp
    have := k2.dp
    have := k3.dp
    have := k4.dp
    have := k5.dp
    rw [PyData.depth]
    simp only [PyData.depthKv]
    omega
  · rw [PyData.leavesShort]
    simp only [PyData.leavesShortKv, h1.lf, h2.lf, h3.lf, h4.lf, h5.lf, k1.lf, k2.lf, k3.lf, k4.lf, k5.lf, Bool.and_true]
  · have := h1.bk
    have := h2.bk
    have := h3.bk
    have := h4.bk
    have := h5.bk
    have := k1.bk
    have := k2.bk
    have := k3.bk
    have := k4.bk
    have := k5.bk
    rw [PyData.bulk]
    simp only [PyData.bulkKv]
    omega
theorem od_dic {K : PySem.W.Frag} {H : Hp} {A : Addr} {v1 v2 v3 v4 v5 : V} {d1 d2 d3 d4 d5 : PyData} (e : H A = some (.dK (five v1 v2 v3 v4 v5))) (h1 : Od K H v1 d1) (h2 : Od K H v2 d2) (h3 : Od K H v3 d3) (h4 : Od K H v4 d4) (h5 : Od K H v5 d5) : Od K H (.ref A) (dic d1 d2 d3 d4 d5) :=
  .dct (ds := [d1, d2, d3, d4, d5]) e (.cons h1 (.cons h2 (.cons h3 (.cons h4 (.cons h5 .nil)))))
def lawLevel : Nat := 10
def spLaw (K : PySem.W.Frag) : Sp := fun vs H Q _ => ∃ (a : Addr) (ns : List Int), vs = [.ref a] ∧ SqL K H a (ns.map V.int) ∧ ns.length ≤ 63 ∧ SysK K H ∧ ∀ H', Q (.bl true) H'
theorem ok_law (T : Tx K mg) : RG7.FnG P w K mg base 10 T.a_law T.d_law ["script"] (spLaw K) := by
  refine RG7.fnG T.F_law sc_law (fun vs H Q E h => ?_) (fun cdv A outer s H vs Q E noG hr h => ?_)
  · obtain ⟨a, ns, rfl, _⟩ := h
    rfl
  · obtain ⟨a, ns0, rfl, hS, hlen, hK, q⟩ := h
    refine ⟨_, ((pss_cons (ps_set (i := 1) sc_law.nd rfl (.inr rfl) (pe_call (ok__law_tape T) (hr.mono (by decide)) (by rfl) T.g__law_tape T.F__law_tape.kp T.b__law_tape .nil pass0 (pa_cons (pv 0) pa_nil)))
  (pss_cons (ps_set (i := 2) sc_law.nd rfl (.inr rfl) (pe_op op_add pe_int (pe_call (ok__law_pick T) (hr.mono (by decide)) (by rfl) T.g__law_pick T.F__law_pick.kp T.b__law_pick .nil pass0 (pa_cons (pv 1) (pa_cons pe_int pa_nil)))))
  (pss_cons (ps_set (i := 3) sc_law.nd rfl (.inl rfl) (pe_ix ix_list (pe_lst (pa_cons (pe_op op_add pe_int (pe_call (ok__law_pick T) (hr.mono (by decide)) (by rfl) T.g__law_pick T.F__law_pick.kp T.b__law_pick .nil pass0 (pa_cons (pv 1) (pa_cons pe_int pa_nil)))) (pa_cons (pe_op op_add pe_int (pe_call (ok__law_pick T) (hr.mono (by decide)) (by rfl) T.g__law_pick T.F__law_pick.kp T.b__law_pick .nil pass0 (pa_cons (pv 1) (pa_cons pe_int pa_nil)))) (pa_cons pe_int pa_nil)))) (pe_call (ok__law_pick T) (hr.mono (by decide)) (by rfl) T.g__law_pick T.F__law_pick.kp T.b__law_pick .nil pass0 (pa_cons (pv 1) (pa_cons pe_int pa_nil))) (fun _ _ => rfl)))
  (pss_cons (ps_setLc (i := 4) (own := [("k", 9)]) (g := (gName 9)) (tt := tYes) rfl sc_law.nd rfl rfl (sw_true rfl rfl rfl (by decide +kernel)) (pi_range1 (by rfl) T.m_range (pa_cons (pe_call (ok__law_pick T) (hr.mono (by decide)) (by rfl) T.g__law_pick T.F__law_pick.kp T.b__law_pick .nil pass0 (pa_cons (pv 1) (pa_cons pe_int pa_nil))) pa_nil)) (blkOk_by (own := [("k", 9)]) (N := ["script", "tape", "comers", "bound", "numbers", "a", "name", "kept", "kind", "k"]) (sc := defScope s_law) (by decide +kernel)) (fun _ _ _ _ _ => pg_name (i := 9) sc_law.nd rfl (.inl rfl)) (fun _ _ _ _ _ => pts_nil) (fun _ _ _ _ _ => (pe_call (ok__law_pick T) (hr.mono (by decide)) (by rfl) T.g__law_pick T.F__law_pick.kp T.b__law_pick .nil pass0 (pa_cons (pv 1) (pa_cons (pe_op op_add (pe_op op_add (pv 2) pe_int) (pe_callTy call_int1 (by rfl) T.m_int (by decide +kernel) (pa_cons (pe_cmpR op_eq (pe_call (ok__law_pick T) (hr.mono (by decide)) (by rfl) T.g__law_pick T.F__law_pick.kp T.b__law_pick .nil pass0 (pa_cons (pv 1) (pa_cons pe_int pa_nil))) pe_int (nomark _)) pa_nil))) pa_nil)))))
  (pss_cons (ps_set (i := 5) sc_law.nd rfl (.inl rfl) (pe_disp (pps_cons pe_str (pv 2) (pps_cons pe_str (pv 3) (pps_cons pe_str (pe_callTy call_tuple_of (by rfl) T.m_tuple (by decide +kernel) (pa_cons (pv 4) pa_nil)) pps_nil))) (by rfl) rfl (by simp) (by decide)))
  (Evl.pss_cut (ps_if (pt_cmpR op_eq (pe_call (ok__law_pick T) (hr.mono (by decide)) (by rfl) T.g__law_pick T.F__law_pick.kp T.b__law_pick .nil pass0 (pa_cons (pv 1) (pa_cons pe_int pa_nil))) pe_int (nomark _)) (pss_one (ps_dput (by exact hu_of hr) (pv 5) pe_str (pe_op RN6.op_repN (pe_tup (pa_cons pe_int pa_nil)) (pe_op op_add pe_int (pe_call (ok__law_pick T) (hr.mono (by decide)) (by rfl) T.g__law_pick T.F__law_pick.kp T.b__law_pick .nil pass0 (pa_cons (pv 1) (pa_cons pe_int pa_nil))))) rfl)) pss_nil)
  (pss_cons (ps_dput (by exact hu_of hr) (pv 5) pe_str (pe_tup (pa_cons (pe_call (ok__law_pick T) (hr.mono (by decide)) (by rfl) T.g__law_pick T.F__law_pick.kp T.b__law_pick .nil pass0 (pa_cons (pv 1) (pa_cons (pe_op op_add (pv 3) pe_int) pa_nil))) (pa_cons (pe_call (ok__law_pick T) (hr.mono (by decide)) (by rfl) T.g__law_pick T.F__law_pick.kp T.b__law_pick .nil pass0 (pa_cons (pv 1) (pa_cons (pe_op op_add (pv 2) pe_int) pa_nil))) pa_nil))) rfl)
  (Evl.pss_cut (ps_if (pt_cmpR op_eq (pe_call (ok__law_pick T) (hr.mono (by decide)) (by rfl) T.g__law_pick T.F__law_pick.kp T.b__law_pick .nil pass0 (pa_cons (pv 1) (pa_cons pe_int pa_nil))) pe_int (nomark _)) (pss_one (ps_dput (by exact hu_of hr) (pv 5) pe_str (pe_ix ix_list (pe_lst (pa_cons (pe_tup (pa_cons (pe_call (ok__law_pick T) (hr.mono (by decide)) (by rfl) T.g__law_pick T.F__law_pick.kp T.b__law_pick .nil pass0 (pa_cons (pv 1) (pa_cons (pe_op op_add (pv 3) pe_int) pa_nil))) (pa_cons pe_bl pa_nil))) (pa_cons (pe_tup (pa_cons pe_bl (pa_cons pe_int pa_nil))) (pa_cons (pe_tup (pa_cons pe_bl (pa_cons pe_int pa_nil))) pa_nil)))) (pe_call (ok__law_pick T) (hr.mono (by decide)) (by rfl) T.g__law_pick T.F__law_pick.kp T.b__law_pick .nil pass0 (pa_cons (pv 1) (pa_cons pe_int pa_nil))) (fun _ _ => rfl)) rfl)) pss_nil)
  (pss_cons (ps_dput (by exact hu_of hr) (pv 5) pe_str (pe_call (ok__law_walk T) (hr.mono (by decide)) (by rfl) T.g__law_walk T.F__law_walk.kp T.b__law_walk .nil pass0 (pa_cons (pv 1) (pa_cons (pv 2) (pa_cons (pv 3) pa_nil)))) rfl)
  (pss_cons (ps_for PassesOwn.never rfl (pi_list (pe_lst (pa_cons pe_str (pa_cons pe_str (pa_cons pe_str (pa_cons pe_str (pa_cons pe_str pa_nil))))))) (pg_name (i := 6) sc_law.nd rfl (.inl rfl))
   (pss_one (ps_if (pt_cmpR op_eq (pe_call (ok__law_pick T) (hr.mono (by decide)) (by rfl) T.g__law_pick T.F__law_pick.kp T.b__law_pick .nil pass0 (pa_cons (pv 1) (pa_cons pe_int pa_nil))) pe_int (nomark _)) (pss_one (ps_dput (by exact hu_of hr) (pv 5) (pv 6) (pe_call (ok__law_odd T) (hr.mono (by decide)) (by rfl) T.g__law_odd T.F__law_odd.kp T.b__law_odd .nil pass0 (pa_cons (pv 1) pa_nil)) rfl)) pss_nil)))
  (Evl.pss_cut (ps_if (pt_cmpR op_eq (pe_call (ok__law_pick T) (hr.mono (by decide)) (by rfl) T.g__law_pick T.F__law_pick.kp T.b__law_pick .nil pass0 (pa_cons (pv 1) (pa_cons pe_int pa_nil))) pe_int (nomark _)) (pss_one (ps_dput (by exact hu_of hr) (pv 5) pe_str (pe_callTy call_list_of (by rfl) T.m_list (by decide +kernel) (pa_cons (pv 4) pa_nil)) rfl)) pss_nil)
  (pss_cons (ps_set (i := 7) sc_law.nd rfl (.inl rfl) (pe_callB (RO9.call_reprO (by exact noG) (units65 hr)) (by rfl) T.m_repr (by decide +kernel) (pa_cons (pv 5) pa_nil)))
  (pss_cons (ps_for PassesOwn.never rfl (pi_range1 (by rfl) T.m_range (pa_cons pe_int pa_nil)) (pg_name (i := 8) sc_law.nd rfl (.inl rfl))
   (pss_one (ps_if (PW.pt (pw_or (pt_cmpR op_ne (pe_call (ok__law_tried T) (hr.mono (by decide)) (by rfl) T.g__law_tried T.F__law_tried.kp T.b__law_tried .nil pass0 (pa_cons (pv 8) (pa_cons (pv 5) pa_nil))) (pe_call (ok__law_due T) (hr.mono (by decide)) (by rfl) T.g__law_due T.F__law_due.kp T.b__law_due .nil pass0 (pa_cons (pv 8) (pa_cons (pv 5) pa_nil))) (nomark _)) (pw_or1 (pt_cmpR op_ne (pe_callB (RO9.call_reprO (by exact noG) (units65 hr)) (by rfl) T.m_repr (by decide +kernel) (pa_cons (pv 5) pa_nil)) (pv 7) (nomark _))))) (pss_one (ps_ret pe_bl)) pss_nil)))
  (pss_one (ps_ret pe_bl)))))))))))))))), ?_⟩
    refine ⟨.ref a, rfl, a, ns0, rfl, hS, fun t sc H1 nt ns' sm tp => ?_⟩
    have k1 := hK.same sm
    refine ⟨.ref t, rfl, t, sc, 3, rfl, ⟨by decide, by decide⟩, tp, fun kk H2 k0 k3 mv2 tp2 => ⟨2, kk, rfl, rfl, ?_⟩⟩
    have k2 := k1.nl (Nl.moved tp mv2)
    refine ⟨.ref t, rfl, t, sc, 8, rfl, ⟨by decide, by decide⟩, tp2, fun b1 H3 b10 b11 mv3 tp3 => ⟨_, _, rfl, rfl, .ref t, rfl, t, sc, 60, rfl, ⟨by decide, by decide⟩, tp3, fun b2 H4 b20 b21 mv4 tp4 => ⟨_, _, rfl, rfl, by show 3 ≤ sizeLine; decide, fun W nW => ?_⟩⟩⟩
    have k4 := (k2.nl (Nl.moved tp2 mv3)).nl (Nl.moved tp3 mv4)
    have sW := same_upd (o := .lst [V.int (1 + b1), .int (1 + b2), .int 60]) nW
    have eW : upd H4 W (.lst [V.int (1 + b1), .int (1 + b2), .int 60]) W = some (.lst [V.int (1 + b1), .int (1 + b2), .int 60]) := upd_same
    have Wt : W ≠ t := tp4.ne nW
    have tp5 := tp4.keep sW
    have k5 := k4.same sW
    generalize upd H4 W (.lst [V.int (1 + b1), .int (1 + b2), .int 60]) = H5 at *
    refine ⟨.ref t, rfl, t, sc, 3, rfl, ⟨by decide, by decide⟩, tp5, fun ix H6 ix0 ix3 mv6 tp6 => ?_⟩
    have k6 := k5.nl (Nl.moved tp5 mv6)
    obtain ⟨b, eb, bb1, bb60⟩ : ∃ b : Int, [V.int (1 + b1), .int (1 + b2), .int 60][ix.toNat]? = some (.int b) ∧ 1 ≤ b ∧ b ≤ 60 := by
      have z : ix = 0 ∨ ix = 1 ∨ ix = 2 := by omega
      rcases z with rfl | rfl | rfl
      · exact ⟨1 + b1, rfl, by omega, by omega⟩
      · exact ⟨1 + b2, rfl, by omega, by omega⟩
      · exact ⟨60, rfl, by decide, by decide⟩
    refine ⟨W, _, ix, .int b, rfl, rfl, SqL.of (mv6 W _ Wt eW), atI_of ix0 eb, ?_⟩
    refine ⟨.ref t, rfl, t, sc, 12, rfl, ⟨by decide, by decide⟩, tp6, fun m H7 m0 m12 mv7 tp7 => ⟨m, rfl, by omega, by omega, fun N nN => lc_range (lo := 0) (n := m.toNat)
      (fun i H' => ∃ ns : List Int, H' N = some (.lst (ns.map V.int)) ∧ ns.length = i ∧ (∀ n ∈ ns, 0 ≤ n ∧ n ≤ 6) ∧ Tape H' t sc ∧ SysK K H')
      ⟨[], upd_same, rfl, fun n hn => absurd hn (by simp), tp7.keep (same_upd nN), (k6.nl (Nl.moved tp6 mv7)).same (same_upd nN)⟩ (fun i H8 hi h => ?_) (fun H8 h => ?_)⟩⟩
    · obtain ⟨ns, eN, ln, bn, tp8, k8⟩ := h
      have Nt : N ≠ t := tp7.ne nN
      have Ns : N ≠ sc := tp7.ne2 nN
      refine ⟨rfl, ?_⟩
      refine ⟨.ref t, rfl, .int (2 + kk), rfl, _, _, rfl, rfl, .ref t, rfl, t, sc, 30, rfl, ⟨by decide, by decide⟩, tp8, fun z H9 z0 z1 mv9 tp9 => ⟨rfl, .inr ⟨_, rfl, _, _, rfl, rfl, t, sc, _, rfl, ?_, tp9, fun n H10 n0 n1 mv10 tp10 => ?_⟩⟩⟩
      · split <;> exact ⟨by omega, by omega⟩
      · have n6 : n ≤ 6 := by
          split at n1 <;> omega
        have e10 := mv10 N _ Nt (mv9 N _ Nt eN)
        refine ⟨_, e10, by rw [List.length_map]; show _ < 2 ^ 24; omega, ns ++ [n], by rw [upd_same, List.map_append]; rfl, by rw [List.length_append, ln]; rfl, fun x hx => ?_, tp10.but Nt Ns, ?_⟩
        · rcases List.mem_append.mp hx with hx | hx
          · exact bn x hx
          · rw [List.mem_singleton.mp hx]
            exact ⟨n0, n6⟩
        · exact ((k8.nl (Nl.moved tp8 mv9)).nl (Nl.moved tp9 mv10)).nl (Nl.put e10)
    obtain ⟨ns, eN, ln, bn, tp8, k8⟩ := h
    have Nt : N ≠ t := tp7.ne nN
    have Ns : N ≠ sc := tp7.ne2 nN
    have ns11 : ns.length ≤ 11 := by omega
    refine fun A nA => ?_
    have sA := same_upd (o := .dK []) nA
    have At : A ≠ t := tp8.ne nA
    have As : A ≠ sc := tp8.ne2 nA
    have NA : N ≠ A := fun z => by
      rw [← z, eN] at nA
      cases nA
    have eA0 : upd H8 A (.dK []) A = some (.dK []) := upd_same
    have c8 : Cr K A t sc N ns (upd H8 A (.dK [])) := ⟨tp8.keep sA, k8.same sA, sA _ _ eN⟩
    generalize upd H8 A (.dK []) = H9 at *
    refine ⟨.int (2 + kk), rfl, .int b, rfl, .ref N, rfl, N, _, rfl, .inl ⟨SqL.of c8.en, fun p3 np3 => ?_⟩⟩
    have s3 := same_upd (o := .tup (ns.map V.int)) np3
    have e3 : upd H9 p3 (.tup (ns.map V.int)) p3 = some (.tup (ns.map V.int)) := upd_same
    have p3A : p3 ≠ A := fun z => by
      rw [z, eA0] at np3
      cases np3
    have p3t : p3 ≠ t := c8.tp.ne np3
    have c10 := c8.same s3
    have eA1 := s3 _ _ eA0
    generalize upd H9 p3 (.tup (ns.map V.int)) = H10 at *
    refine ⟨eA1, [(.inr "comers", .int (2 + kk)), (.inr "bound", .int b), (.inr "comings", .ref p3)], rfl, by show 3 ≤ 15; decide, ?_⟩
    have roI : ∀ {i : Int}, 0 ≤ i → i ≤ 70 → Ro 3 2000 (.int i) := fun h g => (Ro.int (by omega) (by omega)).up (by decide) (by decide)
    have c11 : Cr K A t sc N ns (upd H10 A (.dK (mergeK [] [(.inr "comers", .int (2 + kk)), (.inr "bound", .int b), (.inr "comings", .ref p3)]))) := c10.put At As NA
    have eA11 : upd H10 A (.dK (mergeK [] [(.inr "comers", .int (2 + kk)), (.inr "bound", .int b), (.inr "comings", .ref p3)])) A = some (.dK (thr (.int (2 + kk)) (.int b) (.ref p3))) := upd_same
    have e311 : upd H10 A (.dK (mergeK [] [(.inr "comers", .int (2 + kk)), (.inr "bound", .int b), (.inr "comings", .ref p3)])) p3 = some (.tup (ns.map V.int)) := by
      rw [upd_ne p3A]
      exact e3
    generalize upd H10 A (.dK (mergeK [] [(.inr "comers", .int (2 + kk)), (.inr "bound", .int b), (.inr "comings", .ref p3)])) = H11 at *
    refine ⟨fun σ' H' => ∃ k v3 d3, (2 ≤ k ∧ k ≤ 4) ∧ σ' = [some (.ref a), some (.ref t), some (.int k), some (.int b), some (.ref N), some (.ref A), none, none, none, none] ∧ Cr K A t sc N ns H' ∧ H' A = some (.dK (thr (.int k) (.int b) v3)) ∧ (Pst K A t H' v3 d3 ∧ Ro 3 2000 d3 ∧ Lim d3), ?_, fun σ' H12 hm => ?_⟩
    · refine ⟨.ref t, rfl, t, sc, 10, rfl, ⟨by decide, by decide⟩, c11.tp, fun x H12 _ _ mv12 tp12 => ?_⟩
      have c12 := c11.moved mv12 tp12 Nt
      have eA12 := mv12 A _ At eA11
      by_cases c : x = 0
      · refine ⟨rfl, true, eqTi c, iteT ⟨by show 1 ≤ sizeLine; decide, fun o1 no1 => ?_⟩⟩
        have so1 := same_upd (o := .tup [V.int 1]) no1
        have eo1 : upd H12 o1 (.tup [V.int 1]) o1 = some (.tup [V.int 1]) := upd_same
        have c13 := c12.same so1
        have eA13 := so1 _ _ eA12
        generalize upd H12 o1 (.tup [V.int 1]) = H13 at *
        refine ⟨.ref t, rfl, t, sc, 3, rfl, ⟨by decide, by decide⟩, c13.tp, fun y H14 y0 y3 mv14 tp14 => ?_⟩
        have c14 := c13.moved mv14 tp14 Nt
        have eA14 := mv14 A _ At eA13
        have eo14 := mv14 o1 _ (tp12.ne no1) eo1
        refine ⟨399, y, rfl, rfl, o1, 399 + y, _, rfl, rfl, SqT.of eo14, by omega, by omega, by show _ * 1 ≤ _; omega, fun p H15 s15 h15 => ?_⟩
        have s15 : Same H14 H15 := s15
        have c15 := c14.same s15
        have eA15 := s15 _ _ eA14
        refine ⟨.ref A, rfl, A, _, rfl, DPut.k (k := .inr "comings") eA15 (by show 3 < 2 ^ 24; decide), ?_⟩
        have th := repT (i := 1) (k := 399 + y) (by omega) (by decide)
        have P3 : Pst K A t H15 (.ref p) (.tuple (List.replicate (399 + y).toNat (.int 1))) := fun H'' m => .tup (sT_nld h15 (m.nld eA15 c15.tp)) (rep_all 1 _)
        exact ⟨_, _, _, ⟨by omega, by omega⟩, rfl, c15.put At As NA, upd_same, P3.step .put, th.2, th.1.1⟩
      · refine ⟨rfl, false, eqFi c, iteF ?_⟩
        exact ⟨_, _, _, ⟨by omega, by omega⟩, rfl, c12, eA12, (Pst.tup e311 p3A p3t fun H'' => OdAll.ints ns).step (.moved mv12), (Ro.ints (m := 2000) (fun n hn => by have := bn n hn; omega) (by omega)).up (by decide) (by decide), fun ds z => by cases z; rw [List.length_map]; omega⟩
    obtain ⟨k, v3, d3, ⟨kk2, kk4⟩, rfl, c12, eA12, P3, R3, L3⟩ := hm
    refine ⟨.ref t, rfl, .int b, rfl, _, _, rfl, rfl, t, sc, b + 2, rfl, ⟨by omega, by omega⟩, c12.tp, fun x H13 x0 x1 mv13 tp13 => ⟨.ref t, rfl, .int k, rfl, _, _, rfl, rfl, t, sc, k + 2, rfl, ⟨by omega, by omega⟩, tp13, fun y H14 y0 y1 mv14 tp14 => ⟨by show 2 ≤ sizeLine; decide, fun p4 np4 => ?_⟩⟩⟩
    have c14 := (c12.moved mv13 tp13 Nt).moved mv14 tp14 Nt
    have mv1214 := mv13.trans mv14
    have eA14 := mv1214 A _ At eA12
    have s4 := same_upd (o := .tup [V.int x, .int y]) np4
    have e4 : upd H14 p4 (.tup [V.int x, .int y]) p4 = some (.tup [V.int x, .int y]) := upd_same
    have p4A : p4 ≠ A := fun z => by
      rw [z, eA14] at np4
      cases np4
    have p4t : p4 ≠ t := tp14.ne np4
    have c15 := c14.same s4
    have eA15 := s4 _ _ eA14
    have P3' := (P3.step (.moved mv1214)).step (.same s4)
    generalize upd H14 p4 (.tup [V.int x, .int y]) = H15 at *
    refine ⟨.ref A, rfl, A, _, rfl, DPut.k (k := .inr "spot") eA15 (by show 3 < 2 ^ 24; decide), ?_⟩
    have P4 : Pst K A t H15 (.ref p4) (.tuple [.int x, .int y]) := Pst.tup e4 p4A p4t fun H'' => .cons (.int _) (.cons (.int _) .nil)
    have R4 : Ro 3 2000 (.tuple [.int x, .int y]) := (Ro.ints (ns := [x, y]) (m := 2) (fun n hn => by
      simp at hn
      rcases hn with rfl | rfl <;> omega) (Nat.le_refl _)).up (by decide) (by decide)
    have P3' := P3'.step (Mv2.put (o := .dK (putK (thr (.int k) (.int b) v3) (.inr "spot") (.ref p4))))
    have P4 := P4.step (Mv2.put (o := .dK (putK (thr (.int k) (.int b) v3) (.inr "spot") (.ref p4))))
    have c16 : Cr K A t sc N ns (upd H15 A (.dK (putK (thr (.int k) (.int b) v3) (.inr "spot") (.ref p4)))) := c15.put At As NA
    have eA16 : upd H15 A (.dK (putK (thr (.int k) (.int b) v3) (.inr "spot") (.ref p4))) A = some (.dK (fou (.int k) (.int b) v3 (.ref p4))) := upd_same
    generalize upd H15 A (.dK (putK (thr (.int k) (.int b) v3) (.inr "spot") (.ref p4))) = H16 at *
    refine ⟨fun σ' H' => ∃ v4 d4, σ' = [some (.ref a), some (.ref t), some (.int k), some (.int b), some (.ref N), some (.ref A), none, none, none, none] ∧ Cr K A t sc N ns H' ∧ H' A = some (.dK (fou (.int k) (.int b) v3 v4)) ∧ Pst K A t H' v3 d3 ∧ (Pst K A t H' v4 d4 ∧ Ro 3 2000 d4 ∧ Lim d4), ?_, fun σ' H17 hm => ?_⟩
    · refine ⟨.ref t, rfl, t, sc, 8, rfl, ⟨by decide, by decide⟩, c16.tp, fun z H17 _ _ mv17 tp17 => ?_⟩
      have c17 := c16.moved mv17 tp17 Nt
      have eA17 := mv17 A _ At eA16
      by_cases c : z = 0
      · refine ⟨rfl, true, eqTi c, iteT ⟨.ref t, rfl, .int b, rfl, _, _, rfl, rfl, t, sc, b + 1, rfl, ⟨by omega, by omega⟩, tp17, fun u H18 u0 u1 mv18 tp18 => ?_⟩⟩
        have c18 := c17.moved mv18 tp18 Nt
        have eA18 := mv18 A _ At eA17
        refine ⟨by show 2 ≤ sizeLine; decide, fun o1 no1 => ?_⟩
        have so1 := same_upd (o := .tup [V.int u, .bl true]) no1
        have eo1 : upd H18 o1 (.tup [V.int u, .bl true]) o1 = some (.tup [V.int u, .bl true]) := upd_same
        have c19 := c18.same so1
        have eA19 := so1 _ _ eA18
        generalize upd H18 o1 (.tup [V.int u, .bl true]) = H19 at *
        refine ⟨by show 2 ≤ sizeLine; decide, fun o2 no2 => ?_⟩
        have so2 := same_upd (o := .tup [V.bl true, .int 1]) no2
        have eo2 : upd H19 o2 (.tup [V.bl true, .int 1]) o2 = some (.tup [V.bl true, .int 1]) := upd_same
        have c20 := c19.same so2
        have eA20 := so2 _ _ eA19
        generalize upd H19 o2 (.tup [V.bl true, .int 1]) = H20 at *
        refine ⟨by show 2 ≤ sizeLine; decide, fun o3 no3 => ?_⟩
        have so3 := same_upd (o := .tup [V.bl false, .int 1]) no3
        have eo3 : upd H20 o3 (.tup [V.bl false, .int 1]) o3 = some (.tup [V.bl false, .int 1]) := upd_same
        have c21 := c20.same so3
        have eA21 := so3 _ _ eA20
        generalize upd H20 o3 (.tup [V.bl false, .int 1]) = H21 at *
        refine ⟨by show 3 ≤ sizeLine; decide, fun Z nZ => ?_⟩
        have sZ := same_upd (o := .lst [V.ref o1, .ref o2, .ref o3]) nZ
        have eZ : upd H21 Z (.lst [V.ref o1, .ref o2, .ref o3]) Z = some (.lst [V.ref o1, .ref o2, .ref o3]) := upd_same
        have Zt : Z ≠ t := c21.tp.ne nZ
        have c22 := c21.same sZ
        have eA22 := sZ _ _ eA21
        generalize upd H21 Z (.lst [V.ref o1, .ref o2, .ref o3]) = H22 at *
        refine ⟨.ref t, rfl, t, sc, 3, rfl, ⟨by decide, by decide⟩, c22.tp, fun r H23 r0 r3 mv23 tp23 => ?_⟩
        have c23 := c22.moved mv23 tp23 Nt
        have eA23 := mv23 A _ At eA22
        have nn : ∀ {o : Addr} {xs : List V} {Hk : Hp}, Hk o = some (.tup xs) → Hk A = some (.dK (fou (.int k) (.int b) v3 (.ref p4))) → Tape Hk t sc → o ≠ A ∧ o ≠ t := fun {o xs Hk} e eA tp => by
          refine ⟨fun z => ?_, fun z => ?_⟩
          · rw [z, eA] at e
            cases e
          · obtain ⟨_, _, _, _, _, _, et, _, _⟩ := id tp
            rw [z, et] at e
            cases e
        obtain ⟨v4, d4, hv, P4', R4', L4'⟩ : ∃ v4 d4, [V.ref o1, .ref o2, .ref o3][r.toNat]? = some v4 ∧ Pst K A t H22 v4 d4 ∧ Ro 3 2000 d4 ∧ Lim d4 := by
          have e1 := sZ _ _ (so3 _ _ (so2 _ _ eo1))
          have e2 := sZ _ _ (so3 _ _ eo2)
          have e3 := sZ _ _ eo3
          have zz : r = 0 ∨ r = 1 ∨ r = 2 := by omega
          rcases zz with rfl | rfl | rfl
          · exact ⟨.ref o1, .tuple [.int u, .bool true], rfl, Pst.tup e1 (nn e1 eA22 c22.tp).1 (nn e1 eA22 c22.tp).2 fun H'' => .cons (.int _) (.cons (.bl _) .nil), (Ro.tup (k := 0) (n := 0) (ds := [.int u, .bool true]) (fun d hd => by
              simp at hd
              rcases hd with rfl | rfl
              · exact .int (by omega) (by omega)
              · exact .of (.bl _)) (Nat.le_refl _)).up (by decide) (by show 2 * 1 ≤ 2000; decide), fun ds z => (by cases z; show 2 ≤ 1000; decide)⟩
          · exact ⟨.ref o2, .tuple [.bool true, .int 1], rfl, Pst.tup e2 (nn e2 eA22 c22.tp).1 (nn e2 eA22 c22.tp).2 fun H'' => .cons (.bl _) (.cons (.int _) .nil), roOf (by decide +kernel), fun ds z => (by cases z; show 2 ≤ 1000; decide)⟩
          · exact ⟨.ref o3, .tuple [.bool false, .int 1], rfl, Pst.tup e3 (nn e3 eA22 c22.tp).1 (nn e3 eA22 c22.tp).2 fun H'' => .cons (.bl _) (.cons (.int _) .nil), roOf (by decide +kernel), fun ds z => (by cases z; show 2 ≤ 1000; decide)⟩
        refine ⟨Z, _, r, v4, rfl, rfl, SqL.of (mv23 Z _ Zt eZ), atI_of r0 hv, .ref A, rfl, A, _, rfl, DPut.k (k := .inr "spot") eA23 (by show 4 < 2 ^ 24; decide), ?_⟩
        have mvZ : Mv2 A t H16 H23 := (((((Mv2.moved mv17).trans (.moved mv18)).trans (.same so1)).trans (.same so2)).trans ((Mv2.same so3).trans (.same sZ))).trans (.moved mv23)
        exact ⟨v4, d4, rfl, c23.put At As NA, upd_same, (P3'.step mvZ).step .put, (P4'.step (.moved mv23)).step .put, R4', L4'⟩
      · refine ⟨rfl, false, eqFi c, iteF ?_⟩
        exact ⟨_, _, rfl, c17, eA17, P3'.step (.moved mv17), P4.step (.moved mv17), R4, fun ds z => (by cases z; show 2 ≤ 1000; decide)⟩
    obtain ⟨v4, d4, rfl, c17, eA17, P3, P4, R4, L4⟩ := hm
    refine ⟨.ref t, rfl, .int k, rfl, .int b, rfl, t, sc, k, b, rfl, kk2, kk4, bb1, bb60, c17.tp, fun v5 d5 H18 o5 L5 R5 mv18 tp18 => ?_⟩
    have c18 := c17.moved mv18 tp18 Nt
    have eA18 := mv18 A _ At eA17
    have P5 := Pst.odd o5 eA17 c17.tp mv18 At tp18
    refine ⟨.ref A, rfl, A, _, rfl, DPut.k (k := .inr "walk") eA18 (by show 4 < 2 ^ 24; decide), ?_⟩
    have c19 := c18.put (kvs := putK (fou (.int k) (.int b) v3 v4) (.inr "walk") v5) At As NA
    have F19 : Fv K A t (upd H18 A (.dK (putK (fou (.int k) (.int b) v3 v4) (.inr "walk") v5))) := ⟨_, _, _, _, _, _, _, _, _, _, upd_same, ⟨fun _ _ => .int _, roI (by omega) (by omega)⟩, ⟨fun _ _ => .int _, roI (by omega) (by omega)⟩, ⟨(P3.step (.moved mv18)).step .put, R3, L3⟩, ⟨(P4.step (.moved mv18)).step .put, R4, L4⟩, ⟨P5.step .put, R5, L5⟩⟩
    generalize upd H18 A (.dK (putK (fou (.int k) (.int b) v3 v4) (.inr "walk") v5)) = H19 at *
    refine ⟨by show 5 ≤ sizeLine; decide, fun Z nZ => ?_⟩
    have sZ := same_upd (o := .lst (ws5.map V.str)) nZ
    have eZ : upd H19 Z (.lst (ws5.map V.str)) Z = some (.lst (ws5.map V.str)) := upd_same
    have Zt : Z ≠ t := c19.tp.ne nZ
    have ZA : Z ≠ A := fun z => by
      obtain ⟨v1, v2, v3, v4, v5, d1, d2, d3, d4, d5, e, _⟩ := F19.ex
      rw [z, e] at nZ
      cases nZ
    have c20 := c19.same sZ
    have F20 : Fv K A t (upd H19 Z (.lst (ws5.map V.str))) := F19.moved (.same sZ) At
    refine ⟨Z, rfl, ⟨_, SqL.of eZ⟩, for_list (K := K) (xs := ws5.map V.str)
      (fun i σ H' => ∃ y6, σ = [some (.ref a), some (.ref t), some (.int k), some (.int b), some (.ref N), some (.ref A), y6, none, none, none] ∧ Cr K A t sc N ns H' ∧ Fv K A t H' ∧ H' Z = some (.lst (ws5.map V.str)))
      ⟨_, rfl, c20, F20, eZ⟩ (fun i σ H' _ h => ?_) (fun i x σ H21 hx h => ?_) (fun σ H21 h => ?_)⟩
    · obtain ⟨_, _, _, _, e⟩ := h
      exact SqL.of e
    · obtain ⟨y6, rfl, c21, F21, eZ21⟩ := h
      have i5 : i < 5 := (List.getElem?_eq_some_iff.mp hx).1
      have ex : x = .str (nm i) := by
        have zz : i = 0 ∨ i = 1 ∨ i = 2 ∨ i = 3 ∨ i = 4 := by omega
        rcases zz with rfl | rfl | rfl | rfl | rfl <;> (cases hx; rfl)
      subst ex
      refine ⟨.ref t, rfl, t, sc, 5, rfl, ⟨by decide, by decide⟩, c21.tp, fun z H22 _ _ mv22 tp22 => ?_⟩
      have c22 := c21.moved mv22 tp22 Nt
      have F22 := F21.moved mv22 At
      have eZ22 := mv22 Z _ Zt eZ21
      by_cases c : z = 0
      · refine ⟨rfl, true, eqTi c, iteT ⟨.ref t, rfl, t, sc, rfl, tp22, fun v d H23 od ll ro mv23 tp23 => ?_⟩⟩
        have c23 := c22.moved mv23 tp23 Nt
        have F23 := F22.moved mv23 At
        obtain ⟨_, _, _, _, _, _, _, _, _, _, eA22, _⟩ := F22.ex
        have Pv := Pst.odd od eA22 tp22 mv23 At tp23
        obtain ⟨kvs, eA23, lk, F24⟩ := F23.put i5 Pv ro ll.1 ll.2
        refine ⟨.ref A, rfl, .str (nm i), rfl, A, _, rfl, DPut.k (k := .inr (nm i)) eA23 lk, ?_⟩
        exact ⟨_, rfl, c23.put At As NA, F24, by rw [upd_ne ZA]; exact mv23 Z _ Zt eZ22⟩
      · exact ⟨rfl, false, eqFi c, iteF ⟨_, rfl, c22, F22, eZ22⟩⟩
    · obtain ⟨y6, rfl, c21, F21, eZ21⟩ := h
      refine ⟨fun σ' H' => σ' = [some (.ref a), some (.ref t), some (.int k), some (.int b), some (.ref N), some (.ref A), y6, none, none, none] ∧ Cr K A t sc N ns H' ∧ Fv K A t H', ?_, fun σ' H22 hm => ?_⟩
      · refine ⟨.ref t, rfl, t, sc, 8, rfl, ⟨by decide, by decide⟩, c21.tp, fun z H22 _ _ mv22 tp22 => ?_⟩
        have c22 := c21.moved mv22 tp22 Nt
        have F22 := F21.moved mv22 At
        by_cases c : z = 0
        · refine ⟨rfl, true, eqTi c, iteT ⟨.ref N, rfl, N, _, rfl, .inl (SqL.of c22.en), fun X nX => ?_⟩⟩
          have sX := same_upd (o := .lst (ns.map V.int)) nX
          have eX : upd H22 X (.lst (ns.map V.int)) X = some (.lst (ns.map V.int)) := upd_same
          have Xt : X ≠ t := tp22.ne nX
          have XA : X ≠ A := fun z => by
            obtain ⟨_, _, _, _, _, _, _, _, _, _, e, _⟩ := F22.ex
            rw [z, e] at nX
            cases nX
          have c23 := c22.same sX
          have F23 : Fv K A t (upd H22 X (.lst (ns.map V.int))) := F22.moved (.same sX) At
          generalize upd H22 X (.lst (ns.map V.int)) = H23 at *
          have Pv : Pst K A t H23 (.ref X) (.list (ns.map PyData.int)) := fun H'' m => .lst (m X _ XA Xt eX) (OdAll.ints ns)
          obtain ⟨kvs, eA23, lk, F24⟩ := F23.put (i := 2) (by decide) Pv ((Ro.lst (k := 0) (n := 0) (fun d hd => by
            obtain ⟨n, hn, rfl⟩ := List.mem_map.mp hd
            have := bn n hn
            exact .int (by omega) (by omega)) (Nat.le_refl _)).up (by decide) (by rw [List.length_map]; omega)) (fun ds z => by cases z) (fun ds z => by
            rcases z with z | z
            · cases z
            · cases z
              refine ⟨by rw [List.length_map]; omega, fun x hx => ?_⟩
              obtain ⟨n, _, rfl⟩ := List.mem_map.mp hx
              exact fun ds z => by cases z)
          refine ⟨.ref A, rfl, A, _, rfl, DPut.k (k := .inr "comings") eA23 lk, ?_⟩
          exact ⟨rfl, c23.put At As NA, F24⟩
        · exact ⟨rfl, false, eqFi c, iteF ⟨rfl, c22, F22⟩⟩
      obtain ⟨rfl, c22, F22⟩ := hm
      obtain ⟨v1, v2, v3, v4, v5, d1, d2, d3, d4, d5, eA, ⟨a1, b1⟩, ⟨a2, b2⟩, ⟨a3, b3, l3⟩, ⟨a4, b4, l4⟩, ⟨a5, b5, l5⟩⟩ := F22.ex
      have rid : Mv2 A t H22 H22 := fun _ _ _ _ e => e
      have o1 := a1 _ rid
      have o2 := a2 _ rid
      have o3 := a3 _ rid
      have o4 := a4 _ rid
      have o5 := a5 _ rid
      have rd := ro_dic b1 b2 b3 b4 b5
      refine ⟨.ref A, rfl, A, dic d1 d2 d3 d4 d5, 6, 200000, rfl, c22.sk, od_dic eA o1 o2 o3 o4 o5, rd, by decide, by decide, ?_⟩
      refine ⟨8, rfl, by decide, by decide, for_range (lo := 0) (n := (8 : Int).toNat)
        (fun i σ H' => ∃ y8 y9, σ = [some (.ref a), some (.ref t), some (.int k), some (.int b), some (.ref N), some (.ref A), y6, some (.str (dic d1 d2 d3 d4 d5).shown), y8, y9] ∧ Same H22 H')
        ⟨_, _, rfl, fun _ _ e => e⟩ (fun i σ H23 hi h => ?_) (fun σ H23 h => q H23)⟩
      obtain ⟨y8, y9, rfl, s23⟩ := h
      have i8 : i < 8 := hi
      refine ⟨_, rfl, .ref A, rfl, _, A, v1, v2, v3, v4, v5, d1, d2, d3, d4, d5, rfl, ⟨by omega, by omega⟩, s23 _ _ eA, o1.mono s23, o2.mono s23, o3.mono s23, o4.mono s23, o5.mono s23, l3, l4, l5, fun H24 s24 => ?_⟩
      have s2 := s23.trans s24
      refine ⟨_, rfl, .ref A, rfl, _, A, v1, v2, v3, v4, v5, d1, d2, d3, d4, d5, rfl, ⟨by omega, by omega⟩, s2 _ _ eA, o1.mono s2, o2.mono s2, o3.mono s2, o4.mono s2, o5.mono s2, l5, fun H25 s25 => ?_⟩
      have s3 := s2.trans s25
      refine ⟨rfl, false, neSelf _, iteF ?_⟩
      refine ⟨.ref A, rfl, A, dic d1 d2 d3 d4 d5, 6, 200000, rfl, c22.sk.same s3, od_dic (s3 _ _ eA) (o1.mono s3) (o2.mono s3) (o3.mono s3) (o4.mono s3) (o5.mono s3), rd, by decide, by decide, _, rfl, rfl, false, neSelf _, iteF ?_⟩
      exact ⟨_, _, rfl, s3⟩
end

/-! ### the end -/
theorem fin_mk {l : PySem.W.OpenLaw} {w : World} {K : PySem.W.Frag} {h : Heap} {mg : Str → Option Value} {fa f_law : Addr} (KX : K.In h) (G : h.Ns mainGlobals mg) (hmg : mg "law" = some (.ref fa)) {an : Option Addr} {kV dc pm cd ct : Value}
    (hT : ∃ T : Tx K mg, T.a_law = f_law ∧ T.d_law = PySem.W.fnOf "law" "law" (defArgs s_law) (defBody s_law) (defScope s_law) .none kV dc pm an cd ct) :
    ∃ fd : FuncData, (∀ (s : Shared) (v : Value), BindsTo s fd ⟨[v], []⟩ [("script", v)]) ∧ ∀ base : Heap, K.In base → base.Ns mainGlobals mg → RG7.FnG l.prog w K mg base lawLevel fa fd ["script"] (spLaw K) := by
  obtain ⟨T, ea, ed⟩ := hT
  have e := hmg.symm.trans T.g_law
  cases e
  exact ⟨T.d_law, fun s v => by rw [ed]; exact .of_eq rfl, fun base _ _ => ok_law T⟩

theorem all_mk {w : World} {K : PySem.W.Frag} {h : Heap} {mg : Str → Option Value} (X : K.In h) (G : h.Ns mainGlobals mg)
    {f_is_integer : Addr} {od_is_integer an_is_integer : Option Addr} {sl_is_integer : Array (Option Value)} {oc_is_integer kV_is_integer dc_is_integer pm_is_integer cd_is_integer ct_is_integer : Value}
    {f_is_number : Addr} {od_is_number an_is_number : Option Addr} {sl_is_number : Array (Option Value)} {oc_is_number kV_is_number dc_is_number pm_is_number cd_is_number ct_is_number : Value}
    {f_are_numbers : Addr} {od_are_numbers an_are_numbers : Option Addr} {sl_are_numbers : Array (Option Value)} {oc_are_numbers kV_are_numbers dc_are_numbers pm_are_numbers cd_are_numbers ct_are_numbers : Value}
    {f_are_integers : Addr} {od_are_integers an_are_integers : Option Addr} {sl_are_integers : Array (Option Value)} {oc_are_integers kV_are_integers dc_are_integers pm_are_integers cd_are_integers ct_are_integers : Value}
    {f_is_comings : Addr} {od_is_comings an_is_comings : Option Addr} {sl_is_comings : Array (Option Value)} {oc_is_comings kV_is_comings dc_is_comings pm_is_comings cd_is_comings ct_is_comings : Value}
    {f_check_comers : Addr} {od_check_comers an_check_comers : Option Addr} {sl_check_comers : Array (Option Value)} {oc_check_comers kV_check_comers dc_check_comers pm_check_comers cd_check_comers ct_check_comers : Value}
    {f_check_bound : Addr} {od_check_bound an_check_bound : Option Addr} {sl_check_bound : Array (Option Value)} {oc_check_bound kV_check_bound dc_check_bound pm_check_bound cd_check_bound ct_check_bound : Value}
    {f_check_comings : Addr} {od_check_comings an_check_comings : Option Addr} {sl_check_comings : Array (Option Value)} {oc_check_comings kV_check_comings dc_check_comings pm_check_comings cd_check_comings ct_check_comings : Value}
    {f_follow_line : Addr} {od_follow_line an_follow_line : Option Addr} {sl_follow_line : Array (Option Value)} {oc_follow_line kV_follow_line dc_follow_line pm_follow_line cd_follow_line ct_follow_line : Value}
    {f_letters_of : Addr} {od_letters_of an_letters_of : Option Addr} {sl_letters_of : Array (Option Value)} {oc_letters_of kV_letters_of dc_letters_of pm_letters_of cd_letters_of ct_letters_of : Value}
    {f_comes : Addr} {od_comes an_comes : Option Addr} {sl_comes : Array (Option Value)} {oc_comes kV_comes dc_comes pm_comes cd_comes ct_comes : Value}
    {f_waits : Addr} {od_waits an_waits : Option Addr} {sl_waits : Array (Option Value)} {oc_waits kV_waits dc_waits pm_waits cd_waits ct_waits : Value}
    {f_lines : Addr} {od_lines an_lines : Option Addr} {sl_lines : Array (Option Value)} {oc_lines kV_lines dc_lines pm_lines cd_lines ct_lines : Value}
    {f_outs : Addr} {od_outs an_outs : Option Addr} {sl_outs : Array (Option Value)} {oc_outs kV_outs dc_outs pm_outs cd_outs ct_outs : Value}
    {f_is_spot : Addr} {od_is_spot an_is_spot : Option Addr} {sl_is_spot : Array (Option Value)} {oc_is_spot kV_is_spot dc_is_spot pm_is_spot cd_is_spot ct_is_spot : Value}
    {f_is_next : Addr} {od_is_next an_is_next : Option Addr} {sl_is_next : Array (Option Value)} {oc_is_next kV_is_next dc_is_next pm_is_next cd_is_next ct_is_next : Value}
    {f_is_walk : Addr} {od_is_walk an_is_walk : Option Addr} {sl_is_walk : Array (Option Value)} {oc_is_walk kV_is_walk dc_is_walk pm_is_walk cd_is_walk ct_is_walk : Value}
    {f_spots : Addr} {od_spots an_spots : Option Addr} {sl_spots : Array (Option Value)} {oc_spots kV_spots dc_spots pm_spots cd_spots ct_spots : Value}
    {f_nexts : Addr} {od_nexts an_nexts : Option Addr} {sl_nexts : Array (Option Value)} {oc_nexts kV_nexts dc_nexts pm_nexts cd_nexts ct_nexts : Value}
    {f_walk : Addr} {od_walk an_walk : Option Addr} {sl_walk : Array (Option Value)} {oc_walk kV_walk dc_walk pm_walk cd_walk ct_walk : Value}
    {f_comings_for : Addr} {od_comings_for an_comings_for : Option Addr} {sl_comings_for : Array (Option Value)} {oc_comings_for kV_comings_for dc_comings_for pm_comings_for cd_comings_for ct_comings_for : Value}
    {f__law_tape : Addr} {od__law_tape an__law_tape : Option Addr} {sl__law_tape : Array (Option Value)} {oc__law_tape kV__law_tape dc__law_tape pm__law_tape cd__law_tape ct__law_tape : Value}
    {f__law_pick : Addr} {od__law_pick an__law_pick : Option Addr} {sl__law_pick : Array (Option Value)} {oc__law_pick kV__law_pick dc__law_pick pm__law_pick cd__law_pick ct__law_pick : Value}
    {f__law_odd : Addr} {od__law_odd an__law_odd : Option Addr} {sl__law_odd : Array (Option Value)} {oc__law_odd kV__law_odd dc__law_odd pm__law_odd cd__law_odd ct__law_odd : Value}
    {f__law_is_int : Addr} {od__law_is_int an__law_is_int : Option Addr} {sl__law_is_int : Array (Option Value)} {oc__law_is_int kV__law_is_int dc__law_is_int pm__law_is_int cd__law_is_int ct__law_is_int : Value}
    {f__law_are_ints : Addr} {od__law_are_ints an__law_are_ints : Option Addr} {sl__law_are_ints : Array (Option Value)} {oc__law_are_ints kV__law_are_ints dc__law_are_ints pm__law_are_ints cd__law_are_ints ct__law_are_ints : Value}
    {f__law_asked : Addr} {od__law_asked an__law_asked : Option Addr} {sl__law_asked : Array (Option Value)} {oc__law_asked kV__law_asked dc__law_asked pm__law_asked cd__law_asked ct__law_asked : Value}
    {f__law_tried : Addr} {od__law_tried an__law_tried : Option Addr} {sl__law_tried : Array (Option Value)} {oc__law_tried kV__law_tried dc__law_tried pm__law_tried cd__law_tried ct__law_tried : Value}
    {f__law_is_spot : Addr} {od__law_is_spot an__law_is_spot : Option Addr} {sl__law_is_spot : Array (Option Value)} {oc__law_is_spot kV__law_is_spot dc__law_is_spot pm__law_is_spot cd__law_is_spot ct__law_is_spot : Value}
    {f__law_is_walk : Addr} {od__law_is_walk an__law_is_walk : Option Addr} {sl__law_is_walk : Array (Option Value)} {oc__law_is_walk kV__law_is_walk dc__law_is_walk pm__law_is_walk cd__law_is_walk ct__law_is_walk : Value}
    {f__law_due : Addr} {od__law_due an__law_due : Option Addr} {sl__law_due : Array (Option Value)} {oc__law_due kV__law_due dc__law_due pm__law_due cd__law_due ct__law_due : Value}
    {f__law_walk : Addr} {od__law_walk an__law_walk : Option Addr} {sl__law_walk : Array (Option Value)} {oc__law_walk kV__law_walk dc__law_walk pm__law_walk cd__law_walk ct__law_walk : Value}
    {f_law : Addr} {od_law an_law : Option Addr} {sl_law : Array (Option Value)} {oc_law kV_law dc_law pm_law cd_law ct_law : Value}
    {f_NoComers___init__ : Addr} {od_NoComers___init__ an_NoComers___init__ : Option Addr} {sl_NoComers___init__ : Array (Option Value)} {oc_NoComers___init__ kV_NoComers___init__ dc_NoComers___init__ pm_NoComers___init__ cd_NoComers___init__ ct_NoComers___init__ : Value}
    {f_NoBound___init__ : Addr} {od_NoBound___init__ an_NoBound___init__ : Option Addr} {sl_NoBound___init__ : Array (Option Value)} {oc_NoBound___init__ kV_NoBound___init__ dc_NoBound___init__ pm_NoBound___init__ cd_NoBound___init__ ct_NoBound___init__ : Value}
    {f_NoComings___init__ : Addr} {od_NoComings___init__ an_NoComings___init__ : Option Addr} {sl_NoComings___init__ : Array (Option Value)} {oc_NoComings___init__ kV_NoComings___init__ dc_NoComings___init__ pm_NoComings___init__ cd_NoComings___init__ ct_NoComings___init__ : Value}
    {f_NoSpot___init__ : Addr} {od_NoSpot___init__ an_NoSpot___init__ : Option Addr} {sl_NoSpot___init__ : Array (Option Value)} {oc_NoSpot___init__ kV_NoSpot___init__ dc_NoSpot___init__ pm_NoSpot___init__ cd_NoSpot___init__ ct_NoSpot___init__ : Value}
    {f_NoWalk___init__ : Addr} {od_NoWalk___init__ an_NoWalk___init__ : Option Addr} {sl_NoWalk___init__ : Array (Option Value)} {oc_NoWalk___init__ kV_NoWalk___init__ dc_NoWalk___init__ pm_NoWalk___init__ cd_NoWalk___init__ ct_NoWalk___init__ : Value}
    {t_MOST_BOUND : Tok}
    {t_MOST_COMERS : Tok}
    {t_MOST_SPOTS : Tok}
    {t_MOST_TICKS : Tok}
    {c_LoopError : Addr}
    {c_NoBound : Addr}
    {c_NoComers : Addr}
    {c_NoComings : Addr}
    {c_NoSpot : Addr}
    {c_NoWalk : Addr}
    (a_is_integer : PySem.W.nsIn K mainGlobals "is_integer" = some (some (.ref f_is_integer))) (l_is_integer : K.lookup f_is_integer = some ⟨oc_is_integer, od_is_integer, .func (PySem.W.fnOf "is_integer" "is_integer" (defArgs s_is_integer) (defBody s_is_integer) (defScope s_is_integer) .none kV_is_integer dc_is_integer pm_is_integer an_is_integer cd_is_integer ct_is_integer), sl_is_integer⟩) (c_is_integer : PySem.W.codeIn K cd_is_integer "is_integer" = true) (k_is_integer : PySem.W.keepIn K (.ref f_is_integer) = true)
    (a_is_number : PySem.W.nsIn K mainGlobals "is_number" = some (some (.ref f_is_number))) (l_is_number : K.lookup f_is_number = some ⟨oc_is_number, od_is_number, .func (PySem.W.fnOf "is_number" "is_number" (defArgs s_is_number) (defBody s_is_number) (defScope s_is_number) .none kV_is_number dc_is_number pm_is_number an_is_number cd_is_number ct_is_number), sl_is_number⟩) (c_is_number : PySem.W.codeIn K cd_is_number "is_number" = true) (k_is_number : PySem.W.keepIn K (.ref f_is_number) = true)
    (a_are_numbers : PySem.W.nsIn K mainGlobals "are_numbers" = some (some (.ref f_are_numbers))) (l_are_numbers : K.lookup f_are_numbers = some ⟨oc_are_numbers, od_are_numbers, .func (PySem.W.fnOf "are_numbers" "are_numbers" (defArgs s_are_numbers) (defBody s_are_numbers) (defScope s_are_numbers) .none kV_are_numbers dc_are_numbers pm_are_numbers an_are_numbers cd_are_numbers ct_are_numbers), sl_are_numbers⟩) (c_are_numbers : PySem.W.codeIn K cd_are_numbers "are_numbers" = true) (k_are_numbers : PySem.W.keepIn K (.ref f_are_numbers) = true)
    (a_are_integers : PySem.W.nsIn K mainGlobals "are_integers" = some (some (.ref f_are_integers))) (l_are_integers : K.lookup f_are_integers = some ⟨oc_are_integers, od_are_integers, .func (PySem.W.fnOf "are_integers" "are_integers" (defArgs s_are_integers) (defBody s_are_integers) (defScope s_are_integers) .none kV_are_integers dc_are_integers pm_are_integers an_are_integers cd_are_integers ct_are_integers), sl_are_integers⟩) (c_are_integers : PySem.W.codeIn K cd_are_integers "are_integers" = true) (k_are_integers : PySem.W.keepIn K (.ref f_are_integers) = true)
    (a_is_comings : PySem.W.nsIn K mainGlobals "is_comings" = some (some (.ref f_is_comings))) (l_is_comings : K.lookup f_is_comings = some ⟨oc_is_comings, od_is_comings, .func (PySem.W.fnOf "is_comings" "is_comings" (defArgs s_is_comings) (defBody s_is_comings) (defScope s_is_comings) .none kV_is_comings dc_is_comings pm_is_comings an_is_comings cd_is_comings ct_is_comings), sl_is_comings⟩) (c_is_comings : PySem.W.codeIn K cd_is_comings "is_comings" = true) (k_is_comings : PySem.W.keepIn K (.ref f_is_comings) = true)
    (a_check_comers : PySem.W.nsIn K mainGlobals "check_comers" = some (some (.ref f_check_comers))) (l_check_comers : K.lookup f_check_comers = some ⟨oc_check_comers, od_check_comers, .func (PySem.W.fnOf "check_comers" "check_comers" (defArgs s_check_comers) (defBody s_check_comers) (defScope s_check_comers) .none kV_check_comers dc_check_comers pm_check_comers an_check_comers cd_check_comers ct_check_comers), sl_check_comers⟩) (c_check_comers : PySem.W.codeIn K cd_check_comers "check_comers" = true) (k_check_comers : PySem.W.keepIn K (.ref f_check_comers) = true)
    (a_check_bound : PySem.W.nsIn K mainGlobals "check_bound" = some (some (.ref f_check_bound))) (l_check_bound : K.lookup f_check_bound = some ⟨oc_check_bound, od_check_bound, .func (PySem.W.fnOf "check_bound" "check_bound" (defArgs s_check_bound) (defBody s_check_bound) (defScope s_check_bound) .none kV_check_bound dc_check_bound pm_check_bound an_check_bound cd_check_bound ct_check_bound), sl_check_bound⟩) (c_check_bound : PySem.W.codeIn K cd_check_bound "check_bound" = true) (k_check_bound : PySem.W.keepIn K (.ref f_check_bound) = true)
    (a_check_comings : PySem.W.nsIn K mainGlobals "check_comings" = some (some (.ref f_check_comings))) (l_check_comings : K.lookup f_check_comings = some ⟨oc_check_comings, od_check_comings, .func (PySem.W.fnOf "check_comings" "check_comings" (defArgs s_check_comings) (defBody s_check_comings) (defScope s_check_comings) .none kV_check_comings dc_check_comings pm_check_comings an_check_comings cd_check_comings ct_check_comings), sl_check_comings⟩) (c_check_comings : PySem.W.codeIn K cd_check_comings "check_comings" = true) (k_check_comings : PySem.W.keepIn K (.ref f_check_comings) = true)
    (a_follow_line : PySem.W.nsIn K mainGlobals "follow_line" = some (some (.ref f_follow_line))) (l_follow_line : K.lookup f_follow_line = some ⟨oc_follow_line, od_follow_line, .func (PySem.W.fnOf "follow_line" "follow_line" (defArgs s_follow_line) (defBody s_follow_line) (defScope s_follow_line) .none kV_follow_line dc_follow_line pm_follow_line an_follow_line cd_follow_line ct_follow_line), sl_follow_line⟩) (c_follow_line : PySem.W.codeIn K cd_follow_line "follow_line" = true) (k_follow_line : PySem.W.keepIn K (.ref f_follow_line) = true)
    (a_letters_of : PySem.W.nsIn K mainGlobals "letters_of" = some (some (.ref f_letters_of))) (l_letters_of : K.lookup f_letters_of = some ⟨oc_letters_of, od_letters_of, .func (PySem.W.fnOf "letters_of" "letters_of" (defArgs s_letters_of) (defBody s_letters_of) (defScope s_letters_of) .none kV_letters_of dc_letters_of pm_letters_of an_letters_of cd_letters_of ct_letters_of), sl_letters_of⟩) (c_letters_of : PySem.W.codeIn K cd_letters_of "letters_of" = true) (k_letters_of : PySem.W.keepIn K (.ref f_letters_of) = true)
    (a_comes : PySem.W.nsIn K mainGlobals "comes" = some (some (.ref f_comes))) (l_comes : K.lookup f_comes = some ⟨oc_comes, od_comes, .func (PySem.W.fnOf "comes" "comes" (defArgs s_comes) (defBody s_comes) (defScope s_comes) .none kV_comes dc_comes pm_comes an_comes cd_comes ct_comes), sl_comes⟩) (c_comes : PySem.W.codeIn K cd_comes "comes" = true) (k_comes : PySem.W.keepIn K (.ref f_comes) = true)
    (a_waits : PySem.W.nsIn K mainGlobals "waits" = some (some (.ref f_waits))) (l_waits : K.lookup f_waits = some ⟨oc_waits, od_waits, .func (PySem.W.fnOf "waits" "waits" (defArgs s_waits) (defBody s_waits) (defScope s_waits) .none kV_waits dc_waits pm_waits an_waits cd_waits ct_waits), sl_waits⟩) (c_waits : PySem.W.codeIn K cd_waits "waits" = true) (k_waits : PySem.W.keepIn K (.ref f_waits) = true)
    (a_lines : PySem.W.nsIn K mainGlobals "lines" = some (some (.ref f_lines))) (l_lines : K.lookup f_lines = some ⟨oc_lines, od_lines, .func (PySem.W.fnOf "lines" "lines" (defArgs s_lines) (defBody s_lines) (defScope s_lines) .none kV_lines dc_lines pm_lines an_lines cd_lines ct_lines), sl_lines⟩) (c_lines : PySem.W.codeIn K cd_lines "lines" = true) (k_lines : PySem.W.keepIn K (.ref f_lines) = true)
    (a_outs : PySem.W.nsIn K mainGlobals "outs" = some (some (.ref f_outs))) (l_outs : K.lookup f_outs = some ⟨oc_outs, od_outs, .func (PySem.W.fnOf "outs" "outs" (defArgs s_outs) (defBody s_outs) (defScope s_outs) .none kV_outs dc_outs pm_outs an_outs cd_outs ct_outs), sl_outs⟩) (c_outs : PySem.W.codeIn K cd_outs "outs" = true) (k_outs : PySem.W.keepIn K (.ref f_outs) = true)
    (a_is_spot : PySem.W.nsIn K mainGlobals "is_spot" = some (some (.ref f_is_spot))) (l_is_spot : K.lookup f_is_spot = some ⟨oc_is_spot, od_is_spot, .func (PySem.W.fnOf "is_spot" "is_spot" (defArgs s_is_spot) (defBody s_is_spot) (defScope s_is_spot) .none kV_is_spot dc_is_spot pm_is_spot an_is_spot cd_is_spot ct_is_spot), sl_is_spot⟩) (c_is_spot : PySem.W.codeIn K cd_is_spot "is_spot" = true) (k_is_spot : PySem.W.keepIn K (.ref f_is_spot) = true)
    (a_is_next : PySem.W.nsIn K mainGlobals "is_next" = some (some (.ref f_is_next))) (l_is_next : K.lookup f_is_next = some ⟨oc_is_next, od_is_next, .func (PySem.W.fnOf "is_next" "is_next" (defArgs s_is_next) (defBody s_is_next) (defScope s_is_next) .none kV_is_next dc_is_next pm_is_next an_is_next cd_is_next ct_is_next), sl_is_next⟩) (c_is_next : PySem.W.codeIn K cd_is_next "is_next" = true) (k_is_next : PySem.W.keepIn K (.ref f_is_next) = true)
    (a_is_walk : PySem.W.nsIn K mainGlobals "is_walk" = some (some (.ref f_is_walk))) (l_is_walk : K.lookup f_is_walk = some ⟨oc_is_walk, od_is_walk, .func (PySem.W.fnOf "is_walk" "is_walk" (defArgs s_is_walk) (defBody s_is_walk) (defScope s_is_walk) .none kV_is_walk dc_is_walk pm_is_walk an_is_walk cd_is_walk ct_is_walk), sl_is_walk⟩) (c_is_walk : PySem.W.codeIn K cd_is_walk "is_walk" = true) (k_is_walk : PySem.W.keepIn K (.ref f_is_walk) = true)
    (a_spots : PySem.W.nsIn K mainGlobals "spots" = some (some (.ref f_spots))) (l_spots : K.lookup f_spots = some ⟨oc_spots, od_spots, .func (PySem.W.fnOf "spots" "spots" (defArgs s_spots) (defBody s_spots) (defScope s_spots) .none kV_spots dc_spots pm_spots an_spots cd_spots ct_spots), sl_spots⟩) (c_spots : PySem.W.codeIn K cd_spots "spots" = true) (k_spots : PySem.W.keepIn K (.ref f_spots) = true)
    (a_nexts : PySem.W.nsIn K mainGlobals "nexts" = some (some (.ref f_nexts))) (l_nexts : K.lookup f_nexts = some ⟨oc_nexts, od_nexts, .func (PySem.W.fnOf "nexts" "nexts" (defArgs s_nexts) (defBody s_nexts) (defScope s_nexts) .none kV_nexts dc_nexts pm_nexts an_nexts cd_nexts ct_nexts), sl_nexts⟩) (c_nexts : PySem.W.codeIn K cd_nexts "nexts" = true) (k_nexts : PySem.W.keepIn K (.ref f_nexts) = true)
    (a_walk : PySem.W.nsIn K mainGlobals "walk" = some (some (.ref f_walk))) (l_walk : K.lookup f_walk = some ⟨oc_walk, od_walk, .func (PySem.W.fnOf "walk" "walk" (defArgs s_walk) (defBody s_walk) (defScope s_walk) .none kV_walk dc_walk pm_walk an_walk cd_walk ct_walk), sl_walk⟩) (c_walk : PySem.W.codeIn K cd_walk "walk" = true) (k_walk : PySem.W.keepIn K (.ref f_walk) = true)
    (a_comings_for : PySem.W.nsIn K mainGlobals "comings_for" = some (some (.ref f_comings_for))) (l_comings_for : K.lookup f_comings_for = some ⟨oc_comings_for, od_comings_for, .func (PySem.W.fnOf "comings_for" "comings_for" (defArgs s_comings_for) (defBody s_comings_for) (defScope s_comings_for) .none kV_comings_for dc_comings_for pm_comings_for an_comings_for cd_comings_for ct_comings_for), sl_comings_for⟩) (c_comings_for : PySem.W.codeIn K cd_comings_for "comings_for" = true) (k_comings_for : PySem.W.keepIn K (.ref f_comings_for) = true)
    (a__law_tape : PySem.W.nsIn K mainGlobals "_law_tape" = some (some (.ref f__law_tape))) (l__law_tape : K.lookup f__law_tape = some ⟨oc__law_tape, od__law_tape, .func (PySem.W.fnOf "_law_tape" "_law_tape" (defArgs s__law_tape) (defBody s__law_tape) (defScope s__law_tape) .none kV__law_tape dc__law_tape pm__law_tape an__law_tape cd__law_tape ct__law_tape), sl__law_tape⟩) (c__law_tape : PySem.W.codeIn K cd__law_tape "_law_tape" = true) (k__law_tape : PySem.W.keepIn K (.ref f__law_tape) = true)
    (a__law_pick : PySem.W.nsIn K mainGlobals "_law_pick" = some (some (.ref f__law_pick))) (l__law_pick : K.lookup f__law_pick = some ⟨oc__law_pick, od__law_pick, .func (PySem.W.fnOf "_law_pick" "_law_pick" (defArgs s__law_pick) (defBody s__law_pick) (defScope s__law_pick) .none kV__law_pick dc__law_pick pm__law_pick an__law_pick cd__law_pick ct__law_pick), sl__law_pick⟩) (c__law_pick : PySem.W.codeIn K cd__law_pick "_law_pick" = true) (k__law_pick : PySem.W.keepIn K (.ref f__law_pick) = true)
    (a__law_odd : PySem.W.nsIn K mainGlobals "_law_odd" = some (some (.ref f__law_odd))) (l__law_odd : K.lookup f__law_odd = some ⟨oc__law_odd, od__law_odd, .func (PySem.W.fnOf "_law_odd" "_law_odd" (defArgs s__law_odd) (defBody s__law_odd) (defScope s__law_odd) .none kV__law_odd dc__law_odd pm__law_odd an__law_odd cd__law_odd ct__law_odd), sl__law_odd⟩) (c__law_odd : PySem.W.codeIn K cd__law_odd "_law_odd" = true) (k__law_odd : PySem.W.keepIn K (.ref f__law_odd) = true)
    (a__law_is_int : PySem.W.nsIn K mainGlobals "_law_is_int" = some (some (.ref f__law_is_int))) (l__law_is_int : K.lookup f__law_is_int = some ⟨oc__law_is_int, od__law_is_int, .func (PySem.W.fnOf "_law_is_int" "_law_is_int" (defArgs s__law_is_int) (defBody s__law_is_int) (defScope s__law_is_int) .none kV__law_is_int dc__law_is_int pm__law_is_int an__law_is_int cd__law_is_int ct__law_is_int), sl__law_is_int⟩) (c__law_is_int : PySem.W.codeIn K cd__law_is_int "_law_is_int" = true) (k__law_is_int : PySem.W.keepIn K (.ref f__law_is_int) = true)
    (a__law_are_ints : PySem.W.nsIn K mainGlobals "_law_are_ints" = some (some (.ref f__law_are_ints))) (l__law_are_ints : K.lookup f__law_are_ints = some ⟨oc__law_are_ints, od__law_are_ints, .func (PySem.W.fnOf "_law_are_ints" "_law_are_ints" (defArgs s__law_are_ints) (defBody s__law_are_ints) (defScope s__law_are_ints) .none kV__law_are_ints dc__law_are_ints pm__law_are_ints an__law_are_ints cd__law_are_ints ct__law_are_ints), sl__law_are_ints⟩) (c__law_are_ints : PySem.W.codeIn K cd__law_are_ints "_law_are_ints" = true) (k__law_are_ints : PySem.W.keepIn K (.ref f__law_are_ints) = true)
    (a__law_asked : PySem.W.nsIn K mainGlobals "_law_asked" = some (some (.ref f__law_asked))) (l__law_asked : K.lookup f__law_asked = some ⟨oc__law_asked, od__law_asked, .func (PySem.W.fnOf "_law_asked" "_law_asked" (defArgs s__law_asked) (defBody s__law_asked) (defScope s__law_asked) .none kV__law_asked dc__law_asked pm__law_asked an__law_asked cd__law_asked ct__law_asked), sl__law_asked⟩) (c__law_asked : PySem.W.codeIn K cd__law_asked "_law_asked" = true) (k__law_asked : PySem.W.keepIn K (.ref f__law_asked) = true)
    (a__law_tried : PySem.W.nsIn K mainGlobals "_law_tried" = some (some (.ref f__law_tried))) (l__law_tried : K.lookup f__law_tried = some ⟨oc__law_tried, od__law_tried, .func (PySem.W.fnOf "_law_tried" "_law_tried" (defArgs s__law_tried) (defBody s__law_tried) (defScope s__law_tried) .none kV__law_tried dc__law_tried pm__law_tried an__law_tried cd__law_tried ct__law_tried), sl__law_tried⟩) (c__law_tried : PySem.W.codeIn K cd__law_tried "_law_tried" = true) (k__law_tried : PySem.W.keepIn K (.ref f__law_tried) = true)
    (a__law_is_spot : PySem.W.nsIn K mainGlobals "_law_is_spot" = some (some (.ref f__law_is_spot))) (l__law_is_spot : K.lookup f__law_is_spot = some ⟨oc__law_is_spot, od__law_is_spot, .func (PySem.W.fnOf "_law_is_spot" "_law_is_spot" (defArgs s__law_is_spot) (defBody s__law_is_spot) (defScope s__law_is_spot) .none kV__law_is_spot dc__law_is_spot pm__law_is_spot an__law_is_spot cd__law_is_spot ct__law_is_spot), sl__law_is_spot⟩) (c__law_is_spot : PySem.W.codeIn K cd__law_is_spot "_law_is_spot" = true) (k__law_is_spot : PySem.W.keepIn K (.ref f__law_is_spot) = true)
    (a__law_is_walk : PySem.W.nsIn K mainGlobals "_law_is_walk" = some (some (.ref f__law_is_walk))) (l__law_is_walk : K.lookup f__law_is_walk = some ⟨oc__law_is_walk, od__law_is_walk, .func (PySem.W.fnOf "_law_is_walk" "_law_is_walk" (defArgs s__law_is_walk) (defBody s__law_is_walk) (defScope s__law_is_walk) .none kV__law_is_walk dc__law_is_walk pm__law_is_walk an__law_is_walk cd__law_is_walk ct__law_is_walk), sl__law_is_walk⟩) (c__law_is_walk : PySem.W.codeIn K cd__law_is_walk "_law_is_walk" = true) (k__law_is_walk : PySem.W.keepIn K (.ref f__law_is_walk) = true)
    (a__law_due : PySem.W.nsIn K mainGlobals "_law_due" = some (some (.ref f__law_due))) (l__law_due : K.lookup f__law_due = some ⟨oc__law_due, od__law_due, .func (PySem.W.fnOf "_law_due" "_law_due" (defArgs s__law_due) (defBody s__law_due) (defScope s__law_due) .none kV__law_due dc__law_due pm__law_due an__law_due cd__law_due ct__law_due), sl__law_due⟩) (c__law_due : PySem.W.codeIn K cd__law_due "_law_due" = true) (k__law_due : PySem.W.keepIn K (.ref f__law_due) = true)
    (a__law_walk : PySem.W.nsIn K mainGlobals "_law_walk" = some (some (.ref f__law_walk))) (l__law_walk : K.lookup f__law_walk = some ⟨oc__law_walk, od__law_walk, .func (PySem.W.fnOf "_law_walk" "_law_walk" (defArgs s__law_walk) (defBody s__law_walk) (defScope s__law_walk) .none kV__law_walk dc__law_walk pm__law_walk an__law_walk cd__law_walk ct__law_walk), sl__law_walk⟩) (c__law_walk : PySem.W.codeIn K cd__law_walk "_law_walk" = true) (k__law_walk : PySem.W.keepIn K (.ref f__law_walk) = true)
    (a_law : PySem.W.nsIn K mainGlobals "law" = some (some (.ref f_law))) (l_law : K.lookup f_law = some ⟨oc_law, od_law, .func (PySem.W.fnOf "law" "law" (defArgs s_law) (defBody s_law) (defScope s_law) .none kV_law dc_law pm_law an_law cd_law ct_law), sl_law⟩) (c_law : PySem.W.codeIn K cd_law "law" = true) (k_law : PySem.W.keepIn K (.ref f_law) = true)
    (a_NoComers___init__ : PySem.W.findIn K (.ref c_NoComers) "__init__" = some (some (.ref f_NoComers___init__))) (i_NoComers___init__ : PySem.W.isFn K (.ref f_NoComers___init__) = true) (l_NoComers___init__ : K.lookup f_NoComers___init__ = some ⟨oc_NoComers___init__, od_NoComers___init__, .func (PySem.W.fnOf "__init__" "NoComers.__init__" (defArgs s_NoComers___init__) (defBody s_NoComers___init__) (defScope s_NoComers___init__) .none kV_NoComers___init__ dc_NoComers___init__ pm_NoComers___init__ an_NoComers___init__ cd_NoComers___init__ ct_NoComers___init__), sl_NoComers___init__⟩) (c_NoComers___init__ : PySem.W.codeIn K cd_NoComers___init__ "NoComers.__init__" = true) (k_NoComers___init__ : PySem.W.keepIn K (.ref f_NoComers___init__) = true)
    (a_NoBound___init__ : PySem.W.findIn K (.ref c_NoBound) "__init__" = some (some (.ref f_NoBound___init__))) (i_NoBound___init__ : PySem.W.isFn K (.ref f_NoBound___init__) = true) (l_NoBound___init__ : K.lookup f_NoBound___init__ = some ⟨oc_NoBound___init__, od_NoBound___init__, .func (PySem.W.fnOf "__init__" "NoBound.__init__" (defArgs s_NoBound___init__) (defBody s_NoBound___init__) (defScope s_NoBound___init__) .none kV_NoBound___init__ dc_NoBound___init__ pm_NoBound___init__ an_NoBound___init__ cd_NoBound___init__ ct_NoBound___init__), sl_NoBound___init__⟩) (c_NoBound___init__ : PySem.W.codeIn K cd_NoBound___init__ "NoBound.__init__" = true) (k_NoBound___init__ : PySem.W.keepIn K (.ref f_NoBound___init__) = true)
    (a_NoComings___init__ : PySem.W.findIn K (.ref c_NoComings) "__init__" = some (some (.ref f_NoComings___init__))) (i_NoComings___init__ : PySem.W.isFn K (.ref f_NoComings___init__) = true) (l_NoComings___init__ : K.lookup f_NoComings___init__ = some ⟨oc_NoComings___init__, od_NoComings___init__, .func (PySem.W.fnOf "__init__" "NoComings.__init__" (defArgs s_NoComings___init__) (defBody s_NoComings___init__) (defScope s_NoComings___init__) .none kV_NoComings___init__ dc_NoComings___init__ pm_NoComings___init__ an_NoComings___init__ cd_NoComings___init__ ct_NoComings___init__), sl_NoComings___init__⟩) (c_NoComings___init__ : PySem.W.codeIn K cd_NoComings___init__ "NoComings.__init__" = true) (k_NoComings___init__ : PySem.W.keepIn K (.ref f_NoComings___init__) = true)
    (a_NoSpot___init__ : PySem.W.findIn K (.ref c_NoSpot) "__init__" = some (some (.ref f_NoSpot___init__))) (i_NoSpot___init__ : PySem.W.isFn K (.ref f_NoSpot___init__) = true) (l_NoSpot___init__ : K.lookup f_NoSpot___init__ = some ⟨oc_NoSpot___init__, od_NoSpot___init__, .func (PySem.W.fnOf "__init__" "NoSpot.__init__" (defArgs s_NoSpot___init__) (defBody s_NoSpot___init__) (defScope s_NoSpot___init__) .none kV_NoSpot___init__ dc_NoSpot___init__ pm_NoSpot___init__ an_NoSpot___init__ cd_NoSpot___init__ ct_NoSpot___init__), sl_NoSpot___init__⟩) (c_NoSpot___init__ : PySem.W.codeIn K cd_NoSpot___init__ "NoSpot.__init__" = true) (k_NoSpot___init__ : PySem.W.keepIn K (.ref f_NoSpot___init__) = true)
    (a_NoWalk___init__ : PySem.W.findIn K (.ref c_NoWalk) "__init__" = some (some (.ref f_NoWalk___init__))) (i_NoWalk___init__ : PySem.W.isFn K (.ref f_NoWalk___init__) = true) (l_NoWalk___init__ : K.lookup f_NoWalk___init__ = some ⟨oc_NoWalk___init__, od_NoWalk___init__, .func (PySem.W.fnOf "__init__" "NoWalk.__init__" (defArgs s_NoWalk___init__) (defBody s_NoWalk___init__) (defScope s_NoWalk___init__) .none kV_NoWalk___init__ dc_NoWalk___init__ pm_NoWalk___init__ an_NoWalk___init__ cd_NoWalk___init__ ct_NoWalk___init__), sl_NoWalk___init__⟩) (c_NoWalk___init__ : PySem.W.codeIn K cd_NoWalk___init__ "NoWalk.__init__" = true) (k_NoWalk___init__ : PySem.W.keepIn K (.ref f_NoWalk___init__) = true)
    (z_all : PySem.W.nsIn K mainGlobals "all" = some none)
    (z_bool : PySem.W.nsIn K mainGlobals "bool" = some none)
    (z_enumerate : PySem.W.nsIn K mainGlobals "enumerate" = some none)
    (z_int : PySem.W.nsIn K mainGlobals "int" = some none)
    (z_isinstance : PySem.W.nsIn K mainGlobals "isinstance" = some none)
    (z_len : PySem.W.nsIn K mainGlobals "len" = some none)
    (z_list : PySem.W.nsIn K mainGlobals "list" = some none)
    (z_min : PySem.W.nsIn K mainGlobals "min" = some none)
    (z_range : PySem.W.nsIn K mainGlobals "range" = some none)
    (z_repr : PySem.W.nsIn K mainGlobals "repr" = some none)
    (z_tuple : PySem.W.nsIn K mainGlobals "tuple" = some none)
    (z_zip : PySem.W.nsIn K mainGlobals "zip" = some none)
    (y_MOST_BOUND : PySem.W.nsIn K mainGlobals "MOST_BOUND" = some (some (.int 60 t_MOST_BOUND)))
    (y_MOST_COMERS : PySem.W.nsIn K mainGlobals "MOST_COMERS" = some (some (.int 4 t_MOST_COMERS)))
    (y_MOST_SPOTS : PySem.W.nsIn K mainGlobals "MOST_SPOTS" = some (some (.int 60 t_MOST_SPOTS)))
    (y_MOST_TICKS : PySem.W.nsIn K mainGlobals "MOST_TICKS" = some (some (.int 400 t_MOST_TICKS)))
    (y_LoopError : PySem.W.nsIn K mainGlobals "LoopError" = some (some (.ref c_LoopError)))
    (y_NoBound : PySem.W.nsIn K mainGlobals "NoBound" = some (some (.ref c_NoBound)))
    (y_NoComers : PySem.W.nsIn K mainGlobals "NoComers" = some (some (.ref c_NoComers)))
    (y_NoComings : PySem.W.nsIn K mainGlobals "NoComings" = some (some (.ref c_NoComings)))
    (y_NoSpot : PySem.W.nsIn K mainGlobals "NoSpot" = some (some (.ref c_NoSpot)))
    (y_NoWalk : PySem.W.nsIn K mainGlobals "NoWalk" = some (some (.ref c_NoWalk)))
    {nm_NoComers q_NoComers : Str} {N_NoComers : Addr} {bs_NoComers : List Value} {sn_NoComers : List Str} {sub_NoComers : List Value} {ab_NoComers : Bool} {col_NoComers : Option Bool} {dd_NoComers : Option Addr} {m0_NoComers m1_NoComers m2_NoComers m3_NoComers m5_NoComers : Option Value} {le_NoComers : Addr}
    (xL_NoComers : K.lookup c_NoComers = some (excClassObj nm_NoComers q_NoComers c_NoComers N_NoComers bs_NoComers [.ref le_NoComers, .type "ValueError", .type "Exception", .type "BaseException", .type "object"] true sn_NoComers sub_NoComers ab_NoComers col_NoComers dd_NoComers m0_NoComers m1_NoComers m2_NoComers m3_NoComers m5_NoComers "ValueError.__new__"))
    (sa_NoComers : PySem.W.findIn K (.ref c_NoComers) "__setattr__" = some (some (.builtin "object.__setattr__"))) (tf_NoComers : PySem.W.typeIn K (.ref f_NoComers___init__) = some (.type "function")) (kC_NoComers : PySem.W.keepIn K (.ref c_NoComers) = true) (eC_NoComers : PySem.W.subIn K (.ref c_NoComers) (.type "BaseException") = some true) (tC_NoComers : PySem.W.typeIn K (.ref c_NoComers) = some (.type "type")) (iC_NoComers : PySem.W.isClsIn K c_NoComers = true) (sC_NoComers : PySem.W.subIn K (.ref c_NoComers) (.ref c_NoComers) = some true)
    {nm_NoBound q_NoBound : Str} {N_NoBound : Addr} {bs_NoBound : List Value} {sn_NoBound : List Str} {sub_NoBound : List Value} {ab_NoBound : Bool} {col_NoBound : Option Bool} {dd_NoBound : Option Addr} {m0_NoBound m1_NoBound m2_NoBound m3_NoBound m5_NoBound : Option Value} {le_NoBound : Addr}
    (xL_NoBound : K.lookup c_NoBound = some (excClassObj nm_NoBound q_NoBound c_NoBound N_NoBound bs_NoBound [.ref le_NoBound, .type "ValueError", .type "Exception", .type "BaseException", .type "object"] true sn_NoBound sub_NoBound ab_NoBound col_NoBound dd_NoBound m0_NoBound m1_NoBound m2_NoBound m3_NoBound m5_NoBound "ValueError.__new__"))
    (sa_NoBound : PySem.W.findIn K (.ref c_NoBound) "__setattr__" = some (some (.builtin "object.__setattr__"))) (tf_NoBound : PySem.W.typeIn K (.ref f_NoBound___init__) = some (.type "function")) (kC_NoBound : PySem.W.keepIn K (.ref c_NoBound) = true) (eC_NoBound : PySem.W.subIn K (.ref c_NoBound) (.type "BaseException") = some true) (tC_NoBound : PySem.W.typeIn K (.ref c_NoBound) = some (.type "type")) (iC_NoBound : PySem.W.isClsIn K c_NoBound = true) (sC_NoBound : PySem.W.subIn K (.ref c_NoBound) (.ref c_NoBound) = some true)
    {nm_NoComings q_NoComings : Str} {N_NoComings : Addr} {bs_NoComings : List Value} {sn_NoComings : List Str} {sub_NoComings : List Value} {ab_NoComings : Bool} {col_NoComings : Option Bool} {dd_NoComings : Option Addr} {m0_NoComings m1_NoComings m2_NoComings m3_NoComings m5_NoComings : Option Value} {le_NoComings : Addr}
    (xL_NoComings : K.lookup c_NoComings = some (excClassObj nm_NoComings q_NoComings c_NoComings N_NoComings bs_NoComings [.ref le_NoComings, .type "ValueError", .type "Exception", .type "BaseException", .type "object"] true sn_NoComings sub_NoComings ab_NoComings col_NoComings dd_NoComings m0_NoComings m1_NoComings m2_NoComings m3_NoComings m5_NoComings "ValueError.__new__"))
    (sa_NoComings : PySem.W.findIn K (.ref c_NoComings) "__setattr__" = some (some (.builtin "object.__setattr__"))) (tf_NoComings : PySem.W.typeIn K (.ref f_NoComings___init__) = some (.type "function")) (kC_NoComings : PySem.W.keepIn K (.ref c_NoComings) = true) (eC_NoComings : PySem.W.subIn K (.ref c_NoComings) (.type "BaseException") = some true) (tC_NoComings : PySem.W.typeIn K (.ref c_NoComings) = some (.type "type")) (iC_NoComings : PySem.W.isClsIn K c_NoComings = true) (sC_NoComings : PySem.W.subIn K (.ref c_NoComings) (.ref c_NoComings) = some true)
    {nm_NoSpot q_NoSpot : Str} {N_NoSpot : Addr} {bs_NoSpot : List Value} {sn_NoSpot : List Str} {sub_NoSpot : List Value} {ab_NoSpot : Bool} {col_NoSpot : Option Bool} {dd_NoSpot : Option Addr} {m0_NoSpot m1_NoSpot m2_NoSpot m3_NoSpot m5_NoSpot : Option Value} {le_NoSpot : Addr}
    (xL_NoSpot : K.lookup c_NoSpot = some (excClassObj nm_NoSpot q_NoSpot c_NoSpot N_NoSpot bs_NoSpot [.ref le_NoSpot, .type "ValueError", .type "Exception", .type "BaseException", .type "object"] true sn_NoSpot sub_NoSpot ab_NoSpot col_NoSpot dd_NoSpot m0_NoSpot m1_NoSpot m2_NoSpot m3_NoSpot m5_NoSpot "ValueError.__new__"))
    (sa_NoSpot : PySem.W.findIn K (.ref c_NoSpot) "__setattr__" = some (some (.builtin "object.__setattr__"))) (tf_NoSpot : PySem.W.typeIn K (.ref f_NoSpot___init__) = some (.type "function")) (kC_NoSpot : PySem.W.keepIn K (.ref c_NoSpot) = true) (eC_NoSpot : PySem.W.subIn K (.ref c_NoSpot) (.type "BaseException") = some true) (tC_NoSpot : PySem.W.typeIn K (.ref c_NoSpot) = some (.type "type")) (iC_NoSpot : PySem.W.isClsIn K c_NoSpot = true) (sC_NoSpot : PySem.W.subIn K (.ref c_NoSpot) (.ref c_NoSpot) = some true)
    {nm_NoWalk q_NoWalk : Str} {N_NoWalk : Addr} {bs_NoWalk : List Value} {sn_NoWalk : List Str} {sub_NoWalk : List Value} {ab_NoWalk : Bool} {col_NoWalk : Option Bool} {dd_NoWalk : Option Addr} {m0_NoWalk m1_NoWalk m2_NoWalk m3_NoWalk m5_NoWalk : Option Value} {le_NoWalk : Addr}
    (xL_NoWalk : K.lookup c_NoWalk = some (excClassObj nm_NoWalk q_NoWalk c_NoWalk N_NoWalk bs_NoWalk [.ref le_NoWalk, .type "ValueError", .type "Exception", .type "BaseException", .type "object"] true sn_NoWalk sub_NoWalk ab_NoWalk col_NoWalk dd_NoWalk m0_NoWalk m1_NoWalk m2_NoWalk m3_NoWalk m5_NoWalk "ValueError.__new__"))
    (sa_NoWalk : PySem.W.findIn K (.ref c_NoWalk) "__setattr__" = some (some (.builtin "object.__setattr__"))) (tf_NoWalk : PySem.W.typeIn K (.ref f_NoWalk___init__) = some (.type "function")) (kC_NoWalk : PySem.W.keepIn K (.ref c_NoWalk) = true) (eC_NoWalk : PySem.W.subIn K (.ref c_NoWalk) (.type "BaseException") = some true) (tC_NoWalk : PySem.W.typeIn K (.ref c_NoWalk) = some (.type "type")) (iC_NoWalk : PySem.W.isClsIn K c_NoWalk = true) (sC_NoWalk : PySem.W.subIn K (.ref c_NoWalk) (.ref c_NoWalk) = some true)
    (xg_NoComers : PySem.W.findIn K (.ref c_NoComers) "__getattribute__" = some (some (.builtin "BaseException.__getattribute__"))) (xk_NoComers : PySem.W.findIn K (.ref c_NoComers) "__getattr__" = some none) (xd_NoComers : PySem.W.hasDictIn K c_NoComers = true) (xa_NoComers : PySem.W.findIn K (.ref c_NoComers) "__class__" = some (some (.builtin "object.__class__"))) (xn_NoComers : PySem.W.specialIn K (.builtin "object.__class__") "__get__" = some (some (.builtin "getset_descriptor.__get__"))) (xt_NoComers : PySem.W.takesIn K (.builtin "object.__class__") = some true) (xm_NoComers : PySem.W.mroIn K c_NoComers (.type "object") = some true) (xs_NoComers : PySem.W.subIn K (.ref c_NoComers) (.type "BaseException") = some true)
    (xg_NoBound : PySem.W.findIn K (.ref c_NoBound) "__getattribute__" = some (some (.builtin "BaseException.__getattribute__"))) (xk_NoBound : PySem.W.findIn K (.ref c_NoBound) "__getattr__" = some none) (xd_NoBound : PySem.W.hasDictIn K c_NoBound = true) (xa_NoBound : PySem.W.findIn K (.ref c_NoBound) "__class__" = some (some (.builtin "object.__class__"))) (xn_NoBound : PySem.W.specialIn K (.builtin "object.__class__") "__get__" = some (some (.builtin "getset_descriptor.__get__"))) (xt_NoBound : PySem.W.takesIn K (.builtin "object.__class__") = some true) (xm_NoBound : PySem.W.mroIn K c_NoBound (.type "object") = some true) (xs_NoBound : PySem.W.subIn K (.ref c_NoBound) (.type "BaseException") = some true)
    (xg_NoComings : PySem.W.findIn K (.ref c_NoComings) "__getattribute__" = some (some (.builtin "BaseException.__getattribute__"))) (xk_NoComings : PySem.W.findIn K (.ref c_NoComings) "__getattr__" = some none) (xd_NoComings : PySem.W.hasDictIn K c_NoComings = true) (xa_NoComings : PySem.W.findIn K (.ref c_NoComings) "__class__" = some (some (.builtin "object.__class__"))) (xn_NoComings : PySem.W.specialIn K (.builtin "object.__class__") "__get__" = some (some (.builtin "getset_descriptor.__get__"))) (xt_NoComings : PySem.W.takesIn K (.builtin "object.__class__") = some true) (xm_NoComings : PySem.W.mroIn K c_NoComings (.type "object") = some true) (xs_NoComings : PySem.W.subIn K (.ref c_NoComings) (.type "BaseException") = some true)
    (xg_NoSpot : PySem.W.findIn K (.ref c_NoSpot) "__getattribute__" = some (some (.builtin "BaseException.__getattribute__"))) (xk_NoSpot : PySem.W.findIn K (.ref c_NoSpot) "__getattr__" = some none) (xd_NoSpot : PySem.W.hasDictIn K c_NoSpot = true) (xa_NoSpot : PySem.W.findIn K (.ref c_NoSpot) "__class__" = some (some (.builtin "object.__class__"))) (xn_NoSpot : PySem.W.specialIn K (.builtin "object.__class__") "__get__" = some (some (.builtin "getset_descriptor.__get__"))) (xt_NoSpot : PySem.W.takesIn K (.builtin "object.__class__") = some true) (xm_NoSpot : PySem.W.mroIn K c_NoSpot (.type "object") = some true) (xs_NoSpot : PySem.W.subIn K (.ref c_NoSpot) (.type "BaseException") = some true)
    (xg_NoWalk : PySem.W.findIn K (.ref c_NoWalk) "__getattribute__" = some (some (.builtin "BaseException.__getattribute__"))) (xk_NoWalk : PySem.W.findIn K (.ref c_NoWalk) "__getattr__" = some none) (xd_NoWalk : PySem.W.hasDictIn K c_NoWalk = true) (xa_NoWalk : PySem.W.findIn K (.ref c_NoWalk) "__class__" = some (some (.builtin "object.__class__"))) (xn_NoWalk : PySem.W.specialIn K (.builtin "object.__class__") "__get__" = some (some (.builtin "getset_descriptor.__get__"))) (xt_NoWalk : PySem.W.takesIn K (.builtin "object.__class__") = some true) (xm_NoWalk : PySem.W.mroIn K c_NoWalk (.type "object") = some true) (xs_NoWalk : PySem.W.subIn K (.ref c_NoWalk) (.type "BaseException") = some true)
    (xg_LoopError : PySem.W.findIn K (.ref c_LoopError) "__getattribute__" = some (some (.builtin "BaseException.__getattribute__"))) (xk_LoopError : PySem.W.findIn K (.ref c_LoopError) "__getattr__" = some none) (xd_LoopError : PySem.W.hasDictIn K c_LoopError = true) (xa_LoopError : PySem.W.findIn K (.ref c_LoopError) "__class__" = some (some (.builtin "object.__class__"))) (xn_LoopError : PySem.W.specialIn K (.builtin "object.__class__") "__get__" = some (some (.builtin "getset_descriptor.__get__"))) (xt_LoopError : PySem.W.takesIn K (.builtin "object.__class__") = some true) (xm_LoopError : PySem.W.mroIn K c_LoopError (.type "object") = some true) (xs_LoopError : PySem.W.subIn K (.ref c_LoopError) (.type "BaseException") = some true)
    (ks_NoComers_LoopError : PySem.W.subIn K (.ref c_NoComers) (.ref c_LoopError) = some true) (kc_NoComers_LoopError : PySem.W.isClsIn K c_LoopError = true) (ky_NoComers_LoopError : PySem.W.typeIn K (.ref c_LoopError) = some (.type "type"))
    (ks_NoBound_LoopError : PySem.W.subIn K (.ref c_NoBound) (.ref c_LoopError) = some true) (kc_NoBound_LoopError : PySem.W.isClsIn K c_LoopError = true) (ky_NoBound_LoopError : PySem.W.typeIn K (.ref c_LoopError) = some (.type "type"))
    (ks_NoComings_LoopError : PySem.W.subIn K (.ref c_NoComings) (.ref c_LoopError) = some true) (kc_NoComings_LoopError : PySem.W.isClsIn K c_LoopError = true) (ky_NoComings_LoopError : PySem.W.typeIn K (.ref c_LoopError) = some (.type "type"))
    (ks_NoSpot_LoopError : PySem.W.subIn K (.ref c_NoSpot) (.ref c_LoopError) = some true) (kc_NoSpot_LoopError : PySem.W.isClsIn K c_LoopError = true) (ky_NoSpot_LoopError : PySem.W.typeIn K (.ref c_LoopError) = some (.type "type"))
    (ks_NoWalk_LoopError : PySem.W.subIn K (.ref c_NoWalk) (.ref c_LoopError) = some true) (kc_NoWalk_LoopError : PySem.W.isClsIn K c_LoopError = true) (ky_NoWalk_LoopError : PySem.W.typeIn K (.ref c_LoopError) = some (.type "type"))
    (ks_NoComers_NoComers : PySem.W.subIn K (.ref c_NoComers) (.ref c_NoComers) = some true) (kc_NoComers_NoComers : PySem.W.isClsIn K c_NoComers = true) (ky_NoComers_NoComers : PySem.W.typeIn K (.ref c_NoComers) = some (.type "type"))
    (ks_NoComers_NoBound : PySem.W.subIn K (.ref c_NoComers) (.ref c_NoBound) = some false) (kc_NoComers_NoBound : PySem.W.isClsIn K c_NoBound = true) (ky_NoComers_NoBound : PySem.W.typeIn K (.ref c_NoBound) = some (.type "type"))
    (kn_NoComers_NoBound : (Value.ref c_NoComers == Value.ref c_NoBound) = false)
    (ks_NoComers_NoComings : PySem.W.subIn K (.ref c_NoComers) (.ref c_NoComings) = some false) (kc_NoComers_NoComings : PySem.W.isClsIn K c_NoComings = true) (ky_NoComers_NoComings : PySem.W.typeIn K (.ref c_NoComings) = some (.type "type"))
    (kn_NoComers_NoComings : (Value.ref c_NoComers == Value.ref c_NoComings) = false)
    (ks_NoComers_NoSpot : PySem.W.subIn K (.ref c_NoComers) (.ref c_NoSpot) = some false) (kc_NoComers_NoSpot : PySem.W.isClsIn K c_NoSpot = true) (ky_NoComers_NoSpot : PySem.W.typeIn K (.ref c_NoSpot) = some (.type "type"))
    (kn_NoComers_NoSpot : (Value.ref c_NoComers == Value.ref c_NoSpot) = false)
    (ks_NoComers_NoWalk : PySem.W.subIn K (.ref c_NoComers) (.ref c_NoWalk) = some false) (kc_NoComers_NoWalk : PySem.W.isClsIn K c_NoWalk = true) (ky_NoComers_NoWalk : PySem.W.typeIn K (.ref c_NoWalk) = some (.type "type"))
    (kn_NoComers_NoWalk : (Value.ref c_NoComers == Value.ref c_NoWalk) = false)
    (ks_NoBound_NoComers : PySem.W.subIn K (.ref c_NoBound) (.ref c_NoComers) = some false) (kc_NoBound_NoComers : PySem.W.isClsIn K c_NoComers = true) (ky_NoBound_NoComers : PySem.W.typeIn K (.ref c_NoComers) = some (.type "type"))
    (kn_NoBound_NoComers : (Value.ref c_NoBound == Value.ref c_NoComers) = false)
    (ks_NoBound_NoBound : PySem.W.subIn K (.ref c_NoBound) (.ref c_NoBound) = some true) (kc_NoBound_NoBound : PySem.W.isClsIn K c_NoBound = true) (ky_NoBound_NoBound : PySem.W.typeIn K (.ref c_NoBound) = some (.type "type"))
    (ks_NoBound_NoComings : PySem.W.subIn K (.ref c_NoBound) (.ref c_NoComings) = some false) (kc_NoBound_NoComings : PySem.W.isClsIn K c_NoComings = true) (ky_NoBound_NoComings : PySem.W.typeIn K (.ref c_NoComings) = some (.type "type"))
    (kn_NoBound_NoComings : (Value.ref c_NoBound == Value.ref c_NoComings) = false)
    (ks_NoBound_NoSpot : PySem.W.subIn K (.ref c_NoBound) (.ref c_NoSpot) = some false) (kc_NoBound_NoSpot : PySem.W.isClsIn K c_NoSpot = true) (ky_NoBound_NoSpot : PySem.W.typeIn K (.ref c_NoSpot) = some (.type "type"))
    (kn_NoBound_NoSpot : (Value.ref c_NoBound == Value.ref c_NoSpot) = false)
    (ks_NoBound_NoWalk : PySem.W.subIn K (.ref c_NoBound) (.ref c_NoWalk) = some false) (kc_NoBound_NoWalk : PySem.W.isClsIn K c_NoWalk = true) (ky_NoBound_NoWalk : PySem.W.typeIn K (.ref c_NoWalk) = some (.type "type"))
    (kn_NoBound_NoWalk : (Value.ref c_NoBound == Value.ref c_NoWalk) = false)
    (ks_NoComings_NoComers : PySem.W.subIn K (.ref c_NoComings) (.ref c_NoComers) = some false) (kc_NoComings_NoComers : PySem.W.isClsIn K c_NoComers = true) (ky_NoComings_NoComers : PySem.W.typeIn K (.ref c_NoComers) = some (.type "type"))
    (kn_NoComings_NoComers : (Value.ref c_NoComings == Value.ref c_NoComers) = false)
    (ks_NoComings_NoBound : PySem.W.subIn K (.ref c_NoComings) (.ref c_NoBound) = some false) (kc_NoComings_NoBound : PySem.W.isClsIn K c_NoBound = true) (ky_NoComings_NoBound : PySem.W.typeIn K (.ref c_NoBound) = some (.type "type"))
    (kn_NoComings_NoBound : (Value.ref c_NoComings == Value.ref c_NoBound) = false)
    (ks_NoComings_NoComings : PySem.W.subIn K (.ref c_NoComings) (.ref c_NoComings) = some true) (kc_NoComings_NoComings : PySem.W.isClsIn K c_NoComings = true) (ky_NoComings_NoComings : PySem.W.typeIn K (.ref c_NoComings) = some (.type "type"))
    (ks_NoComings_NoSpot : PySem.W.subIn K (.ref c_NoComings) (.ref c_NoSpot) = some false) (kc_NoComings_NoSpot : PySem.W.isClsIn K c_NoSpot = true) (ky_NoComings_NoSpot : PySem.W.typeIn K (.ref c_NoSpot) = some (.type "type"))
    (kn_NoComings_NoSpot : (Value.ref c_NoComings == Value.ref c_NoSpot) = false)
    (ks_NoComings_NoWalk : PySem.W.subIn K (.ref c_NoComings) (.ref c_NoWalk) = some false) (kc_NoComings_NoWalk : PySem.W.isClsIn K c_NoWalk = true) (ky_NoComings_NoWalk : PySem.W.typeIn K (.ref c_NoWalk) = some (.type "type"))
    (kn_NoComings_NoWalk : (Value.ref c_NoComings == Value.ref c_NoWalk) = false)
    (ks_NoSpot_NoComers : PySem.W.subIn K (.ref c_NoSpot) (.ref c_NoComers) = some false) (kc_NoSpot_NoComers : PySem.W.isClsIn K c_NoComers = true) (ky_NoSpot_NoComers : PySem.W.typeIn K (.ref c_NoComers) = some (.type "type"))
    (kn_NoSpot_NoComers : (Value.ref c_NoSpot == Value.ref c_NoComers) = false)
    (ks_NoSpot_NoBound : PySem.W.subIn K (.ref c_NoSpot) (.ref c_NoBound) = some false) (kc_NoSpot_NoBound : PySem.W.isClsIn K c_NoBound = true) (ky_NoSpot_NoBound : PySem.W.typeIn K (.ref c_NoBound) = some (.type "type"))
    (kn_NoSpot_NoBound : (Value.ref c_NoSpot == Value.ref c_NoBound) = false)
    (ks_NoSpot_NoComings : PySem.W.subIn K (.ref c_NoSpot) (.ref c_NoComings) = some false) (kc_NoSpot_NoComings : PySem.W.isClsIn K c_NoComings = true) (ky_NoSpot_NoComings : PySem.W.typeIn K (.ref c_NoComings) = some (.type "type"))
    (kn_NoSpot_NoComings : (Value.ref c_NoSpot == Value.ref c_NoComings) = false)
    (ks_NoSpot_NoSpot : PySem.W.subIn K (.ref c_NoSpot) (.ref c_NoSpot) = some true) (kc_NoSpot_NoSpot : PySem.W.isClsIn K c_NoSpot = true) (ky_NoSpot_NoSpot : PySem.W.typeIn K (.ref c_NoSpot) = some (.type "type"))
    (ks_NoSpot_NoWalk : PySem.W.subIn K (.ref c_NoSpot) (.ref c_NoWalk) = some false) (kc_NoSpot_NoWalk : PySem.W.isClsIn K c_NoWalk = true) (ky_NoSpot_NoWalk : PySem.W.typeIn K (.ref c_NoWalk) = some (.type "type"))
    (kn_NoSpot_NoWalk : (Value.ref c_NoSpot == Value.ref c_NoWalk) = false)
    (ks_NoWalk_NoComers : PySem.W.subIn K (.ref c_NoWalk) (.ref c_NoComers) = some false) (kc_NoWalk_NoComers : PySem.W.isClsIn K c_NoComers = true) (ky_NoWalk_NoComers : PySem.W.typeIn K (.ref c_NoComers) = some (.type "type"))
    (kn_NoWalk_NoComers : (Value.ref c_NoWalk == Value.ref c_NoComers) = false)
    (ks_NoWalk_NoBound : PySem.W.subIn K (.ref c_NoWalk) (.ref c_NoBound) = some false) (kc_NoWalk_NoBound : PySem.W.isClsIn K c_NoBound = true) (ky_NoWalk_NoBound : PySem.W.typeIn K (.ref c_NoBound) = some (.type "type"))
    (kn_NoWalk_NoBound : (Value.ref c_NoWalk == Value.ref c_NoBound) = false)
    (ks_NoWalk_NoComings : PySem.W.subIn K (.ref c_NoWalk) (.ref c_NoComings) = some false) (kc_NoWalk_NoComings : PySem.W.isClsIn K c_NoComings = true) (ky_NoWalk_NoComings : PySem.W.typeIn K (.ref c_NoComings) = some (.type "type"))
    (kn_NoWalk_NoComings : (Value.ref c_NoWalk == Value.ref c_NoComings) = false)
    (ks_NoWalk_NoSpot : PySem.W.subIn K (.ref c_NoWalk) (.ref c_NoSpot) = some false) (kc_NoWalk_NoSpot : PySem.W.isClsIn K c_NoSpot = true) (ky_NoWalk_NoSpot : PySem.W.typeIn K (.ref c_NoSpot) = some (.type "type"))
    (kn_NoWalk_NoSpot : (Value.ref c_NoWalk == Value.ref c_NoSpot) = false)
    (ks_NoWalk_NoWalk : PySem.W.subIn K (.ref c_NoWalk) (.ref c_NoWalk) = some true) (kc_NoWalk_NoWalk : PySem.W.isClsIn K c_NoWalk = true) (ky_NoWalk_NoWalk : PySem.W.typeIn K (.ref c_NoWalk) = some (.type "type"))
    : ∃ T : Tx K mg, T.a_law = f_law ∧ T.d_law = PySem.W.fnOf "law" "law" (defArgs s_law) (defBody s_law) (defScope s_law) .none kV_law dc_law pm_law an_law cd_law ct_law :=
  ⟨{ a_is_integer := f_is_integer, d_is_integer := _, F_is_integer := fun_mk (st := s_is_integer) l_is_integer c_is_integer k_is_integer, b_is_integer := (fun_mk (st := s_is_integer) l_is_integer c_is_integer k_is_integer).binds (ps := ["thing"]) (fun _ _ _ _ _ _ us hl => match us, hl with | [_], _ => rfl), g_is_integer := PySem.W.mg_of X G a_is_integer,
     a_is_number := f_is_number, d_is_number := _, F_is_number := fun_mk (st := s_is_number) l_is_number c_is_number k_is_number, b_is_number := (fun_mk (st := s_is_number) l_is_number c_is_number k_is_number).binds (ps := ["thing", "least", "most"]) (fun _ _ _ _ _ _ us hl => match us, hl with | [_, _, _], _ => rfl), g_is_number := PySem.W.mg_of X G a_is_number,
     a_are_numbers := f_are_numbers, d_are_numbers := _, F_are_numbers := fun_mk (st := s_are_numbers) l_are_numbers c_are_numbers k_are_numbers, b_are_numbers := (fun_mk (st := s_are_numbers) l_are_numbers c_are_numbers k_are_numbers).binds (ps := ["things", "least", "most"]) (fun _ _ _ _ _ _ us hl => match us, hl with | [_, _, _], _ => rfl), g_are_numbers := PySem.W.mg_of X G a_are_numbers,
     a_are_integers := f_are_integers, d_are_integers := _, F_are_integers := fun_mk (st := s_are_integers) l_are_integers c_are_integers k_are_integers, b_are_integers := (fun_mk (st := s_are_integers) l_are_integers c_are_integers k_are_integers).binds (ps := ["thing", "many"]) (fun _ _ _ _ _ _ us hl => match us, hl with | [_, _], _ => rfl), g_are_integers := PySem.W.mg_of X G a_are_integers,
     a_is_comings := f_is_comings, d_is_comings := _, F_is_comings := fun_mk (st := s_is_comings) l_is_comings c_is_comings k_is_comings, b_is_comings := (fun_mk (st := s_is_comings) l_is_comings c_is_comings k_is_comings).binds (ps := ["comers", "thing"]) (fun _ _ _ _ _ _ us hl => match us, hl with | [_, _], _ => rfl), g_is_comings := PySem.W.mg_of X G a_is_comings,
     a_check_comers := f_check_comers, d_check_comers := _, F_check_comers := fun_mk (st := s_check_comers) l_check_comers c_check_comers k_check_comers, b_check_comers := (fun_mk (st := s_check_comers) l_check_comers c_check_comers k_check_comers).binds (ps := ["thing"]) (fun _ _ _ _ _ _ us hl => match us, hl with | [_], _ => rfl), g_check_comers := PySem.W.mg_of X G a_check_comers,
     a_check_bound := f_check_bound, d_check_bound := _, F_check_bound := fun_mk (st := s_check_bound) l_check_bound c_check_bound k_check_bound, b_check_bound := (fun_mk (st := s_check_bound) l_check_bound c_check_bound k_check_bound).binds (ps := ["thing"]) (fun _ _ _ _ _ _ us hl => match us, hl with | [_], _ => rfl), g_check_bound := PySem.W.mg_of X G a_check_bound,
     a_check_comings := f_check_comings, d_check_comings := _, F_check_comings := fun_mk (st := s_check_comings) l_check_comings c_check_comings k_check_comings, b_check_comings := (fun_mk (st := s_check_comings) l_check_comings c_check_comings k_check_comings).binds (ps := ["comers", "thing"]) (fun _ _ _ _ _ _ us hl => match us, hl with | [_, _], _ => rfl), g_check_comings := PySem.W.mg_of X G a_check_comings,
     a_follow_line := f_follow_line, d_follow_line := _, F_follow_line := fun_mk (st := s_follow_line) l_follow_line c_follow_line k_follow_line, b_follow_line := (fun_mk (st := s_follow_line) l_follow_line c_follow_line k_follow_line).binds (ps := ["bound", "line", "comings"]) (fun _ _ _ _ _ _ us hl => match us, hl with | [_, _, _], _ => rfl), g_follow_line := PySem.W.mg_of X G a_follow_line,
     a_letters_of := f_letters_of, d_letters_of := _, F_letters_of := fun_mk (st := s_letters_of) l_letters_of c_letters_of k_letters_of, b_letters_of := (fun_mk (st := s_letters_of) l_letters_of c_letters_of k_letters_of).binds (ps := ["bound", "comings"]) (fun _ _ _ _ _ _ us hl => match us, hl with | [_, _], _ => rfl), g_letters_of := PySem.W.mg_of X G a_letters_of,
     a_comes := f_comes, d_comes := _, F_comes := fun_mk (st := s_comes) l_comes c_comes k_comes, b_comes := (fun_mk (st := s_comes) l_comes c_comes k_comes).binds (ps := ["comers", "comings"]) (fun _ _ _ _ _ _ us hl => match us, hl with | [_, _], _ => rfl), g_comes := PySem.W.mg_of X G a_comes,
     a_waits := f_waits, d_waits := _, F_waits := fun_mk (st := s_waits) l_waits c_waits k_waits, b_waits := (fun_mk (st := s_waits) l_waits c_waits k_waits).binds (ps := ["comers", "bound", "comings"]) (fun _ _ _ _ _ _ us hl => match us, hl with | [_, _, _], _ => rfl), g_waits := PySem.W.mg_of X G a_waits,
     a_lines := f_lines, d_lines := _, F_lines := fun_mk (st := s_lines) l_lines c_lines k_lines, b_lines := (fun_mk (st := s_lines) l_lines c_lines k_lines).binds (ps := ["comers", "bound", "comings"]) (fun _ _ _ _ _ _ us hl => match us, hl with | [_, _, _], _ => rfl), g_lines := PySem.W.mg_of X G a_lines,
     a_outs := f_outs, d_outs := _, F_outs := fun_mk (st := s_outs) l_outs c_outs k_outs, b_outs := (fun_mk (st := s_outs) l_outs c_outs k_outs).binds (ps := ["comers", "bound", "comings"]) (fun _ _ _ _ _ _ us hl => match us, hl with | [_, _, _], _ => rfl), g_outs := PySem.W.mg_of X G a_outs,
     a_is_spot := f_is_spot, d_is_spot := _, F_is_spot := fun_mk (st := s_is_spot) l_is_spot c_is_spot k_is_spot, b_is_spot := (fun_mk (st := s_is_spot) l_is_spot c_is_spot k_is_spot).binds (ps := ["comers", "bound", "thing"]) (fun _ _ _ _ _ _ us hl => match us, hl with | [_, _, _], _ => rfl), g_is_spot := PySem.W.mg_of X G a_is_spot,
     a_is_next := f_is_next, d_is_next := _, F_is_next := fun_mk (st := s_is_next) l_is_next c_is_next k_is_next, b_is_next := (fun_mk (st := s_is_next) l_is_next c_is_next k_is_next).binds (ps := ["comers", "bound", "spot", "other"]) (fun _ _ _ _ _ _ us hl => match us, hl with | [_, _, _, _], _ => rfl), g_is_next := PySem.W.mg_of X G a_is_next,
     a_is_walk := f_is_walk, d_is_walk := _, F_is_walk := fun_mk (st := s_is_walk) l_is_walk c_is_walk k_is_walk, b_is_walk := (fun_mk (st := s_is_walk) l_is_walk c_is_walk k_is_walk).binds (ps := ["comers", "bound", "thing"]) (fun _ _ _ _ _ _ us hl => match us, hl with | [_, _, _], _ => rfl), g_is_walk := PySem.W.mg_of X G a_is_walk,
     a_spots := f_spots, d_spots := _, F_spots := fun_mk (st := s_spots) l_spots c_spots k_spots, b_spots := (fun_mk (st := s_spots) l_spots c_spots k_spots).binds (ps := ["comers", "bound"]) (fun _ _ _ _ _ _ us hl => match us, hl with | [_, _], _ => rfl), g_spots := PySem.W.mg_of X G a_spots,
     a_nexts := f_nexts, d_nexts := _, F_nexts := fun_mk (st := s_nexts) l_nexts c_nexts k_nexts, b_nexts := (fun_mk (st := s_nexts) l_nexts c_nexts k_nexts).binds (ps := ["comers", "bound", "spot"]) (fun _ _ _ _ _ _ us hl => match us, hl with | [_, _, _], _ => rfl), g_nexts := PySem.W.mg_of X G a_nexts,
     a_walk := f_walk, d_walk := _, F_walk := fun_mk (st := s_walk) l_walk c_walk k_walk, b_walk := (fun_mk (st := s_walk) l_walk c_walk k_walk).binds (ps := ["comers", "bound", "comings"]) (fun _ _ _ _ _ _ us hl => match us, hl with | [_, _, _], _ => rfl), g_walk := PySem.W.mg_of X G a_walk,
     a_comings_for := f_comings_for, d_comings_for := _, F_comings_for := fun_mk (st := s_comings_for) l_comings_for c_comings_for k_comings_for, b_comings_for := (fun_mk (st := s_comings_for) l_comings_for c_comings_for k_comings_for).binds (ps := ["comers", "bound", "row"]) (fun _ _ _ _ _ _ us hl => match us, hl with | [_, _, _], _ => rfl), g_comings_for := PySem.W.mg_of X G a_comings_for,
     a__law_tape := f__law_tape, d__law_tape := _, F__law_tape := fun_mk (st := s__law_tape) l__law_tape c__law_tape k__law_tape, b__law_tape := (fun_mk (st := s__law_tape) l__law_tape c__law_tape k__law_tape).binds (ps := ["script"]) (fun _ _ _ _ _ _ us hl => match us, hl with | [_], _ => rfl), g__law_tape := PySem.W.mg_of X G a__law_tape,
     a__law_pick := f__law_pick, d__law_pick := _, F__law_pick := fun_mk (st := s__law_pick) l__law_pick c__law_pick k__law_pick, b__law_pick := (fun_mk (st := s__law_pick) l__law_pick c__law_pick k__law_pick).binds (ps := ["tape", "size"]) (fun _ _ _ _ _ _ us hl => match us, hl with | [_, _], _ => rfl), g__law_pick := PySem.W.mg_of X G a__law_pick,
     a__law_odd := f__law_odd, d__law_odd := _, F__law_odd := fun_mk (st := s__law_odd) l__law_odd c__law_odd k__law_odd, b__law_odd := (fun_mk (st := s__law_odd) l__law_odd c__law_odd k__law_odd).binds (ps := ["tape"]) (fun _ _ _ _ _ _ us hl => match us, hl with | [_], _ => rfl), g__law_odd := PySem.W.mg_of X G a__law_odd,
     a__law_is_int := f__law_is_int, d__law_is_int := _, F__law_is_int := fun_mk (st := s__law_is_int) l__law_is_int c__law_is_int k__law_is_int, b__law_is_int := (fun_mk (st := s__law_is_int) l__law_is_int c__law_is_int k__law_is_int).binds (ps := ["thing", "least", "most"]) (fun _ _ _ _ _ _ us hl => match us, hl with | [_, _, _], _ => rfl), g__law_is_int := PySem.W.mg_of X G a__law_is_int,
     a__law_are_ints := f__law_are_ints, d__law_are_ints := _, F__law_are_ints := fun_mk (st := s__law_are_ints) l__law_are_ints c__law_are_ints k__law_are_ints, b__law_are_ints := (fun_mk (st := s__law_are_ints) l__law_are_ints c__law_are_ints k__law_are_ints).binds (ps := ["thing", "many", "least", "most"]) (fun _ _ _ _ _ _ us hl => match us, hl with | [_, _, _, _], _ => rfl), g__law_are_ints := PySem.W.mg_of X G a__law_are_ints,
     a__law_asked := f__law_asked, d__law_asked := _, F__law_asked := fun_mk (st := s__law_asked) l__law_asked c__law_asked k__law_asked, b__law_asked := (fun_mk (st := s__law_asked) l__law_asked c__law_asked k__law_asked).binds (ps := ["kind", "a"]) (fun _ _ _ _ _ _ us hl => match us, hl with | [_, _], _ => rfl), g__law_asked := PySem.W.mg_of X G a__law_asked,
     a__law_tried := f__law_tried, d__law_tried := _, F__law_tried := fun_mk (st := s__law_tried) l__law_tried c__law_tried k__law_tried, b__law_tried := (fun_mk (st := s__law_tried) l__law_tried c__law_tried k__law_tried).binds (ps := ["kind", "a"]) (fun _ _ _ _ _ _ us hl => match us, hl with | [_, _], _ => rfl), g__law_tried := PySem.W.mg_of X G a__law_tried,
     a__law_is_spot := f__law_is_spot, d__law_is_spot := _, F__law_is_spot := fun_mk (st := s__law_is_spot) l__law_is_spot c__law_is_spot k__law_is_spot, b__law_is_spot := (fun_mk (st := s__law_is_spot) l__law_is_spot c__law_is_spot k__law_is_spot).binds (ps := ["comers", "bound", "thing"]) (fun _ _ _ _ _ _ us hl => match us, hl with | [_, _, _], _ => rfl), g__law_is_spot := PySem.W.mg_of X G a__law_is_spot,
     a__law_is_walk := f__law_is_walk, d__law_is_walk := _, F__law_is_walk := fun_mk (st := s__law_is_walk) l__law_is_walk c__law_is_walk k__law_is_walk, b__law_is_walk := (fun_mk (st := s__law_is_walk) l__law_is_walk c__law_is_walk k__law_is_walk).binds (ps := ["comers", "bound", "thing"]) (fun _ _ _ _ _ _ us hl => match us, hl with | [_, _, _], _ => rfl), g__law_is_walk := PySem.W.mg_of X G a__law_is_walk,
     a__law_due := f__law_due, d__law_due := _, F__law_due := fun_mk (st := s__law_due) l__law_due c__law_due k__law_due, b__law_due := (fun_mk (st := s__law_due) l__law_due c__law_due k__law_due).binds (ps := ["kind", "a"]) (fun _ _ _ _ _ _ us hl => match us, hl with | [_, _], _ => rfl), g__law_due := PySem.W.mg_of X G a__law_due,
     a__law_walk := f__law_walk, d__law_walk := _, F__law_walk := fun_mk (st := s__law_walk) l__law_walk c__law_walk k__law_walk, b__law_walk := (fun_mk (st := s__law_walk) l__law_walk c__law_walk k__law_walk).binds (ps := ["tape", "comers", "bound"]) (fun _ _ _ _ _ _ us hl => match us, hl with | [_, _, _], _ => rfl), g__law_walk := PySem.W.mg_of X G a__law_walk,
     a_law := f_law, d_law := _, F_law := fun_mk (st := s_law) l_law c_law k_law, b_law := (fun_mk (st := s_law) l_law c_law k_law).binds (ps := ["script"]) (fun _ _ _ _ _ _ us hl => match us, hl with | [_], _ => rfl), g_law := PySem.W.mg_of X G a_law,
     m_all := PySem.W.mg_none_of X G z_all,
     m_bool := PySem.W.mg_none_of X G z_bool,
     m_enumerate := PySem.W.mg_none_of X G z_enumerate,
     m_int := PySem.W.mg_none_of X G z_int,
     m_isinstance := PySem.W.mg_none_of X G z_isinstance,
     m_len := PySem.W.mg_none_of X G z_len,
     m_list := PySem.W.mg_none_of X G z_list,
     m_min := PySem.W.mg_none_of X G z_min,
     m_range := PySem.W.mg_none_of X G z_range,
     m_repr := PySem.W.mg_none_of X G z_repr,
     m_tuple := PySem.W.mg_none_of X G z_tuple,
     m_zip := PySem.W.mg_none_of X G z_zip,
     t_MOST_BOUND := t_MOST_BOUND, g_MOST_BOUND := PySem.W.mg_of X G y_MOST_BOUND,
     t_MOST_COMERS := t_MOST_COMERS, g_MOST_COMERS := PySem.W.mg_of X G y_MOST_COMERS,
     t_MOST_SPOTS := t_MOST_SPOTS, g_MOST_SPOTS := PySem.W.mg_of X G y_MOST_SPOTS,
     t_MOST_TICKS := t_MOST_TICKS, g_MOST_TICKS := PySem.W.mg_of X G y_MOST_TICKS,
     c_LoopError := c_LoopError, g_LoopError := PySem.W.mg_of X G y_LoopError,
     c_NoBound := c_NoBound, g_NoBound := PySem.W.mg_of X G y_NoBound,
     c_NoComers := c_NoComers, g_NoComers := PySem.W.mg_of X G y_NoComers,
     c_NoComings := c_NoComings, g_NoComings := PySem.W.mg_of X G y_NoComings,
     c_NoSpot := c_NoSpot, g_NoSpot := PySem.W.mg_of X G y_NoSpot,
     c_NoWalk := c_NoWalk, g_NoWalk := PySem.W.mg_of X G y_NoWalk,
     a_NoComers___init__ := f_NoComers___init__, d_NoComers___init__ := _, F_NoComers___init__ := fun_mk (st := s_NoComers___init__) l_NoComers___init__ c_NoComers___init__ k_NoComers___init__, b_NoComers___init__ := (fun_mk (st := s_NoComers___init__) l_NoComers___init__ c_NoComers___init__ k_NoComers___init__).binds (ps := ["self"]) (fun _ _ _ _ _ _ us hl => match us, hl with | [_], _ => rfl),
     x_NoComers := ⟨⟨nm_NoComers, q_NoComers, N_NoComers, bs_NoComers, _, sn_NoComers, sub_NoComers, ab_NoComers, col_NoComers, dd_NoComers, m0_NoComers, m1_NoComers, m2_NoComers, m3_NoComers, m5_NoComers, xL_NoComers, rfl⟩, sa_NoComers, eC_NoComers, tC_NoComers, kC_NoComers⟩, i_NoComers := a_NoComers___init__, ti_NoComers := tf_NoComers, e_NoComers := exm_self eC_NoComers iC_NoComers tC_NoComers sC_NoComers,
     a_NoBound___init__ := f_NoBound___init__, d_NoBound___init__ := _, F_NoBound___init__ := fun_mk (st := s_NoBound___init__) l_NoBound___init__ c_NoBound___init__ k_NoBound___init__, b_NoBound___init__ := (fun_mk (st := s_NoBound___init__) l_NoBound___init__ c_NoBound___init__ k_NoBound___init__).binds (ps := ["self"]) (fun _ _ _ _ _ _ us hl => match us, hl with | [_], _ => rfl),
     x_NoBound := ⟨⟨nm_NoBound, q_NoBound, N_NoBound, bs_NoBound, _, sn_NoBound, sub_NoBound, ab_NoBound, col_NoBound, dd_NoBound, m0_NoBound, m1_NoBound, m2_NoBound, m3_NoBound, m5_NoBound, xL_NoBound, rfl⟩, sa_NoBound, eC_NoBound, tC_NoBound, kC_NoBound⟩, i_NoBound := a_NoBound___init__, ti_NoBound := tf_NoBound, e_NoBound := exm_self eC_NoBound iC_NoBound tC_NoBound sC_NoBound,
     a_NoComings___init__ := f_NoComings___init__, d_NoComings___init__ := _, F_NoComings___init__ := fun_mk (st := s_NoComings___init__) l_NoComings___init__ c_NoComings___init__ k_NoComings___init__, b_NoComings___init__ := (fun_mk (st := s_NoComings___init__) l_NoComings___init__ c_NoComings___init__ k_NoComings___init__).binds (ps := ["self"]) (fun _ _ _ _ _ _ us hl => match us, hl with | [_], _ => rfl),
     x_NoComings := ⟨⟨nm_NoComings, q_NoComings, N_NoComings, bs_NoComings, _, sn_NoComings, sub_NoComings, ab_NoComings, col_NoComings, dd_NoComings, m0_NoComings, m1_NoComings, m2_NoComings, m3_NoComings, m5_NoComings, xL_NoComings, rfl⟩, sa_NoComings, eC_NoComings, tC_NoComings, kC_NoComings⟩, i_NoComings := a_NoComings___init__, ti_NoComings := tf_NoComings, e_NoComings := exm_self eC_NoComings iC_NoComings tC_NoComings sC_NoComings,
     a_NoSpot___init__ := f_NoSpot___init__, d_NoSpot___init__ := _, F_NoSpot___init__ := fun_mk (st := s_NoSpot___init__) l_NoSpot___init__ c_NoSpot___init__ k_NoSpot___init__, b_NoSpot___init__ := (fun_mk (st := s_NoSpot___init__) l_NoSpot___init__ c_NoSpot___init__ k_NoSpot___init__).binds (ps := ["self"]) (fun _ _ _ _ _ _ us hl => match us, hl with | [_], _ => rfl),
     x_NoSpot := ⟨⟨nm_NoSpot, q_NoSpot, N_NoSpot, bs_NoSpot, _, sn_NoSpot, sub_NoSpot, ab_NoSpot, col_NoSpot, dd_NoSpot, m0_NoSpot, m1_NoSpot, m2_NoSpot, m3_NoSpot, m5_NoSpot, xL_NoSpot, rfl⟩, sa_NoSpot, eC_NoSpot, tC_NoSpot, kC_NoSpot⟩, i_NoSpot := a_NoSpot___init__, ti_NoSpot := tf_NoSpot, e_NoSpot := exm_self eC_NoSpot iC_NoSpot tC_NoSpot sC_NoSpot,
     a_NoWalk___init__ := f_NoWalk___init__, d_NoWalk___init__ := _, F_NoWalk___init__ := fun_mk (st := s_NoWalk___init__) l_NoWalk___init__ c_NoWalk___init__ k_NoWalk___init__, b_NoWalk___init__ := (fun_mk (st := s_NoWalk___init__) l_NoWalk___init__ c_NoWalk___init__ k_NoWalk___init__).binds (ps := ["self"]) (fun _ _ _ _ _ _ us hl => match us, hl with | [_], _ => rfl),
     x_NoWalk := ⟨⟨nm_NoWalk, q_NoWalk, N_NoWalk, bs_NoWalk, _, sn_NoWalk, sub_NoWalk, ab_NoWalk, col_NoWalk, dd_NoWalk, m0_NoWalk, m1_NoWalk, m2_NoWalk, m3_NoWalk, m5_NoWalk, xL_NoWalk, rfl⟩, sa_NoWalk, eC_NoWalk, tC_NoWalk, kC_NoWalk⟩, i_NoWalk := a_NoWalk___init__, ti_NoWalk := tf_NoWalk, e_NoWalk := exm_self eC_NoWalk iC_NoWalk tC_NoWalk sC_NoWalk,
     ec_NoComers := ⟨xg_NoComers, xk_NoComers, xs_NoComers, xd_NoComers, xa_NoComers, xn_NoComers, xt_NoComers, xm_NoComers⟩,
     ec_NoBound := ⟨xg_NoBound, xk_NoBound, xs_NoBound, xd_NoBound, xa_NoBound, xn_NoBound, xt_NoBound, xm_NoBound⟩,
     ec_NoComings := ⟨xg_NoComings, xk_NoComings, xs_NoComings, xd_NoComings, xa_NoComings, xn_NoComings, xt_NoComings, xm_NoComings⟩,
     ec_NoSpot := ⟨xg_NoSpot, xk_NoSpot, xs_NoSpot, xd_NoSpot, xa_NoSpot, xn_NoSpot, xt_NoSpot, xm_NoSpot⟩,
     ec_NoWalk := ⟨xg_NoWalk, xk_NoWalk, xs_NoWalk, xd_NoWalk, xa_NoWalk, xn_NoWalk, xt_NoWalk, xm_NoWalk⟩,
     ec_LoopError := ⟨xg_LoopError, xk_LoopError, xs_LoopError, xd_LoopError, xa_LoopError, xn_LoopError, xt_LoopError, xm_LoopError⟩,
     kt_NoComers_LoopError := EX6.kit_own ks_NoComers_LoopError kc_NoComers_LoopError ky_NoComers_LoopError,
     kt_NoBound_LoopError := EX6.kit_own ks_NoBound_LoopError kc_NoBound_LoopError ky_NoBound_LoopError,
     kt_NoComings_LoopError := EX6.kit_own ks_NoComings_LoopError kc_NoComings_LoopError ky_NoComings_LoopError,
     kt_NoSpot_LoopError := EX6.kit_own ks_NoSpot_LoopError kc_NoSpot_LoopError ky_NoSpot_LoopError,
     kt_NoWalk_LoopError := EX6.kit_own ks_NoWalk_LoopError kc_NoWalk_LoopError ky_NoWalk_LoopError,
     kt_NoComers_NoComers := EX6.kit_own ks_NoComers_NoComers kc_NoComers_NoComers ky_NoComers_NoComers,
     kt_NoComers_NoBound := EX6.kit_ownN ks_NoComers_NoBound kc_NoComers_NoBound ky_NoComers_NoBound kn_NoComers_NoBound,
     kt_NoComers_NoComings := EX6.kit_ownN ks_NoComers_NoComings kc_NoComers_NoComings ky_NoComers_NoComings kn_NoComers_NoComings,
     kt_NoComers_NoSpot := EX6.kit_ownN ks_NoComers_NoSpot kc_NoComers_NoSpot ky_NoComers_NoSpot kn_NoComers_NoSpot,
     kt_NoComers_NoWalk := EX6.kit_ownN ks_NoComers_NoWalk kc_NoComers_NoWalk ky_NoComers_NoWalk kn_NoComers_NoWalk,
     kt_NoBound_NoComers := EX6.kit_ownN ks_NoBound_NoComers kc_NoBound_NoComers ky_NoBound_NoComers kn_NoBound_NoComers,
     kt_NoBound_NoBound := EX6.kit_own ks_NoBound_NoBound kc_NoBound_NoBound ky_NoBound_NoBound,
     kt_NoBound_NoComings := EX6.kit_ownN ks_NoBound_NoComings kc_NoBound_NoComings ky_NoBound_NoComings kn_NoBound_NoComings,
     kt_NoBound_NoSpot := EX6.kit_ownN ks_NoBound_NoSpot kc_NoBound_NoSpot ky_NoBound_NoSpot kn_NoBound_NoSpot,
     kt_NoBound_NoWalk := EX6.kit_ownN ks_NoBound_NoWalk kc_NoBound_NoWalk ky_NoBound_NoWalk kn_NoBound_NoWalk,
     kt_NoComings_NoComers := EX6.kit_ownN ks_NoComings_NoComers kc_NoComings_NoComers ky_NoComings_NoComers kn_NoComings_NoComers,
     kt_NoComings_NoBound := EX6.kit_ownN ks_NoComings_NoBound kc_NoComings_NoBound ky_NoComings_NoBound kn_NoComings_NoBound,
     kt_NoComings_NoComings := EX6.kit_own ks_NoComings_NoComings kc_NoComings_NoComings ky_NoComings_NoComings,
     kt_NoComings_NoSpot := EX6.kit_ownN ks_NoComings_NoSpot kc_NoComings_NoSpot ky_NoComings_NoSpot kn_NoComings_NoSpot,
     kt_NoComings_NoWalk := EX6.kit_ownN ks_NoComings_NoWalk kc_NoComings_NoWalk ky_NoComings_NoWalk kn_NoComings_NoWalk,
     kt_NoSpot_NoComers := EX6.kit_ownN ks_NoSpot_NoComers kc_NoSpot_NoComers ky_NoSpot_NoComers kn_NoSpot_NoComers,
     kt_NoSpot_NoBound := EX6.kit_ownN ks_NoSpot_NoBound kc_NoSpot_NoBound ky_NoSpot_NoBound kn_NoSpot_NoBound,
     kt_NoSpot_NoComings := EX6.kit_ownN ks_NoSpot_NoComings kc_NoSpot_NoComings ky_NoSpot_NoComings kn_NoSpot_NoComings,
     kt_NoSpot_NoSpot := EX6.kit_own ks_NoSpot_NoSpot kc_NoSpot_NoSpot ky_NoSpot_NoSpot,
     kt_NoSpot_NoWalk := EX6.kit_ownN ks_NoSpot_NoWalk kc_NoSpot_NoWalk ky_NoSpot_NoWalk kn_NoSpot_NoWalk,
     kt_NoWalk_NoComers := EX6.kit_ownN ks_NoWalk_NoComers kc_NoWalk_NoComers ky_NoWalk_NoComers kn_NoWalk_NoComers,
     kt_NoWalk_NoBound := EX6.kit_ownN ks_NoWalk_NoBound kc_NoWalk_NoBound ky_NoWalk_NoBound kn_NoWalk_NoBound,
     kt_NoWalk_NoComings := EX6.kit_ownN ks_NoWalk_NoComings kc_NoWalk_NoComings ky_NoWalk_NoComings kn_NoWalk_NoComings,
     kt_NoWalk_NoSpot := EX6.kit_ownN ks_NoWalk_NoSpot kc_NoWalk_NoSpot ky_NoWalk_NoSpot kn_NoWalk_NoSpot,
     kt_NoWalk_NoWalk := EX6.kit_own ks_NoWalk_NoWalk kc_NoWalk_NoWalk ky_NoWalk_NoWalk,
     xm_NoComers_LoopError := PySem.W.exm_ref xs_LoopError xd_LoopError ky_NoComers_LoopError ks_NoComers_LoopError,
     xm_NoBound_LoopError := PySem.W.exm_ref xs_LoopError xd_LoopError ky_NoBound_LoopError ks_NoBound_LoopError,
     xm_NoComings_LoopError := PySem.W.exm_ref xs_LoopError xd_LoopError ky_NoComings_LoopError ks_NoComings_LoopError,
     xm_NoSpot_LoopError := PySem.W.exm_ref xs_LoopError xd_LoopError ky_NoSpot_LoopError ks_NoSpot_LoopError,
     xm_NoWalk_LoopError := PySem.W.exm_ref xs_LoopError xd_LoopError ky_NoWalk_LoopError ks_NoWalk_LoopError }, rfl, rfl⟩
end My
open PySem PySem.W PyProof.Rows
set_option maxHeartbeats 0 in
theorem PySem.Challenge.cw_loopstore_k01_lines_refused_holds : PySem.Challenge.rw_loopstore_k01_lines_refused.Holds := by
  w_on; o_law; k_head; (case hw => w_witness2)
  k_fill
  refine RO9.walk_ofS (l := PySem.Challenge.rw_loopstore_k01_lines_refused) (n := 63) (k := My.lawLevel) (x := "script") (sp := fun w => My.spLaw _) rfl (by decide) rfl ⟨rfl, by decide, by decide⟩ (by decide +kernel) (fun w h Y => PySem.W.kIn_of Y) ?F (fun _ _ a ns hl hK hS => ⟨a, ns, rfl, hS, hl, hK, fun _ => rfl⟩)
  case F =>
    intro w mg fa h KX G hmg
    refine' My.fin_mk KX G hmg (My.all_mk (w := w) KX G ?a_is_integer ?l_is_integer ?c_is_integer ?k_is_integer ?a_is_number ?l_is_number ?c_is_number ?k_is_number ?a_are_numbers ?l_are_numbers ?c_are_numbers ?k_are_numbers ?a_are_integers ?l_are_integers ?c_are_integers ?k_are_integers ?a_is_comings ?l_is_comings ?c_is_comings ?k_is_comings ?a_check_comers ?l_check_comers ?c_check_comers ?k_check_comers ?a_check_bound ?l_check_bound ?c_check_bound ?k_check_bound ?a_check_comings ?l_check_comings ?c_check_comings ?k_check_comings ?a_follow_line ?l_follow_line ?c_follow_line ?k_follow_line ?a_letters_of ?l_letters_of ?c_letters_of ?k_letters_of ?a_comes ?l_comes ?c_comes ?k_comes ?a_waits ?l_waits ?c_waits ?k_waits ?a_lines ?l_lines ?c_lines ?k_lines ?a_outs ?l_outs ?c_outs ?k_outs ?a_is_spot ?l_is_spot ?c_is_spot ?k_is_spot ?a_is_next ?l_is_next ?c_is_next ?k_is_next ?a_is_walk ?l_is_walk ?c_is_walk ?k_is_walk ?a_spots ?l_spots ?c_spots ?k_spots ?a_nexts ?l_nexts ?c_nexts ?k_nexts ?a_walk ?l_walk ?c_walk ?k_walk ?a_comings_for ?l_comings_for ?c_comings_for ?k_comings_for ?a__law_tape ?l__law_tape ?c__law_tape ?k__law_tape ?a__law_pick ?l__law_pick ?c__law_pick ?k__law_pick ?a__law_odd ?l__law_odd ?c__law_odd ?k__law_odd ?a__law_is_int ?l__law_is_int ?c__law_is_int ?k__law_is_int ?a__law_are_ints ?l__law_are_ints ?c__law_are_ints ?k__law_are_ints ?a__law_asked ?l__law_asked ?c__law_asked ?k__law_asked ?a__law_tried ?l__law_tried ?c__law_tried ?k__law_tried ?a__law_is_spot ?l__law_is_spot ?c__law_is_spot ?k__law_is_spot ?a__law_is_walk ?l__law_is_walk ?c__law_is_walk ?k__law_is_walk ?a__law_due ?l__law_due ?c__law_due ?k__law_due ?a__law_walk ?l__law_walk ?c__law_walk ?k__law_walk ?a_law ?l_law ?c_law ?k_law ?a_NoComers___init__ ?i_NoComers___init__ ?l_NoComers___init__ ?c_NoComers___init__ ?k_NoComers___init__ ?a_NoBound___init__ ?i_NoBound___init__ ?l_NoBound___init__ ?c_NoBound___init__ ?k_NoBound___init__ ?a_NoComings___init__ ?i_NoComings___init__ ?l_NoComings___init__ ?c_NoComings___init__ ?k_NoComings___init__ ?a_NoSpot___init__ ?i_NoSpot___init__ ?l_NoSpot___init__ ?c_NoSpot___init__ ?k_NoSpot___init__ ?a_NoWalk___init__ ?i_NoWalk___init__ ?l_NoWalk___init__ ?c_NoWalk___init__ ?k_NoWalk___init__ ?z_all ?z_bool ?z_enumerate ?z_int ?z_isinstance ?z_len ?z_list ?z_min ?z_range ?z_repr ?z_tuple ?z_zip ?y_MOST_BOUND ?y_MOST_COMERS ?y_MOST_SPOTS ?y_MOST_TICKS ?y_LoopError ?y_NoBound ?y_NoComers ?y_NoComings ?y_NoSpot ?y_NoWalk ?xL_NoComers ?sa_NoComers ?tf_NoComers ?kC_NoComers ?eC_NoComers ?tC_NoComers ?iC_NoComers ?sC_NoComers ?xL_NoBound ?sa_NoBound ?tf_NoBound ?kC_NoBound ?eC_NoBound ?tC_NoBound ?iC_NoBound ?sC_NoBound ?xL_NoComings ?sa_NoComings ?tf_NoComings ?kC_NoComings ?eC_NoComings ?tC_NoComings ?iC_NoComings ?sC_NoComings ?xL_NoSpot ?sa_NoSpot ?tf_NoSpot ?kC_NoSpot ?eC_NoSpot ?tC_NoSpot ?iC_NoSpot ?sC_NoSpot ?xL_NoWalk ?sa_NoWalk ?tf_NoWalk ?kC_NoWalk ?eC_NoWalk ?tC_NoWalk ?iC_NoWalk ?sC_NoWalk ?xg_NoComers ?xk_NoComers ?xd_NoComers ?xa_NoComers ?xn_NoComers ?xt_NoComers ?xm_NoComers ?xs_NoComers ?xg_NoBound ?xk_NoBound ?xd_NoBound ?xa_NoBound ?xn_NoBound ?xt_NoBound ?xm_NoBound ?xs_NoBound ?xg_NoComings ?xk_NoComings ?xd_NoComings ?xa_NoComings ?xn_NoComings ?xt_NoComings ?xm_NoComings ?xs_NoComings ?xg_NoSpot ?xk_NoSpot ?xd_NoSpot ?xa_NoSpot ?xn_NoSpot ?xt_NoSpot ?xm_NoSpot ?xs_NoSpot ?xg_NoWalk ?xk_NoWalk ?xd_NoWalk ?xa_NoWalk ?xn_NoWalk ?xt_NoWalk ?xm_NoWalk ?xs_NoWalk ?xg_LoopError ?xk_LoopError ?xd_LoopError ?xa_LoopError ?xn_LoopError ?xt_LoopError ?xm_LoopError ?xs_LoopError ?ks_NoComers_LoopError ?kc_NoComers_LoopError ?ky_NoComers_LoopError ?ks_NoBound_LoopError ?kc_NoBound_LoopError ?ky_NoBound_LoopError ?ks_NoComings_LoopError ?kc_NoComings_LoopError ?ky_NoComings_LoopError ?ks_NoSpot_LoopError ?kc_NoSpot_LoopError ?ky_NoSpot_LoopError ?ks_NoWalk_LoopError ?kc_NoWalk_LoopError ?ky_NoWalk_LoopError ?ks_NoComers_NoComers ?kc_NoComers_NoComers ?ky_NoComers_NoComers ?ks_NoComers_NoBound ?kc_NoComers_NoBound ?ky_NoComers_NoBound ?kn_NoComers_NoBound ?ks_NoComers_NoComings ?kc_NoComers_NoComings ?ky_NoComers_NoComings ?kn_NoComers_NoComings ?ks_NoComers_NoSpot ?kc_NoComers_NoSpot ?ky_NoComers_NoSpot ?kn_NoComers_NoSpot ?ks_NoComers_NoWalk ?kc_NoComers_NoWalk ?ky_NoComers_NoWalk ?kn_NoComers_NoWalk ?ks_NoBound_NoComers ?kc_NoBound_NoComers ?ky_NoBound_NoComers ?kn_NoBound_NoComers ?ks_NoBound_NoBound ?kc_NoBound_NoBound ?ky_NoBound_NoBound ?ks_NoBound_NoComings ?kc_NoBound_NoComings ?ky_NoBound_NoComings ?kn_NoBound_NoComings ?ks_NoBound_NoSpot ?kc_NoBound_NoSpot ?ky_NoBound_NoSpot ?kn_NoBound_NoSpot ?ks_NoBound_NoWalk ?kc_NoBound_NoWalk ?ky_NoBound_NoWalk ?kn_NoBound_NoWalk ?ks_NoComings_NoComers ?kc_NoComings_NoComers ?ky_NoComings_NoComers ?kn_NoComings_NoComers ?ks_NoComings_NoBound ?kc_NoComings_NoBound ?ky_NoComings_NoBound ?kn_NoComings_NoBound ?ks_NoComings_NoComings ?kc_NoComings_NoComings ?ky_NoComings_NoComings ?ks_NoComings_NoSpot ?kc_NoComings_NoSpot ?ky_NoComings_NoSpot ?kn_NoComings_NoSpot ?ks_NoComings_NoWalk ?kc_NoComings_NoWalk ?ky_NoComings_NoWalk ?kn_NoComings_NoWalk ?ks_NoSpot_NoComers ?kc_NoSpot_NoComers ?ky_NoSpot_NoComers ?kn_NoSpot_NoComers ?ks_NoSpot_NoBound ?kc_NoSpot_NoBound ?ky_NoSpot_NoBound ?kn_NoSpot_NoBound ?ks_NoSpot_NoComings ?kc_NoSpot_NoComings ?ky_NoSpot_NoComings ?kn_NoSpot_NoComings ?ks_NoSpot_NoSpot ?kc_NoSpot_NoSpot ?ky_NoSpot_NoSpot ?ks_NoSpot_NoWalk ?kc_NoSpot_NoWalk ?ky_NoSpot_NoWalk ?kn_NoSpot_NoWalk ?ks_NoWalk_NoComers ?kc_NoWalk_NoComers ?ky_NoWalk_NoComers ?kn_NoWalk_NoComers ?ks_NoWalk_NoBound ?kc_NoWalk_NoBound ?ky_NoWalk_NoBound ?kn_NoWalk_NoBound ?ks_NoWalk_NoComings ?kc_NoWalk_NoComings ?ky_NoWalk_NoComings ?kn_NoWalk_NoComings ?ks_NoWalk_NoSpot ?kc_NoWalk_NoSpot ?ky_NoWalk_NoSpot ?kn_NoWalk_NoSpot ?ks_NoWalk_NoWalk ?kc_NoWalk_NoWalk ?ky_NoWalk_NoWalk)
    (case y_LoopError => k_is); (case y_NoBound => k_is); (case y_NoComers => k_is); (case y_NoComings => k_is); (case y_NoSpot => k_is); (case y_NoWalk => k_is); (case a_is_integer => k_is); (case l_is_integer => k_is); (case c_is_integer => k_is); (case k_is_integer => k_is); (case a_is_number => k_is); (case l_is_number => k_is); (case c_is_number => k_is); (case k_is_number => k_is); (case a_are_numbers => k_is); (case l_are_numbers => k_is); (case c_are_numbers => k_is); (case k_are_numbers => k_is); (case a_are_integers => k_is); (case l_are_integers => k_is); (case c_are_integers => k_is); (case k_are_integers => k_is); (case a_is_comings => k_is); (case l_is_comings => k_is); (case c_is_comings => k_is); (case k_is_comings => k_is); (case a_check_comers => k_is); (case l_check_comers => k_is); (case c_check_comers => k_is); (case k_check_comers => k_is); (case a_check_bound => k_is); (case l_check_bound => k_is); (case c_check_bound => k_is); (case k_check_bound => k_is); (case a_check_comings => k_is); (case l_check_comings => k_is); (case c_check_comings => k_is); (case k_check_comings => k_is); (case a_follow_line => k_is); (case l_follow_line => k_is); (case c_follow_line => k_is); (case k_follow_line => k_is); (case a_letters_of => k_is); (case l_letters_of => k_is); (case c_letters_of => k_is); (case k_letters_of => k_is); (case a_comes => k_is); (case l_comes => k_is); (case c_comes => k_is); (case k_comes => k_is); (case a_waits => k_is); (case l_waits => k_is); (case c_waits => k_is); (case k_waits => k_is); (case a_lines => k_is); (case l_lines => k_is); (case c_lines => k_is); (case k_lines => k_is); (case a_outs => k_is); (case l_outs => k_is); (case c_outs => k_is); (case k_outs => k_is); (case a_is_spot => k_is); (case l_is_spot => k_is); (case c_is_spot => k_is); (case k_is_spot => k_is); (case a_is_next => k_is); (case l_is_next => k_is); (case c_is_next => k_is); (case k_is_next => k_is); (case a_is_walk => k_is); (case l_is_walk => k_is); (case c_is_walk => k_is); (case k_is_walk => k_is); (case a_spots => k_is); (case l_spots => k_is); (case c_spots => k_is); (case k_spots => k_is); (case a_nexts => k_is); (case l_nexts => k_is); (case c_nexts => k_is); (case k_nexts => k_is); (case a_walk => k_is); (case l_walk => k_is); (case c_walk => k_is); (case k_walk => k_is); (case a_comings_for => k_is); (case l_comings_for => k_is); (case c_comings_for => k_is); (case k_comings_for => k_is); (case a__law_tape => k_is); (case l__law_tape => k_is); (case c__law_tape => k_is); (case k__law_tape => k_is); (case a__law_pick => k_is); (case l__law_pick => k_is); (case c__law_pick => k_is); (case k__law_pick => k_is); (case a__law_odd => k_is); (case l__law_odd => k_is); (case c__law_odd => k_is); (case k__law_odd => k_is); (case a__law_is_int => k_is); (case l__law_is_int => k_is); (case c__law_is_int => k_is); (case k__law_is_int => k_is); (case a__law_are_ints => k_is); (case l__law_are_ints => k_is); (case c__law_are_ints => k_is); (case k__law_are_ints => k_is); (case a__law_asked => k_is); (case l__law_asked => k_is); (case c__law_asked => k_is); (case k__law_asked => k_is); (case a__law_tried => k_is); (case l__law_tried => k_is); (case c__law_tried => k_is); (case k__law_tried => k_is); (case a__law_is_spot => k_is); (case l__law_is_spot => k_is); (case c__law_is_spot => k_is); (case k__law_is_spot => k_is); (case a__law_is_walk => k_is); (case l__law_is_walk => k_is); (case c__law_is_walk => k_is); (case k__law_is_walk => k_is); (case a__law_due => k_is); (case l__law_due => k_is); (case c__law_due => k_is); (case k__law_due => k_is); (case a__law_walk => k_is); (case l__law_walk => k_is); (case c__law_walk => k_is); (case k__law_walk => k_is); (case a_law => k_is); (case l_law => k_is); (case c_law => k_is); (case k_law => k_is); (case a_NoComers___init__ => k_is); (case i_NoComers___init__ => k_is); (case l_NoComers___init__ => k_is); (case c_NoComers___init__ => k_is); (case k_NoComers___init__ => k_is); (case a_NoBound___init__ => k_is); (case i_NoBound___init__ => k_is); (case l_NoBound___init__ => k_is); (case c_NoBound___init__ => k_is); (case k_NoBound___init__ => k_is); (case a_NoComings___init__ => k_is); (case i_NoComings___init__ => k_is); (case l_NoComings___init__ => k_is); (case c_NoComings___init__ => k_is); (case k_NoComings___init__ => k_is); (case a_NoSpot___init__ => k_is); (case i_NoSpot___init__ => k_is); (case l_NoSpot___init__ => k_is); (case c_NoSpot___init__ => k_is); (case k_NoSpot___init__ => k_is); (case a_NoWalk___init__ => k_is); (case i_NoWalk___init__ => k_is); (case l_NoWalk___init__ => k_is); (case c_NoWalk___init__ => k_is); (case k_NoWalk___init__ => k_is); (case z_all => k_is); (case z_bool => k_is); (case z_enumerate => k_is); (case z_int => k_is); (case z_isinstance => k_is); (case z_len => k_is); (case z_list => k_is); (case z_min => k_is); (case z_range => k_is); (case z_repr => k_is); (case z_tuple => k_is); (case z_zip => k_is); (case y_MOST_BOUND => k_is); (case y_MOST_COMERS => k_is); (case y_MOST_SPOTS => k_is); (case y_MOST_TICKS => k_is); (case xL_NoComers => k_is); (case sa_NoComers => k_is); (case tf_NoComers => k_is); (case kC_NoComers => k_is); (case eC_NoComers => k_is); (case tC_NoComers => k_is); (case iC_NoComers => k_is); (case sC_NoComers => k_is); (case xL_NoBound => k_is); (case sa_NoBound => k_is); (case tf_NoBound => k_is); (case kC_NoBound => k_is); (case eC_NoBound => k_is); (case tC_NoBound => k_is); (case iC_NoBound => k_is); (case sC_NoBound => k_is); (case xL_NoComings => k_is); (case sa_NoComings => k_is); (case tf_NoComings => k_is); (case kC_NoComings => k_is); (case eC_NoComings => k_is); (case tC_NoComings => k_is); (case iC_NoComings => k_is); (case sC_NoComings => k_is); (case xL_NoSpot => k_is); (case sa_NoSpot => k_is); (case tf_NoSpot => k_is); (case kC_NoSpot => k_is); (case eC_NoSpot => k_is); (case tC_NoSpot => k_is); (case iC_NoSpot => k_is); (case sC_NoSpot => k_is); (case xL_NoWalk => k_is); (case sa_NoWalk => k_is); (case tf_NoWalk => k_is); (case kC_NoWalk => k_is); (case eC_NoWalk => k_is); (case tC_NoWalk => k_is); (case iC_NoWalk => k_is); (case sC_NoWalk => k_is); (case xg_NoComers => k_is); (case xk_NoComers => k_is); (case xd_NoComers => k_is); (case xa_NoComers => k_is); (case xn_NoComers => k_is); (case xt_NoComers => k_is); (case xm_NoComers => k_is); (case xs_NoComers => k_is); (case xg_NoBound => k_is); (case xk_NoBound => k_is); (case xd_NoBound => k_is); (case xa_NoBound => k_is); (case xn_NoBound => k_is); (case xt_NoBound => k_is); (case xm_NoBound => k_is); (case xs_NoBound => k_is); (case xg_NoComings => k_is); (case xk_NoComings => k_is); (case xd_NoComings => k_is); (case xa_NoComings => k_is); (case xn_NoComings => k_is); (case xt_NoComings => k_is); (case xm_NoComings => k_is); (case xs_NoComings => k_is); (case xg_NoSpot => k_is); (case xk_NoSpot => k_is); (case xd_NoSpot => k_is); (case xa_NoSpot => k_is); (case xn_NoSpot => k_is); (case xt_NoSpot => k_is); (case xm_NoSpot => k_is); (case xs_NoSpot => k_is); (case xg_NoWalk => k_is); (case xk_NoWalk => k_is); (case xd_NoWalk => k_is); (case xa_NoWalk => k_is); (case xn_NoWalk => k_is); (case xt_NoWalk => k_is); (case xm_NoWalk => k_is); (case xs_NoWalk => k_is); (case xg_LoopError => k_is); (case xk_LoopError => k_is); (case xd_LoopError => k_is); (case xa_LoopError => k_is); (case xn_LoopError => k_is); (case xt_LoopError => k_is); (case xm_LoopError => k_is); (case xs_LoopError => k_is); (case ks_NoComers_LoopError => k_is); (case kc_NoComers_LoopError => k_is); (case ky_NoComers_LoopError => k_is); (case ks_NoBound_LoopError => k_is); (case kc_NoBound_LoopError => k_is); (case ky_NoBound_LoopError => k_is); (case ks_NoComings_LoopError => k_is); (case kc_NoComings_LoopError => k_is); (case ky_NoComings_LoopError => k_is); (case ks_NoSpot_LoopError => k_is); (case kc_NoSpot_LoopError => k_is); (case ky_NoSpot_LoopError => k_is); (case ks_NoWalk_LoopError => k_is); (case kc_NoWalk_LoopError => k_is); (case ky_NoWalk_LoopError => k_is); (case ks_NoComers_NoComers => k_is); (case kc_NoComers_NoComers => k_is); (case ky_NoComers_NoComers => k_is); (case ks_NoComers_NoBound => k_is); (case kc_NoComers_NoBound => k_is); (case ky_NoComers_NoBound => k_is); (case kn_NoComers_NoBound => decide); (case ks_NoComers_NoComings => k_is); (case kc_NoComers_NoComings => k_is); (case ky_NoComers_NoComings => k_is); (case kn_NoComers_NoComings => decide); (case ks_NoComers_NoSpot => k_is); (case kc_NoComers_NoSpot => k_is); (case ky_NoComers_NoSpot => k_is); (case kn_NoComers_NoSpot => decide); (case ks_NoComers_NoWalk => k_is); (case kc_NoComers_NoWalk => k_is); (case ky_NoComers_NoWalk => k_is); (case kn_NoComers_NoWalk => decide); (case ks_NoBound_NoComers => k_is); (case kc_NoBound_NoComers => k_is); (case ky_NoBound_NoComers => k_is); (case kn_NoBound_NoComers => decide); (case ks_NoBound_NoBound => k_is); (case kc_NoBound_NoBound => k_is); (case ky_NoBound_NoBound => k_is); (case ks_NoBound_NoComings => k_is); (case kc_NoBound_NoComings => k_is); (case ky_NoBound_NoComings => k_is); (case kn_NoBound_NoComings => decide); (case ks_NoBound_NoSpot => k_is); (case kc_NoBound_NoSpot => k_is); (case ky_NoBound_NoSpot => k_is); (case kn_NoBound_NoSpot => decide); (case ks_NoBound_NoWalk => k_is); (case kc_NoBound_NoWalk => k_is); (case ky_NoBound_NoWalk => k_is); (case kn_NoBound_NoWalk => decide); (case ks_NoComings_NoComers => k_is); (case kc_NoComings_NoComers => k_is); (case ky_NoComings_NoComers => k_is); (case kn_NoComings_NoComers => decide); (case ks_NoComings_NoBound => k_is); (case kc_NoComings_NoBound => k_is); (case ky_NoComings_NoBound => k_is); (case kn_NoComings_NoBound => decide); (case ks_NoComings_NoComings => k_is); (case kc_NoComings_NoComings => k_is); (case ky_NoComings_NoComings => k_is); (case ks_NoComings_NoSpot => k_is); (case kc_NoComings_NoSpot => k_is); (case ky_NoComings_NoSpot => k_is); (case kn_NoComings_NoSpot => decide); (case ks_NoComings_NoWalk => k_is); (case kc_NoComings_NoWalk => k_is); (case ky_NoComings_NoWalk => k_is); (case kn_NoComings_NoWalk => decide); (case ks_NoSpot_NoComers => k_is); (case kc_NoSpot_NoComers => k_is); (case ky_NoSpot_NoComers => k_is); (case kn_NoSpot_NoComers => decide); (case ks_NoSpot_NoBound => k_is); (case kc_NoSpot_NoBound => k_is); (case ky_NoSpot_NoBound => k_is); (case kn_NoSpot_NoBound => decide); (case ks_NoSpot_NoComings => k_is); (case kc_NoSpot_NoComings => k_is); (case ky_NoSpot_NoComings => k_is); (case kn_NoSpot_NoComings => decide); (case ks_NoSpot_NoSpot => k_is); (case kc_NoSpot_NoSpot => k_is); (case ky_NoSpot_NoSpot => k_is); (case ks_NoSpot_NoWalk => k_is); (case kc_NoSpot_NoWalk => k_is); (case ky_NoSpot_NoWalk => k_is); (case kn_NoSpot_NoWalk => decide); (case ks_NoWalk_NoComers => k_is); (case kc_NoWalk_NoComers => k_is); (case ky_NoWalk_NoComers => k_is); (case kn_NoWalk_NoComers => decide); (case ks_NoWalk_NoBound => k_is); (case kc_NoWalk_NoBound => k_is); (case ky_NoWalk_NoBound => k_is); (case kn_NoWalk_NoBound => decide); (case ks_NoWalk_NoComings => k_is); (case kc_NoWalk_NoComings => k_is); (case ky_NoWalk_NoComings => k_is); (case kn_NoWalk_NoComings => decide); (case ks_NoWalk_NoSpot => k_is); (case kc_NoWalk_NoSpot => k_is); (case ky_NoWalk_NoSpot => k_is); (case kn_NoWalk_NoSpot => decide); (case ks_NoWalk_NoWalk => k_is); (case kc_NoWalk_NoWalk => k_is); (case ky_NoWalk_NoWalk => k_is)

