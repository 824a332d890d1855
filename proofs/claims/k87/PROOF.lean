import PyProof.Rows.All
import Wide.All
import OpenK.AllK
import Wide.FinOn
import HandS.ForMost
import HandS.Wide
import HandS.IsInst
import HandS.TupMul
import HandS.TupAny
import HandS.SortInts
import HandS.SortRule
import HandS.Strs
import HandS.Deep
import HandS.Style
import HandS.Evl
import HandS.OwnEq
import PyProof.InstNe
import HandS.Iter
import HandS.Walk
import HandS.More
import HandS.Dict
import HandS.DictTup
import HandS.Keys
import HandS.Lambda
import HandS.Conv
import HandS.SortKw
import HandS.EndTab
import KE.SortKeyHeap
import KE.SortData
import KE.KNest
import HandS.Exc
import HandS.ExcOwn
import HandS.ExcInit
import HandS.TryOnly
import HandS.WordsExc
import HandS.Zip
import HandS.WideBits
import PyProof.ReprReads
import KE.DatumIndex
import PyProof.ReprBulk
import PyProof.FitsInt
import PyProof.ReprRoads
import HandS.SetKeys
import HandS.GenBody
import HandS.GenYield
import HandS.GenCall
import HandS.GenList
import HandS.ExcField
import HandS.ExcIs
import HandS.ExcCtx
import HandS.HotCalls
import KE.KExcIs
import HandS.IterNext
import HandS.TryMany
import HandS.DeepEq
import KE.OsRunLaw
import HandS.Text
import HandS.FStr
import HandS.Steps
import PySem.Challenge.RW_loopstore_k87_whole_texts_of_tables
set_option Elab.async false
set_option linter.all false
set_option maxRecDepth 100000
set_option maxHeartbeats 4000000
/-! ## rules that the layer lacks -/
namespace RR
open PySem PySem.Spec PyProof.Rows L2 HT
section
variable {prog : Program} {w : World} {A : Around} {E : Value → Shared → Prop} {s : Shared}
/-- a tuple's items gathered -/
theorem collect_tuple {l : Addr} {vs : List Value} {Q : List Value → Shared → Prop} (hl : IsTup s.heap l vs.toArray)
    (h : Q vs { s with heap := (s.heap.push (seqObj "list" #[] 0)).update s.heap.objs.size (Obj.mapSeq (· ++ vs.toArray)) }) (hsz : vs.length ≤ sizeLine) :
    wpAny (model prog w) A (collect (.ref l)) Q E s := by
  obtain ⟨o, ho, hc, n, hd⟩ := id hl
  unfold collect
  refine wpAny_bind (wpAny_runValue (codeAny_builtin entry_proto_collect' ?_))
  show wpAny _ _ (do again (.builtin "list.__iadd__" ⟨[← newList [], .ref l], []⟩)) _ _ s
  refine wpAny_bind (wpAny_newList (wpAny_pure ⟨Code.quiet_builtin _ (by decide +kernel), codeAny_builtin entry_list_iadd' ?_⟩))
  show wpAny _ _ (Builtin.List.listExtendWith (.ref s.heap.objs.size) (.ref l) (.ref s.heap.objs.size)) _ _ { s with heap := s.heap.push (seqObj "list" #[] 0) }
  unfold Builtin.List.listExtendWith
  have ho' : (s.heap.push (seqObj "list" #[] 0)).get? l = some o := Heap.get?_push_of_some _ ho
  refine wpAny_bind (wpAny_typeOf (T := "tuple") ⟨o, ho', hc⟩ ?_)
  have ht : (Value.type "tuple" == Value.type "tuple") = true := by rfl
  rw [if_pos (by rw [ht]; simp)]
  refine wpAny_bind (listItems_at ho' hd ?_)
  refine wpAny_bind (listItems_at (xs := #[]) (n := 0) (Heap.get?_push_size _ rfl) rfl ?_)
  rw [if_neg (by simp)]
  refine wpAny_bind (listUpdate_at (xs := #[]) (n := 0) (Heap.get?_push_size _ rfl) rfl ?_ (Nat.zero_le _) (by show (#[] ++ vs.toArray).size ≤ sizeLine + 1; simp only [Array.size_append, List.size_toArray, List.length_nil]; omega))
  refine wpAny_pure ?_
  show wpAny (model prog w) A (do
      let o ← load s.heap.objs.size
      match o.data with
      | .seq xs _ => pure xs.toList
      | _ => unsupported "internal:collect") Q E { s with heap := (s.heap.push (seqObj "list" #[] 0)).update s.heap.objs.size (Obj.mapSeq (· ++ vs.toArray)) }
  refine wpAny_bind (wpAny_load (get?_update_seq (Heap.get?_push_size _ rfl) _) ?_)
  show wpAny _ _ (pure ((#[] : Array Value) ++ vs.toArray).toList) Q E _
  rw [show ((#[] : Array Value) ++ vs.toArray).toList = vs by simp]
  exact wpAny_pure h
theorem sorted_ordT {l : Addr} {vs : List Value} {ltv : Value → Value → Bool} {Q : Value → Shared → Prop} (O : SrtO.Swo ltv) (hl : IsTup s.heap l vs.toArray) (hz : vs.length ≤ sizeLine)
    (hS : 2 ≤ vs.length → ∀ (h₁ : Heap) (a : Addr), h₁.get? a = some (seqObj "list" vs.toArray 0) → (∀ b o, s.heap.get? b = some o → b ≠ a ∧ h₁.get? b = some o) → SrtO.SortableO prog w A.in1.in1 { s with heap := h₁ } a vs ltv)
    (h : ∀ out : List Value, SrtO.Srtd ltv out → SrtO.Stb ltv out vs → Q (.ref (s.heap.objs.size + 1)) { s with heap := sortedAll s.heap vs out.toArray }) :
    wpAny (model prog w) A (call (.builtin "sorted") [.ref l]) Q E s := by
  refine Calls.call_function_entry kind_sorted plain_sorted entry_sorted (args_sorted1 _) ?_
  unfold Builtin.«sorted»
  refine wpAny_bind (m := checkCount "sorted" 1 1 _) (wpAny_pure ?_)
  refine wpAny_bind (collect_tuple hl ?_ hz)
  refine wpAny_bind (wpAny_newList ?_ hz)
  have hsz : ((s.heap.push (seqObj "list" #[] 0)).update s.heap.objs.size (Obj.mapSeq (· ++ vs.toArray))).objs.size = s.heap.objs.size + 1 := by
    rw [Heap.size_update, size_push']
  have hoL : (((s.heap.push (seqObj "list" #[] 0)).update s.heap.objs.size (Obj.mapSeq (· ++ vs.toArray))).push (seqObj "list" vs.toArray 0)).get? (s.heap.objs.size + 1) = some (seqObj "list" vs.toArray 0) := by
    rw [← hsz]; exact Heap.get?_push_size _ rfl
  have keep : ∀ b o, s.heap.get? b = some o → b ≠ s.heap.objs.size + 1 ∧ (((s.heap.push (seqObj "list" #[] 0)).update s.heap.objs.size (Obj.mapSeq (· ++ vs.toArray))).push (seqObj "list" vs.toArray 0)).get? b = some o := fun b o q => by
    have hlt : b < s.heap.objs.size := Heap.lt_size q
    refine ⟨Nat.ne_of_lt (Nat.lt_succ_of_lt hlt), Heap.get?_push_of_some _ ?_⟩
    rw [Heap.get?_update_ne _ _ _ _ (Nat.ne_of_lt hlt)]
    exact Heap.get?_push_of_some _ q
  show wpAny _ _ _ _ _ { s with heap := ((s.heap.push (seqObj "list" #[] 0)).update s.heap.objs.size (Obj.mapSeq (· ++ vs.toArray))).push (seqObj "list" vs.toArray 0) }
  rw [hsz]
  refine wpAny_bind (wpAny_holding (wpAny_call_entry slot_list_sort ⟨_, hoL, rfl⟩ entry_list_sort (SrtO.list_sort_ord O hoL hz (fun h2 => hS h2 _ _ hoL keep) fun out hs hb => ⟨_, rfl, ?_⟩) (args_list_sort _)))
  exact wpAny_pure ⟨_, rfl, h out hs hb⟩
end
def rSortedU (K : PySem.W.Frag) : List V → Hp → VK → Prop := fun vs H Q => ∃ (a : Addr) (ns : List Int), vs = [V.ref a] ∧ SqT K H a (ns.map V.int) ∧
  ∀ (ns' : List Int) (p : Addr), ns'.Perm ns → ns'.Pairwise (· ≤ ·) → H p = none → Q (.ref p) (upd H p (.lst (ns'.map V.int)))
section
variable {X : Cx}
/-- sorted(t), t a tuple of ints -/
theorem cr_sortedU : CallR X (.builtin "sorted") (rSortedU X.K) := by
  intro pins s σ H vs us Q I r h
  obtain ⟨a, ns, rfl, hs, q⟩ := h
  obtain ⟨its, rv, hl, hz⟩ := I.tuple hs
  rw [Vals.ref1 r]
  have hi := rv.ints
  refine sorted_ordT SrtO.swo_int hl (by rw [← rv.length]; exact hz) (fun h2 h₁ a' _ _ => SrtO.ints_sortable hi h2) fun out h1 h2 => ?_
  obtain ⟨k1, k2, k3⟩ := SrtO.ints_out hi h1 h2
  obtain ⟨ep, he'⟩ := PyProof.Rows.sortedAll_at s.heap its out.toArray
  have hlen : ((out.map SrtO.iv).map V.int).length ≤ sizeLine := by
    rw [List.length_map, k2.length_eq]
    rw [List.length_map] at hz
    exact hz
  exact ⟨.ref _, upd H (s.heap.objs.size + 1) (.lst ((out.map SrtO.iv).map V.int)), I.laid (t' := s.toks) (fun _ _ => PyProof.Rows.sortedAll_old) (Nat.le_succ _) ⟨hlen, out, ep, vals_of_ints k1, he'⟩, rfl, q _ _ k2 k3 (I.hok.fresh (Nat.le_succ _))⟩
end
/-! ### t[::-1] -/
theorem adj_rev (n : Nat) : Builtin.Slice.sliceAdjust none none (-1) (n : Int) = ((n : Int) - 1, -1) := rfl
theorem pl_rev (n : Nat) : Builtin.Slice.slicePlaces ((n : Int) - 1) (-1) (-1) = n := by
  unfold Builtin.Slice.slicePlaces
  have h1 : ¬ ((-1 : Int) > 0) := by omega
  simp only [h1, if_false]
  split <;> simp <;> omega
theorem pick_rev (xs : List Value) : ((List.range xs.length).filterMap fun (m : Nat) => xs.toArray[(((xs.length : Int) - 1) + (m : Int) * (-1)).toNat]?) = xs.reverse := by
  have key : ∀ m, m ≤ xs.length → ((List.range m).filterMap fun (k : Nat) => xs.toArray[(((xs.length : Int) - 1) + (k : Int) * (-1)).toNat]?) = xs.reverse.take m := by
    intro m
    induction m with
    | zero => intro _; rfl
    | succ m ih =>
      intro hm
      rw [List.range_succ, List.filterMap_append, ih (by omega), List.take_add_one]
      have e : (((xs.length : Int) - 1) + (m : Int) * (-1)).toNat = xs.length - 1 - m := by omega
      have hl : m < xs.reverse.length := by rw [List.length_reverse]; omega
      have e2 : xs.toArray[xs.length - 1 - m]? = some (xs.reverse[m]) := by
        rw [List.getElem?_toArray, List.getElem_reverse, List.getElem?_eq_getElem]
      rw [List.getElem?_eq_getElem hl]
      simp only [List.filterMap_cons, List.filterMap_nil, e, e2, Option.toList_some]
  have := key xs.length (Nat.le_refl _)
  rw [this, List.take_of_length_le (by rw [List.length_reverse]; exact Nat.le_refl _)]
section
variable {prog : Program} {w : World} {A : Around} {E : Value → Shared → Prop} {s : Shared}
theorem sliceApplied_rev {sl : Addr} {vl vu vs : Value} {n : Nat} {Q : Int × Int × Nat → Shared → Prop} (hs : s.heap.IsSliceOf sl vl vu vs) (pl : IsPart vl none) (pu : IsPart vu none) (ps : IsPart vs (some (-1)))
    (h : Q ((n : Int) - 1, -1, n) s) : wpAny (model prog w) A (Builtin.Slice.sliceApplied (.ref sl) (pure (n : Int))) Q E s := by
  obtain ⟨os, hos, hcs, hds⟩ := id hs
  unfold Builtin.Slice.sliceApplied Builtin.Slice.sliceFields
  refine wpAny_bind (wpAny_bind (wpAny_field hos hds (x := vl) rfl (wpAny_bind (wpAny_field hos hds (x := vu) rfl (wpAny_bind (wpAny_field hos hds (x := vs) rfl (wpAny_pure ?_)))))))
  refine wpAny_bind (slicePart_ ps ?_)
  show wpAny _ _ (if ((-1 : Int) == 0) = true then _ else _) _ _ s
  rw [if_neg (by decide)]
  refine wpAny_bind (slicePart_ pl (wpAny_bind (slicePart_ pu (wpAny_bind (wpAny_pure ?_)))))
  show wpAny _ _ (match Builtin.Slice.sliceAdjust none none (-1) (n : Int) with | (lo, hi) => pure (lo, (-1 : Int), Builtin.Slice.slicePlaces lo hi (-1))) _ _ s
  rw [adj_rev n]
  show wpAny _ _ (pure ((n : Int) - 1, (-1 : Int), Builtin.Slice.slicePlaces ((n : Int) - 1) (-1) (-1))) _ _ s
  rw [pl_rev]
  exact wpAny_pure h
theorem getItem_tuple_rev {t sl : Addr} {items : List Value} {vl vu vs : Value} {Q : Value → Shared → Prop} (ht : IsTup s.heap t items.toArray) (hs : s.heap.IsSliceOf sl vl vu vs) (pl : IsPart vl none) (pu : IsPart vu none) (ps : IsPart vs (some (-1)))
    (h : Q (.ref s.heap.objs.size) { s with heap := s.heap.push { cls := .type "tuple", data := .seq items.reverse.toArray } })
    (hsz : items.length ≤ sizeLine) : wpAny (model prog w) A (getItem (.ref t) (.ref sl)) Q E s := by
  have htake : sizeOk (.seq items.reverse.toArray) := by
    show items.reverse.toArray.size ≤ sizeLine
    rw [List.size_toArray, List.length_reverse]
    omega
  obtain ⟨os, hos, hcs, hds⟩ := id hs
  have hTs : s.TypeIs (.ref sl) "slice" := ⟨os, hos, hcs⟩
  unfold getItem
  try with_reducible refine wpAny_holding ?_
  first | refine wpAny_bind (wpAny_pure ?_) | skip
  refine wpAny_bind (wpAny_sequenceKey ht.typeIs (by decide) ?_)
  refine wpAny_bind (wpAny_callSpecial?_slot (name := Str.ofString "__getitem__") ht.typeIs PyProof.Rows.slot_tuple_getitem
    (wpAny_call_entry PyProof.Rows.slot_tuple_getitem ht.typeIs entry_tuple_getitem ?_ (args_tuple_getitem _ _)))
  show wpAny _ _ (Builtin.Tuple.tupleItemsOf (.ref t) >>= _) _ _ s
  refine wpAny_bind (tupleItemsOf_ ht ?_)
  refine wpAny_bind (wpAny_typeOf hTs ?_)
  rw [if_pos (by decide)]
  rw [List.size_toArray]
  refine wpAny_bind (sliceApplied_rev hs pl pu ps ?_)
  have hno : ¬ ((((items.length : Int) - 1) == 0 && (-1 : Int) == 1 && items.length == items.length) = true) := by
    rw [show ((-1 : Int) == 1) = false from rfl, Bool.and_false, Bool.false_and]
    exact Bool.false_ne_true
  show wpAny _ _ (if (((items.length : Int) - 1) == 0 && (-1 : Int) == 1 && items.length == items.length) = true then _ else _) _ _ s
  rw [if_neg hno, pick_rev]
  first
    | exact wpAny_bind (m := Builtin.Tuple.tupleExact _) (wpAny_newObj_type (wpAny_pure ⟨_, rfl, wpAny_pure h⟩) htake)
    | exact wpAny_bind (m := Builtin.Tuple.tupleExact _) (wpAny_newObj_type (wpAny_bind (wpAny_pure (wpAny_pure ⟨_, rfl, wpAny_pure h⟩))) htake)
    | exact wpAny_bind (wpAny_bind (m := Builtin.Tuple.tupleExact _) (wpAny_newObj_type (wpAny_pure (wpAny_pure ⟨_, rfl, wpAny_pure h⟩)) htake))
    | exact wpAny_bind (wpAny_bind (m := Builtin.Tuple.tupleExact _) (wpAny_newObj_type (wpAny_pure ⟨_, rfl, wpAny_pure h⟩) htake))
end
def tRevT (K : PySem.W.Frag) (te : TE) : TE := fun σ H Q => te σ H fun x H1 => ∃ a xs, x = .ref a ∧ SqT K H1 a xs ∧ ∀ p, H1 p = none → Q (.ref p) (upd H1 p (.tup xs.reverse))
section
variable {X : Cx}
theorem pe_revT {e : Expr} {te : TE} {k : Nat} {p1 p2 p3 pos : Pos} (he : PE X e te) : PE X (.Subscript e (.Slice none none (some (.UnaryOp .USub (.Constant (.int 1) k p1) p2)) p3) pos) (tRevT X.K te) := by
  refine ⟨fun pins s σ H Q I h => ?_⟩
  refine Subscript_ (thn (he.run pins s σ H _ I h) fun v s1 ⟨x, H1, I1, r1, q1⟩ => ?_)
  obtain ⟨a, xs, ex, hx, q⟩ := q1
  subst ex
  cases r1
  have hst : PO X (some (.UnaryOp .USub (.Constant (.int 1) k p1) p2)) (tPart (tUn (rU fun i => .int (-i)) (tC (.int 1)))) := po_some (pe_un un_neg pe_int)
  refine wpAny_Slice (thn (po_none.run pins s1 σ H1 (fun o H2 => o = none ∧ H2 = H1) I1 ⟨rfl, rfl⟩) fun vl s2 ⟨l, H2, I2, pl, el, e2⟩ => ?_)
  subst el e2
  refine thn (po_none.run pins s2 σ H2 (fun o H3 => o = none ∧ H3 = H2) I2 ⟨rfl, rfl⟩) fun vu s3 ⟨u, H3, I3, pu, eu, e3⟩ => ?_
  subst eu e3
  refine thn (hst.run pins s3 σ H3 (fun o H4 => o = some (-1) ∧ H4 = H3) I3 ⟨1, rfl, -1, rfl, rfl, rfl⟩) fun vs s4 ⟨o, H4, I4, ps, eo, e4⟩ => ?_
  subst eo e4
  have I5 : Inv X pins σ H4 { s4 with heap := s4.heap.push { cls := .type "slice", data := .fields #[vl, vu, vs] } } := I4.kept (t' := s4.toks) fun b ob q => Heap.get?_push_of_some _ q
  obtain ⟨its, r, ht, hz⟩ := I5.tuple hx
  have hlen := r.length
  show wpAny (model X.prog X.w) X.A (subscriptTail e (.Slice none none (some (.UnaryOp .USub (.Constant (.int 1) k p1) p2)) p3) (.ref a) (.ref s4.heap.objs.size)) (EP X pins σ Q) X.xe { s4 with heap := s4.heap.push { cls := .type "slice", data := .fields #[vl, vu, vs] } }
  refine tail_any (ops := [.ref a, .ref s4.heap.objs.size]) ht.typeIs (PyProof.Rows.slot_tuple_getitem.lookup) ?_ (by with_unfolding_all rfl)
  refine getItem_tuple_rev ht (Heap.IsSliceOf.new _ vl vu vs) pl pu ps ?_ (by rw [← hlen]; exact hz)
  refine ⟨.ref _, _, I5.laid (t' := s4.toks) (o := .tup xs.reverse) (fun b ob q => Heap.get?_push_of_some _ q) (Nat.le_refl _) ?_, rfl, q _ (I5.hok.fresh (Nat.le_refl _))⟩
  exact ⟨by rw [List.length_reverse]; exact hz, _, r.reverse, IsTup.new _ _⟩
end
/-! ### t * k, k from 1 on -/
theorem tuple_mulW1 (l : Addr) (items : Array Value) (n : Nat) (dd : Option Addr) (sl : Array (Option Value)) (u : Tok) :
    Meets (Builtin.«tuple.__mul__» ⟨[.ref l, .int 1 u], []⟩) (fun _ R s => s.heap.get? l = some { cls := .type "tuple", dict := dd, data := .seq items n, slots := sl } ∧ R (.ok (.ret (Value.ref l))) s) :=
  .of_wp fun prog w A R s h => by
    obtain ⟨hp, g, d, tk, os⟩ := s
    obtain ⟨hl, h⟩ := h
    have f1 := AutoSeq1.idx_int
    have c0 : (decide ((1 : Int) < -(2 ^ 63)) || decide ((1 : Int) ≥ 2 ^ 63)) = false := by decide
    have c1 : (items.isEmpty || (1 : Int) == 1) = true := by rw [show ((1 : Int) == 1) = true from rfl, Bool.or_true]
    wp_walk using wpAny_loadPart' hl
    repeat (first
      | (refine wpAny_ite_false (decide_eq_false (by rw [c0]; exact Bool.false_ne_true)) ?_; wp_walk using wpAny_loadPart' hl)
      | (refine wpAny_ite_true (decide_eq_true c1) ?_; wp_walk using wpAny_loadPart' hl))
    exact ⟨_, rfl, h⟩
def rRepA (K : PySem.W.Frag) : R2 := fun x y H Q => ∃ l k xs, x = .ref l ∧ y = .int k ∧ SqT K H l xs ∧ xs ≠ [] ∧ 1 ≤ k ∧ k ≤ 1000 ∧ xs.length ≤ 1000 ∧ (k = 1 → Q (.ref l) H) ∧ (k ≠ 1 → ∀ p, H p = none → Q (.ref p) (upd H p (.tup (List.replicate k.toNat xs).flatten)))
section
variable {X : Cx}
theorem op_repA : OpR X (binaryOp .Mult) (rRepA X.K) := by
  intro pins s σ H x y v u Q I rx ry h
  obtain ⟨l, k, xs, rfl, rfl, hT, hne, h1, h2, hz, q1, q2⟩ := h
  by_cases hk : k = 1
  · subst hk
    cases rx
    obtain ⟨t, rfl⟩ := ry
    obtain ⟨its, r, ⟨⟨cls, dd, data, sl⟩, ho, hc, n, hd⟩, hs⟩ := I.tuple hT
    simp only at hc hd
    subst hc hd
    refine wpAny_binaryOp_repeat_ref (T := "tuple") (U := "int") (by decide) ⟨_, ho, rfl⟩ (fun s' => typeIs_int s' 1 t) noFill_tuple_mul F.fills_int_mul F.slot_int_rmul repeat_tuple F.slot_int_index.lookup
      (call_meets F.slot_int_rmul (typeIs_int s 1 t) F.entry_int_rmul (F.args_int_rmul_2 _ _) (int_rmul_tuple 1 t l its.toArray n dd sl)
        ⟨ho, rfl, ⟨_, ho, rfl⟩, call_meets F.slot_tuple_mul ⟨_, ho, rfl⟩ F.entry_tuple_mul (F.args_tuple_mul_2 _ _) (tuple_mulW1 l its.toArray n dd sl t) ⟨ho, ?_⟩⟩)
    exact ⟨.ref l, H, I, rfl, q1 rfl⟩
  · exact op_repT pins s σ H _ _ v u Q I rx ry ⟨l, k, xs, rfl, rfl, hT, hne, by omega, h2, hz, q2 hk⟩
end
end RR

/-! ## enumerate over a tuple; an empty tuple times k -/
namespace RR
open PySem PySem.Spec PyProof.Rows L2 HT
open Sem (wp)
open AutoSeq1 (wpAny_loadPart')
section
variable {prog : Program} {w : World} {A : Around} {E : Value → Shared → Prop} {s : Shared}
theorem next_tuple_item {it t : Addr} {i : Nat} {items} {x : Value} {Q : Value → Shared → Prop} (hit : s.heap.IsTupleIter it t i)
    (ht : s.heap.IsTuple t items) (hx : items[i]? = some x)
    (hQ : ∀ h', h'.IsTupleIter it t (i + 1) → Heap.SameBut it s.heap h' → Q x { s with heap := h' }) :
    wpAny (model prog w) A (Builtin.SmallTypes.nextOf (.ref it)) Q E s := by
  obtain ⟨o, ho, hc, hd⟩ := id hit
  obtain ⟨ol, hol, _, nl, hdl⟩ := ht
  unfold Builtin.SmallTypes.nextOf
  refine wpAny_bind (wpAny_callSpecial?_slot (name := Str.ofString "__next__") hit.typeIs F.slot_tuple_iterator_next
    (wpAny_call_entry F.slot_tuple_iterator_next hit.typeIs F.entry_tuple_iterator_next ?_ (F.args_tuple_iterator_next_1 _)))
  show wpAny _ _ (field (.ref it) 0 >>= _) _ _ s
  refine wpAny_bind (wpAny_field ho hd (x := .ref t) rfl ?_)
  show wpAny _ _ (if (Value.ref t == Value.none) = true then _ else _) _ _ s
  rw [if_neg (show ¬ ((Value.ref t == Value.none) = true) from Bool.false_ne_true)]
  show wpAny _ _ (field (.ref it) 1 >>= _) _ _ s
  refine wpAny_bind (wpAny_field ho hd (x := .int i 0) rfl ?_)
  show wpAny _ _ (seqItems? (.ref t) >>= _) _ _ s
  refine wpAny_bind (wpAny_seqItems hol hdl ?_)
  simp only [Int.toNat_natCast, hx]
  refine wpAny_bind (wpAny_setField ho hd (by simp) (wpAny_pure ⟨x, rfl, wpAny_pure (hQ _ ?_ (Heap.SameBut.update ..))⟩))
  exact ⟨_, Heap.get?_update_self _ ho (Obj.isFreed_of_fields (Obj.data_mapFields hd _)), (Obj.cls_mapFields ..).trans hc, by
    rw [Obj.data_mapFields hd]; simp [rawInt]⟩
theorem next_tuple_end {it t : Addr} {i : Nat} {items} {Q : Value → Shared → Prop} (hh : A.handled = none)
    (hit : s.heap.IsTupleIter it t i) (ht : s.heap.IsTuple t items) (hx : items[i]? = none)
    (hE : ∀ h' e, Heap.ExtBut it s.heap h' → (∃ o, h'.get? e = some o ∧ o.cls = .type "StopIteration") → E (.ref e) { s with heap := h' }) :
    wpAny (model prog w) A (Builtin.SmallTypes.nextOf (.ref it)) Q E s := by
  obtain ⟨o, ho, hc, hd⟩ := id hit
  obtain ⟨ol, hol, _, nl, hdl⟩ := ht
  unfold Builtin.SmallTypes.nextOf
  refine wpAny_bind (wpAny_callSpecial?_slot (name := Str.ofString "__next__") hit.typeIs F.slot_tuple_iterator_next
    (wpAny_call_entry F.slot_tuple_iterator_next hit.typeIs F.entry_tuple_iterator_next ?_ (F.args_tuple_iterator_next_1 _)))
  show wpAny _ _ (field (.ref it) 0 >>= _) _ _ s
  refine wpAny_bind (wpAny_field ho hd (x := .ref t) rfl ?_)
  show wpAny _ _ (if (Value.ref t == Value.none) = true then _ else _) _ _ s
  rw [if_neg (show ¬ ((Value.ref t == Value.none) = true) from Bool.false_ne_true)]
  show wpAny _ _ (field (.ref it) 1 >>= _) _ _ s
  refine wpAny_bind (wpAny_field ho hd (x := .int i 0) rfl ?_)
  show wpAny _ _ (seqItems? (.ref t) >>= _) _ _ s
  refine wpAny_bind (wpAny_seqItems hol hdl ?_)
  simp only [Int.toNat_natCast, hx]
  refine wpAny_bind (wpAny_rule (wpAny_bind (wpAny_setField ho hd (by simp) ?_)))
  show wpAny _ _ (newExc (.type "StopIteration") [] >>= _) _ _ _
  refine wpAny_bind ?_
  simp only [newExc, newTuple]
  refine wpAny_bind (wpAny_newObj_type ?_ (by size_fits))
  refine wpAny_bind (m := firstArgMember _ _) (wpAny_of_eq (a := Value.none) (by first | rfl | (simp only [firstArgMember]; rfl)) ?_)
  refine wpAny_newObj_type ?_ (by size_fits)
  simp only [raiseNew]
  refine wpAny_bind (wpAny_handled ?_)
  first | rw [show A.in1.handled = none from hh] | rw [hh]
  refine wpAny_bind (wpAny_pure (wpAny_throw ?_))
  exact hE _ _ (((Heap.SameBut.update ..).extBut.push _).push _) ⟨_, Heap.get?_push_size _ rfl, rfl⟩
end
theorem tup_at {h h' : Heap} {a : Addr} {items} (x : h.IsTuple a items) (e : ∀ o, h.get? a = some o → h'.get? a = some o) : h'.IsTuple a items := let ⟨o, ho, r⟩ := x; ⟨o, e _ ho, r⟩
theorem draws_tuple {prog : Program} {w : World} {A : Around} (hh : A.handled = none) (it l : Addr) (hne : l ≠ it) (items : Array Value) :
    Draws prog w A it [it, l] items.size (fun i v => items[i]? = some v) (fun i h => h.IsTupleIter it l i ∧ h.IsTuple l items) where
  live := fun _ _ st => let ⟨o, ho, _⟩ := st.1; ⟨o, ho⟩
  frame := fun _ _ _ st hk => ⟨st.1.at fun o e => hk it (by simp) o e, tup_at st.2 fun o e => hk l (by simp) o e⟩
  item := fun i s Q E hi st hQ => by
    refine next_tuple_item st.1 st.2 (x := items[i]) (by simp [hi]) fun h' hit' hs' => ?_
    exact hQ _ h' s.toks (by simp [hi]) ⟨hit', st.2.extBut hs'.extBut hne⟩ hs'
  done := fun s Q E st hE => next_tuple_end hh st.1 st.2 (by simp) hE
theorem enumerate_newT (l : Addr) (items : Array Value) (n : Nat) (dct : Option Addr) (sl : Array (Option Value)) :
    Meets (Builtin.«enumerate.__new__» ⟨[.type "enumerate", .ref l], []⟩) (fun _ R s => s.heap.get? l = some { cls := .type "tuple", dict := dct, data := .seq items n, slots := sl } ∧
      R (.ok (.ret (.ref (s.heap.push { cls := .type "tuple_iterator", data := .fields #[.ref l, .int 0 0] }).objs.size)))
        { s with heap := (s.heap.push { cls := .type "tuple_iterator", data := .fields #[.ref l, .int 0 0] }).push { cls := .type "enumerate", data := .fields #[.none, .bool false, .ref s.heap.objs.size, rawInt 0, .none, .none] } }) :=
  .of_wp fun prog w A R s h => by
    obtain ⟨hp, g, d, tk, os⟩ := s; obtain ⟨hl, h⟩ := h
    have hsub := sub_enumerate
    have hL : Heap.IsTuple (Shared.heap ⟨hp, g, d, tk, os⟩) l items := ⟨_, hl, rfl, n, rfl⟩
    wp_walk using wpAny_loadPart' hl
    refine wpAny_stack_any fun st => wpAny_pure ?_
    split
    · rename_i c _ _ _ _ _
      cases (c == Value.type "enumerate")
      · wp_walk using wpAny_loadPart' hl, wpAny_pyIter_tuple hL
        exact ⟨_, rfl, h⟩
      · wp_walk using wpAny_loadPart' hl, wpAny_pyIter_tuple hL
        exact ⟨_, rfl, h⟩
    · wp_walk using wpAny_loadPart' hl, wpAny_pyIter_tuple hL
      exact ⟨_, rfl, h⟩
section
variable {prog : Program} {w : World} {A : Around} {E : Value → Shared → Prop} {s : Shared}
theorem call_enumerate_tuple {l : Addr} {items : Array Value} {Q : Value → Shared → Prop} (hL : s.heap.IsTuple l items)
    (h : ∀ h', IsEnum h' (s.heap.objs.size + 1) s.heap.objs.size 0 .none → h'.IsTupleIter s.heap.objs.size l 0 → h'.objs.size = s.heap.objs.size + 2 →
      (∀ b o, s.heap.get? b = some o → h'.get? b = some o) → Q (.ref (s.heap.objs.size + 1)) { s with heap := h' }) :
    wpAny (model prog w) A (call (.type "enumerate") [.ref l]) Q E s := by
  obtain ⟨⟨c, dct, dt, sl⟩, hl, hc, n, hd⟩ := hL
  replace hc : c = .type "tuple" := hc
  replace hd : dt = .seq items n := hd
  subst hc hd
  refine callType_new F.called_enumerate (by decide) (F.typeCall_enumerate_1 _) (F.newCall_enumerate_1 _) (fun obj => F.args_object_init_2 obj _) F.entry_enumerate_new
    (enumerate_newT l items n dct sl) ⟨hl, ?_⟩
  have hz : (s.heap.push { cls := .type "tuple_iterator", data := .fields #[.ref l, .int 0 0] }).objs.size = s.heap.objs.size + 1 := Heap.size_push ..
  show _ ∧ _
  rw [hz]
  have he : IsEnum ((s.heap.push { cls := .type "tuple_iterator", data := .fields #[.ref l, .int 0 0] }).push
      { cls := .type "enumerate", data := .fields #[.none, .bool false, .ref s.heap.objs.size, rawInt 0, .none, .none] }) (s.heap.objs.size + 1) s.heap.objs.size 0 .none := by
    have := Heap.get?_push_size (s.heap.push { cls := .type "tuple_iterator", data := .fields #[.ref l, .int 0 0] })
      (o := { cls := .type "enumerate", data := .fields #[.none, .bool false, .ref s.heap.objs.size, rawInt 0, .none, .none] }) rfl
    rw [hz] at this; exact this
  refine ⟨⟨_, he, rfl⟩, h _ he ⟨_, Heap.get?_push_of_some _ (Heap.get?_push_size _ rfl), rfl, rfl⟩ (by rw [Heap.size_push, hz]) fun b o x => Heap.get?_push_of_some _ (Heap.get?_push_of_some _ x)⟩
end
/-- the tuple at a, each item in a new pair -/
def IteT (K : PySem.W.Frag) (a : Addr) : It :=
  ⟨fun i H => ∃ (xs : List V) (x : V), SqT K H a xs ∧ xs[i]? = some x, fun i H v H' => ∃ T x, v = .ref T ∧ H T = none ∧ H' = upd H T (.tup [.int (i : Nat), x]) ∧ ∀ xs, SqT K H a xs → xs[i]? = some x, fun i H => ∃ xs : List V, SqT K H a xs ∧ xs.length ≤ i⟩
theorem turn_enumT {P : Program} {w : World} {K : PySem.W.Frag} {elts : List Expr} {kk : Nat} {tpos : Pos} (a e it : Addr) :
    Turn P w K (.Tuple elts kk tpos) (IteT K a) [e, it] e (fun i h => (∃ old, IsEnum h e it ((i : Nat) : Int) old) ∧ h.IsTupleIter it a i ∧ e ≠ it ∧ a ≠ it ∧ a ≠ e) where
  mem := by simp
  obj := fun i h st b hb => by
    obtain ⟨⟨old, he⟩, ⟨o, ho, hc, hd⟩, _⟩ := st
    have e' : b = e ∨ b = it := by simpa using hb
    rcases e' with z | z
    · rw [z]; exact ⟨_, he, fun v q => nomatch q⟩
    · rw [z]; exact ⟨o, ho, fun v q => by rw [hd] at q; cases q⟩
  keep := fun i h h' st k => let ⟨⟨old, he⟩, hi, hne⟩ := st; ⟨⟨old, k e (by simp) _ he⟩, hi.at fun o q => k it (by simp) o q, hne⟩
  item := by
    intro X hP hw hK hc i pins s σ H E I hf st hg
    subst hP hw hK
    obtain ⟨⟨old, he⟩, hit, hne, hai, hae⟩ := st
    obtain ⟨xs, x, hq, hx⟩ := hg
    obtain ⟨its, rv, p, hz⟩ := I.tuple hq
    obtain ⟨u, hu, ru⟩ := rv.get hx
    have hel : e < s.heap.objs.size := Heap.lt_size he
    have hil : it < s.heap.objs.size := by obtain ⟨_, q, _⟩ := hit; exact Heap.lt_size q
    have hlt : i < its.toArray.size := by
      have := (List.getElem?_eq_some_iff.mp hu).1
      simpa using this
    refine wpAny_pyNext_enum_itemD (draws_tuple (prog := X.prog) (w := X.w) (A := X.A.in1) (show X.A.in1.handled = none from I.ok.hd hc) it a hai its.toArray) he ⟨hit, (show s.heap.IsTuple a its.toArray from p)⟩ hlt hne (by simp [hne, Ne.symm hae]) fun y h' tk hy ho hst' hT hsz hk => ?_
    have hyu : y = u := by
      have h2 : its.toArray[i]? = some u := by simpa using hu
      exact Option.some.inj (hy.symm.trans h2)
    subst hyu
    refine ⟨_, rfl, wpAny_letOwnedTupleGo_enum (s := { s with heap := h', toks := tk + 1 }) ho fun h'' he' sb => ?_⟩
    have hT2 : h''.get? s.heap.objs.size = some { cls := .type "tuple", data := .seq #[.int i tk, y] } := (sb.2 _ (Nat.ne_of_gt hel)).trans hT
    have new : ObjOk X.prog X.w (upd H s.heap.objs.size (.tup [.int (i : Nat), x])) h'' s.heap.objs.size (.tup [.int (i : Nat), x]) :=
      ⟨by show 2 ≤ sizeLine; decide, [.int i tk, y], .cons ⟨_, rfl⟩ (.cons ru .nil), ⟨_, hT2, rfl, _, rfl⟩⟩
    have I1 : Inv X pins σ (upd H s.heap.objs.size (.tup [.int (i : Nat), x])) { s with heap := h'', toks := tk + 1 } :=
      I.turnedNew (ch := [e, it]) (fun b ob hb q => (sb.2 b (fun z => hb (by simp [z]))).trans (hk b ob (fun z => hb (by simp [z])) (fun z => hb (by simp [z])) q)) hf (Nat.le_refl _) new
    refine ⟨.ref s.heap.objs.size, _, I1, rfl, ⟨_, x, rfl, I.hok.fresh (Nat.le_refl _), rfl, fun ys hy => by rw [I.tuple_inj hy hq]; exact hx⟩, ⟨⟨y, ?_⟩, hst'.1.at fun o q => (sb.2 it (Ne.symm hne)).trans q, hne, hai, hae⟩, fun b hb => ?_⟩
    · have e1 : ((i + 1 : Nat) : Int) = (i : Int) + 1 := by omega
      rw [e1]; exact he'
    · have hb' : b < s.heap.objs.size := by
        have e' : b = e ∨ b = it := by simpa using hb
        rcases e' with z | z
        · rw [z]; exact hel
        · rw [z]; exact hil
      rw [upd_ne (Nat.ne_of_lt hb')]
      exact (hf b hb).1
  done := by
    intro X hP hw hK hc i pins s σ H E I hf st hg
    subst hP hw hK
    obtain ⟨⟨old, he⟩, hit, hne, hai, hae⟩ := st
    obtain ⟨xs, hq, hx⟩ := hg
    obtain ⟨its, rv, p, hz⟩ := I.tuple hq
    obtain ⟨f0, f1, f2, f3, f4, f5⟩ := hf it (by simp)
    have hl := rv.length
    have hT : s.TypeIs (.ref e) "enumerate" := ⟨_, he, rfl⟩
    unfold pyNext
    refine wpAny_bind (wpAny_attempt (wpAny_callSpecial?_slot (name := Str.ofString "__next__") hT F.slot_enumerate_next
      (wpAny_call_entry F.slot_enumerate_next hT F.entry_enumerate_next ?_ (F.args_enumerate_next_1 _))))
    show wpAny _ _ (field (.ref e) 2 >>= _) _ _ _
    refine wpAny_bind (wpAny_field he rfl (x := .ref it) rfl ?_)
    refine wpAny_bind (next_tuple_end (I.ok.hd hc) hit (show s.heap.IsTuple a its.toArray from p) (by simp; omega) fun h' x eb hx' => ?_)
    obtain ⟨o, ho, hc'⟩ := hx'
    refine wpAny_bind (wpAny_isInstance (T := "StopIteration") (b := true) ⟨o, ho, hc'⟩ isSubtype_stop ?_)
    exact wpAny_pure ⟨rfl, I.turned (t' := s.toks) (fun b o hb q => eb b o hb q) f0 f1 f3 f4 f5⟩
  self := fun A i s Q E st h => let ⟨⟨_, he⟩, _⟩ := st; wpAny_pyIter_enum he h
def iEnumT (K : PySem.W.Frag) (ta : TA) : TI := fun σ H R => ta σ H fun vs H1 => ∃ a xs, vs = [.ref a] ∧ SqT K H1 a xs ∧ R (IteT K a) H1
theorem pi_enumT {X : Cx} {e : Expr} {ta : TA} {p pos tpos : Pos} {elts : List Expr} {kk : Nat} (hg : Gl X "enumerate") (hm : X.mg "enumerate" = none) (ha : PA X [e] ta) (hs : starEach [e] X.env = [(false, eval e X.env)] := by rfl) :
    PI X (.Tuple elts kk tpos) (.Call (.Name "enumerate" p) [e] [] pos) (iEnumT X.K ta) := by
  refine ⟨fun pins s σ H R I h => ?_⟩
  refine Call_ (ld_blt I hg hm boot_enumerate (PyProof.Rows.callWith_type1 (thn (ha.run pos pins s σ H _ I h) fun us s1 ⟨vs, H1, I1, r1, q1⟩ => ?_) hs rfl))
  obtain ⟨a, xs, ex, hq, q⟩ := q1
  subst ex
  cases r1 with
  | cons r rr =>
    cases rr
    cases r
    obtain ⟨its, rv, p', hz⟩ := I1.tuple hq
    have hp : s1.heap.IsTuple a its.toArray := p'
    have hal : a < s1.heap.objs.size := by obtain ⟨_, q, _⟩ := hp; exact Heap.lt_size q
    refine call_enumerate_tuple hp fun h' he hit hsz hk => wpAny_pyIter_enum he ?_
    have I2 : Inv X pins σ H1 { s1 with heap := h' } := I1.kept (t' := s1.toks) hk
    refine ⟨s1.heap.objs.size + 1, [s1.heap.objs.size + 1, s1.heap.objs.size], _, _, H1, rfl, I2, turn_enumT a (s1.heap.objs.size + 1) s1.heap.objs.size, ⟨⟨.none, he⟩, hit, Nat.succ_ne_self _, Nat.ne_of_lt hal, Nat.ne_of_lt (Nat.lt_succ_of_lt hal)⟩, fun b hb => ?_, q⟩
    have e' : b = s1.heap.objs.size + 1 ∨ b = s1.heap.objs.size := by simpa using hb
    have hle : s1.heap.objs.size ≤ b := by
      rcases e' with z | z
      · rw [z]; exact Nat.le_add_right _ _
      · rw [z]; exact Nat.le_refl _
    exact I1.fpOk hle (I1.hok.fresh hle)
theorem for_enumT {K : PySem.W.Frag} {a : Addr} {xs : List V} {g : TG} {tb : TS} {D : Ends} {σ : L2.St} {H : Hp} (Pv : Nat → L2.St → Hp → Prop) (h0 : Pv 0 σ H) (hl : ∀ i σ H, i ≤ xs.length → Pv i σ H → SqT K H a xs)
    (hs : ∀ i x T σ H, xs[i]? = some x → Pv i σ H → H T = none → g (.ref T) σ (upd H T (.tup [.int (i : Nat), x])) fun σ2 H2 => tb { D with nx := Pv (i + 1), ct := Pv (i + 1), bk := D.nx } σ2 H2) (hd : ∀ σ H, Pv xs.length σ H → D.nx σ H) :
    ∃ W : Nat → Nat → L2.St → Hp → Prop, (∃ m, W 0 m σ H) ∧ ∀ i m σ H, W i m σ H →
      ((IteT K a).stop i H ∧ D.nx σ H) ∨ ((IteT K a).go i H ∧ ∃ N : L2.St → Hp → Prop, (∀ σ' H', N σ' H' → ∃ m', m' < m ∧ W (i + 1) m' σ' H') ∧ ∀ x H', (IteT K a).yld i H x H' → g x σ H' fun σ2 H2 => tb { D with nx := N, ct := N, bk := D.nx } σ2 H2) := by
  refine ⟨fun i m σ H => m = xs.length - i ∧ i ≤ xs.length ∧ Pv i σ H, ⟨xs.length, by simp, Nat.zero_le _, h0⟩, ?_⟩
  rintro i m σ H ⟨rfl, hi, p⟩
  have hL := hl i σ H hi p
  by_cases h : i < xs.length
  · refine .inr ⟨⟨xs, xs[i], hL, List.getElem?_eq_getElem h⟩, Pv (i + 1), fun σ' H' n => ⟨xs.length - (i + 1), by omega, rfl, by omega, n⟩, ?_⟩
    rintro v H' ⟨T, x, rfl, nT, rfl, hx⟩
    exact hs i x T σ H (hx xs hL) p nT
  · have e : i = xs.length := by omega
    subst e
    exact .inl ⟨⟨xs, hL, Nat.le_refl _⟩, hd σ H p⟩
theorem for_enumL {K : PySem.W.Frag} {a : Addr} {xs : List V} {g : TG} {tb : TS} {D : Ends} {σ : L2.St} {H : Hp} (Pv : Nat → L2.St → Hp → Prop) (h0 : Pv 0 σ H) (hl : ∀ i σ H, i ≤ xs.length → Pv i σ H → SqL K H a xs)
    (hs : ∀ i x T σ H, xs[i]? = some x → Pv i σ H → H T = none → g (.ref T) σ (upd H T (.tup [.int (i : Nat), x])) fun σ2 H2 => tb { D with nx := Pv (i + 1), ct := Pv (i + 1), bk := D.nx } σ2 H2) (hd : ∀ σ H, Pv xs.length σ H → D.nx σ H) :
    ∃ W : Nat → Nat → L2.St → Hp → Prop, (∃ m, W 0 m σ H) ∧ ∀ i m σ H, W i m σ H →
      ((Ite K a).stop i H ∧ D.nx σ H) ∨ ((Ite K a).go i H ∧ ∃ N : L2.St → Hp → Prop, (∀ σ' H', N σ' H' → ∃ m', m' < m ∧ W (i + 1) m' σ' H') ∧ ∀ x H', (Ite K a).yld i H x H' → g x σ H' fun σ2 H2 => tb { D with nx := N, ct := N, bk := D.nx } σ2 H2) := by
  refine ⟨fun i m σ H => m = xs.length - i ∧ i ≤ xs.length ∧ Pv i σ H, ⟨xs.length, by simp, Nat.zero_le _, h0⟩, ?_⟩
  rintro i m σ H ⟨rfl, hi, p⟩
  have hL := hl i σ H hi p
  by_cases h : i < xs.length
  · refine .inr ⟨⟨xs, xs[i], hL, List.getElem?_eq_getElem h⟩, Pv (i + 1), fun σ' H' n => ⟨xs.length - (i + 1), by omega, rfl, by omega, n⟩, ?_⟩
    rintro v H' ⟨T, x, rfl, nT, rfl, hx⟩
    exact hs i x T σ H (hx xs hL) p nT
  · have e : i = xs.length := by omega
    subst e
    exact .inl ⟨⟨xs, hL, Nat.le_refl _⟩, hd σ H p⟩
/-! ### () * k -/
theorem tuple_mul0 (l : Addr) (n : Nat) (dd : Option Addr) (sl : Array (Option Value)) (x : Int) (u : Tok) (c0 : (decide (x < -(2 ^ 63)) || decide (x ≥ 2 ^ 63)) = false) :
    Meets (Builtin.«tuple.__mul__» ⟨[.ref l, .int x u], []⟩) (fun _ R s => s.heap.get? l = some { cls := .type "tuple", dict := dd, data := .seq #[] n, slots := sl } ∧ R (.ok (.ret (Value.ref l))) s) :=
  .of_wp fun prog w A R s h => by
    obtain ⟨hp, g, d, tk, os⟩ := s
    obtain ⟨hl, h⟩ := h
    have f1 := AutoSeq1.idx_int
    have c1 : ((#[] : Array Value).isEmpty || x == 1) = true := rfl
    wp_walk using wpAny_loadPart' hl
    repeat (first
      | (refine wpAny_ite_false (decide_eq_false (by rw [c0]; exact Bool.false_ne_true)) ?_; wp_walk using wpAny_loadPart' hl)
      | (refine wpAny_ite_true (decide_eq_true c1) ?_; wp_walk using wpAny_loadPart' hl))
    exact ⟨_, rfl, h⟩
def rRepZ (K : PySem.W.Frag) : R2 := fun x y H Q => ∃ l k xs, x = .ref l ∧ y = .int k ∧ SqT K H l xs ∧ 1 ≤ k ∧ k ≤ 1000 ∧ xs.length ≤ 1000 ∧ ∀ p H', (∀ b o, H b = some o → H' b = some o) → SqT K H' p (List.replicate k.toNat xs).flatten → Q (.ref p) H'
theorem flat_nil {α : Type} (k : Nat) : (List.replicate k ([] : List α)).flatten = [] := by
  induction k with
  | zero => rfl
  | succ k ih => rw [List.replicate_succ, List.flatten_cons, ih]; rfl
theorem op_repZ {X : Cx} : OpR X (binaryOp .Mult) (rRepZ X.K) := by
  intro pins s σ H x y v u Q I rx ry h
  obtain ⟨l, k, xs, rfl, rfl, hT, h1, h2, hz, q⟩ := h
  by_cases hne : xs = []
  · subst hne
    cases rx
    obtain ⟨t, rfl⟩ := ry
    obtain ⟨its, r, ⟨⟨cls, dd, data, sl⟩, ho, hc, n, hd⟩, hs⟩ := I.tuple hT
    simp only at hc hd
    subst hc hd
    cases r
    have c0 : (decide (k < -(2 ^ 63)) || decide (k ≥ 2 ^ 63)) = false := by
      rw [decide_eq_false (by omega), decide_eq_false (by omega)]
      rfl
    refine wpAny_binaryOp_repeat_ref (T := "tuple") (U := "int") (by decide) ⟨_, ho, rfl⟩ (fun s' => typeIs_int s' k t) noFill_tuple_mul F.fills_int_mul F.slot_int_rmul repeat_tuple F.slot_int_index.lookup
      (call_meets F.slot_int_rmul (typeIs_int s k t) F.entry_int_rmul (F.args_int_rmul_2 _ _) (int_rmul_tuple k t l #[] n dd sl)
        ⟨ho, rfl, ⟨_, ho, rfl⟩, call_meets F.slot_tuple_mul ⟨_, ho, rfl⟩ F.entry_tuple_mul (F.args_tuple_mul_2 _ _) (tuple_mul0 l n dd sl k t c0) ⟨ho, ?_⟩⟩)
    exact ⟨.ref l, H, I, rfl, q l H (fun _ _ h => h) (by rw [flat_nil]; exact hT)⟩
  · refine op_repA pins s σ H _ _ v u Q I rx ry ⟨l, k, xs, rfl, rfl, hT, hne, h1, h2, hz, fun e => ?_, fun e p np => ?_⟩
    · refine q l H (fun _ _ h => h) ?_
      subst e
      show SqT X.K H l ([xs]).flatten
      simpa using hT
    · refine q p _ (fun b o e => by rw [upd_ne (ne_of_none e np)]; exact e) (SqT.of upd_same)
end RR

/-! ## heaps, tuples, data, sorts -/
namespace My
open PySem PySem.Spec PyProof.Rows L2
--ANN _law_pick | cut if tape[1] < len(tape[0]): | cut
/-! ### heaps -/
theorem same_upd {H : Hp} {p : Addr} {o : HO} (h : H p = none) : Same H (upd H p o) := fun b x e => by
  rw [upd_ne (ne_of_none e h)]
  exact e
/-- all but t stays -/
def Moved (t : Addr) (H H' : Hp) : Prop := ∀ b o, b ≠ t → H b = some o → H' b = some o
theorem Moved.refl {t : Addr} {H : Hp} : Moved t H H := fun _ _ _ h => h
theorem Moved.trans {t : Addr} {H H1 H2 : Hp} (a : Moved t H H1) (b : Moved t H1 H2) : Moved t H H2 := fun c o n h => b c o n (a c o n h)
theorem Moved.upd {t : Addr} {H : Hp} {o : HO} : Moved t H (upd H t o) := fun b x n e => by
  rw [upd_ne n]
  exact e
theorem Moved.same {t : Addr} {H H' : Hp} (h : Same H H') : Moved t H H' := fun b o _ e => h b o e
theorem Moved.free {t : Addr} {H H' : Hp} (h : Moved t H H') {p : Addr} (n : p ≠ t) (e : H' p = none) : H p = none := by
  cases q : H p with
  | none => rfl
  | some o =>
    rw [h p o n q] at e
    cases e
/-! ### the tape: where the draws stand -/
def Tape (H : Hp) (t s : Addr) : Prop := ∃ (ns : List Int) (pos rest mx ct : Int), s ≠ t ∧ H t = some (.lst [.ref s, .int pos, .int rest, .int mx, .int ct]) ∧ H s = some (.lst (ns.map V.int)) ∧ 0 ≤ pos
theorem Tape.keep {t s : Addr} {H H' : Hp} (h : Tape H t s) (e : Same H H') : Tape H' t s := by
  obtain ⟨ns, a, b, c, d, h1, h2, h3, h4⟩ := h
  exact ⟨ns, a, b, c, d, h1, e _ _ h2, e _ _ h3, h4⟩
theorem Tape.ne {t s p : Addr} {H : Hp} (h : Tape H t s) (np : H p = none) : p ≠ t := fun e => by
  obtain ⟨ns, a, b, c, d, h1, h2, h3, h4⟩ := h
  rw [e, h2] at np
  cases np
theorem Tape.ne2 {t s p : Addr} {H : Hp} (h : Tape H t s) (np : H p = none) : p ≠ s := fun e => by
  obtain ⟨ns, a, b, c, d, h1, h2, h3, h4⟩ := h
  rw [e, h3] at np
  cases np
theorem Tape.but {t s r : Addr} {H : Hp} {o : HO} (h : Tape H t s) (n : r ≠ t) (n2 : r ≠ s) : Tape (upd H r o) t s := by
  obtain ⟨ns, a, b, c, d, h1, h2, h3, h4⟩ := h
  refine ⟨ns, a, b, c, d, h1, ?_, ?_, h4⟩
  · rw [upd_ne n.symm]
    exact h2
  · rw [upd_ne n2.symm]
    exact h3
section
variable {K : PySem.W.Frag} {H : Hp}
theorem tyTup {a : Addr} {xs : List V} (h : SqT K H a xs) : TyX K H (.ref a) (.type "tuple") := by
  rcases h with (h | ⟨o, h⟩) | h
  · exact .base (.tup h)
  · exact .fTuple h
  · obtain ⟨o, n, vs, e, c, _⟩ := h
    exact .kTuple e c
theorem sT {H' : Hp} {a : Addr} {xs : List V} (e : Same H H') (h : SqT K H a xs) : SqT K H' a xs := by
  rcases h with (h | ⟨o, h⟩) | h
  · exact .inl (.inl (e _ _ h))
  · exact .inl (.inr ⟨o, e _ _ h⟩)
  · exact .inr h
end
/-! ### new tuples, one for each -/
theorem small2000 {n : Nat} (h : n ≤ 2000) : n < sizeLine := by
  show n < 2 ^ 24
  omega
inductive Tups {α : Type} (f : α → List V) (H : Hp) : List Addr → List α → Prop
  | nil : Tups f H [] []
  | cons {p : Addr} {x : α} {ps : List Addr} {xs : List α} : H p = some (.tup (f x)) → Tups f H ps xs → Tups f H (p :: ps) (x :: xs)
section
variable {α : Type} {f : α → List V} {H H' : Hp}
theorem Tups.keep {ps : List Addr} {xs : List α} (h : Tups f H ps xs) (e : ∀ b ys, H b = some (.tup ys) → H' b = some (.tup ys)) : Tups f H' ps xs := by
  induction h with
  | nil => exact .nil
  | cons a _ ih => exact .cons (e _ _ a) ih
theorem Tups.same {ps : List Addr} {xs : List α} (h : Tups f H ps xs) (e : Same H H') : Tups f H' ps xs := h.keep fun b ys z => e _ _ z
theorem Tups.put {ps : List Addr} {xs : List α} (h : Tups f H ps xs) {L : Addr} {ys : List V} {o : HO} (e : H L = some (.lst ys)) : Tups f (upd H L o) ps xs := h.keep fun b zs z => by
  rw [upd_ne (fun q => by rw [q, e] at z; cases z)]
  exact z
theorem Tups.new {ps : List Addr} {xs : List α} (h : Tups f H ps xs) {p : Addr} {o : HO} (e : H p = none) : Tups f (upd H p o) ps xs := h.same (same_upd e)
theorem Tups.snoc {ps : List Addr} {xs : List α} {p : Addr} {x : α} (h : Tups f H ps xs) (e : H p = some (.tup (f x))) : Tups f H (ps ++ [p]) (xs ++ [x]) := by
  induction h with
  | nil => exact .cons e .nil
  | cons a _ ih => exact .cons a ih
theorem Tups.append {ps qs : List Addr} {xs ys : List α} (h : Tups f H ps xs) (k : Tups f H qs ys) : Tups f H (ps ++ qs) (xs ++ ys) := by
  induction h with
  | nil => exact k
  | cons a _ ih => exact .cons a ih
theorem Tups.length {ps : List Addr} {xs : List α} (h : Tups f H ps xs) : ps.length = xs.length := by
  induction h with
  | nil => rfl
  | cons a _ ih => rw [List.length_cons, List.length_cons, ih]
theorem Tups.get {ps : List Addr} {xs : List α} (h : Tups f H ps xs) : ∀ {i : Nat} {v : V}, (ps.map V.ref)[i]? = some v → ∃ p x, v = .ref p ∧ xs[i]? = some x ∧ H p = some (.tup (f x)) := by
  induction h with
  | nil =>
    intro i v h
    simp at h
  | cons a _ ih =>
    intro i v h
    cases i with
    | zero =>
      simp at h
      exact ⟨_, _, h.symm, rfl, a⟩
    | succ i =>
      simp only [List.map_cons, List.getElem?_cons_succ] at h ⊢
      exact ih h
end
def wv : Option Int → V
  | none => .non
  | some w => .int w
def pv2 (p : Int × Int) : List V := [.int p.1, .int p.2]
/-! ### data that is compared -/
def wd : Option Int → PyData
  | none => .none
  | some w => .int w
def pd2 (p : Int × Int) : PyData := .tuple [.int p.1, .int p.2]
def dInts (ns : List Int) : PyData := .list (ns.map PyData.int)
def dWs (ws : List (Option Int)) : PyData := .list (ws.map wd)
def dPrs (ps : List (Int × Int)) : PyData := .list (ps.map pd2)
section
variable {K : PySem.W.Frag} {H : Hp}
theorem dpa_ints : ∀ ns : List Int, DpAll K H (ns.map V.int) (ns.map PyData.int)
  | [] => .nil
  | n :: ns => .cons (.int n) (dpa_ints ns)
theorem dp_wd : ∀ w : Option Int, Dp K H (wv w) (wd w)
  | none => .non
  | some w => .int w
theorem dpa_ws : ∀ ws : List (Option Int), DpAll K H (ws.map wv) (ws.map wd)
  | [] => .nil
  | w :: ws => .cons (dp_wd w) (dpa_ws ws)
theorem dpa_prs {ps : List Addr} {xs : List (Int × Int)} (h : Tups pv2 H ps xs) : DpAll K H (ps.map V.ref) (xs.map pd2) := by
  induction h with
  | nil => exact .nil
  | cons a _ ih => exact .cons (.tup (SqT.of a) (.cons (.int _) (.cons (.int _) .nil))) ih
end
theorem lay_all {α : Type} {f : α → PyData} (h : ∀ x, (f x).canLay0 = true) : ∀ xs : List α, PyData.canLayAll0 (xs.map f) = true
  | [] => by simp [PyData.canLayAll0]
  | x :: xs => by
    rw [List.map_cons, PyData.canLayAll0, h x, lay_all h xs]
    rfl
theorem dep_all {α : Type} {f : α → PyData} {d : Nat} (h : ∀ x, (f x).depth ≤ d) : ∀ xs : List α, PyData.depthAll (xs.map f) ≤ d
  | [] => by simp [PyData.depthAll]
  | x :: xs => by
    have h1 := h x
    have h2 := dep_all h xs
    rw [List.map_cons, PyData.depthAll]
    omega
/-- can be laid, and is at most d deep -/
def Shp (d : Nat) (x : PyData) : Prop := x.canLay0 = true ∧ x.depth ≤ d
theorem Shp.ok {d : Nat} {x : PyData} (h : Shp d x) (hd : d ≤ 64) : SeqAt.shaped x = true := by
  show (x.canLay0 && decide (x.depth ≤ 64)) = true
  rw [Bool.and_eq_true]
  exact ⟨h.1, decide_eq_true (Nat.le_trans h.2 hd)⟩
theorem Shp.int (i : Int) : Shp 1 (.int i) := ⟨by simp [PyData.canLay0], by simp [PyData.depth]⟩
theorem Shp.wd (w : Option Int) : Shp 1 (wd w) := by
  cases w <;> exact ⟨by simp [My.wd, PyData.canLay0], by simp [My.wd, PyData.depth]⟩
theorem Shp.list {α : Type} {f : α → PyData} {d : Nat} (h : ∀ x, Shp d (f x)) (xs : List α) : Shp (d + 1) (.list (xs.map f)) := by
  have h1 := lay_all (fun x => (h x).1) xs
  have h2 := dep_all (fun x => (h x).2) xs
  exact ⟨by simp only [PyData.canLay0]; exact h1, by simp only [PyData.depth]; omega⟩
theorem Shp.tup0 : Shp 1 (.tuple []) := ⟨by simp [PyData.canLay0, PyData.canLayAll0], by simp [PyData.depth, PyData.depthAll]⟩
theorem Shp.tupC {d : Nat} {x : PyData} {xs : List PyData} (h : Shp d x) (t : Shp (d + 1) (.tuple xs)) : Shp (d + 1) (.tuple (x :: xs)) := by
  obtain ⟨a, b⟩ := h
  obtain ⟨c, e⟩ := t
  simp only [PyData.canLay0] at c
  simp only [PyData.depth] at e
  refine ⟨?_, ?_⟩
  · simp only [PyData.canLay0, PyData.canLayAll0, a, c, Bool.and_self]
  · simp only [PyData.depth, PyData.depthAll]
    omega
theorem Shp.up {d e : Nat} {x : PyData} (h : Shp d x) (le : d ≤ e) : Shp e x := ⟨h.1, Nat.le_trans h.2 le⟩
theorem Shp.pd2 (p : Int × Int) : Shp 2 (pd2 p) := .tupC (.int _) (.tupC (.int _) (Shp.tup0.up (by decide)))
theorem Shp.ints (ns : List Int) : Shp 2 (dInts ns) := .list Shp.int ns
theorem Shp.ws (ws : List (Option Int)) : Shp 2 (dWs ws) := .list Shp.wd ws
theorem Shp.prs (ps : List (Int × Int)) : Shp 3 (dPrs ps) := .list Shp.pd2 ps
theorem eqv_same {d : Nat} {x : PyData} (h : Shp d x) : PyData.eqv x x = true := SeqAt.eqv_refl x h.1
theorem iteNE {b : Bool} {A B : Prop} (hb : b = true) (h : B) : if (!b) = true then A else B := by
  subst hb
  exact iteF h
theorem ne_same {d : Nat} {x : PyData} (h : Shp d x) : V.bl (!PyData.eqv x x) = V.bl false := by
  rw [eqv_same h]
  rfl
theorem eq_same {d : Nat} {x : PyData} (h : Shp d x) : V.bl (PyData.eqv x x) = V.bl true := by
  rw [eqv_same h]

theorem flat_one {α : Type} (n : Nat) (x : α) : (List.replicate n [x]).flatten = List.replicate n x := by
  induction n with
  | zero => rfl
  | succ n ih => rw [List.replicate_succ, List.flatten_cons, ih]; rfl
theorem take_snoc {α : Type} {l : List α} {i : Nat} {x : α} (h : l[i]? = some x) : l.take (i + 1) = l.take i ++ [x] := by
  rw [List.take_add_one, h]
  rfl
theorem same_put {H H' : Hp} {p : Addr} {o : HO} (sm : Same H H') (n : H p = none) : Same H (upd H' p o) := fun b x e => (upd_ne (ne_of_none e n)).trans (sm b x e)
theorem ne_no {a b : Int} (h : a = b) : V.bl (!decide (V.int a = V.int b)) = V.bl false := by
  subst h
  rw [decide_eq_true rfl]
  rfl
theorem ixN_nat {n : Nat} {p : Int} (h0 : 0 ≤ p) (h1 : p < (n : Int)) : ixN n p = some p.toNat := by
  unfold ixN
  rw [if_pos h0, if_pos h1]
theorem atI_of {xs : List V} {p : Int} {v : V} (h0 : 0 ≤ p) (h : xs[p.toNat]? = some v) : atI xs p = some v := by
  have e := atI_nat h
  rw [show ((p.toNat : Nat) : Int) = p by omega] at e
  exact e
theorem ixTK {X : Cx} {K : PySem.W.Frag} (h : X.K = K) : IxR X (rIxT K) := h ▸ ix_tup
theorem ixLK {X : Cx} {K : PySem.W.Frag} (h : X.K = K) : IxR X (rIxL K) := h ▸ ix_list
def rLenS (K : PySem.W.Frag) : List V → Hp → VK → Prop := fun xs H Q => ∃ p ys, xs = [.ref p] ∧ (SqL K H p ys ∨ SqT K H p ys) ∧ Q (.int ys.length) H
theorem lenK {X : Cx} {K : PySem.W.Frag} (h : X.K = K) : CallR X (.builtin "len") (rLenS K) := h ▸ call_len_seq
theorem isiK {X : Cx} {K : PySem.W.Frag} (h : X.K = K) : CallR X (.builtin "isinstance") (rIsi K) := h ▸ call_isi
theorem notInK {X : Cx} {K : PySem.W.Frag} (h : X.K = K) : OpR X (compareOp .NotIn) (rIn K true) := h ▸ op_notIn_seq
theorem inK {X : Cx} {K : PySem.W.Frag} (h : X.K = K) : OpR X (compareOp .In) (rIn K false) := h ▸ op_in_seq
/-! ### tuples of ints as data -/
def fI (r : List Int) : List V := r.map V.int
def dI (r : List Int) : PyData := .tuple (r.map PyData.int)
def dT (rs : List (List Int)) : PyData := .list (rs.map dI)
theorem units65 {k : Nat} {A : Around} (r : Room k A) : A.units + 65 < cLine := by
  have := r.un
  omega
theorem Shp.tuple {α : Type} {f : α → PyData} {d : Nat} (h : ∀ x, Shp d (f x)) (xs : List α) : Shp (d + 1) (.tuple (xs.map f)) := by
  have h1 := lay_all (fun x => (h x).1) xs
  have h2 := dep_all (fun x => (h x).2) xs
  exact ⟨by simp only [PyData.canLay0]; exact h1, by simp only [PyData.depth]; omega⟩
theorem Shp.dI (r : List Int) : Shp 2 (dI r) := .tuple Shp.int r
theorem Shp.dT (rs : List (List Int)) : Shp 3 (dT rs) := .list Shp.dI rs
theorem dp_dI {K : PySem.W.Frag} {H : Hp} {p : Addr} {r : List Int} (h : SqT K H p (r.map V.int)) : Dp K H (.ref p) (My.dI r) := .tup h (dpa_ints r)
theorem dpa_dT {K : PySem.W.Frag} {H : Hp} {ps : List Addr} {rs : List (List Int)} (h : Tups fI H ps rs) : DpAll K H (ps.map V.ref) (rs.map My.dI) := by
  induction h with
  | nil => exact .nil
  | cons a _ ih => exact .cons (dp_dI (SqT.of a)) ih
theorem dp_dT {K : PySem.W.Frag} {H : Hp} {L : Addr} {ps : List Addr} {rs : List (List Int)} (e : H L = some (.lst (ps.map V.ref))) (h : Tups fI H ps rs) : Dp K H (.ref L) (My.dT rs) := .lst (SqL.of e) (dpa_dT h)
theorem eqvA : ∀ a b : List Int, PyData.eqvAll (a.map PyData.int) (b.map PyData.int) = decide (a = b)
  | [], [] => by simp [PyData.eqvAll]
  | [], _ :: _ => by simp [PyData.eqvAll]
  | _ :: _, [] => by simp [PyData.eqvAll]
  | x :: a, y :: b => by
    rw [List.map_cons, List.map_cons, PyData.eqvAll, eqvA a b]
    simp only [PyData.eqv]
    by_cases h : x = y
    · subst h
      simp
    · simp [h]
theorem eqvI (a b : List Int) : PyData.eqv (My.dI a) (My.dI b) = decide (a = b) := by
  unfold My.dI
  rw [PyData.eqv]
  exact eqvA a b
theorem not_any {rs : List (List Int)} {r : List Int} (h : r ∉ rs) : ((rs.map My.dI).any fun z => PyData.eqv z (My.dI r)) = false := by
  rw [List.any_map, List.any_eq_false]
  intro x hx
  show ¬ PyData.eqv (My.dI x) (My.dI r) = true
  rw [eqvI]
  intro z
  exact h (of_decide_eq_true z ▸ hx)
/-! ### a tuple whose object is known: its methods -/
def Frz (H : Hp) (p : Addr) (xs : List V) : Prop := ∃ o : Obj, H p = some (.frz o (.tup xs)) ∧ o.dict = none
theorem Frz.sq {K : PySem.W.Frag} {H : Hp} {p : Addr} {xs : List V} (h : Frz H p xs) : SqT K H p xs := let ⟨o, e, _⟩ := h; .inl (.inr ⟨o, e⟩)
theorem Frz.same {H H' : Hp} {p : Addr} {xs : List V} (h : Frz H p xs) (e : Same H H') : Frz H' p xs := let ⟨o, a, b⟩ := h; ⟨o, e _ _ a, b⟩
theorem Frz.moved {t : Addr} {H H' : Hp} {p : Addr} {xs : List V} (h : Frz H p xs) (n : p ≠ t) (e : Moved t H H') : Frz H' p xs := let ⟨o, a, b⟩ := h; ⟨o, e _ _ n a, b⟩
theorem Frz.of {H H' : Hp} {p : Addr} {xs : List V} (h : Frz H p xs) (e : ∀ o, H p = some o → H' p = some o) : Frz H' p xs := let ⟨o, a, b⟩ := h; ⟨o, e _ a, b⟩
theorem Frz.ne {H : Hp} {p q : Addr} {xs : List V} (h : Frz H p xs) (n : H q = none) : p ≠ q := let ⟨_, a, _⟩ := h; ne_of_none a n
theorem Frz.tape {H : Hp} {p t s : Addr} {xs : List V} (h : Frz H p xs) (tp : Tape H t s) : p ≠ t := fun e => by
  obtain ⟨o, a, _⟩ := h
  obtain ⟨_, _, _, _, _, _, e2, _⟩ := tp
  rw [e, e2] at a
  cases a
theorem call_tupleF {X : Cx} : CallR X (.type "tuple") (fun xs H Q => ∃ p ys, xs = [.ref p] ∧ SqL X.K H p ys ∧ ∀ l H', H l = none → Same H H' → Frz H' l ys → (∀ b, b ≠ l → H' b = H b) → Q (.ref l) H') := by
  intro pins s σ H xs us Q I r h
  obtain ⟨p, ys, rfl, hq, q⟩ := h
  obtain ⟨u, rfl, rx⟩ := vals1 r
  cases rx
  obtain ⟨its, r', pl, hz⟩ := I.list hq
  have hlen := r'.length
  refine call_tuple_list pl.isList (fun h' kp => ?_) (by simp only [List.size_toArray] <;> omega)
  have I1 : Inv X pins σ H { s with heap := h' } := I.kept (t' := s.toks) kp
  have I2 : Inv X pins σ (upd H h'.objs.size (.frz { cls := .type "tuple", data := .seq its.toArray } (.tup ys))) { s with heap := h'.push { cls := .type "tuple", data := .seq its.toArray } } :=
    I1.laid (t' := s.toks) (fun b o e => Heap.get?_push_of_some _ e) (Nat.le_refl _) (show ObjOk X.prog X.w _ _ _ (.frz _ (.tup ys)) from ⟨Heap.get?_push_size _ rfl, hz, its, r', IsTup.new _ _⟩)
  have nl := I1.hok.fresh (Nat.le_refl _)
  exact ⟨.ref h'.objs.size, _, I2, rfl, q _ _ nl (same_upd nl) ⟨_, upd_same, rfl⟩ fun b n => upd_ne n⟩
def tTM (r : V → List V → Hp → VK → Prop) (to : TE) (t : TA) : TE := fun σ H Q => to σ H fun x H1 => (∃ p xs, x = .ref p ∧ Frz H1 p xs) ∧ t σ H1 fun xs H2 => r x xs H2 Q
theorem pe_tm {X : Cx} {o e : Expr} {es : List Expr} {to : TE} {t : TA} {name : Str} {apos cpos : Pos} {id : String} {r : V → List V → Hp → VK → Prop} (pa : PlainAttrs "tuple") (slot : Slot "tuple" name id) (hty : typeOf (.builtin id) = pure (.type "method_descriptor")) (hm : MtR X id r) (ho : PE X o to) (ha : PA X (e :: es) t)
    (hbase : attributeBase o name X.env (eval o X.env) = eval o X.env := by rfl)
    (hfew : ((backTo cpos (starEach (e :: es) X.env)).all (fun x => !x.1) && (backToKw cpos (keywordEach [] X.env)).all (fun x => x.1.isSome)
      && decide ((e :: es).length + ([] : List Keyword).length + (if ([] : List Keyword).isEmpty then 0 else 1) < 30)) = true := by rfl)
    (hline : (apos.endLine == cpos.line) = true := by rfl) (hs : starEach (e :: es) X.env = (false, eval e X.env) :: starEach es X.env := by rfl) (hplain : (backTo cpos (starEach es X.env)).any (·.1) = false := by rfl) :
    PE X (.Call (.Attribute o name apos) (e :: es) [] cpos) (tTM r to t) := by
  refine ⟨fun pins s σ H Q I h => ?_⟩
  refine wpAny_Call_method_late hbase hfew hline rfl (thn (ho.run pins s σ H _ I h) fun v s1 ⟨x, H1, I1, r1, ty, q1⟩ => ?_)
  obtain ⟨p, xs, rfl, ob, hp, hd⟩ := ty
  cases r1
  obtain ⟨hob, _, its, _, ⟨o2, ho2, hc2, _⟩⟩ := I1.hok _ _ hp
  have eo : o2 = ob := Option.some.inj (ho2.symm.trans hob)
  subst eo
  refine ⟨"tuple", id, pa, slot, hty, ⟨_, hob, hc2⟩, fun a ea => ?_, ?_⟩
  · cases ea
    exact ⟨_, hob, hd⟩
  have hA := ha.run cpos pins s1 σ H1 _ I1 q1
  rw [hs] at hA ⊢
  refine Calls.callWith_builtin (by show (false || (backTo cpos (starEach es X.env)).any (·.1)) = false; rw [hplain] <;> rfl) (Calls.evalArgs_plain ?_)
  exact thn hA fun us s2 ⟨vs, H2, I2, r2, q2⟩ => hm pins s2 σ H2 (.ref p) vs _ us Q I2 rfl r2 q2
/-! ### t.index(k), t a tuple of ints -/
theorem flat_ints (ys : List Int) : (ys.map V.int).all flatV = true := by
  rw [List.all_map]
  exact List.all_eq_true.mpr fun _ _ => rfl
def rTIndex (K : PySem.W.Frag) : V → List V → Hp → VK → Prop := fun x xs H Q => ∃ p, ∃ ys : List Int, ∃ z j, x = .ref p ∧ xs = [.int z] ∧ SqT K H p (ys.map V.int) ∧ ys[j]? = some z ∧ (∀ m, m < j → ys[m]? ≠ some z) ∧ Q (.int (j : Nat)) H
theorem mt_tindex {X : Cx} : MtR X "tuple.index" (rTIndex X.K) := by
  intro pins s σ H x xs v us Q I rx rs h
  obtain ⟨p, ys, z, j, rfl, rfl, hq, hy, hno, q⟩ := h
  cases rx
  obtain ⟨u, rfl, t, rfl⟩ := vals1 rs
  obtain ⟨its, r, pl, hz⟩ := I.tuple hq
  obtain ⟨⟨cls, dd, dt, sl⟩, ho, hc, n, hd⟩ := pl
  simp only at hc hd
  subst hc
  subst hd
  have hl : its.toArray.size = ys.length := by rw [List.size_toArray, ← r.length, List.length_map]
  have hj : j < its.toArray.size := by rw [hl]; exact (List.getElem?_eq_some_iff.mp hy).1
  have at' : ∀ (m : Nat) (hm : m < its.toArray.size), ∃ y t', ys[m]? = some y ∧ its.toArray[m] = Value.int y t' := fun m hm => by
    have hm' : m < ys.length := by rw [← hl]; exact hm
    obtain ⟨w, hw, t', hw'⟩ := r.get (i := m) (x := .int ys[m]) (by simp [hm'])
    refine ⟨ys[m], t', List.getElem?_eq_getElem hm', ?_⟩
    have e := (List.getElem?_eq_some_iff.mp hw).2
    rw [← hw', ← e]
    simp
  refine call_meets PySem.F.slot_tuple_index ⟨_, ho, rfl⟩ PySem.F.entry_tuple_index (PySem.F.args_tuple_index_2 _ _) (TI.tuple_indexAt p its.toArray n dd sl (.int z t) (eqU (.int z)) j hj ?_ ?_)
    ⟨ho, fun w hw => mem_eqAt (x := .int z) ⟨t, rfl⟩ rfl r (flat_ints ys) w (by simpa using hw), ⟨.int (j : Nat), H, I.tok _, ⟨_, rfl⟩, q⟩⟩
  · obtain ⟨y, t', h1, h2⟩ := at' j hj
    rw [hy] at h1
    cases h1
    rw [h2]
    show (z == z) = true
    exact beq_self_eq_true z
  · intro m hm hmj
    obtain ⟨y, t', h1, h2⟩ := at' m hm
    rw [h2]
    show (y == z) = false
    exact beq_eq_false_iff_ne.mpr fun e => hno m hmj (e ▸ h1)
/-! ### sorted(xs), xs a list of tuples of d ints from 0 to B, of any length -/
/-- the ints of a tuple that H tracks -/
def intsV (H : Hp) : V → List Int
  | .ref a => match H a with
    | some (.tup xs) => xs.filterMap fun v => match v with
      | .int i => some i
      | _ => none
    | _ => []
  | _ => []
theorem ints_fI (r : List Int) : ((fI r).filterMap fun v => match v with
      | V.int i => some i
      | _ => none) = r := by
  unfold fI
  induction r with
  | nil => rfl
  | cons x r ih => simp [ih]
theorem intsV_of {H : Hp} {a : Addr} {r : List Int} (h : H a = some (.tup (fI r))) : intsV H (.ref a) = r := by
  show (match H a with
    | some (.tup xs) => xs.filterMap fun v => match v with
      | V.int i => some i
      | _ => none
    | _ => []) = r
  rw [h]
  exact ints_fI r
abbrev ltC (B : Int) (k : V → List Int) (x y : V) : Bool := decide (TS.code B (k x) < TS.code B (k y))
theorem swoC {α : Type} (f : α → Int) : SrtO.Swo fun x y => decide (f x < f y) := by
  refine ⟨fun x y h => ?_, fun x y z h1 h2 => ?_⟩
  · have a := of_decide_eq_true h
    exact decide_eq_false (by omega)
  · have a := of_decide_eq_false h1
    have b := of_decide_eq_false h2
    exact decide_eq_false (by omega)
def rSortC (K : PySem.W.Frag) (B : Int) (d : Nat) : List V → Hp → VK → Prop := fun vs H Q => ∃ (a : Addr) (ps : List Addr) (rs : List (List Int)), vs = [V.ref a] ∧ SqL K H a (ps.map V.ref) ∧ Tups fI H ps rs ∧ (∀ r ∈ rs, r.length = d ∧ TS.Bd B r) ∧
  ∀ ps' rs' p, Tups fI H ps' rs' → rs'.Perm rs → rs'.Pairwise (fun x y => TS.code B x ≤ TS.code B y) → H p = none → Q (.ref p) (upd H p (.lst (ps'.map V.ref)))
theorem tups_of {H : Hp} : ∀ {ps : List Addr}, (∀ p ∈ ps, ∃ r, H p = some (.tup (fI r))) → Tups fI H ps (ps.map fun p => intsV H (.ref p))
  | [], _ => .nil
  | p :: ps, h => by
    obtain ⟨r, hr⟩ := h p List.mem_cons_self
    refine .cons ?_ (tups_of fun q hq => h q (List.mem_cons_of_mem _ hq))
    show H p = some (.tup (fI (intsV H (.ref p))))
    rw [intsV_of hr]
    exact hr
theorem Tups.ints {H : Hp} {ps : List Addr} {rs : List (List Int)} (h : Tups fI H ps rs) : rs = ps.map fun p => intsV H (.ref p) := by
  induction h with
  | nil => rfl
  | cons a _ ih => rw [List.map_cons, intsV_of a, ← ih]
theorem Tups.mem {α : Type} {f : α → List V} {H : Hp} {ps : List Addr} {rs : List α} (h : Tups f H ps rs) : ∀ p ∈ ps, ∃ r ∈ rs, H p = some (.tup (f r)) := by
  induction h with
  | nil => exact fun _ h => absurd h (by simp)
  | cons a _ ih =>
    intro p hp
    rcases List.mem_cons.mp hp with rfl | hp
    · exact ⟨_, List.mem_cons_self, a⟩
    · obtain ⟨r, hr, e⟩ := ih p hp
      exact ⟨r, List.mem_cons_of_mem _ hr, e⟩
theorem cr_sortC {X : Cx} {B : Int} {d : Nat} (hd : 1 ≤ d) : CallR X (.builtin "sorted") (rSortC X.K B d) := by
  intro pins s σ H vs us Q I r h
  obtain ⟨a, ps, rs, rfl, hs, tu, hb, q⟩ := h
  obtain ⟨its, rv, hl, hz⟩ := I.list hs
  obtain ⟨u, rfl, ru⟩ := vals1 r
  obtain rfl : u = Value.ref a := ru
  obtain ⟨e1, e2⟩ := refs_back rv fun x m => by
    obtain ⟨t, _, e⟩ := List.mem_map.mp m
    exact ⟨t, e.symm⟩
  have key : ∀ v ∈ its, ∃ p, v = Value.ref p ∧ p ∈ ps := fun v hv => by
    obtain ⟨t, rfl⟩ := e2 v hv
    have hm : V.ref t ∈ ps.map V.ref := by rw [e1]; exact List.mem_map.mpr ⟨_, hv, rfl⟩
    obtain ⟨p, hp, e⟩ := List.mem_map.mp hm
    cases e
    exact ⟨t, rfl, hp⟩
  have tin : ∀ v ∈ its, TS.TupInts s.heap v (intsV H (backV v)) ∧ (intsV H (backV v)).length = d ∧ TS.Bd B (intsV H (backV v)) := fun v hv => by
    obtain ⟨p, rfl, hp⟩ := key v hv
    obtain ⟨r, hr, ep⟩ := tu.mem p hp
    have ei : intsV H (backV (Value.ref p)) = r := intsV_of ep
    rw [ei]
    obtain ⟨its2, r2, pt, _⟩ := I.tuple (SqT.of ep)
    have hb' := hb r hr
    exact ⟨⟨p, its2.toArray, rfl, pt, intsAre_of r2⟩, hb'.1, hb'.2⟩
  refine SrtO.sorted_ord (ltv := fun v u => decide (TS.code B (intsV H (backV v)) < TS.code B (intsV H (backV u)))) (swoC fun v => TS.code B (intsV H (backV v))) hl.isList (by rw [← rv.length]; exact hz) (fun h2 h₁ a' ha' kk => ?_) fun out h1 h2 => ?_
  · intro h' keep
    have keep2 : ∀ b o, s.heap.get? b = some o → o.cls = .type "tuple" → h'.get? b = some o := fun b o e c => keep b o (kk b o e).1 (kk b o e).2
    have tin' : ∀ v ∈ its, TS.TupInts h' v (intsV H (backV v)) ∧ (intsV H (backV v)).length = d ∧ TS.Bd B (intsV H (backV v)) := fun v hv => let ⟨x, y, z⟩ := tin v hv; ⟨x.keeps keep2, y, z⟩
    obtain ⟨fs, k1, k2, k3⟩ := TS.firsts_of (h := h') (d := d) (B := B) hd its fun v hv => ⟨_, tin' v hv⟩
    refine ⟨tuples' true, fun Q E hq => ?_, ?_⟩
    · refine PySem.W.kat_kind (T := .type "int") k1 (by omega) (fun f hm => ?_) (by rfl) ?_
      · obtain ⟨x, t, rfl⟩ := k3 f hm
        exact PySem.W.Looks.now
      · have e : (Value.type "int" != Value.type "tuple") = true := by first | decide +kernel | rfl | decide
        rw [e]
        exact hq
    · intro p q hm hm'
      obtain ⟨⟨a1, xs, x1, ⟨o1, ho1, hc1, n1, hd1⟩, i1⟩, l1, b1⟩ := tin' _ hm
      obtain ⟨⟨a2, ys, x2, ⟨o2, ho2, hc2, n2, hd2⟩, i2⟩, l2, b2⟩ := tin' _ hm'
      show wpAny _ _ (keyLt' _ p.1 q.1) (fun r s' => s' = _ ∧ r = decide (TS.code B (intsV H (backV p.1)) < TS.code B (intsV H (backV q.1)))) (fun _ _ => False) _
      generalize intsV H (backV p.1) = ns at *
      generalize intsV H (backV q.1) = ms at *
      rw [x1, x2]
      refine PySem.W.kat_lt ho1 hd1 ho2 hd2 ?_
      have el : xs.size = ys.size := by
        have z1 := i1.length
        have z2 := i2.length
        simp at z1 z2
        omega
      rw [el, decide_eq_false (Nat.lt_irrefl _)]
      exact TS.lex_ints 0 i1 i2 (by omega) b1 b2 ⟨rfl, rfl⟩
  · obtain ⟨ep, he'⟩ := PyProof.Rows.sortedAll_at s.heap its out.toArray
    have h3 : ∀ u ∈ out, ∃ p, u = Value.ref p ∧ p ∈ ps := fun u hu => key u (h2.perm.mem_iff.mp hu)
    have eo : out.map backV = (out.map fun u => match u with
      | Value.ref a => a
      | _ => 0).map V.ref := by
      rw [List.map_map]
      refine List.map_congr_left fun u hu => ?_
      obtain ⟨p, rfl, _⟩ := h3 u hu
      rfl
    have hp : (out.map backV).Perm (ps.map V.ref) := by
      rw [e1]
      exact h2.perm.map backV
    have hlen : (out.map backV).length ≤ sizeLine := by
      rw [hp.length_eq]
      exact hz
    generalize eps : (out.map fun u => match u with
      | Value.ref a => a
      | _ => 0) = ps' at eo
    have pp : ps'.Perm ps := by
      rw [eo] at hp
      have z := hp.map fun v => match v with
        | V.ref a => a
        | _ => 0
      rw [List.map_map, List.map_map] at z
      have id1 : ∀ l : List Addr, l.map ((fun v => match v with
        | V.ref a => a
        | _ => 0) ∘ V.ref) = l := fun l => by
        induction l with
        | nil => rfl
        | cons x l ih => rw [List.map_cons, ih]; rfl
      rw [id1, id1] at z
      exact z
    have tu' : Tups fI H ps' (ps'.map fun p => intsV H (.ref p)) := tups_of fun p hp => by
      obtain ⟨r, _, e⟩ := tu.mem p (pp.mem_iff.mp hp)
      exact ⟨r, e⟩
    have pw : (ps'.map fun p => intsV H (.ref p)).Pairwise (fun x y => TS.code B x ≤ TS.code B y) := by
      have z : (out.map backV).Pairwise (fun x y => TS.code B (intsV H x) ≤ TS.code B (intsV H y)) := List.pairwise_map.mpr (h1.imp fun {x y} h => Int.not_lt.mp (of_decide_eq_false h))
      rw [eo] at z
      rw [List.pairwise_map] at z ⊢
      exact z
    rw [eo] at hlen
    refine ⟨.ref _, upd H (s.heap.objs.size + 1) (.lst (ps'.map V.ref)), I.laid (t' := s.toks) (fun _ _ => PyProof.Rows.sortedAll_old) (Nat.le_succ _) ⟨hlen, out, ep, ?_, he'⟩, rfl, q ps' _ _ tu' ?_ pw (I.hok.fresh (Nat.le_succ _))⟩
    · rw [← eo]
      exact vals_back fun u hu => by
        obtain ⟨p, e, _⟩ := h3 u hu
        exact ⟨p, e⟩
    · rw [tu.ints]
      exact pp.map _
/-- there is just one such list -/
theorem code_inj {B : Int} : ∀ {d : Nat} {x y : List Int}, x.length = d → y.length = d → TS.Bd B x → TS.Bd B y → TS.code B x = TS.code B y → x = y
  | _, [], [], _, _, _, _, _ => rfl
  | _, [], _ :: _, h1, h2, _, _, _ => by
    subst h1
    cases h2
  | _, _ :: _, [], h1, h2, _, _, _ => by
    subst h2
    cases h1
  | _, a :: x, b :: y, h1, h2, b1, b2, e => by
    have hl : x.length = y.length := by
      rw [List.length_cons] at h1 h2
      omega
    rcases Int.lt_trichotomy a b with z | z | z
    · have := TS.code_lt hl b1.tail b2.tail z
      omega
    · subst z
      have e' : TS.code B x = TS.code B y := by
        have n1 := (TS.code_same (B := B) (d := a) hl).symm
        have n2 := (TS.code_same (B := B) (d := a) hl.symm).symm
        have k1 : ¬ TS.code B x < TS.code B y := fun z => by
          have := n1.mp z
          omega
        have k2 : ¬ TS.code B y < TS.code B x := fun z => by
          have := n2.mp z
          omega
        omega
      rw [code_inj (d := x.length) rfl hl.symm b1.tail b2.tail e']
    · have := TS.code_lt hl.symm b2.tail b1.tail z
      omega
theorem sorted_uniq {B : Int} {d : Nat} : ∀ {l m : List (List Int)}, l.Perm m → (∀ r ∈ m, r.length = d ∧ TS.Bd B r) → l.Pairwise (fun x y => TS.code B x ≤ TS.code B y) → m.Pairwise (fun x y => TS.code B x ≤ TS.code B y) → l = m
  | [], m, p, _, _, _ => (List.nil_perm.mp p).symm
  | x :: l, [], p, _, _, _ => absurd p.length_eq (by simp)
  | x :: l, y :: m, p, hb, a, b => by
    have a' := List.pairwise_cons.mp a
    have b' := List.pairwise_cons.mp b
    have hx : x ∈ y :: m := p.mem_iff.mp List.mem_cons_self
    have hy : y ∈ x :: l := p.mem_iff.mpr List.mem_cons_self
    have e1 : TS.code B x ≤ TS.code B y := by
      rcases List.mem_cons.mp hy with e | h
      · rw [e]
        exact Int.le_refl _
      · exact a'.1 y h
    have e2 : TS.code B y ≤ TS.code B x := by
      rcases List.mem_cons.mp hx with e | h
      · rw [e]
        exact Int.le_refl _
      · exact b'.1 x h
    have e : x = y := code_inj (hb x hx).1 (hb y List.mem_cons_self).1 (hb x hx).2 (hb y List.mem_cons_self).2 (Int.le_antisymm e1 e2)
    subst e
    rw [sorted_uniq (List.Perm.cons_inv p) (fun r hr => hb r (List.mem_cons_of_mem _ hr)) a'.2 b'.2]
end My

/-! ### the mathematics of reach -/
namespace Rch
def ins (x : Int) : List Int → List Int
  | [] => [x]
  | y :: r => if x ≤ y then x :: y :: r else y :: ins x r
def isort : List Int → List Int
  | [] => []
  | x :: r => ins x (isort r)
theorem ins_perm (x : Int) : ∀ l : List Int, (ins x l).Perm (x :: l)
  | [] => .refl _
  | y :: r => by
    unfold ins
    split
    · exact .refl _
    · exact ((ins_perm x r).cons y).trans (.swap x y r)
theorem isort_perm : ∀ l : List Int, (isort l).Perm l
  | [] => .refl _
  | x :: r => (ins_perm x (isort r)).trans ((isort_perm r).cons x)
theorem ins_sorted (x : Int) : ∀ l : List Int, l.Pairwise (· ≤ ·) → (ins x l).Pairwise (· ≤ ·)
  | [], _ => List.pairwise_singleton _ _
  | y :: r, h => by
    unfold ins
    have h' := List.pairwise_cons.mp h
    split
    · next hx =>
      refine List.pairwise_cons.mpr ⟨fun z hz => ?_, h⟩
      rcases List.mem_cons.mp hz with e | hz
      · subst e
        exact hx
      · exact Int.le_trans hx (h'.1 z hz)
    · next hx =>
      refine List.pairwise_cons.mpr ⟨fun z hz => ?_, ins_sorted x r h'.2⟩
      rcases List.mem_cons.mp ((ins_perm x r).mem_iff.mp hz) with e | hz
      · subst e
        omega
      · exact h'.1 z hz
theorem isort_sorted : ∀ l : List Int, (isort l).Pairwise (· ≤ ·)
  | [] => .nil
  | x :: r => ins_sorted x _ (isort_sorted r)
theorem uniq : ∀ {l m : List Int}, l.Perm m → l.Pairwise (· ≤ ·) → m.Pairwise (· ≤ ·) → l = m
  | [], m, p, _, _ => (List.nil_perm.mp p).symm
  | x :: l, [], p, _, _ => absurd p.length_eq (by simp)
  | x :: l, y :: m, p, a, b => by
    have a' := List.pairwise_cons.mp a
    have b' := List.pairwise_cons.mp b
    have e : x = y := by
      have h1 : x ∈ y :: m := p.mem_iff.mp List.mem_cons_self
      have h2 : y ∈ x :: l := p.mem_iff.mpr List.mem_cons_self
      rcases List.mem_cons.mp h1 with e | h1
      · exact e
      · rcases List.mem_cons.mp h2 with e | h2
        · exact e.symm
        · exact Int.le_antisymm (a'.1 y h2) (b'.1 x h1)
    subst e
    rw [uniq (List.Perm.cons_inv p) a'.2 b'.2]
theorem isort_of {l m : List Int} (p : m.Perm l) (h : m.Pairwise (· ≤ ·)) : m = isort l := uniq (p.trans (isort_perm l).symm) h (isort_sorted l)
def greedy : Int → List Int → Int
  | T, [] => T
  | T, l :: r => if l > T + 1 then T else greedy (T + l) r
def reachOf (ns : List Int) : Int := greedy 0 (isort ns)
theorem greedy_ge : ∀ (ls : List Int) (T : Int), (∀ x ∈ ls, 0 ≤ x) → T ≤ greedy T ls
  | [], T, _ => Int.le_refl _
  | l :: r, T, h => by
    unfold greedy
    have h0 := h l List.mem_cons_self
    split
    · exact Int.le_refl _
    · have := greedy_ge r (T + l) fun x hx => h x (List.mem_cons_of_mem _ hx)
      omega
theorem greedy_le : ∀ (ls : List Int) (T : Int), (∀ x ∈ ls, 0 ≤ x ∧ x ≤ 40) → greedy T ls ≤ T + 40 * (ls.length : Int)
  | [], T, _ => by
    show T ≤ T + 40 * ((0 : Nat) : Int)
    omega
  | l :: r, T, h => by
    unfold greedy
    have h0 := h l List.mem_cons_self
    rw [List.length_cons]
    split
    · omega
    · have := greedy_le r (T + l) fun x hx => h x (List.mem_cons_of_mem _ hx)
      omega
def Good (ns : List Int) : Prop := 1 ≤ ns.length ∧ ns.length ≤ 8 ∧ ∀ n ∈ ns, 1 ≤ n ∧ n ≤ 40
theorem Good.perm {l m : List Int} (g : Good l) (p : m.Perm l) : Good m := ⟨by rw [p.length_eq]; exact g.1, by rw [p.length_eq]; exact g.2.1, fun n h => g.2.2 n (p.mem_iff.mp h)⟩
theorem isort_congr {l m : List Int} (p : m.Perm l) : isort m = isort l := uniq (((isort_perm m).trans p).trans (isort_perm l).symm) (isort_sorted m) (isort_sorted l)
theorem reach_perm {l m : List Int} (p : m.Perm l) : reachOf m = reachOf l := by
  unfold reachOf
  rw [isort_congr p]
theorem reach_bd {ns : List Int} (g : Good ns) : 0 ≤ reachOf ns ∧ reachOf ns ≤ 320 := by
  have g' := g.perm (isort_perm ns)
  have h1 := greedy_ge (isort ns) 0 fun x hx => by have := g'.2.2 x hx; omega
  have h2 := greedy_le (isort ns) 0 fun x hx => by have := g'.2.2 x hx; omega
  have h3 := g'.2.1
  refine ⟨h1, ?_⟩
  show greedy 0 (isort ns) ≤ 320
  omega
/-- n is a sum of some of ls, and of a number from 0 to T -/
def reps (T : Int) : List Int → Int → Prop
  | [], n => 0 ≤ n ∧ n ≤ T
  | l :: r, n => reps T r n ∨ reps T r (n - l)
theorem reps_perm {T : Int} {l m : List Int} (p : l.Perm m) : ∀ n, reps T l n ↔ reps T m n := by
  induction p with
  | nil => exact fun _ => Iff.rfl
  | cons x _ ih =>
    intro n
    show (reps T _ n ∨ reps T _ (n - x)) ↔ (reps T _ n ∨ reps T _ (n - x))
    rw [ih n, ih (n - x)]
  | swap x y r =>
    intro n
    show ((reps T r n ∨ reps T r (n - x)) ∨ (reps T r (n - y) ∨ reps T r (n - y - x))) ↔ ((reps T r n ∨ reps T r (n - y)) ∨ (reps T r (n - x) ∨ reps T r (n - x - y)))
    rw [show n - y - x = n - x - y by omega]
    constructor
    · rintro ((a | a) | (a | a))
      · exact .inl (.inl a)
      · exact .inr (.inl a)
      · exact .inl (.inr a)
      · exact .inr (.inr a)
    · rintro ((a | a) | (a | a))
      · exact .inl (.inl a)
      · exact .inr (.inl a)
      · exact .inl (.inr a)
      · exact .inr (.inr a)
  | trans _ _ h1 h2 => exact fun n => (h1 n).trans (h2 n)
theorem reps_up {T l : Int} (h0 : 0 ≤ T) (h1 : 1 ≤ l) (h2 : l ≤ T + 1) : ∀ (r : List Int) (n : Int), reps (T + l) r n ↔ reps T (l :: r) n
  | [], n => by
    show (0 ≤ n ∧ n ≤ T + l) ↔ ((0 ≤ n ∧ n ≤ T) ∨ (0 ≤ n - l ∧ n - l ≤ T))
    omega
  | x :: r, n => by
    show (reps (T + l) r n ∨ reps (T + l) r (n - x)) ↔ _
    rw [reps_up h0 h1 h2 r n, reps_up h0 h1 h2 r (n - x)]
    exact (reps_perm (.swap l x r) n)
theorem reps_low {T : Int} : ∀ (ls : List Int) (n : Int), 0 ≤ n → n ≤ T → reps T ls n
  | [], n, a, b => ⟨a, b⟩
  | _ :: r, n, a, b => .inl (reps_low r n a b)
theorem reps_nonneg {T : Int} : ∀ (ls : List Int) (n : Int), (∀ x ∈ ls, 0 ≤ x) → reps T ls n → 0 ≤ n
  | [], n, _, h => h.1
  | l :: r, n, hp, h => by
    have h0 := hp l List.mem_cons_self
    have hr : ∀ x ∈ r, 0 ≤ x := fun x hx => hp x (List.mem_cons_of_mem _ hx)
    rcases h with h | h
    · exact reps_nonneg r n hr h
    · have := reps_nonneg r _ hr h
      omega
theorem reps_not {T : Int} (h0 : 0 ≤ T) : ∀ (ls : List Int) (n : Int), (∀ x ∈ ls, T + 1 < x) → n ≤ T + 1 → reps T ls n → n ≤ T
  | [], n, _, _, h => h.2
  | l :: r, n, hp, hn, h => by
    have hl := hp l List.mem_cons_self
    have hr : ∀ x ∈ r, T + 1 < x := fun x hx => hp x (List.mem_cons_of_mem _ hx)
    rcases h with h | h
    · exact reps_not h0 r n hr hn h
    · have := reps_nonneg r _ (fun x hx => by have := hr x hx; omega) h
      omega
theorem greedy_is : ∀ (ls : List Int) (T : Int), 0 ≤ T → (∀ x ∈ ls, 1 ≤ x) → ls.Pairwise (· ≤ ·) → (∀ n, 0 ≤ n → n ≤ greedy T ls → reps T ls n) ∧ ¬ reps T ls (greedy T ls + 1)
  | [], T, h0, _, _ => ⟨fun n a b => ⟨a, b⟩, fun h => by
    have := h.2
    unfold greedy at this
    omega⟩
  | l :: r, T, h0, hp, hs => by
    have hl := hp l List.mem_cons_self
    have hr : ∀ x ∈ r, 1 ≤ x := fun x hx => hp x (List.mem_cons_of_mem _ hx)
    have hs' := List.pairwise_cons.mp hs
    unfold greedy
    by_cases hc : l > T + 1
    · rw [if_pos hc]
      refine ⟨fun n a b => reps_low _ n a b, fun h => ?_⟩
      have := reps_not h0 (l :: r) (T + 1) (fun x hx => by
        rcases List.mem_cons.mp hx with e | hx
        · omega
        · have := hs'.1 x hx
          omega) (Int.le_refl _) h
      omega
    · rw [if_neg hc]
      have ih := greedy_is r (T + l) (by omega) hr hs'.2
      have up := reps_up h0 hl (by omega : l ≤ T + 1) r
      exact ⟨fun n a b => (up n).mp (ih.1 n a b), fun h => ih.2 ((up _).mpr h)⟩
theorem reach_is {ns : List Int} (g : Good ns) : (∀ n, 0 ≤ n → n ≤ reachOf ns → reps 0 ns n) ∧ ¬ reps 0 ns (reachOf ns + 1) := by
  have g' := g.perm (isort_perm ns)
  have k := greedy_is (isort ns) 0 (Int.le_refl _) (fun x hx => (g'.2.2 x hx).1) (isort_sorted ns)
  exact ⟨fun n a b => (reps_perm (isort_perm ns) n).mp (k.1 n a b), fun h => k.2 ((reps_perm (isort_perm ns) _).mpr h)⟩
/-! ### sums as bits -/
def sumsF (S : Nat) : List Int → Nat
  | [] => S
  | l :: r => sumsF (S ||| S * 2 ^ l.toNat) r
theorem bits_step {S : Nat} {ls : List Int} {l : Int} (hl : 0 ≤ l) (hp : ∀ x ∈ ls, 0 ≤ x) (h : ∀ n : Nat, S.testBit n = true ↔ reps 0 ls (n : Int)) (n : Nat) : (S ||| S * 2 ^ l.toNat).testBit n = true ↔ reps 0 (l :: ls) (n : Int) := by
  rw [← Nat.shiftLeft_eq, Nat.testBit_or, Nat.testBit_shiftLeft, Bool.or_eq_true, Bool.and_eq_true, decide_eq_true_eq, h n, h (n - l.toNat)]
  show _ ↔ (reps 0 ls (n : Int) ∨ reps 0 ls ((n : Int) - l))
  constructor
  · rintro (a | ⟨a, b⟩)
    · exact .inl a
    · refine .inr ?_
      rw [show (n : Int) - l = ((n - l.toNat : Nat) : Int) by omega]
      exact b
  · rintro (a | a)
    · exact .inl a
    · have := reps_nonneg ls _ hp a
      refine .inr ⟨by omega, ?_⟩
      rw [show ((n - l.toNat : Nat) : Int) = (n : Int) - l by omega]
      exact a
theorem bits_all : ∀ (ls acc : List Int) (S : Nat), (∀ x ∈ ls, 0 ≤ x) → (∀ x ∈ acc, 0 ≤ x) → (∀ n : Nat, S.testBit n = true ↔ reps 0 acc (n : Int)) → ∀ n : Nat, (sumsF S ls).testBit n = true ↔ reps 0 (ls.reverse ++ acc) (n : Int)
  | [], acc, S, _, _, h => h
  | l :: r, acc, S, hl, ha, h => by
    intro n
    rw [List.reverse_cons, List.append_assoc]
    exact bits_all r (l :: acc) _ (fun x hx => hl x (List.mem_cons_of_mem _ hx)) (fun x hx => by
      rcases List.mem_cons.mp hx with e | hx
      · subst e
        exact hl x List.mem_cons_self
      · exact ha x hx) (bits_step (hl l List.mem_cons_self) ha h) n
theorem bit_one (n : Nat) : (1 : Nat).testBit n = true ↔ reps 0 [] (n : Int) := by
  show _ ↔ (0 ≤ (n : Int) ∧ (n : Int) ≤ 0)
  cases n with
  | zero => exact ⟨fun _ => ⟨by decide, by decide⟩, fun _ => by decide⟩
  | succ n =>
    rw [Nat.testBit_succ, show 1 / 2 = 0 from rfl, Nat.zero_testBit]
    exact ⟨fun h => absurd h Bool.false_ne_true, fun h => by omega⟩
theorem sums_is {ns : List Int} (g : Good ns) (n : Nat) : (sumsF 1 ns).testBit n = true ↔ reps 0 ns (n : Int) := by
  rw [bits_all ns [] 1 (fun x hx => by have := g.2.2 x hx; omega) (fun _ h => by simp at h) bit_one n, List.append_nil]
  exact reps_perm (List.reverse_perm ns) n
/-- sums // (1 << n) % 2 -/
theorem bit_of (S n : Nat) : (((S : Nat) : Int) / (1 * 2 ^ ((n : Int).toNat))).fmod 2 = if S.testBit n then 1 else 0 := by
  rw [Int.toNat_natCast, Int.one_mul, Int.fmod_eq_emod_of_nonneg _ (by decide), show ((2 : Int) ^ n) = ((2 ^ n : Nat) : Int) by simp, ← Int.natCast_ediv, show ((2 : Int)) = ((2 : Nat) : Int) from rfl, ← Int.natCast_emod, Nat.testBit_eq_decide_div_mod_eq]
  rcases Nat.mod_two_eq_zero_or_one (S / 2 ^ n) with e | e
  · rw [e]; rfl
  · rw [e]; rfl
end Rch

/-! ### the mathematics of tables -/
namespace Tb
def len1 (ls : List Int) (k : Int) : Int := ls.getD k.toNat 0
def rsum (ls : List Int) (r : List Int) : Int := (r.map (len1 ls)).sum
def InR (ls r : List Int) : Prop := ∀ k ∈ r, 0 ≤ k ∧ k < (ls.length : Int)
def Right (ls : List Int) (rs : List (List Int)) : Prop := Rch.Good ls ∧ 1 ≤ rs.length ∧ rs.length ≤ 60 ∧ ∀ (i : Nat) (r : List Int), rs[i]? = some r → InR ls r ∧ r.length ≤ 60 ∧ rsum ls r = (i : Int) + 1
theorem len_at {ls : List Int} {k : Int} (h0 : 0 ≤ k) (h1 : k < (ls.length : Int)) : ls[k.toNat]? = some (len1 ls k) := by
  have h : k.toNat < ls.length := by omega
  unfold len1
  rw [List.getD_eq_getElem?_getD, List.getElem?_eq_getElem h]
  rfl
theorem len_pos {ls : List Int} (g : Rch.Good ls) {k : Int} (h0 : 0 ≤ k) (h1 : k < (ls.length : Int)) : 1 ≤ len1 ls k ∧ len1 ls k ≤ 40 := g.2.2 _ (List.mem_of_getElem? (len_at h0 h1))
theorem rsum_cons (ls : List Int) (k : Int) (r : List Int) : rsum ls (k :: r) = len1 ls k + rsum ls r := by
  unfold rsum
  rw [List.map_cons, List.sum_cons]
theorem rsum_snoc (ls : List Int) (r : List Int) (k : Int) : rsum ls (r ++ [k]) = rsum ls r + len1 ls k := by
  unfold rsum
  rw [List.map_append, List.sum_append]
  simp
theorem rsum_len {ls : List Int} (g : Rch.Good ls) : ∀ {r : List Int}, InR ls r → (r.length : Int) ≤ rsum ls r
  | [], _ => by simp [rsum]
  | k :: r, h => by
    have h1 := h k List.mem_cons_self
    have := (len_pos g h1.1 h1.2).1
    have ih := rsum_len g (r := r) fun x hx => h x (List.mem_cons_of_mem _ hx)
    rw [rsum_cons, List.length_cons]
    omega
/-- when gone, into which loop -/
def go (ls : List Int) : Int → List Int → List (Int × Int)
  | _, [] => []
  | g, k :: r => (g, k) :: go ls (g + len1 ls k) r
theorem go_len (ls : List Int) : ∀ (r : List Int) (g : Int), (go ls g r).length = r.length
  | [], _ => rfl
  | k :: r, g => by
    show (go ls (g + len1 ls k) r).length + 1 = r.length + 1
    rw [go_len ls r]
theorem go_take (ls : List Int) : ∀ (r : List Int) (g : Int) (j : Nat), (go ls g r)[j]? = (r[j]?).map fun k => (g + rsum ls (r.take j), k)
  | [], g, j => by simp [go]
  | k :: r, g, 0 => by
    show some (g, k) = some (g + rsum ls [], k)
    simp [rsum]
  | k :: r, g, j + 1 => by
    show (go ls (g + len1 ls k) r)[j]? = (r[j]?).map fun x => (g + rsum ls (k :: r.take j), x)
    rw [go_take ls r, rsum_cons]
    congr 1
    funext x
    rw [Int.add_assoc]
theorem go_snd (ls : List Int) : ∀ (r : List Int) (g : Int), (go ls g r).map (·.2) = r
  | [], _ => rfl
  | k :: r, g => by
    show k :: (go ls (g + len1 ls k) r).map (·.2) = k :: r
    rw [go_snd ls r]
theorem go_rng {ls : List Int} (G : Rch.Good ls) : ∀ (r : List Int) (g : Int), InR ls r → ∀ p ∈ go ls g r, g ≤ p.1 ∧ p.1 < g + rsum ls r ∧ 0 ≤ p.2 ∧ p.2 < (ls.length : Int)
  | [], _, _, p, hp => absurd hp (by simp [go])
  | k :: r, g, h, p, hp => by
    have hk := h k List.mem_cons_self
    have l1 := (len_pos G hk.1 hk.2).1
    have hr : InR ls r := fun x hx => h x (List.mem_cons_of_mem _ hx)
    have n0 := rsum_len G hr
    rw [rsum_cons]
    rcases List.mem_cons.mp hp with e | hp
    · rw [e]
      show g ≤ g ∧ g < _ ∧ 0 ≤ k ∧ k < _
      omega
    · have := go_rng G r _ hr p hp
      omega
theorem go_up {ls : List Int} (G : Rch.Good ls) : ∀ (r : List Int) (g : Int), InR ls r → (go ls g r).Pairwise fun p q => p.1 < q.1
  | [], _, _ => .nil
  | k :: r, g, h => by
    have hk := h k List.mem_cons_self
    have l1 := (len_pos G hk.1 hk.2).1
    have hr : InR ls r := fun x hx => h x (List.mem_cons_of_mem _ hx)
    refine List.pairwise_cons.mpr ⟨fun q hq => ?_, go_up G r _ hr⟩
    have := go_rng G r _ hr q hq
    show g < q.1
    omega
/-- loop, gone, left -/
def ent (w : Int) (p : Int × Int) : List Int := [p.2, p.1, w - p.1]
def ents (ls : List Int) (w : Int) (r : List Int) : List (List Int) := (go ls 0 r).map (ent w)
def all (ls : List Int) (rs : List (List Int)) : Nat → List (List Int)
  | 0 => []
  | i + 1 => all ls rs i ++ ents ls ((i : Int) + 1) (rs.getD i [])
theorem ents_len (ls : List Int) (w : Int) (r : List Int) : (ents ls w r).length = r.length := by
  unfold ents
  rw [List.length_map, go_len]
theorem getD_row {rs : List (List Int)} {i : Nat} {r : List Int} (h : rs[i]? = some r) : rs.getD i [] = r := by
  rw [List.getD_eq_getElem?_getD, h]
  rfl
theorem all_wait {ls : List Int} {rs : List (List Int)} : ∀ (i : Nat) (e : List Int), e ∈ all ls rs i → ∃ k g w : Int, e = [k, g, w - g] ∧ 1 ≤ w ∧ w ≤ i
  | 0, e, h => absurd h (by simp [all])
  | i + 1, e, h => by
    rcases List.mem_append.mp h with h | h
    · obtain ⟨k, g, w, e1, h1, h2⟩ := all_wait i e h
      exact ⟨k, g, w, e1, h1, by omega⟩
    · obtain ⟨p, _, rfl⟩ := List.mem_map.mp h
      exact ⟨p.2, p.1, (i : Int) + 1, rfl, by omega, by omega⟩
/-- each new one is new -/
theorem new_one {ls : List Int} {rs : List (List Int)} {r : List Int} (G : Rch.Good ls) (hr : InR ls r) {i j : Nat} {p : Int × Int} (hj : (go ls 0 r)[j]? = some p) : ent ((i : Int) + 1) p ∉ all ls rs i ++ ((go ls 0 r).take j).map (ent ((i : Int) + 1)) := by
  intro h
  rcases List.mem_append.mp h with h | h
  · obtain ⟨k, g, w, e, h1, h2⟩ := all_wait i _ h
    unfold ent at e
    have e1 : p.1 = g := by
      have := congrArg (fun z : List Int => z.getD 1 0) e
      exact this
    have e2 : (i : Int) + 1 - p.1 = w - g := by
      have := congrArg (fun z : List Int => z.getD 2 0) e
      exact this
    omega
  · obtain ⟨q, hq, e⟩ := List.mem_map.mp h
    have e1 : q.1 = p.1 := by
      have := congrArg (fun z : List Int => z.getD 1 0) e
      exact this
    obtain ⟨m, hm⟩ := List.mem_iff_getElem?.mp hq
    rw [List.getElem?_take] at hm
    split at hm
    · next hlt =>
      have pw := List.pairwise_iff_getElem.mp (go_up G r 0 hr)
      obtain ⟨hm', em⟩ := List.getElem?_eq_some_iff.mp hm
      obtain ⟨hj', ej⟩ := List.getElem?_eq_some_iff.mp hj
      have := pw m j hm' hj' hlt
      rw [em, ej] at this
      omega
    · cases hm
theorem ents_bd {ls : List Int} {r : List Int} {w : Int} (G : Rch.Good ls) (hr : InR ls r) (hw : rsum ls r = w) (h60 : w ≤ 60) : ∀ e ∈ ents ls w r, e.length = 3 ∧ TS.Bd 1000 e := by
  intro e he
  obtain ⟨p, hp, rfl⟩ := List.mem_map.mp he
  have h := go_rng G r 0 hr p hp
  have g1 := G.2.1
  refine ⟨rfl, fun m hm => ?_⟩
  unfold ent at hm
  simp only [List.mem_cons, List.not_mem_nil, or_false] at hm
  rcases hm with e | e | e <;> subst e <;> omega
theorem all_bd {ls : List Int} {rs : List (List Int)} (R : Right ls rs) : ∀ i, i ≤ rs.length → ∀ e ∈ all ls rs i, e.length = 3 ∧ TS.Bd 1000 e
  | 0, _, e, he => absurd he (by simp [all])
  | i + 1, hi, e, he => by
    rcases List.mem_append.mp he with he | he
    · exact all_bd R i (by omega) e he
    · have hr : rs[i]? = some rs[i] := List.getElem?_eq_getElem (by omega)
      rw [getD_row hr] at he
      obtain ⟨a, b, c⟩ := R.2.2.2 i _ hr
      have := R.2.2.1
      exact ents_bd R.1 a c (by omega) e he
theorem all_len {ls : List Int} {rs : List (List Int)} (R : Right ls rs) : ∀ i, i ≤ rs.length → (all ls rs i).length ≤ 60 * i
  | 0, _ => Nat.le_refl _
  | i + 1, hi => by
    have ih := all_len R i (by omega)
    have hr : rs[i]? = some rs[i] := List.getElem?_eq_getElem (by omega)
    obtain ⟨a, b, c⟩ := R.2.2.2 i _ hr
    show (all ls rs i ++ ents ls ((i : Int) + 1) (rs.getD i [])).length ≤ _
    rw [List.length_append, ents_len, getD_row hr]
    omega
/-- the entries of one wait, when gone ahead -/
def ofWait (w : Int) (e : List Int) : Bool := (e.getD 1 0 + e.getD 2 0) == w
def swap (e : List Int) : List Int := [e.getD 1 0, e.getD 0 0]
def sel (w : Int) (es : List (List Int)) : List (List Int) := (es.filter (ofWait w)).map swap
theorem sel_append (w : Int) (a b : List (List Int)) : sel w (a ++ b) = sel w a ++ sel w b := by
  unfold sel
  rw [List.filter_append, List.map_append]
def gl (ls r : List Int) : List (List Int) := (go ls 0 r).map fun p => [p.1, p.2]
theorem sel_yes (ls : List Int) (w : Int) (r : List Int) : sel w (ents ls w r) = gl ls r := by
  unfold sel ents gl
  rw [List.filter_eq_self.mpr, List.map_map]
  · rfl
  · intro e he
    obtain ⟨p, _, rfl⟩ := List.mem_map.mp he
    show ((p.1 + (w - p.1)) == w) = true
    rw [beq_iff_eq]
    omega
theorem sel_no {ls : List Int} {w v : Int} (r : List Int) (h : v ≠ w) : sel w (ents ls v r) = [] := by
  unfold sel ents
  rw [List.filter_eq_nil_iff.mpr, List.map_nil]
  intro e he
  obtain ⟨p, _, rfl⟩ := List.mem_map.mp he
  show ¬ ((p.1 + (v - p.1)) == w) = true
  rw [beq_iff_eq]
  omega
theorem sel_all {ls : List Int} {rs : List (List Int)} (m : Nat) : ∀ i, sel ((m : Int) + 1) (all ls rs i) = if m < i then gl ls (rs.getD m []) else []
  | 0 => by
    rw [if_neg (by omega)]
    rfl
  | i + 1 => by
    show sel _ (all ls rs i ++ ents ls ((i : Int) + 1) (rs.getD i [])) = _
    rw [sel_append, sel_all m i]
    by_cases h : m < i
    · rw [if_pos h, if_pos (by omega), sel_no _ (by omega), List.append_nil]
    · rw [if_neg h, List.nil_append]
      by_cases h2 : m = i
      · subst h2
        rw [if_pos (by omega), sel_yes]
      · rw [if_neg (by omega), sel_no _ (by omega)]
theorem gl_bd {ls : List Int} {r : List Int} (G : Rch.Good ls) (hr : InR ls r) (h60 : rsum ls r ≤ 60) : ∀ e ∈ gl ls r, e.length = 2 ∧ TS.Bd 1000 e := by
  intro e he
  obtain ⟨p, hp, rfl⟩ := List.mem_map.mp he
  have h := go_rng G r 0 hr p hp
  have g1 := G.2.1
  refine ⟨rfl, fun m hm => ?_⟩
  simp only [List.mem_cons, List.not_mem_nil, or_false] at hm
  rcases hm with e | e <;> subst e <;> omega
theorem gl_sorted {ls : List Int} {r : List Int} (G : Rch.Good ls) (hr : InR ls r) (h60 : rsum ls r ≤ 60) : (gl ls r).Pairwise fun x y => TS.code 1000 x ≤ TS.code 1000 y := by
  unfold gl
  rw [List.pairwise_map]
  refine (List.pairwise_iff_getElem.mpr fun i j hi hj hij => ?_)
  have pw := List.pairwise_iff_getElem.mp (go_up G r 0 hr) i j hi hj hij
  have b1 := go_rng G r 0 hr _ (List.getElem_mem hi)
  have b2 := go_rng G r 0 hr _ (List.getElem_mem hj)
  have g1 := G.2.1
  show (go ls 0 r)[i].1 * 1000 ^ 1 + ((go ls 0 r)[i].2 * 1000 ^ 0 + 0) ≤ (go ls 0 r)[j].1 * 1000 ^ 1 + ((go ls 0 r)[j].2 * 1000 ^ 0 + 0)
  omega
theorem sel_perm {w : Int} {a b : List (List Int)} (p : a.Perm b) : (sel w a).Perm (sel w b) := (p.filter _).map _
theorem gl_snd (ls r : List Int) : (gl ls r).map (fun e => e.getD 1 0) = r := by
  unfold gl
  rw [List.map_map]
  exact go_snd ls r 0
end Tb

/-! ### == and != by a def of one's own, against anything -/
namespace RE8
open PySem PySem.Spec PySem.W PyProof.Rows L2 Builtin
section
variable {prog : Program} {w : World} {A : Around} {E : Value → Shared → Prop} {s : Shared} {K : Frag} {x C L f : Addr} {h₀ : Heap} {m : Str → Option Value} {ox : Obj} {od : Option Obj} {b tb : Value}
theorem ifBoundB {M : Model} {name : Str} {id : String} {args : List Value} {Q : Option Value → Shared → Prop} (X : K.In s.heap) (I : InstAt s.heap x ox C od) (hs : findIn K (.ref C) name = some (some (.builtin id)))
    (hb : ∀ self, bindSpecial (.builtin id) self = pure (.builtin id, [self])) (h : wpAny M A (call (.builtin id) (.ref x :: args)) (fun v => Q (some v)) E s) : wpAny M A (callSpecialIfBound? (.ref x) name args) Q E s := by
  simp only [callSpecialIfBound?, bindSpecialIfBound?]
  refine wpAny_holding (wpAny_bind (wpAny_bind (wpAny_bind (I.type.here ((looks_findIn X hs).here ?_)))))
  simp only [hb]
  refine wpAny_bind (wpAny_askSetting (wpAny_ite ?_))
  have fin : wpAny M A (call (.builtin id) ([.ref x] ++ args) >>= fun v => pure (some v)) Q E s := wpAny_bind (wpAny_mono h (fun v s' h' => wpAny_pure h') fun _ _ h' => h')
  split
  · exact wpAny_bind (wpAny_pure (wpAny_pure fin))
  · exact wpAny_tryCatch (wpAny_bind (wpAny_pure (wpAny_pure fin)))
theorem ne_body (X : K.In s.heap) (I : InstAt s.heap x ox C od) (hu : A.units < cLine) (hs : findIn K (.ref C) "__eq__" = some (some (.ref f))) (hf : isFn K (.ref f) = true) {Q : Fin → Shared → Prop}
    (hcall : wpAny (model prog w) A (call (.ref f) [.ref x, b]) (fun v s' => ∃ r, v = .bool r ∧ Q (.done (.ret (.bool (!r)))) s') E s) : wpAny (model prog w) A (Builtin.«object.__ne__» ⟨[.ref x, b], []⟩) Q E s := by
  unfold Builtin.«object.__ne__»
  repeat (first
    | with_reducible refine wpAny_cRoomFor hu ?_
    | (refine wpAny_bind (m := callSpecialIfBound? (.ref x) (Str.ofString "__eq__") [b])
        (ifBound_K X I hs hf (wpAny_mono hcall (fun r s' hr => by
          obtain ⟨b, rfl, hq⟩ := hr
          repeat (first | exact hq | exact wpAny_pure hq | exact wpAny_truthy_bool hq | (refine wpAny_bind (m := truthy (.bool _)) (wpAny_truthy_bool ?_)) | wp_step)) fun _ _ e => e)))
    | wp_step)
theorem cmp_ne {Q : Value → Shared → Prop} (hu : A.units + 1 < cLine) (F : Fr h₀ L s.heap m) (X₀ : K.In h₀) (I : InstAt s.heap x ox C od) (hb : Looks (model prog w) s.heap (typeOf b) tb) (hn : notFirst K C tb = true)
    (hs : findIn K (.ref C) "__eq__" = some (some (.ref f))) (hne : findIn K (.ref C) "__ne__" = some (some (.builtin "object.__ne__"))) (hm : mroIn K C (.type "object") = some true) (hf : isFn K (.ref f) = true)
    (h : wpAny (model prog w) A.in1 (call (.ref f) [.ref x, b]) (fun v s' => ∃ r, v = .bool r ∧ Q (.bool (!r)) s') E s) : wpAny (model prog w) A (richCompare .NotEq (.ref x) b) Q E s := by
  have X := X₀.keeps F.keep
  have t2 : Looks (model prog w) s.heap (isInstance (.ref x) (.type "object")) true := I.type.andThen (looks_mroIn X hm)
  have one : wpAny (model prog w) A (tryCompare (.ref x) "__ne__" b) (fun r s' => ∃ v, r = some v ∧ Q v s') E s := by
    unfold tryCompare
    refine wpAny_bind (ifBoundB X I hne (fun self => PySem.F.cmp_object.ne.bind self) (wpAny_call (codeAny_call_builtin PySem.F.cmp_object.ne.plain PySem.F.cmpEntry_ne
      (check_slot PySem.F.cmpKind_ne PySem.F.cmpSplit_ne t2 (PySem.F.cmpArgs_ne _ _) (ne_body (A := A.in1) X I (by exact hu) hs hf (wpAny_mono h (fun v s' hv => ?_) fun _ _ e => e))))))
    obtain ⟨r, rfl, hq⟩ := hv
    exact ⟨r, rfl, wpAny_pure ⟨_, rfl, hq⟩⟩
  unfold richCompare
  simp only [oneThing_ref]
  refine wpAny_holding (wpAny_bind (wpAny_cRoomFor (Nat.lt_of_succ_lt hu) ?_))
  refine wpAny_bind (I.type.here (wpAny_bind (hb.here ?_)))
  split
  · rename_i q
    have e : subIn K tb (.ref C) = some false := by
      rcases Bool.or_eq_true_iff.mp hn with e | e
      · rw [beq_iff_eq.mp e] at q; simp at q
      · exact beq_iff_eq.mp e
    refine wpAny_bind ((looks_subIn X e).here ?_)
    simp only [Bool.false_eq_true, if_false]
    refine wpAny_bind (wpAny_mono one (fun r s' z => ?_) fun _ _ e => e)
    obtain ⟨v, rfl, hq⟩ := z
    exact wpAny_pure hq
  · refine wpAny_bind (wpAny_pure ?_)
    simp only [Bool.false_eq_true, if_false]
    refine wpAny_bind (wpAny_mono one (fun r s' z => ?_) fun _ _ e => e)
    obtain ⟨v, rfl, hq⟩ := z
    exact wpAny_pure hq
end
section
variable {X : Cx} {C f : Addr} {fd : FuncData} {ps : List Str} {sp : Sp} {n : Nat}
/-- a == y, a an instance whose class tells == by a def of its own, y anything -/
def rEqO (K : PySem.W.Frag) (C : Addr) (sp : Sp) : R2 := fun x y H Q => ∃ a dx fs t, x = V.ref a ∧ H a = some (.ins C dx fs) ∧ TyX K H y t ∧ PySem.W.notFirst K C t = true ∧ sp [.ref a, y] H (fun v H' => ∃ b, v = .bl b ∧ Q (.bl b) H') (fun _ _ _ => False)
def rNeO (K : PySem.W.Frag) (C : Addr) (sp : Sp) : R2 := fun x y H Q => ∃ a dx fs t, x = V.ref a ∧ H a = some (.ins C dx fs) ∧ TyX K H y t ∧ PySem.W.notFirst K C t = true ∧ sp [.ref a, y] H (fun v H' => ∃ b, v = .bl b ∧ Q (.bl (!b)) H') (fun _ _ _ => False)
theorem call_own {A : Around} {pins : List (Addr × Obj)} {s : Shared} {σ : L2.St} {H : Hp} {a : Addr} {y : V} {u : Value} {Q : VK} (F : FnOk X.prog X.w X.K X.mg X.base CX0 n f fd ps sp) (hb : Binds X.K fd ps []) (sb : Sub X n A) (I : Inv X pins σ H s) (ry : RelV y u)
    (hsp : sp [.ref a, y] H Q (fun _ _ _ => False)) : wpAny (model X.prog X.w) A (call (.ref f) [.ref a, u]) (EP X pins σ Q) X.xe s := by
  have e0 : Env0 X.prog X.w X.K X.mg X.base A X.stack s H := by
    have e := I.env0
    exact ⟨by rw [sb.fr]; exact e.frames, e.mod, e.bs, e.bsz, e.funs, e.frf, e.hok, e.bare⟩
  have hl := F.len _ _ _ _ hsp
  have r2 : Vals [V.ref a, y] [Value.ref a, u] := .cons rfl (.cons ry .nil)
  refine wpAny_call (codeAny_mono (F.run A X.stack s H ⟨[.ref a, u], []⟩ [.ref a, u] [.ref a, y] _ _ sb.room e0 (by
    have := hb s [.ref a, u] I.kIn (by simpa using hl)
    simpa using this) r2 hsp) fun r s' hq => ?_)
  cases r with
  | error e => exact pass0 pins σ H s e s' I hq
  | ok fl =>
    cases fl with
    | ret w =>
      obtain ⟨z, H', I', rz, ez⟩ := I.after hq
      exact ⟨z, H', I', rz, ez⟩
    | next => exact False.elim hq
    | brk => exact False.elim hq
    | cont => exact False.elim hq
theorem op_eqO (F : FnOk X.prog X.w X.K X.mg X.base CX0 n f fd ps sp) (hs : PySem.W.findIn X.K (.ref C) "__eq__" = some (some (.ref f))) (hf : PySem.W.isFn X.K (.ref f) = true) (hb : Binds X.K fd ps []) (hr : Room n X.A) : OpR X (compareOp .Eq) (rEqO X.K C sp) := by
  intro pins s σ H x y v u Q I rx ry h
  obtain ⟨a, dx, fs, t, rfl, ea, ty, nf, hsp⟩ := h
  cases rx
  obtain ⟨mA, J, _⟩ := ins_get I.hok ea
  obtain ⟨od, J, _⟩ := J.look
  obtain ⟨P, kx, hp, _⟩ := kit_of I ry ty
  obtain ⟨m, hF⟩ := I.fr
  show wpAny (model X.prog X.w) X.A (richCompare .Eq (.ref a) u) (EP X pins σ Q) X.xe s
  refine PySem.W.cmp_K (op := .Eq) (tb := t) hr.units0 hF I.ok.mod.kin J (kx.ty _ _ I.kIn hp) nf hs hf ?_
  refine wpAny_mono (call_own F hb ⟨hr, rfl⟩ I ry hsp) (fun r s' z => ?_) fun _ _ x => x
  obtain ⟨z, H', I', rz, b, rfl, q⟩ := z
  cases rz
  exact ⟨.bl b, H', I', rfl, q⟩
theorem op_neO (F : FnOk X.prog X.w X.K X.mg X.base CX0 n f fd ps sp) (hs : PySem.W.findIn X.K (.ref C) "__eq__" = some (some (.ref f))) (hne : PySem.W.findIn X.K (.ref C) "__ne__" = some (some (.builtin "object.__ne__"))) (hm : PySem.W.mroIn X.K C (.type "object") = some true) (hf : PySem.W.isFn X.K (.ref f) = true) (hb : Binds X.K fd ps []) (hr : Room (n + 1) X.A) : OpR X (compareOp .NotEq) (rNeO X.K C sp) := by
  intro pins s σ H x y v u Q I rx ry h
  obtain ⟨a, dx, fs, t, rfl, ea, ty, nf, hsp⟩ := h
  cases rx
  obtain ⟨mA, J, _⟩ := ins_get I.hok ea
  obtain ⟨od, J, _⟩ := J.look
  obtain ⟨P, kx, hp, _⟩ := kit_of I ry ty
  obtain ⟨m, hF⟩ := I.fr
  show wpAny (model X.prog X.w) X.A (richCompare .NotEq (.ref a) u) (EP X pins σ Q) X.xe s
  have sb : Sub X (n + 1) X.A := ⟨hr, rfl⟩
  refine cmp_ne (tb := t) (by have := sb.in1.room.units0; exact this) hF I.ok.mod.kin J (kx.ty _ _ I.kIn hp) nf hs hne hm hf ?_
  refine wpAny_mono (call_own F hb sb.in1 I ry hsp) (fun r s' z => ?_) fun _ _ x => x
  obtain ⟨z, H', I', rz, b, rfl, q⟩ := z
  cases rz
  exact ⟨b, rfl, .bl (!b), H', I', rfl, q⟩
end
/-- what is asked of a class whose things are looked at -/
structure InsC (K : PySem.W.Frag) (C : Addr) : Prop where
  ha : PySem.W.findIn K (.ref C) "__class__" = some (some (.builtin "object.__class__"))
  hn : PySem.W.specialIn K (.builtin "object.__class__") "__get__" = some (some (.builtin "getset_descriptor.__get__"))
  ht : PySem.W.takesIn K (.builtin "object.__class__") = some true
  hm : PySem.W.mroIn K C (.type "object") = some true
  ne : PySem.W.findIn K (.ref C) "__ne__" = some (some (.builtin "object.__ne__"))
  ic : PySem.W.isClsIn K C = true
  ty : PySem.W.typeIn K (.ref C) = some (.type "type")
theorem InsC.self {K : PySem.W.Frag} {C : Addr} (_ : InsC K C) : PySem.W.kitOne K (.ref C) (.ref C) = some true := by
  unfold PySem.W.kitOne
  rw [if_pos (by simp)]
theorem first_self (K : PySem.W.Frag) (C : Addr) : PySem.W.notFirst K C (.ref C) = true := by
  unfold PySem.W.notFirst
  simp
/-- the kinds of things that are no instance of an own class -/
def Plain (n : String) : Prop := ∃ l, PySem.fastBuiltinMro n = some l ∧ ∀ C : Addr, l.contains (Value.ref C) = false
theorem Plain.sub {n : String} (p : Plain n) (K : PySem.W.Frag) (C : Addr) : PySem.W.subIn K (.type n) (.ref C) = some false := by
  obtain ⟨l, e, h⟩ := p
  show (PySem.fastBuiltinMro n).map (·.contains (Value.ref C)) = some false
  rw [e]
  exact congrArg some (h C)
theorem Plain.first {n : String} (p : Plain n) (K : PySem.W.Frag) (C : Addr) : PySem.W.notFirst K C (.type n) = true := by
  unfold PySem.W.notFirst
  rw [p.sub K C]
  simp
theorem Plain.kit {n : String} (p : Plain n) {K : PySem.W.Frag} {C : Addr} (i : InsC K C) : PySem.W.kitOne K (.type n) (.ref C) = some false := by
  unfold PySem.W.kitOne
  rw [if_neg (by simp)]
  have h2' : (PySem.W.clsIn K C).isSome = true := i.ic
  show (if ((PySem.W.clsIn K C).isSome && PySem.W.typeIn K (.ref C) == some (.type "type")) = true then PySem.W.subIn K (.type n) (.ref C) else none) = some false
  rw [h2', i.ty, if_pos (by rfl)]
  exact p.sub K C
theorem plain_non : Plain "NoneType" := ⟨[.type "NoneType", .type "object"], by kernel_rfl, fun _ => by simp⟩
theorem plain_int : Plain "int" := ⟨[.type "int", .type "object"], by kernel_rfl, fun _ => by simp⟩
theorem plain_str : Plain "str" := ⟨[.type "str", .type "object"], by kernel_rfl, fun _ => by simp⟩
theorem plain_tup : Plain "tuple" := ⟨[.type "tuple", .type "object"], by kernel_rfl, fun _ => by simp⟩
theorem plain_lst : Plain "list" := ⟨[.type "list", .type "object"], by kernel_rfl, fun _ => by simp⟩
theorem InsC.tyOf {K : PySem.W.Frag} {C a dx : Addr} {fs : List (Str × V)} {H : Hp} (i : InsC K C) (cl : Cls K C) (e : H a = some (.ins C dx fs)) : TyX K H (.ref a) (.ref C) := .base (.ins e cl i.ha i.hn i.ht i.hm)
end RE8

/-! ### the mathematics of the line -/
namespace Ln
/-- tick, turn, wait -/
abbrev Let := Int × Int × Option Int
def step (b τ u : Int) (s : List Let × Int) : List Let × Int := if s.2 > b then (s.1 ++ [(τ, u, none)], s.2) else (s.1 ++ [(τ, u, some s.2)], s.2 + 1)
def turns (b τ : Int) : Nat → List Let × Int → List Let × Int
  | 0, s => s
  | k + 1, s => step b τ (1 + (k : Int)) (turns b τ k s)
def close (c : Int) : Int := if c > 0 then c - 1 else c
def pre (b : Int) (cs : List Int) : Nat → List Let × Int
  | 0 => ([], 0)
  | i + 1 => ((turns b (i : Int) (cs.getD i 0).toNat (pre b cs i)).1, close (turns b (i : Int) (cs.getD i 0).toNat (pre b cs i)).2)
def letts (b : Int) (cs : List Int) : List Let := (pre b cs cs.length).1
def behind (b : Int) (cs : List Int) : Nat → List Int
  | 0 => []
  | i + 1 => behind b cs i ++ [(pre b cs (i + 1)).2]
theorem step_len (b τ u : Int) (s : List Let × Int) : (step b τ u s).1.length = s.1.length + 1 := by
  unfold step
  split <;> simp
theorem turns_len (b τ : Int) : ∀ (k : Nat) (s : List Let × Int), (turns b τ k s).1.length = s.1.length + k
  | 0, _ => rfl
  | k + 1, s => by
    unfold turns
    rw [step_len, turns_len b τ k s, Nat.add_assoc]
theorem turns_rng {b τ : Int} : ∀ (k : Nat) (s : List Let × Int), 0 ≤ s.2 → s.2 ≤ b + 1 → 0 ≤ (turns b τ k s).2 ∧ (turns b τ k s).2 ≤ b + 1
  | 0, s, h0, h1 => ⟨h0, h1⟩
  | k + 1, s, h0, h1 => by
    have ih := turns_rng (τ := τ) k s h0 h1
    unfold turns step
    split
    · exact ih
    · show 0 ≤ (turns b τ k s).2 + 1 ∧ (turns b τ k s).2 + 1 ≤ b + 1
      omega
theorem close_rng {b c : Int} (hb : 0 ≤ b) (h0 : 0 ≤ c) (h1 : c ≤ b + 1) : 0 ≤ close c ∧ close c ≤ b := by
  unfold close
  split <;> omega
theorem pre_rng {b : Int} (hb : 0 ≤ b) (cs : List Int) : ∀ i, 0 ≤ (pre b cs i).2 ∧ (pre b cs i).2 ≤ b
  | 0 => ⟨Int.le_refl _, hb⟩
  | i + 1 => by
    have ih := pre_rng hb cs i
    have t := turns_rng (b := b) (τ := (i : Int)) (cs.getD i 0).toNat (pre b cs i) ih.1 (by omega)
    unfold pre
    exact close_rng hb t.1 t.2
theorem pre_len {b : Int} {cs : List Int} (hc : ∀ c ∈ cs, c ≤ 4) : ∀ i, (pre b cs i).1.length ≤ 4 * i
  | 0 => Nat.le_refl _
  | i + 1 => by
    have ih := pre_len (b := b) hc i
    unfold pre
    rw [turns_len]
    have : cs.getD i 0 ≤ 4 := by
      rw [List.getD_eq_getElem?_getD]
      cases h : cs[i]? with
      | none => decide
      | some c => exact hc c (List.mem_of_getElem? h)
    omega
theorem behind_len (b : Int) (cs : List Int) : ∀ i, (behind b cs i).length = i
  | 0 => rfl
  | i + 1 => by
    unfold behind
    rw [List.length_append, behind_len b cs i]
    rfl
theorem getD_of {cs : List Int} {i : Nat} {c : Int} (h : cs[i]? = some c) : cs.getD i 0 = c := by
  rw [List.getD_eq_getElem?_getD, h]
  rfl
/-! pairs of who goes out when -/
def one (l : Let) (n : Int) : List (Int × Int) := match l.2.2 with
  | none => []
  | some w => [(l.1 + w, n)]
def outsFrom : Int → List Let → List (Int × Int)
  | _, [] => []
  | n, l :: r => one l n ++ outsFrom (n + 1) r
theorem outs_snoc : ∀ (L : List Let) (n : Int) (l : Let), outsFrom n (L ++ [l]) = outsFrom n L ++ one l (n + (L.length : Int))
  | [], n, l => by
    show one l n ++ [] = [] ++ one l (n + ((0 : Nat) : Int))
    rw [List.append_nil, List.nil_append]
    congr 1
    omega
  | x :: L, n, l => by
    show one x n ++ outsFrom (n + 1) (L ++ [l]) = (one x n ++ outsFrom (n + 1) L) ++ one l _
    rw [outs_snoc L (n + 1) l, List.append_assoc]
    congr 3
    rw [List.length_cons]
    omega
theorem one_len (l : Let) (n : Int) : (one l n).length ≤ 1 := by
  unfold one
  split <;> simp
theorem outs_len : ∀ (L : List Let) (n : Int), (outsFrom n L).length ≤ L.length
  | [], _ => Nat.le_refl _
  | l :: r, n => by
    show (one l n ++ outsFrom (n + 1) r).length ≤ r.length + 1
    have := outs_len r (n + 1)
    have := one_len l n
    rw [List.length_append]
    omega
def qp : Int → List Int → List (Int × Int)
  | _, [] => []
  | τ, n :: r => (τ, n) :: qp (τ + 1) r
theorem qp_snoc : ∀ (q : List Int) (τ n : Int), qp τ (q ++ [n]) = qp τ q ++ [(τ + (q.length : Int), n)]
  | [], τ, n => by
    show [(τ, n)] = [(τ + ((0 : Nat) : Int), n)]
    rw [show τ + ((0 : Nat) : Int) = τ by omega]
  | x :: q, τ, n => by
    show (τ, x) :: qp (τ + 1) (q ++ [n]) = (τ, x) :: (qp (τ + 1) q ++ [_])
    rw [qp_snoc q (τ + 1) n, List.length_cons]
    congr 4
    omega
/-- a queue of the law's own line, by the letters that came -/
def Led (τ : Int) (s : List Let × Int) (q : List Int) (prs : List (Int × Int)) : Prop := (q.length : Int) = s.2 ∧ prs ++ qp τ q = outsFrom 0 s.1
theorem Led.no {b τ u : Int} {s : List Let × Int} {q : List Int} {prs} (h : Led τ s q prs) (hb : s.2 > b) : Led τ (step b τ u s) q prs ∧ step b τ u s = (s.1 ++ [(τ, u, none)], s.2) := by
  have e : step b τ u s = (s.1 ++ [(τ, u, none)], s.2) := by
    unfold step
    rw [if_pos hb]
  refine ⟨?_, e⟩
  rw [e]
  refine ⟨h.1, ?_⟩
  rw [outs_snoc, ← h.2]
  show _ = _ ++ []
  rw [List.append_nil]
theorem Led.yes {b τ u : Int} {s : List Let × Int} {q : List Int} {prs} (h : Led τ s q prs) (hb : ¬ s.2 > b) : Led τ (step b τ u s) (q ++ [(s.1.length : Int)]) prs ∧ step b τ u s = (s.1 ++ [(τ, u, some s.2)], s.2 + 1) := by
  have e : step b τ u s = (s.1 ++ [(τ, u, some s.2)], s.2 + 1) := by
    unfold step
    rw [if_neg hb]
  refine ⟨?_, e⟩
  rw [e]
  refine ⟨?_, ?_⟩
  · rw [List.length_append]
    show ((q.length + 1 : Nat) : Int) = s.2 + 1
    have := h.1
    omega
  · show _ = outsFrom 0 (s.1 ++ [(τ, u, some s.2)])
    rw [outs_snoc, ← h.2, qp_snoc, ← List.append_assoc, h.1]
    show _ = _ ++ [(τ + s.2, (0 : Int) + (s.1.length : Int))]
    rw [Int.zero_add]
/-- each one goes out in its time -/
def Due (τ : Int) (L : List Let) (q : List Int) (prs : List (Int × Int)) : Prop := prs ++ qp τ q = outsFrom 0 L
theorem Due.pop {τ : Int} {L : List Let} {x : Int} {q : List Int} {prs} (h : Due τ L (x :: q) prs) : Due (τ + 1) L q (prs ++ [(τ, x)]) := by
  unfold Due at *
  rw [← h, List.append_assoc]
  rfl
theorem Due.nil {τ τ' : Int} {L : List Let} {prs} (h : Due τ L [] prs) : Due τ' L [] prs := h
theorem ticks_turns (b τ : Int) : ∀ (k : Nat) (s : List Let × Int), (turns b τ k s).1.map (·.1) = s.1.map (·.1) ++ List.replicate k τ
  | 0, s => by simp [turns]
  | k + 1, s => by
    have ih := ticks_turns b τ k s
    have e : (step b τ (1 + (k : Int)) (turns b τ k s)).1.map (·.1) = (turns b τ k s).1.map (·.1) ++ [τ] := by
      unfold step
      split <;> simp
    unfold turns
    rw [e, ih, List.append_assoc, List.replicate_succ']
def ticksOf (cs : List Int) : Nat → List Int
  | 0 => []
  | i + 1 => ticksOf cs i ++ List.replicate (cs.getD i 0).toNat (i : Int)
theorem ticks_are (b : Int) (cs : List Int) : ∀ i, (pre b cs i).1.map (·.1) = ticksOf cs i
  | 0 => rfl
  | i + 1 => by
    show (turns b (i : Int) (cs.getD i 0).toNat (pre b cs i)).1.map (·.1) = ticksOf cs i ++ _
    rw [ticks_turns, ticks_are b cs i]
theorem ticks_len {cs : List Int} (hc : ∀ c ∈ cs, c ≤ 4) (i : Nat) : (ticksOf cs i).length ≤ 4 * i := by
  rw [← ticks_are 0 cs i, List.length_map]
  exact pre_len hc i
theorem getD_past {cs : List Int} {i : Nat} (h : cs.length ≤ i) : cs.getD i 0 = 0 := by
  rw [List.getD_eq_getElem?_getD, List.getElem?_eq_none h]
  rfl
theorem pre_past {b : Int} (hb : 0 ≤ b) (cs : List Int) : ∀ d : Nat, (pre b cs (cs.length + d)).1 = letts b cs ∧ ((pre b cs (cs.length + d)).2 ≤ b - d ∨ (pre b cs (cs.length + d)).2 ≤ 0)
  | 0 => ⟨rfl, .inl (by
    have := (pre_rng hb cs cs.length).2
    show (pre b cs cs.length).2 ≤ b - ((0 : Nat) : Int)
    omega)⟩
  | d + 1 => by
    have ih := pre_past hb cs d
    have e : turns b ((cs.length + d : Nat) : Int) (cs.getD (cs.length + d) 0).toNat (pre b cs (cs.length + d)) = pre b cs (cs.length + d) := by
      rw [getD_past (by omega)]
      rfl
    have e1 : (pre b cs (cs.length + (d + 1))).1 = (turns b ((cs.length + d : Nat) : Int) (cs.getD (cs.length + d) 0).toNat (pre b cs (cs.length + d))).1 := rfl
    have e2 : (pre b cs (cs.length + (d + 1))).2 = close (turns b ((cs.length + d : Nat) : Int) (cs.getD (cs.length + d) 0).toNat (pre b cs (cs.length + d))).2 := rfl
    rw [e] at e1 e2
    refine ⟨e1.trans ih.1, ?_⟩
    rw [e2]
    unfold close
    have := ih.2
    split <;> omega
end Ln

/-! ## sum(t), t a tuple of ints -/
namespace My
open PySem PySem.Spec PyProof.Rows L2
section
variable {prog : Program} {w : World} {A : Around} {E : Value → Shared → Prop} {s : Shared} {l : Addr} {xs : Array (Int × Tok)}
theorem sum_tupG {Q : Value → Shared → Prop} (hh : A.handled = none) (hl : s.heap.IsTuple l (intItems xs))
    (h : ∀ h' tk t', (∀ b o, s.heap.get? b = some o → h'.get? b = some o) → Q (.int (preSum (numAt xs) xs.size) t') { s with heap := h', toks := tk }) :
    wpAny (model prog w) A (call (.builtin "sum") [.ref l]) Q E s := by
  have hll : l < s.heap.objs.size := by obtain ⟨_, q, _⟩ := hl; exact Heap.lt_size q
  refine call_sum_walkG (wpAny_pyIter_tuple hl ?_)
  refine ⟨_, _, _, _, _, _, numAt xs, rfl, Walks.tuple (A := A.in1) hh s.heap.objs.size l (Nat.ne_of_lt hll) (intItems xs), ⟨⟨_, Heap.get?_push_size _ rfl, rfl, rfl⟩, hl.push _⟩, fun b hb => ?_, (fun _ _ => intItems_at), fun h' tk t' hk => ?_⟩
  · show b < (s.heap.push _).objs.size
    rw [Heap.size_push]
    rcases List.mem_cons.mp hb with rfl | hb
    · exact Nat.lt_succ_self _
    · rw [List.mem_singleton.mp hb]
      exact Nat.lt_succ_of_lt hll
  · have := h h' tk t' fun b o e => hk b o (fun hm => by
      rw [List.mem_singleton.mp hm] at e
      exact absurd (Heap.lt_size e) (Nat.lt_irrefl _)) (Heap.get?_push_of_some _ e)
    simpa [intItems] using this
end
def rSumT (K : PySem.W.Frag) : List V → Hp → VK → Prop := fun vs H Q => ∃ (a : Addr) (ns : List Int), vs = [V.ref a] ∧ SqT K H a (ns.map V.int) ∧ Q (.int ns.sum) H
theorem cr_sumT {X : Cx} (hc : X.calm = true) : CallR X (.builtin "sum") (rSumT X.K) := by
  intro pins s σ H vs us Q I r h
  obtain ⟨a, ns, rfl, hs, q⟩ := h
  obtain ⟨its, rv, hl, _⟩ := I.tuple hs
  rw [Vals.ref1 r]
  have hi := rv.ints
  obtain ⟨xs, e⟩ := hi.allInts.items
  have hn : numsOf (intItems xs).toList = ns := by rw [← e]; exact hi.numsOf
  rw [nums_intItems] at hn
  have hl' : s.heap.IsTuple a (intItems xs) := by
    rw [← e]
    exact hl
  refine sum_tupG (I.ok.hd hc) hl' fun h' tk t' hk => ?_
  rw [preSum_eq, List.take_of_length_le (by simp), hn]
  exact ⟨.int _, H, I.kept hk, ⟨_, rfl⟩, q⟩
/-! ### t + u, both tracked, t not empty -/
def rCatP : R2 := fun x y H Q => ∃ a b xs ys, x = .ref a ∧ y = .ref b ∧ H a = some (.tup xs) ∧ H b = some (.tup ys) ∧ xs ≠ [] ∧ xs.length + ys.length ≤ sizeLine ∧ ∀ p H', Same H H' → H' p = some (.tup (xs ++ ys)) → Q (.ref p) H'
theorem op_catP {X : Cx} : OpR X (binaryOp .Add) rCatP := by
  intro pins s σ H x y v u Q I rx ry h
  obtain ⟨a, b, xs, ys, rfl, rfl, ha, hb, hne, hz, q⟩ := h
  refine op_catA pins s σ H _ _ v u Q I rx ry ⟨a, b, xs, ys, rfl, rfl, SqT.of ha, SqT.of hb, hz, fun e => absurd e hne, fun _ e => ?_, fun _ _ p np => ?_⟩
  · subst e
    refine q a H (fun _ _ h => h) ?_
    rw [List.append_nil]
    exact ha
  · exact q p _ (same_upd np) upd_same
/-! ### xs[i] read where it is changed -/
theorem pgetL {X : Cx} : PGet X (rIxL X.K) := by
  intro pins s σ H o i ov iv Q I r1 r2 h
  obtain ⟨p, xs, k, z, rfl, rfl, hq, he, q⟩ := h
  cases r1
  obtain ⟨t, rfl⟩ := r2
  obtain ⟨its, r, pl, hz⟩ := I.list hq
  obtain ⟨j, h1, h2, h3, h4, h5⟩ := atI_get he
  obtain ⟨w, ew, rw'⟩ := r.get h2
  have hl := r.length
  have hn := line63
  have fin : EP X pins σ Q w s := ⟨z, H, I, rw', q⟩
  by_cases h0 : 0 ≤ k
  · have hj : k.toNat = j := by
      rw [PySem.seqIndex_of h0 h5] at h1
      exact Option.some.inj h1
    exact wpAny_getItem_list pl.isList h0 (by omega) (by rw [hj]; simpa using ew) fin
  · have hj : (k + (its.toArray.size : Int)).toNat = j := by
      rw [PySem.seqIndex_neg (by omega) h4] at h1
      rw [List.size_toArray, ← hl]
      exact Option.some.inj h1
    exact wpAny_mono (wpAny_getItem_list_neg (Q := fun r s' => r = w ∧ EP X pins σ Q r s') pl.isList (by omega) (by rw [List.size_toArray] <;> omega) (by omega) (by rw [hj]; simpa using ew) ⟨rfl, fin⟩) (fun _ _ h => h.2) fun _ _ h => h
/-! ### zip of two lists, the second one not longer -/
theorem for_zipS {K : PySem.W.Frag} {a b : Addr} {xs ys : List V} {g : TG} {tb : TS} {D : Ends} {σ : L2.St} {H : Hp} (hl : ys.length ≤ xs.length) (Pv : Nat → L2.St → Hp → Prop) (h0 : Pv 0 σ H) (hq : ∀ i σ H, Pv i σ H → SqL K H a xs ∧ SqL K H b ys)
    (hs : ∀ (i : Nat) (x y : V) (T : Addr) (σ : L2.St) (H : Hp), xs[i]? = some x → ys[i]? = some y → Pv i σ H → H T = none → g (.ref T) σ (upd H T (.tup [x, y])) fun σ2 H2 => tb { D with nx := Pv (i + 1), ct := Pv (i + 1), bk := D.nx } σ2 H2) (hd : ∀ σ H, Pv ys.length σ H → D.nx σ H) :
    ∃ W : Nat → Nat → L2.St → Hp → Prop, (∃ m, W 0 m σ H) ∧ ∀ i m σ H, W i m σ H →
      ((Itz K a b).stop i H ∧ D.nx σ H) ∨ ((Itz K a b).go i H ∧ ∃ N : L2.St → Hp → Prop, (∀ σ' H', N σ' H' → ∃ m', m' < m ∧ W (i + 1) m' σ' H') ∧ ∀ v H', (Itz K a b).yld i H v H' → g v σ H' fun σ2 H2 => tb { D with nx := N, ct := N, bk := D.nx } σ2 H2) := by
  refine ⟨fun i m σ H => m = ys.length - i ∧ i ≤ ys.length ∧ Pv i σ H, ⟨ys.length, rfl, Nat.zero_le _, h0⟩, ?_⟩
  rintro i m σ H ⟨rfl, hi, p⟩
  obtain ⟨qx, qy⟩ := hq i σ H p
  by_cases h : i < ys.length
  · have hx : xs[i]? = some xs[i] := List.getElem?_eq_getElem (by omega)
    have hy : ys[i]? = some ys[i] := List.getElem?_eq_getElem h
    refine .inr ⟨⟨xs, ys, _, _, qx, qy, hx, hy⟩, Pv (i + 1), fun σ' H' n => ⟨ys.length - (i + 1), by omega, rfl, by omega, n⟩, ?_⟩
    rintro v H' ⟨T, x, y, rfl, nT, rfl, ex, ey⟩
    exact hs i x y T σ H (ex xs qx) (ey ys qy) p nT
  · have e : i = ys.length := by omega
    subst e
    exact .inl ⟨⟨xs, ys, qx, qy, .inr (Nat.le_refl _)⟩, hd σ H p⟩
/-! ### what stays while the tape moves -/
theorem Moved.sq {K : PySem.W.Frag} {t s : Addr} {H H' : Hp} {a : Addr} {xs : List V} (mv : Moved t H H') (tp : Tape H t s) (h : SqT K H a xs) : SqT K H' a xs := by
  obtain ⟨_, _, _, _, _, _, e2, _⟩ := tp
  rcases h with (h | ⟨o, h⟩) | h
  · exact .inl (.inl (mv _ _ (fun z => by rw [z, e2] at h; cases h) h))
  · exact .inl (.inr ⟨o, mv _ _ (fun z => by rw [z, e2] at h; cases h) h⟩)
  · exact .inr h
theorem Moved.tups {α : Type} {f : α → List V} {t s : Addr} {H H' : Hp} {ps : List Addr} {xs : List α} (mv : Moved t H H') (tp : Tape H t s) (h : Tups f H ps xs) : Tups f H' ps xs := h.keep fun b ys e => by
  obtain ⟨_, _, _, _, _, _, e2, _⟩ := tp
  exact mv _ _ (fun z => by rw [z, e2] at e; cases e) e
end My

namespace Db
open Rch
/-! doubling loops -/
def chB : Int → List Int → Bool
  | _, [] => true
  | p, l :: r => decide (l ≤ 2 * p) && chB l r
def isD : List Int → Bool
  | [] => false
  | x :: r => decide (x = 1) && chB x r
def dbl (ns : List Int) : Bool := isD (isort ns)
theorem dbl_perm {l m : List Int} (p : m.Perm l) : dbl m = dbl l := by
  unfold dbl
  rw [isort_congr p]
def lst : Int → List Int → Int
  | p, [] => p
  | _, l :: r => lst l r
theorem chB_snoc : ∀ (r : List Int) (p l : Int), chB p (r ++ [l]) = (chB p r && decide (l ≤ 2 * lst p r))
  | [], p, l => by
    show (decide (l ≤ 2 * p) && true) = (true && decide (l ≤ 2 * p))
    rw [Bool.and_true, Bool.true_and]
  | x :: r, p, l => by
    show (decide (x ≤ 2 * p) && chB x (r ++ [l])) = (decide (x ≤ 2 * p) && chB x r && decide (l ≤ 2 * lst x r))
    rw [chB_snoc r x l, Bool.and_assoc]
theorem lst_ge : ∀ (r : List Int) (p : Int), (p :: r).Pairwise (· ≤ ·) → ∀ x ∈ p :: r, x ≤ lst p r
  | [], p, _, x, hx => by
    rw [List.mem_singleton.mp hx]
    exact Int.le_refl _
  | l :: r, p, h, x, hx => by
    have h' := List.pairwise_cons.mp h
    rcases List.mem_cons.mp hx with e | hx
    · subst e
      exact Int.le_trans (h'.1 l List.mem_cons_self) (lst_ge r l h'.2 l List.mem_cons_self)
    · exact lst_ge r l h'.2 x hx
theorem lst_mem : ∀ (r : List Int) (p : Int), lst p r ∈ p :: r
  | [], p => List.mem_cons_self
  | l :: r, p => List.mem_cons_of_mem _ (lst_mem r l)
theorem isD_snoc {row : List Int} {l m : Int} (so : row.Pairwise (· ≤ ·)) (d : isD row = true) (hm : m ∈ row) (hl : l ≤ 2 * m) : isD (row ++ [l]) = true := by
  cases row with
  | nil => cases d
  | cons x r =>
    have e : isD (x :: r) = (decide (x = 1) && chB x r) := rfl
    rw [e, Bool.and_eq_true] at d
    show (decide (x = 1) && chB x (r ++ [l])) = true
    rw [chB_snoc, d.1, d.2]
    have := lst_ge r x so m hm
    rw [decide_eq_true (by omega)]
    rfl
theorem greedy_ch : ∀ (r : List Int) (p T : Int), chB p r = true → 2 * p ≤ T + 1 → greedy T r = T + r.sum
  | [], p, T, _, _ => by
    show T = T + 0
    omega
  | l :: r, p, T, h, hp => by
    have h2 : (decide (l ≤ 2 * p) && chB l r) = true := h
    rw [Bool.and_eq_true] at h2
    have h3 := of_decide_eq_true h2.1
    unfold greedy
    rw [if_neg (by omega), greedy_ch r l (T + l) h2.2 (by omega), List.sum_cons]
    omega
theorem perm_sum {l m : List Int} (p : l.Perm m) : l.sum = m.sum := by
  induction p with
  | nil => rfl
  | cons x _ ih => rw [List.sum_cons, List.sum_cons, ih]
  | swap x y r =>
    simp only [List.sum_cons]
    omega
  | trans _ _ h1 h2 => exact h1.trans h2
theorem reach_dbl {ns : List Int} (d : dbl ns = true) : reachOf ns = ns.sum := by
  unfold reachOf
  rw [← perm_sum (isort_perm ns)]
  unfold dbl at d
  cases hs : isort ns with
  | nil => rfl
  | cons x r =>
    rw [hs] at d
    have e : isD (x :: r) = (decide (x = 1) && chB x r) := rfl
    rw [e, Bool.and_eq_true] at d
    have h1 := of_decide_eq_true d.1
    subst h1
    show (if (1 : Int) > 0 + 1 then (0 : Int) else greedy (0 + 1) r) = _
    rw [if_neg (by decide), greedy_ch r 1 (0 + 1) d.2 (by decide), List.sum_cons]
    omega
/-- the list of answers that the walk of neighbours makes -/
def prsB (s : List Int) : List Bool := (List.range (s.length - 1)).map fun k => decide (s.getD (k + 1) 0 ≤ 2 * s.getD k 0)
theorem ch_all : ∀ (r : List Int) (p : Int), chB p r = true ↔ ∀ k, k < r.length → (p :: r).getD (k + 1) 0 ≤ 2 * (p :: r).getD k 0
  | [], p => by
    constructor
    · intro _ k hk
      exact absurd hk (Nat.not_lt_zero _)
    · intro _
      rfl
  | l :: r, p => by
    show (decide (l ≤ 2 * p) && chB l r) = true ↔ _
    rw [Bool.and_eq_true, ch_all r l]
    constructor
    · rintro ⟨h1, h2⟩ k hk
      cases k with
      | zero => exact of_decide_eq_true h1
      | succ k =>
        rw [List.length_cons] at hk
        exact h2 k (by omega)
    · intro h
      refine ⟨decide_eq_true (h 0 (by rw [List.length_cons]; omega)), fun k hk => ?_⟩
      exact h (k + 1) (by rw [List.length_cons]; omega)
end Db

/-! ### the mathematics of digits and days -/
namespace Dy
open Ln (Let)
/-! doubling -/
def Grd : Int → List Int → Prop
  | _, [] => True
  | T, l :: r => l ≤ T + 1 ∧ Grd (T + l) r
theorem grd_snoc : ∀ (r : List Int) (T l : Int), Grd T r → l ≤ T + r.sum + 1 → Grd T (r ++ [l])
  | [], T, l, _, h => by
    refine ⟨?_, trivial⟩
    simpa using h
  | x :: r, T, l, hg, h => by
    refine ⟨hg.1, grd_snoc r (T + x) l hg.2 ?_⟩
    rw [List.sum_cons] at h
    omega
/-- from the greatest on: each at most one more than the sum of those behind it -/
def GR : List Int → Prop
  | [] => True
  | l :: r => l ≤ r.sum + 1 ∧ GR r
theorem gr_of : ∀ (r : List Int) (T : Int) (acc : List Int), Grd T r → acc.sum = T → GR acc → GR (r.reverse ++ acc)
  | [], _, acc, _, _, h => h
  | x :: r, T, acc, hg, hs, h => by
    rw [List.reverse_cons, List.append_assoc]
    exact gr_of r (T + x) (x :: acc) hg.2 (by rw [List.sum_cons]; omega) ⟨by rw [hs]; exact hg.1, h⟩
/-- digits: the row so far, and what is left -/
def dig (ls : List Int) : List Int → List Int × Int → List Int × Int
  | [], s => s
  | k :: r, s => dig ls r (if Tb.len1 ls k ≤ s.2 then (k :: s.1, s.2 - Tb.len1 ls k) else s)
theorem dig_ok {ls : List Int} : ∀ (ks : List Int) (row : List Int) (w : Int), GR (ks.map (Tb.len1 ls)) → 0 ≤ w → w ≤ (ks.map (Tb.len1 ls)).sum → Tb.InR ls ks → Tb.InR ls row →
    (dig ls ks (row, w)).2 = 0 ∧ Tb.rsum ls (dig ls ks (row, w)).1 = Tb.rsum ls row + w ∧ Tb.InR ls (dig ls ks (row, w)).1
  | [], row, w, _, h0, h1, _, hr => by
    have : w = 0 := by
      simp at h1
      omega
    subst this
    exact ⟨rfl, by show Tb.rsum ls row = Tb.rsum ls row + 0; omega, hr⟩
  | k :: r, row, w, hg, h0, h1, hk, hr => by
    rw [List.map_cons, List.sum_cons] at h1
    have hk' : Tb.InR ls r := fun x hx => hk x (List.mem_cons_of_mem _ hx)
    unfold dig
    by_cases c : Tb.len1 ls k ≤ w
    · rw [if_pos c]
      obtain ⟨a, b, d⟩ := dig_ok r (k :: row) (w - Tb.len1 ls k) hg.2 (by omega) (by omega) hk' (fun x hx => by
        rcases List.mem_cons.mp hx with e | hx
        · rw [e]
          exact hk k List.mem_cons_self
        · exact hr x hx)
      refine ⟨a, ?_, d⟩
      rw [b, Tb.rsum_cons]
      omega
    · rw [if_neg c]
      have := hg.1
      exact dig_ok r row w hg.2 h0 (by omega) hk' hr
/-! layings -/
def rowOf (rs : List (List Int)) (w : Int) : List Int := if w ≤ 0 then [] else rs.getD (w - 1).toNat []
def lay1 (ls : List Int) (rs : List (List Int)) (n : Int) (l : Let) : List (List Int) := match l.2.2 with
  | none => []
  | some w => (Tb.go ls 0 (rowOf rs w)).map fun p => [l.1 + p.1, n, p.2]
def lays (ls : List Int) (rs : List (List Int)) : Int → List Let → List (List Int)
  | _, [] => []
  | n, l :: r => lay1 ls rs n l ++ lays ls rs (n + 1) r
theorem lays_snoc (ls : List Int) (rs : List (List Int)) : ∀ (L : List Let) (n : Int) (l : Let), lays ls rs n (L ++ [l]) = lays ls rs n L ++ lay1 ls rs (n + (L.length : Int)) l
  | [], n, l => by
    show lay1 ls rs n l ++ [] = [] ++ lay1 ls rs (n + ((0 : Nat) : Int)) l
    rw [List.append_nil, List.nil_append]
    congr 1
    omega
  | x :: L, n, l => by
    show lay1 ls rs n x ++ lays ls rs (n + 1) (L ++ [l]) = (lay1 ls rs n x ++ lays ls rs (n + 1) L) ++ lay1 ls rs _ l
    rw [lays_snoc ls rs L (n + 1) l, List.append_assoc]
    congr 3
    rw [List.length_cons]
    omega
/-- who is inside behind a tick, of one laying -/
def ins1 (ls : List Int) (τ : Int) (e : List Int) : Option (List Int) :=
  if e.getD 0 0 ≤ τ ∧ e.getD 0 0 + Tb.len1 ls (e.getD 2 0) - τ > 0 then some [e.getD 2 0, e.getD 1 0, e.getD 0 0 + Tb.len1 ls (e.getD 2 0) - τ] else none
/-- where a letter is, by its age -/
def whr (ls : List Int) : List Int → Int → Option (Int × Int)
  | [], _ => none
  | k :: r, age => if age < Tb.len1 ls k then some (k, Tb.len1 ls k - age) else whr ls r (age - Tb.len1 ls k)
def in1 (ls : List Int) (rs : List (List Int)) (τ n : Int) (l : Let) : List (List Int) := match l.2.2 with
  | none => []
  | some w => if 0 < w ∧ l.1 ≤ τ then (match whr ls (rowOf rs w) (τ - l.1) with
    | none => []
    | some p => [[p.1, n, p.2]]) else []
def inAll (ls : List Int) (rs : List (List Int)) (τ : Int) : Int → List Let → List (List Int)
  | _, [] => []
  | n, l :: r => in1 ls rs τ n l ++ inAll ls rs τ (n + 1) r
theorem inAll_append (ls : List Int) (rs : List (List Int)) (τ : Int) : ∀ (L M : List Let) (n : Int), inAll ls rs τ n (L ++ M) = inAll ls rs τ n L ++ inAll ls rs τ (n + (L.length : Int)) M
  | [], M, n => by
    show inAll ls rs τ n M = inAll ls rs τ (n + ((0 : Nat) : Int)) M
    congr 1
    omega
  | x :: L, M, n => by
    show in1 ls rs τ n x ++ inAll ls rs τ (n + 1) (L ++ M) = (in1 ls rs τ n x ++ inAll ls rs τ (n + 1) L) ++ _
    rw [inAll_append ls rs τ L M (n + 1), List.append_assoc, List.length_cons]
    congr 3
    omega
theorem go_none {ls : List Int} (G : Rch.Good ls) {β n τ : Int} : ∀ (r : List Int) (g : Int), Tb.InR ls r → τ - β < g → ((Tb.go ls g r).map fun p => [β + p.1, n, p.2]).filterMap (ins1 ls τ) = []
  | [], _, _, _ => rfl
  | k :: r, g, h, hg => by
    have hk := h k List.mem_cons_self
    have l1 := (Tb.len_pos G hk.1 hk.2).1
    have hr : Tb.InR ls r := fun x hx => h x (List.mem_cons_of_mem _ hx)
    show List.filterMap (ins1 ls τ) ([β + g, n, k] :: (Tb.go ls (g + Tb.len1 ls k) r).map fun p => [β + p.1, n, p.2]) = []
    have e : ins1 ls τ [β + g, n, k] = none := if_neg (fun z => by
      have : β + g ≤ τ := z.1
      omega)
    rw [List.filterMap_cons_none e]
    exact go_none G r _ hr (by omega)
theorem go_whr {ls : List Int} (G : Rch.Good ls) {β n τ : Int} : ∀ (r : List Int) (g : Int), Tb.InR ls r → g ≤ τ - β → ((Tb.go ls g r).map fun p => [β + p.1, n, p.2]).filterMap (ins1 ls τ) = match whr ls r (τ - β - g) with
    | none => []
    | some p => [[p.1, n, p.2]]
  | [], _, _, _ => rfl
  | k :: r, g, h, hg => by
    have hk := h k List.mem_cons_self
    have l1 := (Tb.len_pos G hk.1 hk.2).1
    have hr : Tb.InR ls r := fun x hx => h x (List.mem_cons_of_mem _ hx)
    show List.filterMap (ins1 ls τ) ([β + g, n, k] :: (Tb.go ls (g + Tb.len1 ls k) r).map fun p => [β + p.1, n, p.2]) = _
    unfold whr
    by_cases c : τ - β - g < Tb.len1 ls k
    · rw [if_pos c]
      have e : ins1 ls τ [β + g, n, k] = some [k, n, β + g + Tb.len1 ls k - τ] := if_pos ⟨by show β + g ≤ τ; omega, by show β + g + Tb.len1 ls k - τ > 0; omega⟩
      rw [List.filterMap_cons_some e, go_none G r _ hr (by omega)]
      show [[k, n, β + g + Tb.len1 ls k - τ]] = [[k, n, Tb.len1 ls k - (τ - β - g)]]
      rw [show β + g + Tb.len1 ls k - τ = Tb.len1 ls k - (τ - β - g) by omega]
    · rw [if_neg c]
      have e : ins1 ls τ [β + g, n, k] = none := if_neg (fun z => by
        have : β + g + Tb.len1 ls k - τ > 0 := z.2
        omega)
      rw [List.filterMap_cons_none e, go_whr G r _ hr (by omega), show τ - β - (g + Tb.len1 ls k) = τ - β - g - Tb.len1 ls k by omega]
theorem rowOf_at {ls : List Int} {rs : List (List Int)} (R : Tb.Right ls rs) {w : Int} (h0 : 0 < w) (h1 : w ≤ (rs.length : Int)) : rs[(w - 1).toNat]? = some (rowOf rs w) ∧ Tb.InR ls (rowOf rs w) ∧ (rowOf rs w).length ≤ 60 ∧ Tb.rsum ls (rowOf rs w) = w := by
  have hl : (w - 1).toNat < rs.length := by omega
  have e : rs[(w - 1).toNat]? = some (rowOf rs w) := by
    unfold rowOf
    rw [if_neg (by omega), List.getD_eq_getElem?_getD, List.getElem?_eq_getElem hl]
    rfl
  obtain ⟨a, b, c⟩ := R.2.2.2 _ _ e
  exact ⟨e, a, b, by rw [c]; omega⟩
/-- waits that are right for a table -/
def Wt (rs : List (List Int)) (L : List Let) : Prop := ∀ l ∈ L, ∀ w, l.2.2 = some w → 0 ≤ w ∧ w ≤ (rs.length : Int)
theorem lay_in {ls : List Int} {rs : List (List Int)} (R : Tb.Right ls rs) {τ n : Int} {l : Let} (h : ∀ w, l.2.2 = some w → 0 ≤ w ∧ w ≤ (rs.length : Int)) : (lay1 ls rs n l).filterMap (ins1 ls τ) = in1 ls rs τ n l := by
  obtain ⟨t, u, wt⟩ := l
  cases wt with
  | none => rfl
  | some w =>
    have hw := h w rfl
    show ((Tb.go ls 0 (rowOf rs w)).map fun p => [t + p.1, n, p.2]).filterMap (ins1 ls τ) = if 0 < w ∧ t ≤ τ then _ else []
    by_cases c0 : 0 < w
    · obtain ⟨_, hin, _, _⟩ := rowOf_at R c0 hw.2
      by_cases c1 : t ≤ τ
      · rw [if_pos ⟨c0, c1⟩, go_whr R.1 _ 0 hin (by omega), show τ - t - 0 = τ - t by omega]
      · rw [if_neg (fun z => c1 z.2), go_none R.1 _ 0 hin (by omega)]
    · rw [if_neg (fun z => c0 z.1)]
      have : rowOf rs w = [] := if_pos (by omega)
      rw [this]
      rfl
theorem lays_in {ls : List Int} {rs : List (List Int)} (R : Tb.Right ls rs) {τ : Int} : ∀ (L : List Let) (n : Int), Wt rs L → (lays ls rs n L).filterMap (ins1 ls τ) = inAll ls rs τ n L
  | [], _, _ => rfl
  | l :: r, n, h => by
    show (lay1 ls rs n l ++ lays ls rs (n + 1) r).filterMap _ = _
    rw [List.filterMap_append, lay_in R (h l List.mem_cons_self), lays_in R r (n + 1) fun x hx => h x (List.mem_cons_of_mem _ hx)]
    rfl
/-! how many -/
theorem whr_iff {ls : List Int} (G : Rch.Good ls) : ∀ (r : List Int) (age : Int), Tb.InR ls r → 0 ≤ age → (whr ls r age).isSome = decide (age < Tb.rsum ls r)
  | [], age, _, h => by
    show false = decide (age < Tb.rsum ls [])
    rw [decide_eq_false]
    simp [Tb.rsum]
    omega
  | k :: r, age, hin, h => by
    have hk := hin k List.mem_cons_self
    have hr : Tb.InR ls r := fun x hx => hin x (List.mem_cons_of_mem _ hx)
    have := Tb.rsum_len G hr
    rw [Tb.rsum_cons]
    unfold whr
    by_cases c : age < Tb.len1 ls k
    · rw [if_pos c, decide_eq_true (by omega)]
      rfl
    · rw [if_neg c, whr_iff G r _ hr (by omega)]
      exact decide_eq_decide.mpr (by omega)
def alive (τ : Int) (l : Let) : Bool := match l.2.2 with
  | none => false
  | some w => decide (l.1 ≤ τ) && decide (τ < l.1 + w)
theorem in1_len {ls : List Int} {rs : List (List Int)} (R : Tb.Right ls rs) {τ n : Int} {l : Let} (h : ∀ w, l.2.2 = some w → 0 ≤ w ∧ w ≤ (rs.length : Int)) : (in1 ls rs τ n l).length = if alive τ l then 1 else 0 := by
  obtain ⟨t, u, wt⟩ := l
  cases wt with
  | none => rfl
  | some w =>
    have hw := h w rfl
    show (if 0 < w ∧ t ≤ τ then _ else []).length = if (decide (t ≤ τ) && decide (τ < t + w)) = true then 1 else 0
    by_cases c0 : 0 < w
    · obtain ⟨_, hin, _, hs⟩ := rowOf_at R c0 hw.2
      by_cases c1 : t ≤ τ
      · rw [if_pos ⟨c0, c1⟩, decide_eq_true c1, Bool.true_and]
        have z := whr_iff R.1 (rowOf rs w) (τ - t) hin (by omega)
        rw [hs] at z
        cases e : whr ls (rowOf rs w) (τ - t) with
        | none =>
          rw [e] at z
          have : ¬ τ < t + w := fun y => by
            rw [decide_eq_true (by omega)] at z
            cases z
          rw [decide_eq_false this]
          rfl
        | some p =>
          rw [e] at z
          have : τ < t + w := by
            have := of_decide_eq_true z.symm
            omega
          rw [decide_eq_true this]
          rfl
      · rw [if_neg (fun z => c1 z.2), decide_eq_false c1]
        rfl
    · rw [if_neg (fun z => c0 z.1)]
      by_cases c1 : t ≤ τ
      · rw [decide_eq_false (by omega : ¬ τ < t + w), Bool.and_false]
        rfl
      · rw [decide_eq_false c1]
        rfl
theorem count_outs {ls : List Int} {rs : List (List Int)} (R : Tb.Right ls rs) {τ : Int} : ∀ (L : List Let) (n : Int), Wt rs L → (∀ l ∈ L, l.1 ≤ τ) → (inAll ls rs τ n L).length = ((Ln.outsFrom n L).filter fun p => decide (τ < p.1)).length
  | [], _, _, _ => rfl
  | l :: r, n, h, ht => by
    show (in1 ls rs τ n l ++ inAll ls rs τ (n + 1) r).length = ((Ln.one l n ++ Ln.outsFrom (n + 1) r).filter _).length
    rw [List.length_append, List.filter_append, List.length_append, in1_len R (h l List.mem_cons_self), count_outs R r (n + 1) (fun x hx => h x (List.mem_cons_of_mem _ hx)) (fun x hx => ht x (List.mem_cons_of_mem _ hx))]
    congr 1
    have hl := ht l List.mem_cons_self
    obtain ⟨t, u, wt⟩ := l
    cases wt with
    | none => rfl
    | some w =>
      show (if (decide (t ≤ τ) && decide (τ < t + w)) = true then 1 else 0) = ([(t + w, n)].filter fun p => decide (τ < p.1)).length
      rw [decide_eq_true (show t ≤ τ from hl), Bool.true_and]
      by_cases c : τ < t + w
      · rw [decide_eq_true c, List.filter_cons_of_pos (by exact decide_eq_true c)]
        rfl
      · rw [decide_eq_false c, List.filter_cons_of_neg (by
          show ¬ decide (τ < t + w) = true
          rw [decide_eq_false c]
          exact Bool.false_ne_true)]
        rfl
theorem qp_ge : ∀ (q : List Int) (τ : Int), ∀ p ∈ Ln.qp τ q, τ ≤ p.1
  | [], _, p, h => absurd h (by simp [Ln.qp])
  | x :: q, τ, p, h => by
    rcases List.mem_cons.mp h with e | h
    · rw [e]
      exact Int.le_refl _
    · have := qp_ge q (τ + 1) p h
      omega
theorem qp_len : ∀ (q : List Int) (τ : Int), (Ln.qp τ q).length = q.length
  | [], _ => rfl
  | x :: q, τ => by
    show (Ln.qp (τ + 1) q).length + 1 = q.length + 1
    rw [qp_len q]
theorem led_turns {b τ : Int} : ∀ (k : Nat) (s : List Let × Int), (∃ q prs, Ln.Led τ s q prs ∧ ∀ p ∈ prs, p.1 < τ) → ∃ q prs, Ln.Led τ (Ln.turns b τ k s) q prs ∧ ∀ p ∈ prs, p.1 < τ
  | 0, _, h => h
  | k + 1, s, h => by
    obtain ⟨q, prs, le, hp⟩ := led_turns (b := b) k s h
    show ∃ q prs, Ln.Led τ (Ln.step b τ (1 + (k : Int)) (Ln.turns b τ k s)) q prs ∧ _
    by_cases c : (Ln.turns b τ k s).2 > b
    · exact ⟨q, prs, (le.no c).1, hp⟩
    · exact ⟨_, prs, (le.yes c).1, hp⟩
theorem led_pre (b : Int) (cs : List Int) : ∀ i : Nat, ∃ q prs, Ln.Led (i : Int) (Ln.pre b cs i) q prs ∧ ∀ p ∈ prs, p.1 < (i : Int)
  | 0 => ⟨[], [], ⟨rfl, rfl⟩, fun p h => by simp at h⟩
  | i + 1 => by
    obtain ⟨q, prs, le, hp⟩ := led_turns (b := b) (cs.getD i 0).toNat _ (led_pre b cs i)
    have ei : ((i + 1 : Nat) : Int) = (i : Int) + 1 := by omega
    rw [ei]
    have le1 := le.1
    cases q with
    | nil =>
      refine ⟨[], prs, ⟨?_, le.2⟩, fun p h => by have := hp p h; omega⟩
      show ((0 : Nat) : Int) = Ln.close (Ln.turns b (i : Int) (cs.getD i 0).toNat (Ln.pre b cs i)).2
      rw [← le1]
      rfl
    | cons x r =>
      refine ⟨r, prs ++ [((i : Int), x)], ⟨?_, Ln.Due.pop le.2⟩, fun p h => ?_⟩
      · show (r.length : Int) = Ln.close (Ln.turns b (i : Int) (cs.getD i 0).toNat (Ln.pre b cs i)).2
        rw [List.length_cons] at le1
        unfold Ln.close
        rw [if_pos (by omega)]
        omega
      · rcases List.mem_append.mp h with h | h
        · have := hp p h
          omega
        · rw [List.mem_singleton.mp h]
          show (i : Int) < _
          omega
theorem turns_new {b τ : Int} : ∀ (k : Nat) (s : List Let × Int), 0 ≤ s.2 → s.2 ≤ b + 1 → ∃ new, (Ln.turns b τ k s).1 = s.1 ++ new ∧ ∀ l ∈ new, l.1 = τ ∧ ∀ w, l.2.2 = some w → 0 ≤ w ∧ w ≤ b
  | 0, s, _, _ => ⟨[], by show s.1 = s.1 ++ []; rw [List.append_nil], fun l h => by simp at h⟩
  | k + 1, s, h0, h1 => by
    obtain ⟨new, e, hn⟩ := turns_new (b := b) (τ := τ) k s h0 h1
    have rg := Ln.turns_rng (b := b) (τ := τ) k s h0 h1
    show ∃ new, (Ln.step b τ (1 + (k : Int)) (Ln.turns b τ k s)).1 = s.1 ++ new ∧ _
    unfold Ln.step
    by_cases c : (Ln.turns b τ k s).2 > b
    · rw [if_pos c]
      refine ⟨new ++ [(τ, 1 + (k : Int), none)], by show (Ln.turns b τ k s).1 ++ [_] = _; rw [e, List.append_assoc], fun l h => ?_⟩
      rcases List.mem_append.mp h with h | h
      · exact hn l h
      · rw [List.mem_singleton.mp h]
        exact ⟨rfl, fun w z => by cases z⟩
    · rw [if_neg c]
      refine ⟨new ++ [(τ, 1 + (k : Int), some (Ln.turns b τ k s).2)], by show (Ln.turns b τ k s).1 ++ [_] = _; rw [e, List.append_assoc], fun l h => ?_⟩
      rcases List.mem_append.mp h with h | h
      · exact hn l h
      · rw [List.mem_singleton.mp h]
        refine ⟨rfl, fun w z => ?_⟩
        have z' := Option.some.inj z
        omega
theorem pre_in {b : Int} (hb : 0 ≤ b) (cs : List Int) : ∀ (i : Nat), ∀ l ∈ (Ln.pre b cs i).1, 0 ≤ l.1 ∧ l.1 < (i : Int) ∧ ∀ w, l.2.2 = some w → 0 ≤ w ∧ w ≤ b
  | 0, l, h => absurd h (by simp [Ln.pre])
  | i + 1, l, h => by
    have rg := Ln.pre_rng hb cs i
    obtain ⟨new, e, hn⟩ := turns_new (b := b) (τ := (i : Int)) (cs.getD i 0).toNat (Ln.pre b cs i) rg.1 (by omega)
    have h' : l ∈ (Ln.pre b cs i).1 ++ new := e ▸ h
    rcases List.mem_append.mp h' with h | h
    · obtain ⟨x, y, z⟩ := pre_in hb cs i l h
      exact ⟨x, by omega, z⟩
    · obtain ⟨x, z⟩ := hn l h
      exact ⟨by omega, by omega, z⟩
theorem pre_app {b : Int} (hb : 0 ≤ b) (cs : List Int) (i : Nat) : ∀ d : Nat, ∃ rest, (Ln.pre b cs (i + d)).1 = (Ln.pre b cs i).1 ++ rest ∧ ∀ l ∈ rest, (i : Int) ≤ l.1
  | 0 => ⟨[], by rw [List.append_nil]; rfl, fun l h => by simp at h⟩
  | d + 1 => by
    obtain ⟨rest, e, hr⟩ := pre_app hb cs i d
    have rg := Ln.pre_rng hb cs (i + d)
    obtain ⟨new, e2, hn⟩ := turns_new (b := b) (τ := ((i + d : Nat) : Int)) (cs.getD (i + d) 0).toNat (Ln.pre b cs (i + d)) rg.1 (by omega)
    refine ⟨rest ++ new, ?_, fun l h => ?_⟩
    · show (Ln.turns b ((i + d : Nat) : Int) (cs.getD (i + d) 0).toNat (Ln.pre b cs (i + d))).1 = _
      rw [e2, e, List.append_assoc]
    · rcases List.mem_append.mp h with h | h
      · exact hr l h
      · have := (hn l h).1
        omega
theorem late_none {ls : List Int} {rs : List (List Int)} {τ : Int} : ∀ (L : List Let) (n : Int), (∀ l ∈ L, τ < l.1) → inAll ls rs τ n L = []
  | [], _, _ => rfl
  | l :: r, n, h => by
    show in1 ls rs τ n l ++ inAll ls rs τ (n + 1) r = []
    rw [late_none r (n + 1) fun x hx => h x (List.mem_cons_of_mem _ hx), List.append_nil]
    have hl := h l List.mem_cons_self
    unfold in1
    split
    · rfl
    · rw [if_neg (fun z => by omega)]
theorem letts_wt {rs : List (List Int)} (cs : List Int) : Wt rs (Ln.letts (rs.length : Int) cs) := fun l hl w hw => (pre_in (by omega) cs cs.length l hl).2.2 w hw
theorem count_in {ls : List Int} {rs : List (List Int)} (R : Tb.Right ls rs) (cs : List Int) {i : Nat} (hi : i < cs.length) : ((inAll ls rs (i : Int) 0 (Ln.letts (rs.length : Int) cs)).length : Int) = (Ln.pre (rs.length : Int) cs (i + 1)).2 := by
  have hb : (0 : Int) ≤ (rs.length : Int) := by omega
  obtain ⟨rest, e, hr⟩ := pre_app hb cs (i + 1) (cs.length - (i + 1))
  rw [show i + 1 + (cs.length - (i + 1)) = cs.length by omega] at e
  have el : Ln.letts (rs.length : Int) cs = (Ln.pre (rs.length : Int) cs (i + 1)).1 ++ rest := e
  rw [el, inAll_append, late_none rest _ (fun l h => by have := hr l h; omega), List.append_nil]
  rw [count_outs R _ 0 (fun l hl w hw => (pre_in hb cs (i + 1) l hl).2.2 w hw) (fun l hl => by have := (pre_in hb cs (i + 1) l hl).2.1; omega)]
  obtain ⟨q, prs, le, hp⟩ := led_pre (rs.length : Int) cs (i + 1)
  rw [← le.2, List.filter_append, List.filter_eq_nil_iff.mpr (fun p h => by
    have := hp p h
    show ¬ decide ((i : Int) < p.1) = true
    rw [decide_eq_false (by omega)]
    exact Bool.false_ne_true), List.nil_append, List.filter_eq_self.mpr (fun p h => by
    have := qp_ge q _ p h
    exact decide_eq_true (by omega)), qp_len]
  exact le.1
theorem none_in {ls : List Int} {rs : List (List Int)} (R : Tb.Right ls rs) (cs : List Int) {τ : Int} (h : (cs.length : Int) + (rs.length : Int) < τ) : inAll ls rs τ 0 (Ln.letts (rs.length : Int) cs) = [] := by
  have hb : (0 : Int) ≤ (rs.length : Int) := by omega
  have key : ∀ (L : List Let) (n : Int), (∀ l ∈ L, l.1 < (cs.length : Int) ∧ ∀ w, l.2.2 = some w → 0 ≤ w ∧ w ≤ (rs.length : Int)) → inAll ls rs τ n L = [] := by
    intro L
    induction L with
    | nil => exact fun _ _ => rfl
    | cons l r ih =>
      intro n hl
      show in1 ls rs τ n l ++ inAll ls rs τ (n + 1) r = []
      rw [ih (n + 1) fun x hx => hl x (List.mem_cons_of_mem _ hx), List.append_nil]
      obtain ⟨h1, h2⟩ := hl l List.mem_cons_self
      have z := in1_len R (τ := τ) (n := n) h2
      have : alive τ l = false := by
        obtain ⟨t, u, wt⟩ := l
        cases wt with
        | none => rfl
        | some w =>
          have := h2 w rfl
          show (decide (t ≤ τ) && decide (τ < t + w)) = false
          have h1' : t < (cs.length : Int) := h1
          rw [decide_eq_false (by omega : ¬ τ < t + w), Bool.and_false]
      rw [this] at z
      exact List.length_eq_zero_iff.mp z
  exact key _ 0 fun l hl => (pre_in hb cs cs.length l hl).2
theorem behind_at (b : Int) (cs : List Int) : ∀ (n i : Nat), i < n → (Ln.behind b cs n)[i]? = some (Ln.pre b cs (i + 1)).2
  | 0, i, h => absurd h (Nat.not_lt_zero _)
  | n + 1, i, h => by
    show (Ln.behind b cs n ++ [(Ln.pre b cs (n + 1)).2])[i]? = _
    rcases Nat.lt_or_ge i n with c | c
    · rw [List.getElem?_append_left (by rw [Ln.behind_len]; exact c)]
      exact behind_at b cs n i c
    · have : i = n := by omega
      subst this
      rw [List.getElem?_append_right (by rw [Ln.behind_len]; exact Nat.le_refl _), Ln.behind_len, Nat.sub_self]
      rfl
/-! bounds for sorting -/
theorem lays_bd {ls : List Int} {rs : List (List Int)} (R : Tb.Right ls rs) (m : Int) : ∀ (L : List Let) (n : Int), 0 ≤ n → n + (L.length : Int) ≤ 2000 → Wt rs L → (∀ l ∈ L, 0 ≤ l.1 ∧ l.1 < 500) → ∀ e ∈ lays ls rs n L, e.length = 3 ∧ TS.Bd 10000 e ∧ 0 ≤ e.getD 2 0 ∧ e.getD 2 0 < (ls.length : Int)
  | [], _, _, _, _, _, e, h => absurd h (by simp [lays])
  | l :: r, n, h0, h1, hw, ht, e, h => by
    rw [List.length_cons] at h1
    rcases List.mem_append.mp (show e ∈ lay1 ls rs n l ++ lays ls rs (n + 1) r from h) with h | h
    · have hl := ht l List.mem_cons_self
      obtain ⟨t, u, wt⟩ := l
      cases wt with
      | none => exact absurd h (by simp [lay1])
      | some w =>
        have hww := hw _ List.mem_cons_self w rfl
        obtain ⟨p, hp, rfl⟩ := List.mem_map.mp (show e ∈ (Tb.go ls 0 (rowOf rs w)).map fun p => [t + p.1, n, p.2] from h)
        by_cases c : 0 < w
        · obtain ⟨_, hin, _, hs⟩ := rowOf_at R c hww.2
          have b := Tb.go_rng R.1 _ 0 hin p hp
          have g1 := R.1.2.1
          have r60 := R.2.2.1
          have hl0 : 0 ≤ t ∧ t < 500 := hl
          refine ⟨rfl, fun x hx => ?_, b.2.2.1, b.2.2.2⟩
          simp only [List.mem_cons, List.not_mem_nil, or_false] at hx
          rcases hx with e | e | e <;> subst e <;> omega
        · have : rowOf rs w = [] := if_pos (by omega)
          rw [this] at hp
          exact absurd hp (by simp [Tb.go])
    · exact lays_bd R m r (n + 1) (by omega) (by omega) (fun x hx => hw x (List.mem_cons_of_mem _ hx)) (fun x hx => ht x (List.mem_cons_of_mem _ hx)) e h
theorem ins_bd {ls : List Int} (G : Rch.Good ls) {τ : Int} {es : List (List Int)} (h : ∀ e ∈ es, e.length = 3 ∧ TS.Bd 10000 e ∧ 0 ≤ e.getD 2 0 ∧ e.getD 2 0 < (ls.length : Int)) (h1 : 0 ≤ τ) : ∀ e ∈ es.filterMap (ins1 ls τ), e.length = 3 ∧ TS.Bd 20000 e := by
  intro e he
  obtain ⟨x, hx, ex⟩ := List.mem_filterMap.mp he
  obtain ⟨hl, hb, h2, h3⟩ := h x hx
  unfold ins1 at ex
  split at ex
  · next c =>
    have ex' := (Option.some.inj ex).symm
    subst ex'
    have lp := Tb.len_pos G h2 h3
    have b0 : 0 ≤ x.getD 0 0 ∧ x.getD 0 0 < 10000 := by
      match x, hl with
      | [a, b, c], _ => exact hb a List.mem_cons_self
    have b1 : 0 ≤ x.getD 1 0 ∧ x.getD 1 0 < 10000 := by
      match x, hl with
      | [a, b, c], _ => exact hb b (List.mem_cons_of_mem _ List.mem_cons_self)
    have g1 := G.2.1
    refine ⟨rfl, fun y hy => ?_⟩
    simp only [List.mem_cons, List.not_mem_nil, or_false] at hy
    rcases hy with e | e | e <;> subst e <;> omega
  · cases ex
end Dy

/-! ### the mathematics of walks -/
namespace Wk
open Ln (Let)
abbrev Spt := Int × Int
def Spot (k b : Int) (s : Spt) : Prop := 0 ≤ s.1 ∧ s.1 ≤ b ∧ 1 ≤ s.2 ∧ s.2 ≤ k ∧ s.2 - 1 ≤ s.1
def Nx (k b : Int) (s o : Spt) : Prop := Spot k b o ∧ (o = (s.1 + 1, s.2 + 1) ∨ (o.2 = 1 ∧ o.1 ≤ s.1))
/-- each one is next to the one ahead of it -/
def Chain (k b : Int) : Spt → List Spt → Prop
  | _, [] => True
  | s, o :: r => Nx k b s o ∧ Chain k b o r
def Walk (k b : Int) : List Spt → Prop
  | [] => False
  | s :: r => Spot k b s ∧ s.2 = 1 ∧ Chain k b s r
def incL : List Int → List Int
  | [] => []
  | [x] => [x + 1]
  | x :: y :: r => x :: incL (y :: r)
def grow (cs : List Int) (s o : Spt) : List Int := if o.2 > 1 then incL cs else cs ++ (List.replicate (s.1 - o.1).toNat 0 ++ [1])
def cfGo : List Int → Spt → List Spt → List Int
  | cs, _, [] => cs
  | cs, s, o :: r => cfGo (grow cs s o) o r
def start (w : Int) : List Int := List.replicate w.toNat 2 ++ [1]
def cf : List Spt → List Int
  | [] => []
  | s :: r => cfGo (start s.1) s r
theorem incL_snoc (cs : List Int) (x : Int) : incL (cs ++ [x]) = cs ++ [x + 1] := by
  induction cs with
  | nil => rfl
  | cons a cs ih =>
    cases cs with
    | nil => rfl
    | cons b cs => exact congrArg (a :: ·) ih
theorem pre_congr {b : Int} {cs ds : List Int} : ∀ i : Nat, (∀ j, j < i → cs.getD j 0 = ds.getD j 0) → Ln.pre b cs i = Ln.pre b ds i
  | 0, _ => rfl
  | i + 1, h => by
    have ih := pre_congr (b := b) i fun j hj => h j (by omega)
    unfold Ln.pre
    rw [ih, h i (by omega)]
theorem getD_left {cs : List Int} (ds : List Int) {j : Nat} (h : j < cs.length) : (cs ++ ds).getD j 0 = cs.getD j 0 := by
  rw [List.getD_eq_getElem?_getD, List.getD_eq_getElem?_getD, List.getElem?_append_left h]
/-- the line while the last tick's letters have come -/
structure Now (b : Int) (cs : List Int) (row : List Spt) (w : Int) (n : Nat) (s : Spt) : Prop where
  ex : ∃ (ds : List Int) (L0 : List Let), cs = ds ++ [(n : Int)] ∧ (Ln.turns b (ds.length : Int) n (Ln.pre b ds ds.length)).1 = L0 ∧ (Ln.turns b (ds.length : Int) n (Ln.pre b ds ds.length)).2 = s.1 + 1 ∧
    L0.length = 2 * w.toNat + row.length ∧ (L0.drop (2 * w.toNat)).map (fun l => (l.2.2, l.2.1)) = row.map (fun p => (some p.1, p.2)) ∧ ∀ l ∈ L0, l.2.2 ≠ none
  nn : (n : Int) = s.2
theorem drop_snoc {α : Type} {l : List α} {n : Nat} (x : α) (h : n ≤ l.length) : (l ++ [x]).drop n = l.drop n ++ [x] := by
  rw [List.drop_append_of_le_length h]
theorem twos {b : Int} : ∀ (m : Nat) (ds : List Int), (m : Int) ≤ b → ds = List.replicate m 2 → (Ln.pre b ds m).2 = (m : Int) ∧ (Ln.pre b ds m).1.length = 2 * m ∧ ∀ l ∈ (Ln.pre b ds m).1, l.2.2 ≠ none
  | 0, ds, _, _ => ⟨rfl, rfl, fun l h => by simp [Ln.pre] at h⟩
  | m + 1, ds, hm, hd => by
    have hg : ds.getD m 0 = 2 := by
      rw [hd, List.getD_eq_getElem?_getD, List.getElem?_replicate, if_pos (by omega)]
      rfl
    have ec : Ln.pre b ds m = Ln.pre b (List.replicate m 2) m := pre_congr m fun j hj => by
      rw [hd, List.getD_eq_getElem?_getD, List.getD_eq_getElem?_getD, List.getElem?_replicate, List.getElem?_replicate, if_pos (by omega), if_pos (by omega)]
    obtain ⟨a, c, d⟩ := twos (b := b) m (List.replicate m 2) (by omega) rfl
    rw [← ec] at a c d
    have e2 : (2 : Int).toNat = 2 := rfl
    have t : Ln.turns b (m : Int) 2 (Ln.pre b ds m) = ((Ln.pre b ds m).1 ++ [((m : Int), 1 + ((0 : Nat) : Int), some (m : Int))] ++ [((m : Int), 1 + ((1 : Nat) : Int), some ((m : Int) + 1))], (m : Int) + 1 + 1) := by
      show Ln.step b (m : Int) (1 + ((1 : Nat) : Int)) (Ln.step b (m : Int) (1 + ((0 : Nat) : Int)) (Ln.pre b ds m)) = _
      have s1 : Ln.step b (m : Int) (1 + ((0 : Nat) : Int)) (Ln.pre b ds m) = ((Ln.pre b ds m).1 ++ [((m : Int), 1 + ((0 : Nat) : Int), some (m : Int))], (m : Int) + 1) := by
        unfold Ln.step
        rw [if_neg (by omega), a]
      rw [s1]
      unfold Ln.step
      rw [if_neg (by show ¬ (m : Int) + 1 > b; omega)]
    have e : Ln.pre b ds (m + 1) = ((Ln.turns b (m : Int) (ds.getD m 0).toNat (Ln.pre b ds m)).1, Ln.close (Ln.turns b (m : Int) (ds.getD m 0).toNat (Ln.pre b ds m)).2) := rfl
    rw [hg, e2, t] at e
    rw [e]
    refine ⟨?_, ?_, fun l hl => ?_⟩
    · show Ln.close ((m : Int) + 1 + 1) = _
      unfold Ln.close
      rw [if_pos (by omega)]
      omega
    · show ((Ln.pre b ds m).1 ++ [_] ++ [_]).length = _
      rw [List.length_append, List.length_append, c]
      show 2 * m + 1 + 1 = _
      omega
    · rcases List.mem_append.mp hl with hl | hl
      · rcases List.mem_append.mp hl with hl | hl
        · exact d l hl
        · rw [List.mem_singleton.mp hl]
          exact fun z => by cases z
      · rw [List.mem_singleton.mp hl]
        exact fun z => by cases z
theorem now_start {b k : Int} {s : Spt} (hs : Spot k b s) (h1 : s.2 = 1) : Now b (start s.1) [s] s.1 1 s := by
  have hw : ((s.1.toNat : Nat) : Int) = s.1 := by have := hs.1; omega
  have hl : (List.replicate s.1.toNat (2 : Int)).length = s.1.toNat := List.length_replicate
  obtain ⟨a, c, d⟩ := twos (b := b) s.1.toNat (List.replicate s.1.toNat 2) (by rw [hw]; exact hs.2.1) rfl
  have t : Ln.turns b (s.1.toNat : Int) 1 (Ln.pre b (List.replicate s.1.toNat 2) s.1.toNat) = ((Ln.pre b (List.replicate s.1.toNat 2) s.1.toNat).1 ++ [((s.1.toNat : Int), 1 + ((0 : Nat) : Int), some s.1)], s.1 + 1) := by
    show Ln.step b _ (1 + ((0 : Nat) : Int)) (Ln.pre b (List.replicate s.1.toNat 2) s.1.toNat) = _
    unfold Ln.step
    rw [if_neg (by rw [a, hw]; have := hs.2.1; omega), a, hw]
  refine ⟨⟨List.replicate s.1.toNat 2, _, rfl, rfl, ?_, ?_, ?_, ?_⟩, by rw [h1]; rfl⟩
  all_goals rw [hl, t]
  · rw [List.length_append, c]
    rfl
  · show (((Ln.pre b (List.replicate s.1.toNat 2) s.1.toNat).1 ++ [_]).drop (2 * s.1.toNat)).map _ = _
    rw [drop_snoc _ (by rw [c]; exact Nat.le_refl _), List.drop_of_length_le (by rw [c]; exact Nat.le_refl _)]
    show [(some s.1, 1 + ((0 : Nat) : Int))] = [(some s.1, s.2)]
    rw [h1]
    rfl
  · intro l hl'
    rcases List.mem_append.mp hl' with hl' | hl'
    · exact d l hl'
    · rw [List.mem_singleton.mp hl']
      exact fun z => by cases z
/-- ticks at which nobody comes -/
theorem zeros {b : Int} (ds : List Int) : ∀ (m : Nat) (es : List Int), es = ds ++ List.replicate m 0 → (m : Int) ≤ (Ln.pre b ds ds.length).2 → (Ln.pre b es (ds.length + m)).1 = (Ln.pre b ds ds.length).1 ∧ (Ln.pre b es (ds.length + m)).2 = (Ln.pre b ds ds.length).2 - m
  | 0, es, he, _ => by
    have : Ln.pre b es ds.length = Ln.pre b ds ds.length := pre_congr _ fun j hj => by
      rw [he]
      exact getD_left _ hj
    rw [Nat.add_zero, this]
    exact ⟨rfl, by omega⟩
  | m + 1, es, he, hm => by
    obtain ⟨x, y⟩ := zeros (b := b) ds m (ds ++ List.replicate m 0) rfl (by omega)
    have ec : Ln.pre b es (ds.length + m) = Ln.pre b (ds ++ List.replicate m 0) (ds.length + m) := pre_congr _ fun j hj => by
      have e1 : es = (ds ++ List.replicate m 0) ++ [0] := by
        rw [he, List.append_assoc, List.replicate_succ']
      rw [e1]
      exact getD_left _ (by rw [List.length_append, List.length_replicate]; exact hj)
    have hg : es.getD (ds.length + m) 0 = 0 := by
      rw [he, List.getD_eq_getElem?_getD, List.getElem?_append_right (by omega), Nat.add_sub_cancel_left, List.getElem?_replicate, if_pos (by omega)]
      rfl
    have e : Ln.pre b es (ds.length + (m + 1)) = ((Ln.turns b ((ds.length + m : Nat) : Int) (es.getD (ds.length + m) 0).toNat (Ln.pre b es (ds.length + m))).1, Ln.close (Ln.turns b ((ds.length + m : Nat) : Int) (es.getD (ds.length + m) 0).toNat (Ln.pre b es (ds.length + m))).2) := rfl
    rw [hg] at e
    have e' : Ln.pre b es (ds.length + (m + 1)) = ((Ln.pre b es (ds.length + m)).1, Ln.close (Ln.pre b es (ds.length + m)).2) := e
    rw [e', ec]
    refine ⟨x, ?_⟩
    show Ln.close (Ln.pre b (ds ++ List.replicate m 0) (ds.length + m)).2 = _
    rw [y]
    unfold Ln.close
    rw [if_pos (by omega)]
    omega
theorem now_grow {b k : Int} {cs : List Int} {row : List Spt} {w : Int} {n : Nat} {s o : Spt} (h : Now b cs row w n s) (hs : Spot k b s) (hn : Nx k b s o) : ∃ n', Now b (grow cs s o) (row ++ [o]) w n' o := by
  obtain ⟨⟨ds, L0, hcs, hL, hl, hlen, hmap, hnone⟩, nn⟩ := h
  have hs0 := hs.1
  have ho := hn.1
  have hdrop : 2 * w.toNat ≤ L0.length := by omega
  unfold grow
  rcases hn.2 with e | ⟨e1, e2⟩
  · have o1 : o.1 = s.1 + 1 := by rw [e]
    have o2 : o.2 = s.2 + 1 := by rw [e]
    have ob := ho.2.1
    rw [if_pos (by have := hs.2.2.1; omega)]
    have t : Ln.turns b (ds.length : Int) (n + 1) (Ln.pre b ds ds.length) = (L0 ++ [((ds.length : Int), 1 + (n : Int), some (s.1 + 1))], s.1 + 1 + 1) := by
      show Ln.step b _ (1 + (n : Int)) (Ln.turns b (ds.length : Int) n (Ln.pre b ds ds.length)) = _
      unfold Ln.step
      rw [if_neg (by omega), hL, hl]
    refine ⟨n + 1, ⟨ds, _, ?_, rfl, ?_, ?_, ?_, ?_⟩, by omega⟩
    · rw [hcs, incL_snoc]
      rfl
    all_goals rw [t]
    · show s.1 + 1 + 1 = o.1 + 1
      omega
    · rw [List.length_append, List.length_append, hlen]
      rfl
    · rw [drop_snoc _ hdrop, List.map_append, hmap, List.map_append]
      show _ ++ [(some (s.1 + 1), 1 + (n : Int))] = _ ++ [(some o.1, o.2)]
      rw [o1, o2, nn, Int.add_comm 1 s.2]
    · intro l h
      rcases List.mem_append.mp h with h | h
      · exact hnone l h
      · rw [List.mem_singleton.mp h]
        exact fun z => by cases z
  · have ob := ho.2.1
    have oz := ho.1
    rw [if_neg (by omega)]
    obtain ⟨m, hm⟩ : ∃ m : Nat, (s.1 - o.1).toNat = m := ⟨_, rfl⟩
    have hm' : (m : Int) = s.1 - o.1 := by omega
    rw [hm]
    -- behind the last tick
    have hcl : cs.length = ds.length + 1 := by rw [hcs, List.length_append]; rfl
    have hg : cs.getD ds.length 0 = (n : Int) := by
      rw [hcs, List.getD_eq_getElem?_getD, List.getElem?_append_right (Nat.le_refl _), Nat.sub_self]
      rfl
    have ec : Ln.pre b cs ds.length = Ln.pre b ds ds.length := pre_congr _ fun j hj => by
      rw [hcs]
      exact getD_left _ hj
    have ep : Ln.pre b cs cs.length = (L0, s.1) := by
      rw [hcl]
      show ((Ln.turns b (ds.length : Int) (cs.getD ds.length 0).toNat (Ln.pre b cs ds.length)).1, Ln.close (Ln.turns b (ds.length : Int) (cs.getD ds.length 0).toNat (Ln.pre b cs ds.length)).2) = _
      rw [hg, ec, Int.toNat_natCast, hL, hl]
      unfold Ln.close
      rw [if_pos (by omega), show s.1 + 1 - 1 = s.1 by omega]
    obtain ⟨z1, z2⟩ := zeros (b := b) cs m (cs ++ List.replicate m 0) rfl (by rw [ep]; show (m : Int) ≤ s.1; omega)
    rw [ep] at z1 z2
    have el : (cs ++ List.replicate m 0).length = cs.length + m := by rw [List.length_append, List.length_replicate]
    have t : Ln.turns b ((cs ++ List.replicate m (0 : Int)).length : Int) 1 (Ln.pre b (cs ++ List.replicate m 0) (cs ++ List.replicate m (0 : Int)).length) = (L0 ++ [(((cs ++ List.replicate m (0 : Int)).length : Int), 1 + ((0 : Nat) : Int), some o.1)], o.1 + 1) := by
      show Ln.step b _ (1 + ((0 : Nat) : Int)) (Ln.pre b (cs ++ List.replicate m 0) (cs ++ List.replicate m (0 : Int)).length) = _
      rw [el]
      unfold Ln.step
      have zz : (Ln.pre b (cs ++ List.replicate m 0) (cs.length + m)).2 = o.1 := by
        rw [z2]
        show s.1 - (m : Int) = o.1
        omega
      rw [if_neg (by rw [zz]; omega), zz, z1]
    refine ⟨1, ⟨cs ++ List.replicate m 0, _, by rw [List.append_assoc]; rfl, rfl, ?_, ?_, ?_, ?_⟩, by rw [e1]; rfl⟩
    all_goals rw [t]
    · have e9 : ∀ x : Let, (L0 ++ [x]).length = L0.length + 1 := fun x => List.length_append
      rw [e9, hlen, List.length_append]
      rfl
    · rw [drop_snoc _ hdrop, List.map_append, hmap, List.map_append]
      show _ ++ [(some o.1, 1 + ((0 : Nat) : Int))] = _ ++ [(some o.1, o.2)]
      rw [e1]
      rfl
    · intro l h
      rcases List.mem_append.mp h with h | h
      · exact hnone l h
      · rw [List.mem_singleton.mp h]
        exact fun z => by cases z
theorem now_all {b k : Int} : ∀ (r : List Spt) (cs : List Int) (row : List Spt) (w : Int) (n : Nat) (s : Spt), Now b cs row w n s → Spot k b s → Chain k b s r → ∃ n' s', Now b (cfGo cs s r) (row ++ r) w n' s'
  | [], cs, row, w, n, s, h, _, _ => by
    rw [List.append_nil]
    exact ⟨n, s, h⟩
  | o :: r, cs, row, w, n, s, h, hs, hc => by
    obtain ⟨n', h'⟩ := now_grow h hs hc.1
    have := now_all r _ _ w n' o h' hc.1.1 hc.2
    rw [List.append_assoc] at this
    exact this
theorem cf_is {b k : Int} {row : List Spt} (h : Walk k b row) : (Ln.letts b (cf row)).length = 2 * (row.headD (0, 0)).1.toNat + row.length ∧ ((Ln.letts b (cf row)).drop (2 * (row.headD (0, 0)).1.toNat)).map (fun l => (l.2.2, l.2.1)) = row.map (fun p => (some p.1, p.2)) ∧ ∀ l ∈ Ln.letts b (cf row), l.2.2 ≠ none := by
  cases row with
  | nil => exact False.elim h
  | cons s r =>
    obtain ⟨hs, h1, hc⟩ := h
    obtain ⟨n', s', ⟨⟨ds, L0, hcs, hL, hl, hlen, hmap, hnone⟩, nn⟩⟩ := now_all r _ _ _ 1 s (now_start hs h1) hs hc
    have hcl : (cf (s :: r)).length = ds.length + 1 := by
      show (cfGo (start s.1) s r).length = _
      rw [hcs, List.length_append]
      rfl
    have el : Ln.letts b (cf (s :: r)) = L0 := by
      unfold Ln.letts
      rw [hcl]
      show (Ln.turns b (ds.length : Int) ((cf (s :: r)).getD ds.length 0).toNat (Ln.pre b (cf (s :: r)) ds.length)).1 = L0
      have e0 : cf (s :: r) = ds ++ [(n' : Int)] := hcs
      have hg : (cf (s :: r)).getD ds.length 0 = (n' : Int) := by
        rw [e0, List.getD_eq_getElem?_getD, List.getElem?_append_right (Nat.le_refl _), Nat.sub_self]
        rfl
      have ec : Ln.pre b (cf (s :: r)) ds.length = Ln.pre b ds ds.length := pre_congr _ fun j hj => by
        rw [e0]
        exact getD_left _ hj
      rw [hg, ec, Int.toNat_natCast, hL]
    rw [el]
    exact ⟨hlen, hmap, hnone⟩
end Wk

/-! ### what stands twice in a sorted list -/
namespace Mt
def prs (es : List (List Int)) : List (List Int) := es.map fun e => [e.getD 0 0, e.getD 2 0]
def Ok2 (rs : List (List Int)) : Prop := ∀ r ∈ rs, r.length = 2 ∧ TS.Bd 10000 r
abbrev Up (rs : List (List Int)) : Prop := rs.Pairwise fun x y => TS.code 10000 x ≤ TS.code 10000 y
theorem strict_count : ∀ {rs : List (List Int)}, Ok2 rs → Up rs → (∀ (i : Nat) x y, rs[i]? = some x → rs[i + 1]? = some y → x ≠ y) → ∀ r, rs.count r ≤ 1
  | [], _, _, _, r => by simp
  | [x], _, _, _, r => by
    rw [List.count_cons]
    split <;> simp
  | x :: y :: rs, hb, hu, ha, r => by
    have hb' : Ok2 (y :: rs) := fun z hz => hb z (List.mem_cons_of_mem _ hz)
    obtain ⟨h1, h2⟩ := List.pairwise_cons.mp hu
    have ih := strict_count hb' h2 (fun i a b h h' => ha (i + 1) a b (by simpa using h) (by simpa using h')) r
    have hxy : x ≠ y := ha 0 x y rfl rfl
    by_cases e : x = r
    · subst e
      have hn : x ∉ y :: rs := fun hm => by
        rcases List.mem_cons.mp hm with z | hm
        · exact hxy z
        · have c1 := h1 y List.mem_cons_self
          have c2 := (List.pairwise_cons.mp h2).1 x hm
          have bx := hb x List.mem_cons_self
          have bY := hb y (List.mem_cons_of_mem _ List.mem_cons_self)
          exact hxy (My.code_inj bx.1 bY.1 bx.2 bY.2 (Int.le_antisymm c1 c2))
      rw [List.count_cons_self, List.count_eq_zero_of_not_mem hn]
      exact Nat.le_refl _
    · rw [List.count_cons_of_ne e]
      exact ih
theorem twice_least {rs : List (List Int)} (hb : Ok2 rs) (hu : Up rs) {i : Nat} {x : List Int} (h1 : rs[i]? = some x) (h2 : rs[i + 1]? = some x) (ha : ∀ (j : Nat) a b, j < i → rs[j]? = some a → rs[j + 1]? = some b → a ≠ b) :
    2 ≤ rs.count x ∧ ∀ r, 2 ≤ rs.count r → TS.code 10000 x ≤ TS.code 10000 r := by
  have hi : i + 1 < rs.length := (List.getElem?_eq_some_iff.mp h2).1
  have e : rs = rs.take (i + 1) ++ rs.drop (i + 1) := (List.take_append_drop _ _).symm
  have ec : ∀ r, rs.count r = (rs.take (i + 1)).count r + (rs.drop (i + 1)).count r := fun r => by
    rw [← List.count_append, ← e]
  have et : rs.take (i + 1) = rs.take i ++ [x] := by
    rw [List.take_add_one, h1]
    rfl
  have ed : rs.drop (i + 1) = x :: rs.drop (i + 1 + 1) := by
    rw [List.drop_eq_getElem_cons hi]
    congr 1
    rw [List.getElem?_eq_getElem hi] at h2
    exact Option.some.inj h2
  have m1 : x ∈ rs.take (i + 1) := by
    rw [et]
    simp
  have m2 : x ∈ rs.drop (i + 1) := by
    rw [ed]
    exact List.mem_cons_self
  refine ⟨?_, fun r hr => ?_⟩
  · have a := List.count_pos_iff.mpr m1
    have b := List.count_pos_iff.mpr m2
    rw [ec]
    omega
  · have ht : (rs.take (i + 1)).count r ≤ 1 := by
      refine strict_count (fun z hz => hb z (List.mem_of_mem_take hz)) (hu.sublist (List.take_sublist _ _)) (fun j a b ja jb => ?_) r
      have hj : j + 1 < (rs.take (i + 1)).length := (List.getElem?_eq_some_iff.mp jb).1
      rw [List.length_take] at hj
      rw [List.getElem?_take_of_lt (by omega)] at ja jb
      exact ha j a b (by omega) ja jb
    rw [ec] at hr
    have hm : r ∈ rs.drop (i + 1) := List.count_pos_iff.mp (by omega)
    rw [ed] at hm
    have hd : Up (x :: rs.drop (i + 1 + 1)) := by
      rw [← ed]
      exact hu.sublist (List.drop_sublist _ _)
    rcases List.mem_cons.mp hm with z | hm
    · rw [z]
      exact Int.le_refl _
    · exact (List.pairwise_cons.mp hd).1 r hm
/-- the first that stands twice -/
def Least (rs : List (List Int)) (x : List Int) : Prop := 2 ≤ rs.count x ∧ ∀ r, 2 ≤ rs.count r → TS.code 10000 x ≤ TS.code 10000 r
theorem Least.perm {rs rs' : List (List Int)} {x : List Int} (h : Least rs x) (p : rs.Perm rs') : Least rs' x := ⟨by rw [← p.count_eq]; exact h.1, fun r hr => h.2 r (by rw [p.count_eq]; exact hr)⟩
end Mt
namespace Mt
theorem code2 {a b c d : Int} (h1 : TS.Bd 10000 [a, b]) (h2 : TS.Bd 10000 [c, d]) (h : HT.lexLt [a, b] [c, d] = true) : TS.code 10000 [a, b] ≤ TS.code 10000 [c, d] := by
  have hb : TS.Bd 10000 [b] := fun m hm => h1 m (List.mem_cons_of_mem _ hm)
  have hd : TS.Bd 10000 [d] := fun m hm => h2 m (List.mem_cons_of_mem _ hm)
  rw [HT.lexLt_cons] at h
  by_cases e : a = c
  · rw [if_pos e, HT.lexLt_cons] at h
    by_cases e2 : b = d
    · rw [e, e2]
      exact Int.le_refl _
    · rw [if_neg e2] at h
      have lt := of_decide_eq_true h
      rw [e]
      exact Int.le_of_lt ((TS.code_same (B := 10000) (d := c) (r := [b]) (q := [d]) rfl).mpr (TS.code_lt (B := 10000) (d := b) (e := d) (r := []) (q := []) rfl (fun m hm => by cases hm) (fun m hm => by cases hm) lt))
  · rw [if_neg e] at h
    exact Int.le_of_lt (TS.code_lt rfl hb hd (of_decide_eq_true h))
theorem code2' {a b c d : Int} (h1 : TS.Bd 10000 [a, b]) (h2 : TS.Bd 10000 [c, d]) (h : HT.lexLt [a, b] [c, d] = false) : TS.code 10000 [c, d] ≤ TS.code 10000 [a, b] := by
  by_cases e : a = c
  · by_cases e2 : b = d
    · rw [e, e2]
      exact Int.le_refl _
    · refine code2 h2 h1 ?_
      rw [HT.lexLt_cons, if_pos e.symm, HT.lexLt_cons, if_neg (Ne.symm e2)]
      rw [HT.lexLt_cons, if_pos e, HT.lexLt_cons, if_neg e2] at h
      have := of_decide_eq_false h
      exact decide_eq_true (by omega)
  · refine code2 h2 h1 ?_
    rw [HT.lexLt_cons, if_neg (Ne.symm e)]
    rw [HT.lexLt_cons, if_neg e] at h
    have := of_decide_eq_false h
    exact decide_eq_true (by omega)
/-- what the law has seen, and the best so far -/
def Best (P : List (List Int)) : Option (List Int) → Prop
  | none => ∀ r, P.count r ≤ 1
  | some b => b ∈ P ∧ Least P b
theorem cnt (P : List (List Int)) (k r : List Int) : (P ++ [k]).count r = P.count r + if k = r then 1 else 0 := by
  rw [List.count_append, List.count_cons, List.count_nil]
  by_cases e : k = r
  · rw [if_pos e, if_pos (by rw [e]; exact beq_self_eq_true r)]
  · rw [if_neg e, if_neg (by simpa using e)]
theorem best_new {P : List (List Int)} {k : List Int} {o : Option (List Int)} (h : Best P o) (hk : k ∉ P) : Best (P ++ [k]) o := by
  have c0 : P.count k = 0 := List.count_eq_zero_of_not_mem hk
  cases o with
  | none =>
    intro r
    have := h r
    rw [cnt]
    by_cases e : k = r
    · rw [if_pos e, ← e, c0]
      exact Nat.le_refl _
    · rw [if_neg e]
      exact this
  | some b =>
    obtain ⟨hm, h1, h2⟩ := h
    refine ⟨List.mem_append_left _ hm, ?_, fun r hr => h2 r ?_⟩
    · rw [cnt]
      omega
    · rw [cnt] at hr
      by_cases e : k = r
      · rw [if_pos e, ← e, c0] at hr
        omega
      · rw [if_neg e] at hr
        exact hr
theorem best_first {P : List (List Int)} {k : List Int} (h : Best P none) (hk : k ∈ P) : Best (P ++ [k]) (some k) := by
  have c0 := List.count_pos_iff.mpr hk
  refine ⟨List.mem_append_left _ hk, ?_, fun r hr => ?_⟩
  · rw [cnt, if_pos rfl]
    omega
  · by_cases e : k = r
    · rw [e]
      exact Int.le_refl _
    · have := h r
      rw [cnt, if_neg e] at hr
      omega
theorem best_less {P : List (List Int)} {k b : List Int} (h : Best P (some b)) (hk : k ∈ P) (hc : TS.code 10000 k ≤ TS.code 10000 b) : Best (P ++ [k]) (some k) := by
  have c0 := List.count_pos_iff.mpr hk
  obtain ⟨hm, h1, h2⟩ := h
  refine ⟨List.mem_append_left _ hk, ?_, fun r hr => ?_⟩
  · rw [cnt, if_pos rfl]
    omega
  · by_cases e : k = r
    · rw [e]
      exact Int.le_refl _
    · rw [cnt, if_neg e] at hr
      exact Int.le_trans hc (h2 r hr)
theorem best_more {P : List (List Int)} {k b : List Int} (h : Best P (some b)) (hc : TS.code 10000 b ≤ TS.code 10000 k) : Best (P ++ [k]) (some b) := by
  obtain ⟨hm, h1, h2⟩ := h
  refine ⟨List.mem_append_left _ hm, ?_, fun r hr => ?_⟩
  · rw [cnt]
    omega
  · by_cases e : k = r
    · rw [← e]
      exact hc
    · rw [cnt, if_neg e] at hr
      exact h2 r hr
end Mt

/-! ### entries that clash -/
namespace Cl
def hd (e : List Int) : Int := e.getD 0 0
def grp (k : Int) (es : List (List Int)) : List (List Int) := es.filter fun e => decide (hd e = k)
def step (acc : List Int) (e : List Int) : List Int := if hd e ∈ acc then acc else acc ++ [hd e]
/-- the loops of the entries, as they come first -/
def heads (es : List (List Int)) : List Int := es.foldl step []
theorem heads_snoc (es : List (List Int)) (e : List Int) : heads (es ++ [e]) = step (heads es) e := by
  unfold heads
  rw [List.foldl_append]
  rfl
theorem mem_step {acc : List Int} {e : List Int} {k : Int} : k ∈ step acc e ↔ k ∈ acc ∨ hd e = k := by
  unfold step
  split
  · next h =>
    constructor
    · exact .inl
    · rintro (h1 | h1)
      · exact h1
      · rw [← h1]
        exact h
  · rw [List.mem_append, List.mem_singleton]
    constructor
    · rintro (h1 | h1)
      · exact .inl h1
      · exact .inr h1.symm
    · rintro (h1 | h1)
      · exact .inl h1
      · exact .inr h1.symm
theorem mem_fold {es : List (List Int)} : ∀ {acc : List Int} {k : Int}, k ∈ es.foldl step acc ↔ k ∈ acc ∨ ∃ e ∈ es, hd e = k := by
  induction es with
  | nil => simp
  | cons e es ih =>
    intro acc k
    rw [List.foldl_cons, ih, mem_step]
    simp only [List.mem_cons]
    constructor
    · rintro ((h | h) | ⟨x, hx, h⟩)
      · exact .inl h
      · exact .inr ⟨e, .inl rfl, h⟩
      · exact .inr ⟨x, .inr hx, h⟩
    · rintro (h | ⟨x, (rfl | hx), h⟩)
      · exact .inl (.inl h)
      · exact .inl (.inr h)
      · exact .inr ⟨x, hx, h⟩
theorem mem_heads {es : List (List Int)} {k : Int} : k ∈ heads es ↔ ∃ e ∈ es, hd e = k := by
  unfold heads
  rw [mem_fold]
  simp
theorem mem_grp {k : Int} {es : List (List Int)} {e : List Int} : e ∈ grp k es ↔ e ∈ es ∧ hd e = k := by
  unfold grp
  rw [List.mem_filter, decide_eq_true_iff]
theorem grp_snoc (k : Int) (es : List (List Int)) (e : List Int) : grp k (es ++ [e]) = if hd e = k then grp k es ++ [e] else grp k es := by
  unfold grp
  rw [List.filter_append]
  by_cases h : hd e = k
  · rw [if_pos h, List.filter_cons_of_pos (by simpa using h)]
    rfl
  · rw [if_neg h, List.filter_cons_of_neg (by simpa using h)]
    simp
def apart (one other : List Int) : Int := other.getD 2 0 - one.getD 2 0
def cond (c : Int) (one other : List Int) : Bool := decide (apart one other > 0) && (decide (one.getD 1 0 ≥ other.getD 1 0) && decide (apart one other ≤ c * (one.getD 1 0 - other.getD 1 0) + c - 1))
def byOne (c : Int) (g : List (List Int)) (one : List Int) (m : Nat) : List (List Int × List Int) := ((g.take m).filter (cond c one)).map fun other => (one, other)
def byGrp (c : Int) (g : List (List Int)) (j : Nat) : List (List Int × List Int) := (g.take j).flatMap fun one => byOne c g one g.length
def byHeads (c : Int) (es : List (List Int)) (ks : List Int) : List (List Int × List Int) := ks.flatMap fun k => byGrp c (grp k es) (grp k es).length
def cl (c : Int) (es : List (List Int)) : List (List Int × List Int) := byHeads c es (heads es)
theorem byOne_next {c : Int} {g : List (List Int)} {one other : List Int} {m : Nat} (h : g[m]? = some other) : byOne c g one (m + 1) = if cond c one other = true then byOne c g one m ++ [(one, other)] else byOne c g one m := by
  unfold byOne
  rw [My.take_snoc h, List.filter_append]
  by_cases e : cond c one other = true
  · rw [if_pos e, List.filter_cons_of_pos e, List.map_append]
    rfl
  · rw [if_neg e, List.filter_cons_of_neg e]
    simp
theorem byGrp_next {c : Int} {g : List (List Int)} {one : List Int} {j : Nat} (h : g[j]? = some one) : byGrp c g (j + 1) = byGrp c g j ++ byOne c g one g.length := by
  unfold byGrp
  rw [My.take_snoc h, List.flatMap_append]
  simp
theorem byHeads_next {c : Int} {es : List (List Int)} {ks : List Int} {i : Nat} {k : Int} (h : ks[i]? = some k) : byHeads c es (ks.take (i + 1)) = byHeads c es (ks.take i) ++ byGrp c (grp k es) (grp k es).length := by
  unfold byHeads
  rw [My.take_snoc h, List.flatMap_append]
  simp
theorem mem_byOne {c : Int} {g : List (List Int)} {one : List Int} {x y : List Int} : (x, y) ∈ byOne c g one g.length ↔ x = one ∧ y ∈ g ∧ cond c one y = true := by
  unfold byOne
  rw [List.take_of_length_le (Nat.le_refl _), List.mem_map]
  constructor
  · rintro ⟨z, hz, e⟩
    injection e with e1 e2
    subst e1 e2
    obtain ⟨a, b⟩ := List.mem_filter.mp hz
    exact ⟨rfl, a, b⟩
  · rintro ⟨rfl, a, b⟩
    exact ⟨y, List.mem_filter.mpr ⟨a, b⟩, rfl⟩
theorem mem_byGrp {c : Int} {g : List (List Int)} {x y : List Int} : (x, y) ∈ byGrp c g g.length ↔ x ∈ g ∧ y ∈ g ∧ cond c x y = true := by
  unfold byGrp
  rw [List.take_of_length_le (Nat.le_refl _), List.mem_flatMap]
  constructor
  · rintro ⟨o, ho, h⟩
    obtain ⟨rfl, a, b⟩ := mem_byOne.mp h
    exact ⟨ho, a, b⟩
  · rintro ⟨a, b, d⟩
    exact ⟨x, a, mem_byOne.mpr ⟨rfl, b, d⟩⟩
theorem mem_cl {c : Int} {es : List (List Int)} {x y : List Int} : (x, y) ∈ cl c es ↔ x ∈ es ∧ y ∈ es ∧ hd x = hd y ∧ cond c x y = true := by
  unfold cl byHeads
  rw [List.mem_flatMap]
  constructor
  · rintro ⟨k, _, h⟩
    obtain ⟨a, b, d⟩ := mem_byGrp.mp h
    obtain ⟨a1, a2⟩ := mem_grp.mp a
    obtain ⟨b1, b2⟩ := mem_grp.mp b
    exact ⟨a1, b1, by rw [a2, b2], d⟩
  · rintro ⟨a, b, e, d⟩
    exact ⟨hd x, mem_heads.mpr ⟨x, a, rfl⟩, mem_byGrp.mpr ⟨mem_grp.mpr ⟨a, rfl⟩, mem_grp.mpr ⟨b, e.symm⟩, d⟩⟩
/-- a clash of a table for so many comers -/
def Clash (c : Int) (ls : List Int) (rs : List (List Int)) (x y : List Int) : Prop := x ∈ Tb.all ls rs rs.length ∧ y ∈ Tb.all ls rs rs.length ∧ hd x = hd y ∧ cond c x y = true
def Safe (c : Int) (ls : List Int) (rs : List (List Int)) : Prop := ∀ x y, ¬ Clash c ls rs x y
theorem clash_of {c : Int} {ls : List Int} {rs : List (List Int)} {es : List (List Int)} (pm : es.Perm (Tb.all ls rs rs.length)) {x y : List Int} : (x, y) ∈ cl c es ↔ Clash c ls rs x y := by
  rw [mem_cl, pm.mem_iff, pm.mem_iff]
  rfl
theorem safe_of {c : Int} {ls : List Int} {rs : List (List Int)} {es : List (List Int)} (pm : es.Perm (Tb.all ls rs rs.length)) : cl c es = [] ↔ Safe c ls rs := by
  constructor
  · intro e x y h
    have := (clash_of pm).mpr h
    rw [e] at this
    cases this
  · intro h
    cases e : cl c es with
    | nil => rfl
    | cons p r =>
      obtain ⟨x, y⟩ := p
      exact absurd ((clash_of pm).mp (by rw [e]; exact List.mem_cons_self)) (h x y)
theorem byOne_len (c : Int) (g : List (List Int)) (one : List Int) (m : Nat) : (byOne c g one m).length ≤ g.length := by
  unfold byOne
  rw [List.length_map]
  exact Nat.le_trans (List.length_filter_le _ _) (by rw [List.length_take]; omega)
theorem flat_len {α β : Type} {n : Nat} {f : α → List β} (h : ∀ x, (f x).length ≤ n) : ∀ l : List α, (l.flatMap f).length ≤ l.length * n
  | [] => by simp
  | x :: l => by
    rw [List.flatMap_cons, List.length_append, List.length_cons, Nat.succ_mul]
    have := h x
    have := flat_len h l
    omega
theorem byGrp_len (c : Int) (g : List (List Int)) (j : Nat) : (byGrp c g j).length ≤ g.length * g.length := by
  unfold byGrp
  refine Nat.le_trans (flat_len (n := g.length) (fun one => byOne_len c g one _) _) ?_
  exact Nat.mul_le_mul_right _ (by rw [List.length_take]; omega)
theorem fold_len : ∀ (es : List (List Int)) (acc : List Int), (es.foldl step acc).length ≤ acc.length + es.length
  | [], acc => by simp
  | e :: es, acc => by
    rw [List.foldl_cons]
    refine Nat.le_trans (fold_len es _) ?_
    have : (step acc e).length ≤ acc.length + 1 := by
      unfold step
      split
      · omega
      · simp
    simp only [List.length_cons]
    omega
theorem heads_len (es : List (List Int)) : (heads es).length ≤ es.length := by
  have := fold_len es []
  unfold heads
  simpa using this
theorem nodup_step {acc : List Int} {e : List Int} (h : acc.Nodup) : (step acc e).Nodup := by
  unfold step
  split
  · exact h
  · next hn =>
    rw [List.nodup_append]
    exact ⟨h, by simp, fun a ha b hb => by rw [List.mem_singleton.mp hb]; exact fun z => hn (z ▸ ha)⟩
theorem nodup_fold : ∀ (es : List (List Int)) (acc : List Int), acc.Nodup → (es.foldl step acc).Nodup
  | [], _, h => h
  | _ :: es, _, h => nodup_fold es _ (nodup_step h)
theorem heads_nodup (es : List (List Int)) : (heads es).Nodup := nodup_fold es [] .nil
theorem ones_le (v : Int) : ∀ {ks : List Int}, ks.Nodup → (ks.map fun k => if v = k then 1 else 0).sum ≤ 1
  | [], _ => by simp
  | k :: ks, h => by
    obtain ⟨h1, h2⟩ := List.nodup_cons.mp h
    rw [List.map_cons, List.sum_cons]
    by_cases e : v = k
    · have z : (ks.map fun k => if v = k then 1 else 0).sum = 0 := by
        have : ∀ {ks : List Int}, v ∉ ks → (ks.map fun k => if v = k then 1 else 0).sum = 0 := by
          intro ks
          induction ks with
          | nil => simp
          | cons a ks ih =>
            intro hn
            rw [List.map_cons, List.sum_cons, if_neg (fun z => hn (by rw [z]; exact List.mem_cons_self)), ih fun z => hn (List.mem_cons_of_mem _ z)]
        exact this (e ▸ h1)
      rw [if_pos e, z]
      exact Nat.le_refl _
    · have := ones_le v h2
      rw [if_neg e]
      omega
theorem grp_cons_len (k : Int) (e : List Int) (es : List (List Int)) : (grp k (e :: es)).length = (if hd e = k then 1 else 0) + (grp k es).length := by
  unfold grp
  by_cases h : hd e = k
  · rw [List.filter_cons_of_pos (by simpa using h), if_pos h, List.length_cons]
    omega
  · rw [List.filter_cons_of_neg (by simpa using h), if_neg h]
    omega
theorem sum_add {α : Type} (f g : α → Nat) : ∀ l : List α, (l.map fun x => f x + g x).sum = (l.map f).sum + (l.map g).sum
  | [] => rfl
  | x :: l => by
    rw [List.map_cons, List.sum_cons, sum_add f g l, List.map_cons, List.map_cons, List.sum_cons, List.sum_cons]
    omega
theorem gs_le {ks : List Int} (h : ks.Nodup) : ∀ es : List (List Int), (ks.map fun k => (grp k es).length).sum ≤ es.length
  | [] => by
    have : ∀ ks : List Int, (ks.map fun k => (grp k []).length).sum = 0 := by
      intro ks
      induction ks with
      | nil => rfl
      | cons a ks ih =>
        rw [List.map_cons, List.sum_cons, ih]
        rfl
    rw [this]
    exact Nat.le_refl _
  | e :: es => by
    have e1 : (ks.map fun k => (grp k (e :: es)).length) = ks.map fun k => (if hd e = k then 1 else 0) + (grp k es).length := List.map_congr_left fun k _ => grp_cons_len k e es
    rw [e1, sum_add, List.length_cons]
    have := ones_le (hd e) h
    have := gs_le h es
    omega
def sq (es : List (List Int)) (ks : List Int) : Nat := (ks.map fun k => (grp k es).length * (grp k es).length).sum
theorem sq_le {ks : List Int} (h : ks.Nodup) (es : List (List Int)) : sq es ks ≤ es.length * es.length := by
  have : ∀ ks : List Int, sq es ks ≤ (ks.map fun k => (grp k es).length).sum * es.length := by
    intro ks
    induction ks with
    | nil => exact Nat.zero_le _
    | cons k ks ih =>
      unfold sq at ih ⊢
      rw [List.map_cons, List.sum_cons, List.map_cons, List.sum_cons, Nat.add_mul]
      refine Nat.add_le_add (Nat.mul_le_mul_left _ ?_) ih
      exact List.length_filter_le _ _
  exact Nat.le_trans (this ks) (Nat.mul_le_mul_right _ (gs_le h es))
theorem sq_mono {es : List (List Int)} {ks : List Int} {i : Nat} {k : Int} (h : ks[i]? = some k) : sq es (ks.take i) + (grp k es).length * (grp k es).length ≤ sq es ks := by
  have e : ks = ks.take (i + 1) ++ ks.drop (i + 1) := (List.take_append_drop _ _).symm
  have e2 : sq es ks = sq es (ks.take (i + 1)) + sq es (ks.drop (i + 1)) := by
    conv => lhs; rw [e]
    unfold sq
    rw [List.map_append, List.sum_append]
  have e3 : sq es (ks.take (i + 1)) = sq es (ks.take i) + (grp k es).length * (grp k es).length := by
    rw [My.take_snoc h]
    unfold sq
    rw [List.map_append, List.sum_append]
    simp
  omega
theorem byHeads_len (c : Int) (es : List (List Int)) : ∀ ks : List Int, (byHeads c es ks).length ≤ sq es ks
  | [] => Nat.zero_le _
  | k :: ks => by
    have ih := byHeads_len c es ks
    have h1 := byGrp_len c (grp k es) (grp k es).length
    unfold byHeads sq at ih ⊢
    rw [List.flatMap_cons, List.length_append, List.map_cons, List.sum_cons]
    omega
theorem byGrp_len2 (c : Int) (g : List (List Int)) (j : Nat) : (byGrp c g j).length ≤ j * g.length := by
  unfold byGrp
  refine Nat.le_trans (flat_len (n := g.length) (fun one => byOne_len c g one _) _) ?_
  exact Nat.mul_le_mul_right _ (by rw [List.length_take]; omega)
/-- what is out so far is not too long -/
theorem out_len {c : Int} {es : List (List Int)} {i : Nat} {k : Int} (h : (heads es)[i]? = some k) {j : Nat} (hj : j < (grp k es).length) (one : List Int) (m : Nat) :
    (byHeads c es ((heads es).take i)).length + (byGrp c (grp k es) j).length + (byOne c (grp k es) one m).length ≤ es.length * es.length := by
  have h1 := byHeads_len c es ((heads es).take i)
  have h2 := byGrp_len2 c (grp k es) j
  have h3 := byOne_len c (grp k es) one m
  have h4 := sq_mono (es := es) h
  have h5 := sq_le (heads_nodup es) es
  have h6 : (j + 1) * (grp k es).length ≤ (grp k es).length * (grp k es).length := Nat.mul_le_mul_right _ hj
  rw [Nat.succ_mul] at h6
  omega
theorem cl_len (c : Int) (es : List (List Int)) : (cl c es).length ≤ es.length * es.length := Nat.le_trans (byHeads_len c es _) (sq_le (heads_nodup es) es)
end Cl

/-! ### safe tables have no meetings -/
namespace Sf
open Ln
/-- of two letters, the first one ahead -/
def Rel (k : Int) (l m : Let) : Prop := l.1 ≤ m.1 ∧ 1 ≤ l.2.1 ∧ m.2.1 ≤ k ∧ ∀ w v, l.2.2 = some w → m.2.2 = some v → l.1 + w < m.1 + v ∧ (m.1 ≤ l.1 + w → m.1 + v - (l.1 + w) ≤ k * (m.1 - l.1) + m.2.1 - l.2.1)
/-- a letter behind which the line stands so, at the turn j of tick i -/
def Bhd (k i j line : Int) (l : Let) : Prop := l.1 ≤ i ∧ 1 ≤ l.2.1 ∧ ∀ w, l.2.2 = some w → l.1 + w < i + line ∧ (i ≤ l.1 + w → i + line - (l.1 + w) ≤ k * (i - l.1) + j - l.2.1 + 1)
structure St (k i j : Int) (s : List Let × Int) : Prop where
  bh : ∀ l ∈ s.1, Bhd k i j s.2 l
  pw : s.1.Pairwise (Rel k)
  ln : 0 ≤ s.2
theorem St.turn {k b i : Int} {j : Nat} {s : List Let × Int} (h : St k i j s) (hj : (j : Int) < k) : St k i ((j + 1 : Nat) : Int) (step b i (1 + (j : Int)) s) := by
  obtain ⟨bh, pw, ln⟩ := h
  have rel : ∀ l ∈ s.1, ∀ o : Option Int, (o = none ∨ o = some s.2) → Rel k l (i, 1 + (j : Int), o) := fun l hl o ho => by
    obtain ⟨h1, h2, h3⟩ := bh l hl
    refine ⟨h1, h2, by show 1 + (j : Int) ≤ k; omega, fun w v hw hv => ?_⟩
    obtain ⟨a, c⟩ := h3 w hw
    rcases ho with rfl | rfl
    · cases hv
    · obtain rfl : s.2 = v := Option.some.inj hv
      refine ⟨a, fun z => ?_⟩
      have := c z
      show i + s.2 - (l.1 + w) ≤ k * (i - l.1) + (1 + (j : Int)) - l.2.1
      omega
  have pwn : ∀ o : Option Int, (o = none ∨ o = some s.2) → (s.1 ++ [(i, 1 + (j : Int), o)]).Pairwise (Rel k) := fun o ho =>
    List.pairwise_append.mpr ⟨pw, List.pairwise_singleton _ _, fun l hl m hm => by rw [List.mem_singleton.mp hm]; exact rel l hl o ho⟩
  unfold step
  split
  · refine ⟨fun l hl => ?_, pwn none (.inl rfl), ln⟩
    rcases List.mem_append.mp hl with hl | hl
    · obtain ⟨h1, h2, h3⟩ := bh l hl
      refine ⟨h1, h2, fun w hw => ?_⟩
      obtain ⟨a, c⟩ := h3 w hw
      refine ⟨a, fun z => ?_⟩
      have := c z
      show i + s.2 - (l.1 + w) ≤ k * (i - l.1) + ((j + 1 : Nat) : Int) - l.2.1 + 1
      omega
    · rw [List.mem_singleton.mp hl]
      exact ⟨Int.le_refl _, by show 1 ≤ 1 + (j : Int); omega, fun w hw => by cases hw⟩
  · refine ⟨fun l hl => ?_, pwn (some s.2) (.inr rfl), by show 0 ≤ s.2 + 1; omega⟩
    rcases List.mem_append.mp hl with hl | hl
    · obtain ⟨h1, h2, h3⟩ := bh l hl
      refine ⟨h1, h2, fun w hw => ?_⟩
      obtain ⟨a, c⟩ := h3 w hw
      refine ⟨by show l.1 + w < i + (s.2 + 1); omega, fun z => ?_⟩
      have := c z
      show i + (s.2 + 1) - (l.1 + w) ≤ k * (i - l.1) + ((j + 1 : Nat) : Int) - l.2.1 + 1
      omega
    · rw [List.mem_singleton.mp hl]
      refine ⟨Int.le_refl _, by show 1 ≤ 1 + (j : Int); omega, fun w hw => ?_⟩
      obtain rfl : s.2 = w := Option.some.inj hw
      refine ⟨by show i + s.2 < i + (s.2 + 1); omega, fun _ => ?_⟩
      show i + (s.2 + 1) - (i + s.2) ≤ k * (i - i) + ((j + 1 : Nat) : Int) - (1 + (j : Int)) + 1
      rw [Int.sub_self, Int.mul_zero]
      omega
theorem St.turns {k b i : Int} {s : List Let × Int} (h : St k i 0 s) : ∀ j : Nat, (j : Int) ≤ k → St k i j (turns b i j s)
  | 0, _ => h
  | j + 1, hj => (St.turns h j (by omega)).turn (by omega)
theorem St.close {k i j : Int} {s : List Let × Int} (h : St k i j s) (hj : j ≤ k) : St k (i + 1) 0 (s.1, close s.2) := by
  obtain ⟨bh, pw, ln⟩ := h
  refine ⟨fun l hl => ?_, pw, ?_⟩
  · obtain ⟨h1, h2, h3⟩ := bh l hl
    refine ⟨by omega, h2, fun w hw => ?_⟩
    obtain ⟨a, c⟩ := h3 w hw
    have ek : k * (i + 1 - l.1) = k * (i - l.1) + k := by
      rw [show i + 1 - l.1 = (i - l.1) + 1 by omega, Int.mul_add, Int.mul_one]
    show l.1 + w < i + 1 + Ln.close s.2 ∧ (i + 1 ≤ l.1 + w → i + 1 + Ln.close s.2 - (l.1 + w) ≤ k * (i + 1 - l.1) + 0 - l.2.1 + 1)
    rw [ek]
    unfold Ln.close
    split
    · refine ⟨by omega, fun z => ?_⟩
      have := c (by omega)
      omega
    · refine ⟨by omega, fun z => ?_⟩
      omega
  · show 0 ≤ Ln.close s.2
    unfold Ln.close
    split <;> omega
theorem st_pre {k b : Int} {cs : List Int} (hk : 0 ≤ k) (hc : ∀ c ∈ cs, c ≤ k) : ∀ i : Nat, St k i 0 (pre b cs i)
  | 0 => ⟨fun l hl => by simp [pre] at hl, .nil, Int.le_refl _⟩
  | i + 1 => by
    have hb : ((cs.getD i 0).toNat : Int) ≤ k := by
      rw [List.getD_eq_getElem?_getD]
      cases h : cs[i]? with
      | none => show ((0 : Int).toNat : Int) ≤ k; omega
      | some c =>
        have := hc c (List.mem_of_getElem? h)
        show (c.toNat : Int) ≤ k
        omega
    have e := ((st_pre (b := b) hk hc i).turns (b := b) _ hb).close hb
    exact e
theorem letts_pw {k b : Int} {cs : List Int} (hk : 0 ≤ k) (hc : ∀ c ∈ cs, c ≤ k) : (letts b cs).Pairwise (Rel k) := (st_pre hk hc cs.length).pw
theorem mem_all {ls : List Int} {rs : List (List Int)} {i : Nat} {r : List Int} (h : rs[i]? = some r) {p : Int × Int} (hp : p ∈ Tb.go ls 0 r) : ∀ n, i < n → Tb.ent ((i : Int) + 1) p ∈ Tb.all ls rs n
  | 0, hn => absurd hn (Nat.not_lt_zero _)
  | n + 1, hn => by
    show _ ∈ Tb.all ls rs n ++ Tb.ents ls ((n : Int) + 1) (rs.getD n [])
    by_cases e : i = n
    · subst e
      rw [Tb.getD_row h]
      exact List.mem_append_right _ (List.mem_map.mpr ⟨p, hp, rfl⟩)
    · exact List.mem_append_left _ (mem_all h hp n (by omega))
/-- an entry of the wait w -/
theorem mem_wait {ls : List Int} {rs : List (List Int)} (R : Tb.Right ls rs) {w : Int} (h1 : w ≤ (rs.length : Int)) {p : Int × Int} (hp : p ∈ Tb.go ls 0 (Dy.rowOf rs w)) :
    Tb.ent w p ∈ Tb.all ls rs rs.length ∧ 0 ≤ p.1 ∧ p.1 < w := by
  have h0 : 0 < w := by
    rcases Int.lt_or_le 0 w with z | z
    · exact z
    · rw [show Dy.rowOf rs w = [] from if_pos (by omega)] at hp
      cases hp
  obtain ⟨a, b, c, d⟩ := Dy.rowOf_at R h0 h1
  have e := mem_all a hp rs.length (by omega)
  rw [show (((w - 1).toNat : Nat) : Int) + 1 = w by omega] at e
  have rng := Tb.go_rng R.1 _ 0 b p hp
  rw [d] at rng
  exact ⟨e, rng.1, by omega⟩
theorem clash_at {ls : List Int} {rs : List (List Int)} (R : Tb.Right ls rs) {k : Int} {l m : Let} (rl : Rel k l m) {w v : Int} (hw : l.2.2 = some w) (hv : m.2.2 = some v) (w1 : w ≤ (rs.length : Int)) (v1 : v ≤ (rs.length : Int))
    {p q : Int × Int} (hp : p ∈ Tb.go ls 0 (Dy.rowOf rs w)) (hq : q ∈ Tb.go ls 0 (Dy.rowOf rs v)) (e1 : l.1 + p.1 = m.1 + q.1) (e2 : p.2 = q.2) : Cl.Clash k ls rs (Tb.ent w p) (Tb.ent v q) := by
  obtain ⟨a1, a2, a3⟩ := mem_wait R w1 hp
  obtain ⟨b1, b2, b3⟩ := mem_wait R v1 hq
  obtain ⟨r1, r2, r3, r4⟩ := rl
  obtain ⟨s1, s2⟩ := r4 w v hw hv
  have s3 := s2 (by omega)
  refine ⟨a1, b1, e2, ?_⟩
  have ed : m.1 - l.1 = p.1 - q.1 := by omega
  rw [ed] at s3
  show (decide ((v - q.1) - (w - p.1) > 0) && (decide (p.1 ≥ q.1) && decide ((v - q.1) - (w - p.1) ≤ k * (p.1 - q.1) + k - 1))) = true
  rw [decide_eq_true (by omega), decide_eq_true (by omega), decide_eq_true (by omega)]
  rfl
theorem prs_append (a b : List (List Int)) : Mt.prs (a ++ b) = Mt.prs a ++ Mt.prs b := List.map_append
theorem prs_lay (ls : List Int) (rs : List (List Int)) (n : Int) (l : Let) : Mt.prs (Dy.lay1 ls rs n l) = match l.2.2 with
    | none => []
    | some w => (Tb.go ls 0 (Dy.rowOf rs w)).map fun p => [l.1 + p.1, p.2] := by
  unfold Dy.lay1 Mt.prs
  cases l.2.2 with
  | none => rfl
  | some w =>
    show List.map _ (List.map _ _) = _
    rw [List.map_map]
    rfl
theorem lay_mem {ls : List Int} {rs : List (List Int)} : ∀ {L : List Let} {n : Int} {r : List Int}, r ∈ Mt.prs (Dy.lays ls rs n L) → ∃ l ∈ L, ∃ w p, l.2.2 = some w ∧ p ∈ Tb.go ls 0 (Dy.rowOf rs w) ∧ r = [l.1 + p.1, p.2]
  | [], _, _, h => by cases h
  | l :: L, n, r, h => by
    rw [show Dy.lays ls rs n (l :: L) = Dy.lay1 ls rs n l ++ Dy.lays ls rs (n + 1) L from rfl, prs_append] at h
    rcases List.mem_append.mp h with h | h
    · rw [prs_lay] at h
      cases hw : l.2.2 with
      | none =>
        rw [hw] at h
        cases h
      | some w =>
        rw [hw] at h
        obtain ⟨p, hp, e⟩ := List.mem_map.mp h
        exact ⟨l, List.mem_cons_self, w, p, hw, hp, e.symm⟩
    · obtain ⟨m, hm, rest⟩ := lay_mem h
      exact ⟨m, List.mem_cons_of_mem _ hm, rest⟩
theorem mem_lay {ls : List Int} {rs : List (List Int)} : ∀ {L : List Let} {n : Int} {i : Nat} {l : Let} {w : Int} {p : Int × Int}, L[i]? = some l → l.2.2 = some w → p ∈ Tb.go ls 0 (Dy.rowOf rs w) → [l.1 + p.1, p.2] ∈ Mt.prs (Dy.lays ls rs n L)
  | [], _, _, _, _, _, h, _, _ => by simp at h
  | m :: L, n, 0, l, w, p, h, hw, hp => by
    obtain rfl : m = l := by simpa using h
    rw [show Dy.lays ls rs n (m :: L) = Dy.lay1 ls rs n m ++ Dy.lays ls rs (n + 1) L from rfl, prs_append, prs_lay, hw]
    exact List.mem_append_left _ (List.mem_map.mpr ⟨p, hp, rfl⟩)
  | m :: L, n, i + 1, l, w, p, h, hw, hp => by
    rw [show Dy.lays ls rs n (m :: L) = Dy.lay1 ls rs n m ++ Dy.lays ls rs (n + 1) L from rfl, prs_append]
    exact List.mem_append_right _ (mem_lay (i := i) (by simpa using h) hw hp)
theorem nodup_lay {ls : List Int} {rs : List (List Int)} (R : Tb.Right ls rs) {n : Int} {l : Let} (h : ∀ w, l.2.2 = some w → w ≤ (rs.length : Int)) : (Mt.prs (Dy.lay1 ls rs n l)).Nodup := by
  rw [prs_lay]
  cases hw : l.2.2 with
  | none => exact .nil
  | some w =>
    show (List.map _ _).Nodup
    unfold List.Nodup
    rw [List.pairwise_map]
    rcases Int.lt_or_le 0 w with z | z
    · obtain ⟨_, b, _, _⟩ := Dy.rowOf_at R z (h w hw)
      refine (Tb.go_up R.1 _ 0 b).imp fun {p q} hpq e => ?_
      injection e with e1 _
      omega
    · rw [show Dy.rowOf rs w = [] from if_pos (by omega)]
      exact .nil
/-- no two letters enter one loop at one tick -/
theorem nodup_of_safe {ls : List Int} {rs : List (List Int)} (R : Tb.Right ls rs) {k : Int} (sf : Cl.Safe k ls rs) : ∀ {L : List Let} (n : Int), L.Pairwise (Rel k) → (∀ l ∈ L, ∀ w, l.2.2 = some w → w ≤ (rs.length : Int)) → (Mt.prs (Dy.lays ls rs n L)).Nodup
  | [], _, _, _ => .nil
  | l :: L, n, pw, hw => by
    obtain ⟨p1, p2⟩ := List.pairwise_cons.mp pw
    rw [show Dy.lays ls rs n (l :: L) = Dy.lay1 ls rs n l ++ Dy.lays ls rs (n + 1) L from rfl, prs_append]
    refine List.nodup_append.mpr ⟨nodup_lay R (hw l List.mem_cons_self), nodup_of_safe R sf (n + 1) p2 fun m hm => hw m (List.mem_cons_of_mem _ hm), fun a ha b hb e => ?_⟩
    subst e
    rw [prs_lay] at ha
    cases ew : l.2.2 with
    | none =>
      rw [ew] at ha
      cases ha
    | some w =>
      rw [ew] at ha
      obtain ⟨p, hp, e1⟩ := List.mem_map.mp ha
      obtain ⟨m, hm, v, q, ev, hq, e2⟩ := lay_mem hb
      rw [e2] at e1
      injection e1 with e3 e4
      injection e4 with e5 _
      exact sf _ _ (clash_at R (p1 m hm) ew ev (hw l List.mem_cons_self w ew) (hw m (List.mem_cons_of_mem _ hm) v ev) hp hq e3 e5)
theorem count_one : ∀ {P : List (List Int)}, P.Nodup → ∀ r, P.count r ≤ 1
  | [], _, r => by simp
  | x :: P, h, r => by
    obtain ⟨h1, h2⟩ := List.nodup_cons.mp h
    by_cases e : x = r
    · subst e
      rw [List.count_cons_self, List.count_eq_zero_of_not_mem h1]
      exact Nat.le_refl _
    · rw [List.count_cons_of_ne e]
      exact count_one h2 r
theorem nom_of_safe {ls : List Int} {rs : List (List Int)} (R : Tb.Right ls rs) {k : Int} (hk : 0 ≤ k) (sf : Cl.Safe k ls rs) {cs : List Int} (hc : ∀ c ∈ cs, c ≤ k) (r : List Int) : (Mt.prs (Dy.lays ls rs 0 (letts (rs.length : Int) cs))).count r ≤ 1 :=
  count_one (nodup_of_safe R sf 0 (letts_pw hk hc) fun l hl w hw => (Dy.letts_wt (rs := rs) cs l hl w hw).2) r
/-- more comers have all clashes of fewer -/
theorem safe_less {ls : List Int} {rs : List (List Int)} {k k' : Int} (hk : k' ≤ k) (R : Tb.Right ls rs) (h : Cl.Safe k ls rs) : Cl.Safe k' ls rs := fun x y hc => by
  obtain ⟨a, b, c, d⟩ := hc
  refine h x y ⟨a, b, c, ?_⟩
  unfold Cl.cond at d ⊢
  rw [Bool.and_eq_true, Bool.and_eq_true, decide_eq_true_iff, decide_eq_true_iff, decide_eq_true_iff] at d ⊢
  obtain ⟨d1, d2, d3⟩ := d
  have : k' * (x.getD 1 0 - y.getD 1 0) ≤ k * (x.getD 1 0 - y.getD 1 0) := Int.mul_le_mul_of_nonneg_right hk (by omega)
  exact ⟨d1, d2, by omega⟩
theorem all_take {ls : List Int} {rs : List (List Int)} : ∀ (m n : Nat), n ≤ m → Tb.all ls (rs.take m) n = Tb.all ls rs n
  | _, 0, _ => rfl
  | m, n + 1, h => by
    show Tb.all ls (rs.take m) n ++ Tb.ents ls _ ((rs.take m).getD n []) = Tb.all ls rs n ++ Tb.ents ls _ (rs.getD n [])
    rw [all_take m n (by omega), List.getD_eq_getElem?_getD, List.getD_eq_getElem?_getD, List.getElem?_take_of_lt (by omega)]
theorem all_mono {ls : List Int} {rs : List (List Int)} {e : List Int} : ∀ {n m : Nat}, n ≤ m → e ∈ Tb.all ls rs n → e ∈ Tb.all ls rs m
  | n, 0, h, he => by rwa [Nat.le_zero.mp h] at he
  | n, m + 1, h, he => by
    by_cases z : n = m + 1
    · rwa [z] at he
    · exact List.mem_append_left _ (all_mono (m := m) (by omega) he)
theorem clash_take {ls : List Int} {rs : List (List Int)} {k : Int} (m : Nat) {x y : List Int} (h : Cl.Clash k ls (rs.take m) x y) : Cl.Clash k ls rs x y := by
  obtain ⟨a, b, c, d⟩ := h
  have e : (rs.take m).length ≤ rs.length := by
    rw [List.length_take]
    omega
  have e2 : (rs.take m).length ≤ m := by
    rw [List.length_take]
    omega
  rw [all_take m _ e2] at a b
  exact ⟨all_mono e a, all_mono e b, c, d⟩
theorem safe_take {ls : List Int} {rs : List (List Int)} {k : Int} (m : Nat) (h : Cl.Safe k ls rs) : Cl.Safe k ls (rs.take m) := fun x y hc => h x y (clash_take m hc)
/-! ### the comings of a meeting -/
/-- what is left, i ticks from the end -/
def rr (c R : Int) (i : Nat) : Int := if R - c * (i : Int) > 0 then R - c * (i : Int) else 0
theorem rr_zero {c R : Int} (h : 0 < R) : rr c R 0 = R := by
  unfold rr
  rw [show ((0 : Nat) : Int) = 0 from rfl, Int.mul_zero]
  split <;> omega
theorem rr_step {c R : Int} (hc : 0 ≤ c) (i : Nat) : rr c R (i + 1) = rr c R i - (if c < rr c R i then c else rr c R i) ∧ 0 ≤ rr c R i ∧ rr c R (i + 1) ≤ rr c R i ∧ rr c R i - rr c R (i + 1) ≤ c := by
  unfold rr
  have e : c * ((i + 1 : Nat) : Int) = c * (i : Int) + c := by
    rw [show ((i + 1 : Nat) : Int) = (i : Int) + 1 by omega, Int.mul_add, Int.mul_one]
  rw [e]
  generalize c * (i : Int) = z
  split <;> split <;> (try split) <;> omega
theorem rr_nn {c R : Int} (i : Nat) : 0 ≤ rr c R i := by
  unfold rr
  split <;> omega
theorem rr_le {c R : Int} (h1 : 1 ≤ c) (h0 : 0 ≤ R) (i : Nat) : rr c R i ≤ (if R - (i : Int) > 0 then R - (i : Int) else 0) := by
  unfold rr
  have : (i : Int) ≤ c * (i : Int) := by
    have := Int.mul_le_mul_of_nonneg_right h1 (show (0 : Int) ≤ (i : Int) by omega)
    omega
  split <;> split <;> omega
/-- the numbers from the last tick on -/
def lf (c R : Int) : Nat → List Int
  | 0 => []
  | i + 1 => lf c R i ++ [rr c R i - rr c R (i + 1)]
theorem lf_len (c R : Int) : ∀ i, (lf c R i).length = i
  | 0 => rfl
  | i + 1 => by
    show (lf c R i ++ [_]).length = i + 1
    rw [List.length_append, lf_len c R i]
    rfl
theorem lf_at (c R : Int) : ∀ (n i : Nat), i < n → (lf c R n)[i]? = some (rr c R i - rr c R (i + 1))
  | n + 1, i, h => by
    show (lf c R n ++ [_])[i]? = _
    by_cases e : i < n
    · rw [List.getElem?_append_left (by rw [lf_len]; exact e), lf_at c R n i e]
    · obtain rfl : i = n := by omega
      rw [List.getElem?_append_right (by rw [lf_len]; exact Nat.le_refl _), lf_len, Nat.sub_self]
      rfl
/-- comings by which a letter with the wait w, and one R letters behind it that comes d ticks later, come -/
def mc (c w R : Int) (d : Nat) : List Int := List.replicate w.toNat 2 ++ [1 + rr c R d] ++ (lf c R d).reverse
/-- how many have come, from the first one on, ahead of the tick j -/
def am (c R : Int) (d : Nat) : Nat → Int
  | 0 => 0
  | j + 1 => 1 + rr c R (d - j)
theorem am_mono {c R : Int} (hc : 0 ≤ c) (d : Nat) : ∀ j, j ≤ d → am c R d j ≤ am c R d (j + 1)
  | 0, _ => by
    have := rr_nn (c := c) (R := R) (d - 0)
    show (0 : Int) ≤ 1 + rr c R (d - 0)
    omega
  | j + 1, h => by
    have := (rr_step (R := R) hc (d - (j + 1))).2.2.1
    rw [show d - (j + 1) + 1 = d - j by omega] at this
    show 1 + rr c R (d - j) ≤ 1 + rr c R (d - (j + 1))
    omega
theorem mc_len (c w R : Int) (d : Nat) : (mc c w R d).length = w.toNat + 1 + d := by
  unfold mc
  rw [List.length_append, List.length_append, List.length_replicate, List.length_reverse, lf_len]
  rfl
theorem mc_at {c w R : Int} {d : Nat} : ∀ j, j ≤ d → (mc c w R d).getD (w.toNat + j) 0 = am c R d (j + 1) - am c R d j
  | 0, _ => by
    unfold mc
    rw [List.getD_eq_getElem?_getD, List.append_assoc, List.getElem?_append_right (by rw [List.length_replicate]; omega), List.length_replicate, show w.toNat + 0 - w.toNat = 0 by omega]
    show 1 + rr c R d = 1 + rr c R (d - 0) - 0
    rw [Nat.sub_zero]
    omega
  | j + 1, h => by
    unfold mc
    have hl : (List.replicate w.toNat (2 : Int) ++ [1 + rr c R d]).length = w.toNat + 1 := by
      rw [List.length_append, List.length_replicate]
      rfl
    rw [List.getD_eq_getElem?_getD, List.getElem?_append_right (by rw [hl]; omega), hl, show w.toNat + (j + 1) - (w.toNat + 1) = j by omega, List.getElem?_reverse (by rw [lf_len]; omega), lf_len, lf_at c R d _ (by omega)]
    show rr c R (d - 1 - j) - rr c R (d - 1 - j + 1) = 1 + rr c R (d - (j + 1)) - (1 + rr c R (d - j))
    rw [show d - 1 - j = d - (j + 1) by omega, show d - (j + 1) + 1 = d - j by omega]
    omega
theorem mc_two {c w R : Int} {d : Nat} {j : Nat} (h : j < w.toNat) : (mc c w R d).getD j 0 = (List.replicate w.toNat 2).getD j 0 := by
  unfold mc
  rw [List.getD_eq_getElem?_getD, List.getD_eq_getElem?_getD, List.append_assoc, List.getElem?_append_left (by rw [List.length_replicate]; exact h)]
theorem mc_right {c w R : Int} {d : Nat} (hc : 2 ≤ c) (h0 : 0 < R) (h1 : R ≤ c * (d : Int) + c - 1) : ∀ x ∈ mc c w R d, 0 ≤ x ∧ x ≤ c := fun x hx => by
  unfold mc at hx
  rcases List.mem_append.mp hx with hx | hx
  · rcases List.mem_append.mp hx with hx | hx
    · rw [(List.mem_replicate.mp hx).2]
      omega
    · rw [List.mem_singleton.mp hx]
      unfold rr
      generalize c * (d : Int) = z at h1
      split <;> omega
  · rw [List.mem_reverse] at hx
    obtain ⟨i, hi⟩ := List.mem_iff_getElem?.mp hx
    have hl := (List.getElem?_eq_some_iff.mp hi).1
    rw [lf_len] at hl
    rw [lf_at c R d i hl] at hi
    have := rr_step (c := c) (R := R) (by omega) i
    rw [← Option.some.inj hi]
    omega
/-- all fit -/
theorem turns_fit {b τ : Int} {s : List Let × Int} : ∀ n : Nat, s.2 + (n : Int) ≤ b + 1 → (turns b τ n s).2 = s.2 + (n : Int) ∧ (turns b τ n s).1.length = s.1.length + n ∧
    (∃ rest, (turns b τ n s).1 = s.1 ++ rest) ∧ (0 < n → (turns b τ n s).1[s.1.length]? = some (τ, 1, some s.2)) ∧ (0 < n → (turns b τ n s).1[s.1.length + n - 1]? = some (τ, (n : Int), some (s.2 + (n : Int) - 1)))
  | 0, _ => ⟨by show s.2 = _; omega, rfl, ⟨[], (List.append_nil _).symm⟩, fun h => absurd h (Nat.lt_irrefl _), fun h => absurd h (Nat.lt_irrefl _)⟩
  | n + 1, h => by
    obtain ⟨a, l, ⟨rest, e⟩, f, _⟩ := turns_fit (b := b) (τ := τ) (s := s) n (by omega)
    have es : turns b τ (n + 1) s = ((turns b τ n s).1 ++ [(τ, 1 + (n : Int), some (turns b τ n s).2)], (turns b τ n s).2 + 1) := by
      show step b τ (1 + (n : Int)) (turns b τ n s) = _
      unfold step
      rw [if_neg (by omega)]
    rw [es]
    refine ⟨by show (turns b τ n s).2 + 1 = _; omega, ?_, ⟨rest ++ [(τ, 1 + (n : Int), some (turns b τ n s).2)], ?_⟩, fun _ => ?_, fun _ => ?_⟩
    · show (_ ++ [_]).length = _
      rw [List.length_append, l]
      rfl
    · show (turns b τ n s).1 ++ [_] = _
      rw [e, List.append_assoc]
    · show ((turns b τ n s).1 ++ [_])[s.1.length]? = _
      by_cases z : 0 < n
      · rw [List.getElem?_append_left (by omega), f z]
      · obtain rfl : n = 0 := by omega
        rw [List.getElem?_append_right (by omega), l, show s.1.length - (s.1.length + 0) = 0 by omega]
        show some (τ, 1 + ((0 : Nat) : Int), some (turns b τ 0 s).2) = some (τ, 1, some s.2)
        rfl
    · show ((turns b τ n s).1 ++ [_])[s.1.length + (n + 1) - 1]? = _
      rw [List.getElem?_append_right (by omega), l, show s.1.length + (n + 1) - 1 - (s.1.length + n) = 0 by omega]
      show some (τ, 1 + (n : Int), some (turns b τ n s).2) = some (τ, ((n + 1 : Nat) : Int), some (s.2 + ((n + 1 : Nat) : Int) - 1))
      rw [a, show ((n + 1 : Nat) : Int) = 1 + (n : Int) by omega, show s.2 + (1 + (n : Int)) - 1 = s.2 + (n : Int) by omega]
section
variable {b c w R : Int} {d : Nat}
theorem mc_state (hc : 2 ≤ c) (hR : 0 < R) (h1 : R ≤ c * (d : Int) + c - 1) (w0 : 0 ≤ w) (wb : w ≤ b) (hd : (d : Int) < w) (hv : w + R - (d : Int) ≤ b) : ∀ j : Nat, j ≤ d + 1 →
    (pre b (mc c w R d) (w.toNat + j)).2 = w + am c R d j - (j : Int) ∧ ((pre b (mc c w R d) (w.toNat + j)).1.length : Int) = 2 * w + am c R d j
  | 0, _ => by
    have ec : pre b (mc c w R d) w.toNat = pre b (List.replicate w.toNat 2) w.toNat := Wk.pre_congr _ fun j hj => mc_two hj
    obtain ⟨a, l, _⟩ := Wk.twos (b := b) w.toNat (List.replicate w.toNat 2) (by omega) rfl
    rw [Nat.add_zero, ec, a, l]
    show ((w.toNat : Nat) : Int) = w + 0 - ((0 : Nat) : Int) ∧ ((2 * w.toNat : Nat) : Int) = 2 * w + 0
    omega
  | j + 1, hj => by
    obtain ⟨a, l⟩ := mc_state hc hR h1 w0 wb hd hv j (by omega)
    have hm := am_mono (c := c) (R := R) (by omega) d j (by omega)
    have hg := mc_at (c := c) (w := w) (R := R) (d := d) j (by omega)
    have le := rr_le (c := c) (R := R) (by omega) (by omega) (d - j)
    have e1 : am c R d (j + 1) = 1 + rr c R (d - j) := rfl
    have nn := rr_nn (c := c) (R := R) (d - j)
    have ed : ((d - j : Nat) : Int) = (d : Int) - (j : Int) := by omega
    rw [ed] at le
    have fit : (pre b (mc c w R d) (w.toNat + j)).2 + (((am c R d (j + 1) - am c R d j).toNat : Nat) : Int) ≤ b + 1 := by
      rw [a, e1]
      rw [e1] at hm
      split at le <;> omega
    obtain ⟨t1, t2, _, _, _⟩ := turns_fit (b := b) (τ := ((w.toNat + j : Nat) : Int)) _ fit
    have ep : pre b (mc c w R d) (w.toNat + (j + 1)) = ((turns b ((w.toNat + j : Nat) : Int) (am c R d (j + 1) - am c R d j).toNat (pre b (mc c w R d) (w.toNat + j))).1, close (turns b ((w.toNat + j : Nat) : Int) (am c R d (j + 1) - am c R d j).toNat (pre b (mc c w R d) (w.toNat + j))).2) := by
      rw [← hg]
      rfl
    rw [ep]
    refine ⟨?_, ?_⟩
    · show close _ = _
      rw [t1, a]
      unfold close
      rw [e1] at hm ⊢
      rw [if_pos (by omega)]
      omega
    · show ((_ : List Let).length : Int) = _
      rw [t2]
      omega
theorem mc_letts (hc : 2 ≤ c) (hR : 0 < R) (h1 : R ≤ c * (d : Int) + c - 1) (w0 : 0 ≤ w) (wb : w ≤ b) (hd : (d : Int) < w) (hv : w + R - (d : Int) ≤ b) :
    ((letts b (mc c w R d)).length : Int) = 2 * w + R + 1 ∧ (letts b (mc c w R d))[(2 * w).toNat]? = some (w, 1, some w) ∧ ∃ u, (letts b (mc c w R d))[(2 * w + R).toNat]? = some (w + (d : Int), u, some (w + R - (d : Int))) := by
  have b0 : 0 ≤ b := by omega
  have len : (mc c w R d).length = w.toNat + (d + 1) := by
    rw [mc_len]
    omega
  have stp : ∀ j : Nat, j ≤ d → ∃ n : Nat, (n : Int) = am c R d (j + 1) - am c R d j ∧ 
      (pre b (mc c w R d) (w.toNat + (j + 1))).1 = (turns b ((w.toNat + j : Nat) : Int) n (pre b (mc c w R d) (w.toNat + j))).1 ∧ (pre b (mc c w R d) (w.toNat + j)).2 + (n : Int) ≤ b + 1 := fun j hj => by
    obtain ⟨a, l⟩ := mc_state hc hR h1 w0 wb hd hv j (by omega)
    have hm := am_mono (c := c) (R := R) (by omega) d j hj
    have hg := mc_at (c := c) (w := w) (R := R) (d := d) j hj
    have le := rr_le (c := c) (R := R) (by omega) (by omega) (d - j)
    have e1 : am c R d (j + 1) = 1 + rr c R (d - j) := rfl
    have nn := rr_nn (c := c) (R := R) (d - j)
    have ed : ((d - j : Nat) : Int) = (d : Int) - (j : Int) := by omega
    rw [ed] at le
    refine ⟨(am c R d (j + 1) - am c R d j).toNat, by omega, ?_, ?_⟩
    · rw [← hg]
      rfl
    · rw [a, e1]
      rw [e1] at hm
      split at le <;> omega
  have rz := rr_zero (c := c) hR
  have ad : am c R d (d + 1) = 1 + R := by
    show 1 + rr c R (d - d) = 1 + R
    rw [Nat.sub_self, rz]
  have el : letts b (mc c w R d) = (pre b (mc c w R d) (w.toNat + (d + 1))).1 := by
    unfold letts
    rw [len]
  refine ⟨?_, ?_, ?_⟩
  · obtain ⟨_, l⟩ := mc_state hc hR h1 w0 wb hd hv (d + 1) (Nat.le_refl _)
    rw [el, l, ad]
    omega
  · obtain ⟨n, hn, e, fit⟩ := stp 0 (Nat.zero_le _)
    obtain ⟨a, l⟩ := mc_state hc hR h1 w0 wb hd hv 0 (by omega)
    have n0 : 0 < n := by
      have : am c R d (0 + 1) = 1 + rr c R (d - 0) := rfl
      have : am c R d 0 = 0 := rfl
      have := rr_nn (c := c) (R := R) (d - 0)
      omega
    obtain ⟨_, t2, _, t4, _⟩ := turns_fit (b := b) (τ := ((w.toNat + 0 : Nat) : Int)) n fit
    have t4 := t4 n0
    rw [← e] at t4
    have l0 : (pre b (mc c w R d) (w.toNat + 0)).1.length = (2 * w).toNat := by
      have : am c R d 0 = 0 := rfl
      omega
    have a0 : (pre b (mc c w R d) (w.toNat + 0)).2 = w := by
      have : am c R d 0 = 0 := rfl
      omega
    rw [l0, a0, show (((w.toNat + 0 : Nat)) : Int) = w by omega] at t4
    obtain ⟨rest, er, _⟩ := Dy.pre_app b0 (mc c w R d) (w.toNat + 1) d
    rw [el, show w.toNat + (d + 1) = w.toNat + 1 + d by omega, er, List.getElem?_append_left ((List.getElem?_eq_some_iff.mp t4).1)]
    exact t4
  · obtain ⟨n, hn, e, fit⟩ := stp d (Nat.le_refl _)
    obtain ⟨a, l⟩ := mc_state hc hR h1 w0 wb hd hv d (by omega)
    have n0 : 0 < n := by
      rw [ad] at hn
      cases d with
      | zero =>
        have : am c R 0 0 = 0 := rfl
        omega
      | succ d =>
        have e2 : am c R (d + 1) (d + 1) = 1 + rr c R (d + 1 - d) := rfl
        rw [show d + 1 - d = 0 + 1 by omega, (rr_step (c := c) (R := R) (by omega) 0).1, rz] at e2
        split at e2 <;> omega
    obtain ⟨_, t2, _, _, t5⟩ := turns_fit (b := b) (τ := ((w.toNat + d : Nat) : Int)) n fit
    have t5 := t5 n0
    rw [← e, ← el] at t5
    refine ⟨(n : Int), ?_⟩
    rw [show (pre b (mc c w R d) (w.toNat + d)).1.length + n - 1 = (2 * w + R).toNat by omega, show (((w.toNat + d : Nat)) : Int) = w + (d : Int) by omega, show (pre b (mc c w R d) (w.toNat + d)).2 + (n : Int) - 1 = w + R - (d : Int) by omega] at t5
    exact t5
end
/-! ### who meets -/
theorem all_inv {ls : List Int} {rs : List (List Int)} : ∀ {n : Nat} {e : List Int}, n ≤ rs.length → e ∈ Tb.all ls rs n → ∃ w p, 1 ≤ w ∧ w ≤ (n : Int) ∧ p ∈ Tb.go ls 0 (Dy.rowOf rs w) ∧ e = Tb.ent w p
  | 0, e, _, h => by cases h
  | n + 1, e, hn, h => by
    rcases List.mem_append.mp h with h | h
    · obtain ⟨w, p, a, b, c, d⟩ := all_inv (by omega) h
      exact ⟨w, p, a, by omega, c, d⟩
    · obtain ⟨p, hp, rfl⟩ := List.mem_map.mp h
      refine ⟨(n : Int) + 1, p, by omega, by omega, ?_, rfl⟩
      rw [show Dy.rowOf rs ((n : Int) + 1) = rs.getD n [] by
        unfold Dy.rowOf
        rw [if_neg (by omega), show ((n : Int) + 1 - 1).toNat = n by omega]]
      exact hp
/-- the places of a letter: when it enters which loop -/
def pl (ls : List Int) (rs : List (List Int)) (l : Let) : List (List Int) := match l.2.2 with
  | none => []
  | some w => (Tb.go ls 0 (Dy.rowOf rs w)).map fun p => [l.1 + p.1, p.2]
/-- the letters i and j enter one loop at one tick -/
def Mts (ls : List Int) (rs : List (List Int)) (cs : List Int) (i j : Nat) : Prop := ∃ l m r, (letts (rs.length : Int) cs)[i]? = some l ∧ (letts (rs.length : Int) cs)[j]? = some m ∧ r ∈ pl ls rs l ∧ r ∈ pl ls rs m
theorem mem_pl {ls : List Int} {rs : List (List Int)} {L : List Let} {n : Int} {i : Nat} {l : Let} {r : List Int} (h : L[i]? = some l) (hr : r ∈ pl ls rs l) : r ∈ Mt.prs (Dy.lays ls rs n L) := by
  unfold pl at hr
  cases e : l.2.2 with
  | none =>
    rw [e] at hr
    cases hr
  | some w =>
    rw [e] at hr
    obtain ⟨p, hp, rfl⟩ := List.mem_map.mp hr
    exact mem_lay h e hp
theorem lays_append (ls : List Int) (rs : List (List Int)) : ∀ (A B : List Let) (n : Int), Dy.lays ls rs n (A ++ B) = Dy.lays ls rs n A ++ Dy.lays ls rs (n + (A.length : Int)) B
  | [], B, n => by
    show _ = [] ++ Dy.lays ls rs (n + ((0 : Nat) : Int)) B
    rw [List.nil_append, show n + ((0 : Nat) : Int) = n by omega]
    rfl
  | a :: A, B, n => by
    show Dy.lay1 ls rs n a ++ Dy.lays ls rs (n + 1) (A ++ B) = (Dy.lay1 ls rs n a ++ Dy.lays ls rs (n + 1) A) ++ Dy.lays ls rs (n + ((A.length + 1 : Nat) : Int)) B
    rw [lays_append ls rs A B (n + 1), List.append_assoc, show n + 1 + (A.length : Int) = n + ((A.length + 1 : Nat) : Int) by omega]
theorem mts_two {ls : List Int} {rs : List (List Int)} {cs : List Int} {i j : Nat} (h : Mts ls rs cs i j) (hij : i < j) : ∃ r, 2 ≤ (Mt.prs (Dy.lays ls rs 0 (letts (rs.length : Int) cs))).count r := by
  obtain ⟨l, m, r, h1, h2, r1, r2⟩ := h
  refine ⟨r, ?_⟩
  have e : letts (rs.length : Int) cs = (letts (rs.length : Int) cs).take j ++ (letts (rs.length : Int) cs).drop j := (List.take_append_drop _ _).symm
  rw [e, lays_append, prs_append, List.count_append]
  have m1 : r ∈ Mt.prs (Dy.lays ls rs 0 ((letts (rs.length : Int) cs).take j)) := mem_pl (i := i) (by rw [List.getElem?_take_of_lt hij]; exact h1) r1
  have m2 : r ∈ Mt.prs (Dy.lays ls rs (0 + (((letts (rs.length : Int) cs).take j).length : Int)) ((letts (rs.length : Int) cs).drop j)) := mem_pl (i := 0) (by rw [List.getElem?_drop]; exact h2) r2
  have := List.count_pos_iff.mpr m1
  have := List.count_pos_iff.mpr m2
  omega
/-- a clash has its meeting -/
theorem clash_mts {c : Int} {ls : List Int} {rs : List (List Int)} (R : Tb.Right ls rs) (c2 : 2 ≤ c) {x y : List Int} (h : Cl.Clash c ls rs x y) {w Rr : Int} {d : Nat} (ew : w = x.getD 1 0 + x.getD 2 0) (eR : Rr = y.getD 2 0 - x.getD 2 0) (ed : d = (x.getD 1 0 - y.getD 1 0).toNat) :
    (∀ v ∈ mc c w Rr d, 0 ≤ v ∧ v ≤ c) ∧ (mc c w Rr d).length ≤ 400 ∧ 0 < Rr ∧ 0 ≤ w ∧ ((letts (rs.length : Int) (mc c w Rr d)).length : Int) = 2 * w + Rr + 1 ∧ Mts ls rs (mc c w Rr d) (2 * w).toNat (2 * w + Rr).toNat := by
  obtain ⟨a, b, hh, cd⟩ := h
  obtain ⟨wx, p, x1, x2, hp, rfl⟩ := all_inv (Nat.le_refl _) a
  obtain ⟨wy, q, y1, y2, hq, rfl⟩ := all_inv (Nat.le_refl _) b
  obtain ⟨_, p0, p1⟩ := mem_wait R x2 hp
  obtain ⟨_, q0, q1⟩ := mem_wait R y2 hq
  have r60 := R.2.2.1
  have cd' : (decide ((wy - q.1) - (wx - p.1) > 0) && (decide (p.1 ≥ q.1) && decide ((wy - q.1) - (wx - p.1) ≤ c * (p.1 - q.1) + c - 1))) = true := cd
  rw [Bool.and_eq_true, Bool.and_eq_true, decide_eq_true_iff, decide_eq_true_iff, decide_eq_true_iff] at cd'
  obtain ⟨d1, d2, d3⟩ := cd'
  have ew' : w = wx := by
    rw [ew]
    show p.1 + (wx - p.1) = wx
    omega
  have eR' : Rr = (wy - q.1) - (wx - p.1) := eR
  have ed' : (d : Int) = p.1 - q.1 := by
    rw [ed]
    show (((p.1 - q.1).toNat : Nat) : Int) = p.1 - q.1
    omega
  rw [← ed', ← eR'] at d3
  have hk : p.2 = q.2 := hh
  obtain ⟨len, l1, u, l2⟩ := mc_letts (b := (rs.length : Int)) (w := w) (d := d) c2 (show 0 < Rr by omega) (by omega) (by omega) (by omega) (by omega) (by omega)
  refine ⟨mc_right c2 (by omega) (by omega), by rw [mc_len]; omega, by omega, by omega, len, _, _, [w + p.1, p.2], l1, l2, ?_, ?_⟩
  · show _ ∈ (Tb.go ls 0 (Dy.rowOf rs w)).map _
    rw [ew']
    exact List.mem_map.mpr ⟨p, hp, rfl⟩
  · show _ ∈ (Tb.go ls 0 (Dy.rowOf rs (w + Rr - (d : Int)))).map _
    rw [show w + Rr - (d : Int) = wy by omega]
    refine List.mem_map.mpr ⟨q, hq, ?_⟩
    show [w + (d : Int) + q.1, q.2] = [w + p.1, p.2]
    rw [hk, show w + (d : Int) + q.1 = w + p.1 by omega]
/-! ### a letter a tick -/
theorem pre_succ {b : Int} {cs : List Int} {i n : Nat} (h : (cs.getD i 0).toNat = n) : pre b cs (i + 1) = ((turns b (i : Int) n (pre b cs i)).1, close (turns b (i : Int) n (pre b cs i)).2) := by
  subst h
  rfl
def oc (w : Nat) : List Int := List.replicate w 2 ++ List.replicate (w + 1) 1
theorem oc_len (w : Nat) : (oc w).length = w + (w + 1) := by
  unfold oc
  rw [List.length_append, List.length_replicate, List.length_replicate]
theorem oc_state {b : Int} {w : Nat} (hb : (w : Int) ≤ b) : ∀ m : Nat, m ≤ w + 1 → (pre b (oc w) (w + m)).2 = (w : Int) ∧ (pre b (oc w) (w + m)).1.length = 2 * w + m
  | 0, _ => by
    have ec : pre b (oc w) w = pre b (List.replicate w 2) w := Wk.pre_congr _ fun j hj => by
      unfold oc
      rw [List.getD_eq_getElem?_getD, List.getD_eq_getElem?_getD, List.getElem?_append_left (by rw [List.length_replicate]; exact hj)]
    obtain ⟨a, l, _⟩ := Wk.twos (b := b) w (List.replicate w 2) hb rfl
    rw [Nat.add_zero, ec]
    exact ⟨a, l⟩
  | m + 1, hm => by
    obtain ⟨a, l⟩ := oc_state hb m (by omega)
    have hg : (oc w).getD (w + m) 0 = 1 := by
      unfold oc
      rw [List.getD_eq_getElem?_getD, List.getElem?_append_right (by rw [List.length_replicate]; omega), List.length_replicate, List.getElem?_replicate, if_pos (by omega)]
      rfl
    have fit : (pre b (oc w) (w + m)).2 + ((1 : Nat) : Int) ≤ b + 1 := by omega
    obtain ⟨t1, t2, _⟩ := turns_fit (b := b) (τ := ((w + m : Nat) : Int)) 1 fit
    have ep : pre b (oc w) (w + (m + 1)) = ((turns b ((w + m : Nat) : Int) 1 (pre b (oc w) (w + m))).1, close (turns b ((w + m : Nat) : Int) 1 (pre b (oc w) (w + m))).2) := pre_succ (i := w + m) (congrArg Int.toNat hg)
    rw [ep]
    refine ⟨?_, ?_⟩
    · show close _ = _
      rw [t1, a]
      unfold close
      rw [if_pos (by omega)]
      omega
    · show (_ : List Let).length = _
      rw [t2, l]
      omega
theorem oc_at {b : Int} {w : Nat} (hb : (w : Int) ≤ b) {m : Nat} (hm : m ≤ w) : (letts b (oc w))[2 * w + m]? = some (((w + m : Nat) : Int), 1, some (w : Int)) := by
  obtain ⟨a, l⟩ := oc_state hb m (by omega)
  have hg : (oc w).getD (w + m) 0 = 1 := by
    unfold oc
    rw [List.getD_eq_getElem?_getD, List.getElem?_append_right (by rw [List.length_replicate]; omega), List.length_replicate, List.getElem?_replicate, if_pos (by omega)]
    rfl
  have fit : (pre b (oc w) (w + m)).2 + ((1 : Nat) : Int) ≤ b + 1 := by omega
  obtain ⟨_, _, _, t4, _⟩ := turns_fit (b := b) (τ := ((w + m : Nat) : Int)) 1 fit
  have t4 := t4 (by decide)
  rw [l, a] at t4
  have ep : (pre b (oc w) (w + m + 1)).1 = (turns b ((w + m : Nat) : Int) 1 (pre b (oc w) (w + m))).1 := by
    rw [pre_succ (n := 1) (by rw [hg]; rfl)]
  rw [← ep] at t4
  obtain ⟨rest, er, _⟩ := Dy.pre_app (b := b) (by omega) (oc w) (w + m + 1) (w - m)
  have el : letts b (oc w) = (pre b (oc w) (w + m + 1 + (w - m))).1 := by
    unfold letts
    rw [oc_len, show w + (w + 1) = w + m + 1 + (w - m) by omega]
  rw [el, er, List.getElem?_append_left ((List.getElem?_eq_some_iff.mp t4).1)]
  exact t4
/-- what the letters with this wait enter -/
def ofW (ls : List Int) (rs : List (List Int)) (w : Int) (L : List Let) : List (List Int) := (L.filter fun l => decide (l.2.2 = some w)).flatMap (pl ls rs)
theorem ofW_snoc (ls : List Int) (rs : List (List Int)) (w : Int) (L : List Let) (l : Let) : ofW ls rs w (L ++ [l]) = if l.2.2 = some w then ofW ls rs w L ++ pl ls rs l else ofW ls rs w L := by
  unfold ofW
  rw [List.filter_append]
  by_cases h : l.2.2 = some w
  · rw [if_pos h, List.filter_cons_of_pos (by simpa using h), List.flatMap_append]
    simp
  · rw [if_neg h, List.filter_cons_of_neg (by simpa using h)]
    simp
theorem ofW_mem {ls : List Int} {rs : List (List Int)} {w : Int} {L : List Let} {l : Let} (h : l ∈ L) (hw : l.2.2 = some w) {r : List Int} (hr : r ∈ pl ls rs l) : r ∈ ofW ls rs w L :=
  List.mem_flatMap.mpr ⟨l, List.mem_filter.mpr ⟨h, by simpa using hw⟩, hr⟩
theorem ofW_append (ls : List Int) (rs : List (List Int)) (w : Int) (A B : List Let) : ofW ls rs w (A ++ B) = ofW ls rs w A ++ ofW ls rs w B := by
  unfold ofW
  rw [List.filter_append, List.flatMap_append]
/-- two of them enter one loop at one tick -/
theorem oc_dup {ls : List Int} {rs : List (List Int)} {w : Nat} (hw : (w : Int) ≤ (rs.length : Int)) {p q : Int × Int} (hp : p ∈ Tb.go ls 0 (Dy.rowOf rs (w : Int))) (hq : q ∈ Tb.go ls 0 (Dy.rowOf rs (w : Int))) (e : p.2 = q.2) (lt : p.1 < q.1) (p0 : 0 ≤ p.1) (qw : q.1 < (w : Int)) :
    ∃ j r, (ofW ls rs (w : Int) (letts (rs.length : Int) (oc w)))[j]? = some r ∧ r ∈ (ofW ls rs (w : Int) (letts (rs.length : Int) (oc w))).take j := by
  have h0 := oc_at hw (m := 0) (by omega)
  obtain ⟨m, hm⟩ : ∃ m : Nat, (m : Int) = q.1 - p.1 := ⟨(q.1 - p.1).toNat, by omega⟩
  have h1 := oc_at hw (m := m) (by omega)
  generalize letts (rs.length : Int) (oc w) = L at h0 h1
  have eL : L = L.take (2 * w + m) ++ L.drop (2 * w + m) := (List.take_append_drop _ _).symm
  have r0 : [(w : Int) + q.1, q.2] ∈ ofW ls rs (w : Int) (L.take (2 * w + m)) := by
    refine ofW_mem (l := (((w + 0 : Nat) : Int), 1, some (w : Int))) (List.mem_iff_getElem?.mpr ⟨2 * w + 0, ?_⟩) rfl ?_
    · rw [List.getElem?_take_of_lt (by omega)]
      exact h0
    · exact List.mem_map.mpr ⟨q, hq, rfl⟩
  have r1 : [(w : Int) + q.1, q.2] ∈ ofW ls rs (w : Int) (L.drop (2 * w + m)) := by
    refine ofW_mem (l := (((w + m : Nat) : Int), 1, some (w : Int))) (List.mem_iff_getElem?.mpr ⟨0, ?_⟩) rfl ?_
    · rw [List.getElem?_drop]
      exact h1
    · refine List.mem_map.mpr ⟨p, hp, ?_⟩
      show [((w + m : Nat) : Int) + p.1, p.2] = [(w : Int) + q.1, q.2]
      rw [e, show ((w + m : Nat) : Int) + p.1 = (w : Int) + q.1 by omega]
  have eE : ofW ls rs (w : Int) L = ofW ls rs (w : Int) (L.take (2 * w + m)) ++ ofW ls rs (w : Int) (L.drop (2 * w + m)) := by
    rw [← ofW_append, ← eL]
  obtain ⟨i, hi⟩ := List.mem_iff_getElem?.mp r1
  rw [eE]
  refine ⟨(ofW ls rs (w : Int) (L.take (2 * w + m))).length + i, [(w : Int) + q.1, q.2], ?_, ?_⟩
  · rw [List.getElem?_append_right (by omega), Nat.add_sub_cancel_left]
    exact hi
  · rw [List.take_append]
    refine List.mem_append_left _ ?_
    rw [List.take_of_length_le (by omega)]
    exact r0
/-! ### a loop twice in a row -/
theorem go_filter_len (ls : List Int) (k : Int) : ∀ (r : List Int) (g : Int), ((Tb.go ls g r).filter fun p => decide (p.2 = k)).length = (r.filter fun x => decide (x = k)).length
  | [], _ => rfl
  | x :: r, g => by
    show (((g, x) :: Tb.go ls (g + Tb.len1 ls x) r).filter _).length = _
    by_cases e : x = k
    · rw [List.filter_cons_of_pos (by simpa using e), List.filter_cons_of_pos (by simpa using e), List.length_cons, List.length_cons, go_filter_len]
    · rw [List.filter_cons_of_neg (by simpa using e), List.filter_cons_of_neg (by simpa using e), go_filter_len]
theorem twice {ls : List Int} (G : Rch.Good ls) {k : Int} {rot row : List Int} {n : Nat} (h : rot = (k :: k :: row).drop n ++ (k :: k :: row).take n) (hin : Tb.InR ls rot) :
    ∃ p q rest, (Tb.go ls 0 rot).filter (fun p => decide (p.2 = k)) = p :: q :: rest ∧ p.1 < q.1 ∧ p.2 = k ∧ q.2 = k ∧ p ∈ Tb.go ls 0 rot ∧ q ∈ Tb.go ls 0 rot := by
  have hl : 2 ≤ ((Tb.go ls 0 rot).filter fun p => decide (p.2 = k)).length := by
    rw [go_filter_len, h]
    have pm : ((k :: k :: row).drop n ++ (k :: k :: row).take n).Perm (k :: k :: row) := by
      refine List.perm_append_comm.trans ?_
      rw [List.take_append_drop]
    rw [(pm.filter _).length_eq, List.filter_cons_of_pos (by simp), List.filter_cons_of_pos (by simp), List.length_cons, List.length_cons]
    omega
  have pw := (Tb.go_up G rot 0 hin).sublist (List.filter_sublist (l := Tb.go ls 0 rot) (p := fun p => decide (p.2 = k)))
  cases e : (Tb.go ls 0 rot).filter fun p => decide (p.2 = k) with
  | nil =>
    rw [e] at hl
    exact absurd hl (by decide)
  | cons p r =>
    cases r with
    | nil =>
      rw [e] at hl
      exact absurd hl (by simp)
    | cons q rest =>
      rw [e] at pw
      have hp : p ∈ (Tb.go ls 0 rot).filter fun p => decide (p.2 = k) := by
        rw [e]
        exact List.mem_cons_self
      have hq : q ∈ (Tb.go ls 0 rot).filter fun p => decide (p.2 = k) := by
        rw [e]
        exact List.mem_cons_of_mem _ List.mem_cons_self
      obtain ⟨p1, p2⟩ := List.mem_filter.mp hp
      obtain ⟨q1, q2⟩ := List.mem_filter.mp hq
      exact ⟨p, q, rest, rfl, (List.pairwise_cons.mp pw).1 q List.mem_cons_self, of_decide_eq_true p2, of_decide_eq_true q2, p1, q1⟩
theorem ents_filter (ls : List Int) (w k : Int) (r : List Int) : (Tb.ents ls w r).filter (fun e => decide (Cl.hd e = k)) = ((Tb.go ls 0 r).filter fun p => decide (p.2 = k)).map (Tb.ent w) := by
  unfold Tb.ents
  rw [List.filter_map]
  rfl
theorem twice_clash {ls : List Int} {rs : List (List Int)} (R : Tb.Right ls rs) {c w : Int} (c1 : 0 ≤ c) (hw : w ≤ (rs.length : Int)) {p q : Int × Int} (hp : p ∈ Tb.go ls 0 (Dy.rowOf rs w)) (hq : q ∈ Tb.go ls 0 (Dy.rowOf rs w)) (lt : p.1 < q.1) (e : p.2 = q.2) (c2 : 1 ≤ c) : Cl.Clash c ls rs (Tb.ent w q) (Tb.ent w p) := by
  obtain ⟨a1, _, _⟩ := mem_wait R hw hp
  obtain ⟨b1, _, _⟩ := mem_wait R hw hq
  refine ⟨b1, a1, e.symm, ?_⟩
  have hm : q.1 - p.1 ≤ c * (q.1 - p.1) := by
    have := Int.mul_le_mul_of_nonneg_right c2 (show 0 ≤ q.1 - p.1 by omega)
    omega
  show (decide ((w - p.1) - (w - q.1) > 0) && (decide (q.1 ≥ p.1) && decide ((w - p.1) - (w - q.1) ≤ c * (q.1 - p.1) + c - 1))) = true
  rw [decide_eq_true (by omega), decide_eq_true (by omega), decide_eq_true (by omega)]
  rfl
end Sf

/-! ## generators: if, for, a lock; the first item alone -/
namespace GZ
open PySem PySem.Spec PyProof.Rows L2 GenW
section
variable {M : Model} {A : Around} {R : GenEnd} {Y : Protocol} {n : Nat} {s₀ : Shared} {c : Code} {fs : List Frame} {s : Shared} {env : Env}
  {K : Flow → Sem PySem.Fin} {J : Value → Sem PySem.Fin} {gd : Bool → Bool} {lv : List Value → List Value}
theorem seg_If {test : Expr} {a b : List Stmt} {pos : Pos}
    (h : wpAny M (A.over c fs) (isTrue test env (eval test env)) (fun d s' => if d = true then Seg M A R Y n s₀ c ((execs a env).wrap K J gd lv) fs s' else Seg M A R Y n s₀ c ((execs b env).wrap K J gd lv) fs s')
      (fun x s' => Seg M A R Y n s₀ c (J x) fs s') s) :
    Seg M A R Y n s₀ c ((exec (.If test a b pos) env).wrap K J gd lv) fs s := by
  show Seg M A R Y n s₀ c (.at pos fun _ => (isTrue test env (eval test env) >>= fun d => if d = true then execs a env else execs b env).wrap K J gd lv) fs s
  refine seg_at ?_
  rw [Sem.bind_eq_wrap', Sem.wrap_wrap]
  refine seg_wrap (wpAny_mono h (fun d s' hd => ?_) fun _ _ x => x)
  cases d with
  | true =>
    rw [if_pos rfl] at hd
    exact hd
  | false =>
    rw [if_neg Bool.false_ne_true] at hd
    exact hd
theorem seg_For {target iter : Expr} {body orelse : List Stmt} {pos : Pos}
    (h : wpAny M (A.over c fs) (eval iter env) (fun x s1 => wpAny M (A.over c fs) (pyIter x) (fun it s2 => ∀ p, Seg M A R Y n s₀ (.forLoop target it body orelse env) (M.den (.forLoop target it body orelse env))
      (.ret (fun r => ((match r with | .ok f => (.pure f : Sem Flow) | .error e => .raise e).onRaise (cameBack env)).wrap K J gd lv) none (gd false) (lv []) c p [] :: fs) s2)
        (fun x s' => Seg M A R Y n s₀ c (J x) fs s') s1) (fun x s' => Seg M A R Y n s₀ c (J x) fs s') s)
    (hs : ∀ x, foldedSetIterable iter env x = pure x := by intro _; rfl) :
    Seg M A R Y n s₀ c ((exec (.For target iter body orelse pos) env).wrap K J gd lv) fs s := by
  rw [exec_For]
  show Seg M A R Y n s₀ c (.at pos fun _ => (eval iter env >>= fun v => foldedSetIterable iter env v >>= fun x => standAt iter.pos >>= fun _ => holding [x] (pyIter x) >>= fun it => runOwn (.forLoop target it body orelse env) env).wrap K J gd lv) fs s
  refine seg_at ?_
  rw [Sem.bind_eq_wrap', Sem.wrap_wrap]
  refine seg_wrap (wpAny_mono h (fun x s1 h1 => ?_) fun _ _ x => x)
  simp only [hs]
  show Seg M A R Y n s₀ c (Sem.wrap _ _ _ _ (standAt iter.pos >>= fun _ => holding [x] (pyIter x) >>= fun it => runOwn (.forLoop target it body orelse env) env)) fs s1
  rw [Sem.bind_eq_wrap', Sem.wrap_wrap]
  refine seg_wrap (wpAny_standAt ?_)
  show Seg M A R Y n s₀ c (Sem.wrap _ _ _ _ (holding [x] (pyIter x) >>= fun it => runOwn (.forLoop target it body orelse env) env)) fs s1
  rw [Sem.bind_eq_wrap', Sem.wrap_wrap]
  refine seg_wrap (wpAny_holding (wpAny_mono h1 (fun it s2 h2 => ?_) fun _ _ x => x))
  exact seg_call h2
end
section
variable {prog : Program} {w : World} {A : Around} {R : GenEnd} {Y : Protocol} {n : Nat} {s₀ : Shared} {fs : List Frame} {s : Shared} {env : Env}
theorem seg_forLoop {target : Expr} {it : Value} {body orelse : List Stmt}
    (h : wpAny (model prog w) (A.over (.forLoop target it body orelse env) fs) (pyNext it) (fun r s1 => match r with
        | none => Seg (model prog w) A R Y n s₀ (.forLoop target it body orelse env) (.pure (.again (.block orelse env))) fs s1
        | some v => wpAny (model prog w) (A.over (.forLoop target it body orelse env) fs) (letOwnedTupleGo target it v) (fun _ s2 => wpAny (model prog w) (A.over (.forLoop target it body orelse env) fs) (assign target env v) (fun _ s3 =>
          Seg (model prog w) A R Y n s₀ (.forLoop target it body orelse env) ((execs body env).wrap (fun f => match f with
            | .next | .cont => .pure (.again (.forLoop target it body orelse env))
            | .brk => .pure (.done .next)
            | .ret v => .pure (.done (.ret v))) (fun e => (do noteFrame e env; theTreesLotGoes e : Sem Unit).wrap (fun _ => .raise e) .raise id id) id id) fs s3)
          (fun x s' => Seg (model prog w) A R Y n s₀ (.forLoop target it body orelse env) ((do noteFrame x env; theTreesLotGoes x : Sem Unit).wrap (fun _ => .raise x) .raise id id) fs s') s2)
          (fun x s' => Seg (model prog w) A R Y n s₀ (.forLoop target it body orelse env) ((do noteFrame x env; theTreesLotGoes x : Sem Unit).wrap (fun _ => .raise x) .raise id id) fs s') s1)
      (fun x s' => Seg (model prog w) A R Y n s₀ (.forLoop target it body orelse env) ((do noteFrame x env; theTreesLotGoes x : Sem Unit).wrap (fun _ => .raise x) .raise id id) fs s') s) :
    Seg (model prog w) A R Y n s₀ (.forLoop target it body orelse env) ((model prog w).den (.forLoop target it body orelse env)) fs s := by
  show Seg _ A R Y n s₀ _ ((forTurn target it body orelse env).onRaise (fun x => do noteFrame x env; theTreesLotGoes x)) fs s
  have ex : ∀ x s', Seg (model prog w) A R Y n s₀ (.forLoop target it body orelse env) ((do noteFrame x env; theTreesLotGoes x : Sem Unit).wrap (fun _ => .raise x) .raise id id) fs s' →
      Seg (model prog w) A R Y n s₀ (.forLoop target it body orelse env) ((do noteFrame x env; theTreesLotGoes x : Sem Unit).bind fun _ => .raise x) fs s' := fun x s' hx => by
    rw [Sem.bind_eq_wrap]
    exact hx
  unfold forTurn
  rw [Sem.onRaise_eq_wrap, Sem.bind_eq_wrap', Sem.wrap_wrap]
  refine seg_wrap (wpAny_standAt ?_)
  rw [Sem.bind_eq_wrap', Sem.wrap_wrap]
  refine seg_wrap (wpAny_onRaise (wpAny_mono h (fun r s1 h1 => ?_) fun x s' hx => wpAny_standAt (ex x s' hx)))
  cases r with
  | none => exact h1
  | some v =>
    show Seg _ A R Y n s₀ _ (Sem.wrap _ _ _ _ (letOwnedTupleGo target it v >>= fun _ => assign target env v >>= fun _ => execs body env >>= _)) fs s1
    rw [Sem.bind_eq_wrap', Sem.wrap_wrap]
    refine seg_wrap (wpAny_mono h1 (fun _ s2 h2 => ?_) fun x s' hx => ex x s' hx)
    show Seg _ A R Y n s₀ _ (Sem.wrap _ _ _ _ (assign target env v >>= fun _ => execs body env >>= _)) fs s2
    rw [Sem.bind_eq_wrap', Sem.wrap_wrap]
    refine seg_wrap (wpAny_mono h2 (fun _ s3 h3 => ?_) fun x s' hx => ex x s' hx)
    show Seg _ A R Y n s₀ _ (Sem.wrap _ _ _ _ (execs body env >>= _)) fs s3
    rw [Sem.bind_eq_wrap', Sem.wrap_wrap]
    rw [Sem.wrap_congr (execs body env) _ _ (K' := fun f => match f with
            | .next | .cont => .pure (.again (.forLoop target it body orelse env))
            | .brk => .pure (.done .next)
            | .ret v => .pure (.done (.ret v))) (H' := (fun e => (do noteFrame e env; theTreesLotGoes e : Sem Unit).wrap (fun _ => .raise e) .raise id id))
        (fun f => by cases f <;> rfl)
        (fun e => by first | exact Sem.bind_eq_wrap _ _ | (show (do noteFrame e env; theTreesLotGoes e : Sem Unit).bind (fun _ => .raise e) = _; rw [Sem.bind_eq_wrap]))]
    exact h3
theorem seg_block {orelse : List Stmt} (h : Seg (model prog w) A R Y n s₀ (.block orelse env) ((execs orelse env).wrap (fun f => .pure (.done f)) (fun e => (do noteFrame e env; theTreesLotGoes e : Sem Unit).wrap (fun _ => .raise e) .raise id id) id id) fs s) :
    Seg (model prog w) A R Y n s₀ (.block orelse env) ((model prog w).den (.block orelse env)) fs s := by
  show Seg _ A R Y n s₀ _ ((execs orelse env).onRaise (fun x => do noteFrame x env; theTreesLotGoes x) >>= fun f => pure (.done f)) fs s
  rw [Sem.onRaise_eq_wrap, Sem.bind_eq_wrap', Sem.wrap_wrap]
  rw [Sem.wrap_congr (execs orelse env) _ _ (K' := fun f => (.pure (.done f) : Sem PySem.Fin)) (H' := (fun e => (do noteFrame e env; theTreesLotGoes e : Sem Unit).wrap (fun _ => .raise e) .raise id id)) (fun f => by rfl)
    (fun e => by rw [Sem.bind_eq_wrap, Sem.wrap_wrap]; rfl)]
  exact h
end

/-! ### the family: a consumer's list, or none (the first item alone) -/
structure ZEnds where
  nx : List V → L2.St → Hp → Prop
  rt : List V → VK
  bk : List V → L2.St → Hp → Prop := fun _ _ _ => False
  ct : List V → L2.St → Hp → Prop := fun _ _ _ => False
  yd : V → Hp → Prop := fun _ _ => True
abbrev TZn := ZEnds → List V → L2.St → Hp → Prop
def ZEnds.at (D : ZEnds) (ys : List V) : Ends := { nx := D.nx ys, rt := D.rt ys, bk := D.bk ys, ct := D.ct ys }
def GIz (X : Cx) : Option Addr → List (Addr × Obj) → List V → L2.St → Hp → Shared → Prop
  | some S, ip, ys, σ, H, s => GI X S ip ys σ H s
  | none, ip, ys, σ, H, s => ys = [] ∧ Inv X ip σ H s
theorem GIz.open {X : Cx} {So : Option Addr} {ip : List (Addr × Obj)} {ys : List V} {σ : L2.St} {H : Hp} {s : Shared} (h : GIz X So ip ys σ H s) :
    ∃ base : List (Addr × Obj), (∀ p ∈ base, So = some p.1) ∧ (∀ S, So = some S → ∃ o, (S, o) ∈ base) ∧ Inv X (base ++ ip) σ H s ∧ ∀ ip' σ' H' s', Inv X (base ++ ip') σ' H' s' → GIz X So ip' ys σ' H' s' := by
  cases So with
  | none =>
    refine ⟨[], ?_, ?_, h.2, ?_⟩
    · intro p hp
      cases hp
    · intro S hS
      cases hS
    · intro _ _ _ _ I
      exact ⟨h.1, I⟩
  | some S =>
    obtain ⟨acc, c, r, I⟩ := h
    refine ⟨[(S, lstObj acc c)], ?_, ?_, I, ?_⟩
    · intro p hp
      rw [List.mem_singleton.mp hp]
    · intro S' hS
      cases hS
      exact ⟨_, List.mem_singleton.mpr rfl⟩
    · intro _ _ _ _ I
      exact ⟨acc, c, r, I⟩
def YZ (X : Cx) : Option Addr → (V → Hp → Prop) → Protocol
  | some S, _ => GY X S
  | none, yd => fun _ _ v s _ => ∃ x ip σ H, RelV x v ∧ Inv X ip σ H s ∧ yd x H
def GSPz (X : Cx) (So : Option Addr) (ip : List (Addr × Obj)) (D : ZEnds) (ys : List V) (f : Flow) (s : Shared) : Prop :=
  match f with
  | .next => ∃ σ H, GIz X So ip ys σ H s ∧ D.nx ys σ H
  | .brk => ∃ σ H, GIz X So ip ys σ H s ∧ D.bk ys σ H
  | .cont => ∃ σ H, GIz X So ip ys σ H s ∧ D.ct ys σ H
  | .ret u => ∃ v σ H, GIz X So ip ys σ H s ∧ RelV v u ∧ D.rt ys v H
structure GCz (X : Cx) (So : Option Addr) (ip : List (Addr × Obj)) (A : Around) (c : Code) (fs : List Frame) (gd : Bool → Bool) : Prop where
  pn : ∀ S, So = some S → ∀ p ∈ X.pn, p.1 ≠ S
  ip : ∀ S, So = some S → ∀ p ∈ ip, p.1 ≠ S
  apart : ∀ S, So = some S → Apart X S
  over : A.over c fs = X.A
  split : splitAtGen fs = none
  guard : fs.any Frame.guarded = false
  gd : gd false = false
structure GKz (X : Cx) (So : Option Addr) (ip : List (Addr × Obj)) (A : Around) (R : GenEnd) (c : Code) (fs : List Frame) (K : Flow → Sem PySem.Fin) (J : Value → Sem PySem.Fin) (D : ZEnds) : Prop where
  ok : ∀ (n : Nat) (ys : List V) (s₀ s : Shared) (f : Flow), n + ys.length = sizeLine → GSPz X So ip D ys f s → Seg (model X.prog X.w) A R (YZ X So D.yd) n s₀ c (K f) fs s
  exc : ∀ (n : Nat) (s₀ : Shared) (e : Value) (s : Shared), X.xe e s → Seg (model X.prog X.w) A R (YZ X So D.yd) n s₀ c (J e) fs s
structure GSz (X : Cx) (st : Stmt) (t : TZn) : Prop where
  run : ∀ (A : Around) (So : Option Addr) (ip : List (Addr × Obj)) (R : GenEnd) (n : Nat) (ys : List V) (s₀ : Shared) (c : Code) (fs : List Frame) (K : Flow → Sem PySem.Fin) (J : Value → Sem PySem.Fin) (gd : Bool → Bool) (lv : List Value → List Value) (s : Shared) (σ : L2.St) (H : Hp) (D : ZEnds),
    GCz X So ip A c fs gd → n + ys.length = sizeLine → GKz X So ip A R c fs K J D → GIz X So ip ys σ H s → t D ys σ H →
    Seg (model X.prog X.w) A R (YZ X So D.yd) n s₀ c ((exec st X.env).wrap K J gd lv) fs s
structure GSsz (X : Cx) (st : List Stmt) (t : TZn) : Prop where
  run : ∀ (A : Around) (So : Option Addr) (ip : List (Addr × Obj)) (R : GenEnd) (n : Nat) (ys : List V) (s₀ : Shared) (c : Code) (fs : List Frame) (K : Flow → Sem PySem.Fin) (J : Value → Sem PySem.Fin) (gd : Bool → Bool) (lv : List Value → List Value) (s : Shared) (σ : L2.St) (H : Hp) (D : ZEnds),
    GCz X So ip A c fs gd → n + ys.length = sizeLine → GKz X So ip A R c fs K J D → GIz X So ip ys σ H s → t D ys σ H →
    Seg (model X.prog X.w) A R (YZ X So D.yd) n s₀ c ((execs st X.env).wrap K J gd lv) fs s
section
variable {X : Cx} {st : Stmt} {rest : List Stmt}
def tzPlain (t : TS) : TZn := fun D ys σ H => t (D.at ys) σ H
theorem sp_gspz {So : Option Addr} {base ip : List (Addr × Obj)} {s : Shared} {D : ZEnds} {ys : List V} {f : Flow} (r : ∀ σ' H' s', Inv X (base ++ ip) σ' H' s' → GIz X So ip ys σ' H' s') (h : SP X (base ++ ip) (D.at ys) f s) : GSPz X So ip D ys f s := by
  cases f with
  | next => obtain ⟨σ, H, I, q⟩ := h; exact ⟨σ, H, r _ _ _ I, q⟩
  | brk => obtain ⟨σ, H, I, q⟩ := h; exact ⟨σ, H, r _ _ _ I, q⟩
  | cont => obtain ⟨σ, H, I, q⟩ := h; exact ⟨σ, H, r _ _ _ I, q⟩
  | ret u => obtain ⟨v, σ, H, I, r1, q⟩ := h; exact ⟨v, σ, H, r _ _ _ I, r1, q⟩
theorem gz_ps {t : TS} (h : PS X st t) : GSz X st (tzPlain t) := by
  refine ⟨fun A So ip R n ys s₀ c fs K J gd lv s σ H D g hn k hI ht => ?_⟩
  obtain ⟨base, _, _, I, back⟩ := hI.open
  refine seg_wrap ?_
  rw [g.over]
  exact wpAny_mono (h.run _ s σ H (D.at ys) I ht) (fun f s' hs => k.ok n ys s₀ s' f hn (sp_gspz (back ip) hs)) fun x s' hx => k.exc n s₀ x s' hx
def tz0 : TZn := fun D ys σ H => D.nx ys σ H
theorem gzs_nil : GSsz X [] tz0 := by
  refine ⟨fun A So ip R n ys s₀ c fs K J gd lv s σ H D g hn k hI ht => ?_⟩
  exact seg_execs_nil (k.ok n ys s₀ s .next hn ⟨σ, H, hI, ht⟩)
def tzThen (t u : TZn) : TZn := fun D ys σ H => t { D with nx := fun ys' σ' H' => u D ys' σ' H' } ys σ H
theorem gzs_cons {t u : TZn} (a : GSz X st t) (b : GSsz X rest u) : GSsz X (st :: rest) (tzThen t u) := by
  refine ⟨fun A So ip R n ys s₀ c fs K J gd lv s σ H D g hn k hI ht => ?_⟩
  refine seg_execs_cons ?_
  refine a.run A So ip R n ys s₀ c fs _ J gd lv s σ H { D with nx := fun ys' σ' H' => u D ys' σ' H' } g hn ⟨fun n' ys' s₀' s' f hn' hs => ?_, k.exc⟩ hI ht
  cases f with
  | next =>
    obtain ⟨σ', H', I', q⟩ := hs
    exact b.run A So ip R n' ys' s₀' c fs K J gd lv s' σ' H' D g hn' k I' q
  | brk => exact k.ok n' ys' s₀' s' .brk hn' hs
  | cont => exact k.ok n' ys' s₀' s' .cont hn' hs
  | ret u => exact k.ok n' ys' s₀' s' (.ret u) hn' hs
theorem gzs_one {t : TZn} (a : GSz X st t) : GSsz X [st] t := by
  refine ⟨fun A So ip R n ys s₀ c fs K J gd lv s σ H D g hn k hI ht => ?_⟩
  refine seg_execs_cons ?_
  refine a.run A So ip R n ys s₀ c fs _ J gd lv s σ H D g hn ⟨fun n' ys' s₀' s' f hn' hs => ?_, k.exc⟩ hI ht
  cases f with
  | next => exact seg_execs_nil (k.ok n' ys' s₀' s' .next hn' hs)
  | brk => exact k.ok n' ys' s₀' s' .brk hn' hs
  | cont => exact k.ok n' ys' s₀' s' .cont hn' hs
  | ret u => exact k.ok n' ys' s₀' s' (.ret u) hn' hs
/-- yield e: D.yd is told of the item, too -/
def tzYield (te : TE) : TZn := fun D ys σ H => ys.length < sizeLine ∧ te σ H fun x H1 => (ys = [] → D.yd x H1) ∧ D.nx (ys ++ [x]) σ H1
theorem gz_yield {e : Expr} {yp pos : Pos} {te : TE} (he : PE X e te) (hco : X.env.scope.isCoroutine = false := by rfl) (hi : interactive X.env = false := by rfl) : GSz X (.Expr (.Yield (some e) yp) pos) (tzYield te) := by
  refine ⟨fun A So ip R n ys s₀ c fs K J gd lv s σ H D g hn k hI ht => ?_⟩
  obtain ⟨hlt, ht⟩ := ht
  obtain ⟨n, rfl⟩ : ∃ m, n = m + 1 := ⟨n - 1, by omega⟩
  obtain ⟨base, _, _, I, back⟩ := hI.open
  refine seg_Expr_Yield g.split g.gd g.guard ?_ hco hi
  rw [g.over]
  refine wpAny_mono (he.run _ s σ H _ I ht) (fun v s' hv => ?_) fun x s' hx => k.exc _ s₀ x s' hx
  obtain ⟨x, H1, I1, rv, q0, q⟩ := hv
  have G1 : GIz X So ip ys σ H1 s' := back _ _ _ _ I1
  intro kap hk
  cases So with
  | none =>
    obtain ⟨ey, I2⟩ := G1
    exact ⟨x, ip, σ, H1, rv, I2, q0 ey⟩
  | some S =>
    have G1 : GI X S ip ys σ H1 s' := G1
    refine ⟨ys, x, ip, σ, H1, hn, rv, G1, fun s'' z => hk .none s'' ?_⟩
    refine k.ok n (ys ++ [x]) s'' s'' .next ?_ ⟨σ, H1, (show GI X S ip (ys ++ [x]) σ H1 s'' from G1.woken (g.pn S rfl) (g.ip S rfl) (g.apart S rfl) rv z), q⟩
    rw [List.length_append, List.length_singleton]; omega
/-- if -/
def tzIf (c : TT) (t u : TZn) : TZn := fun D ys σ H => c σ H fun b H1 => if b = true then t D ys σ H1 else u D ys σ H1
theorem gz_if {test : Expr} {a b : List Stmt} {pos : Pos} {tc : TT} {t u : TZn} (hc : PT X test tc) (ha : GSsz X a t) (hb : GSsz X b u) : GSz X (.If test a b pos) (tzIf tc t u) := by
  refine ⟨fun A So ip R n ys s₀ c fs K J gd lv s σ H D g hn k hI ht => ?_⟩
  obtain ⟨base, _, _, I, back⟩ := hI.open
  refine seg_If ?_
  rw [g.over]
  refine wpAny_mono (hc.run _ s σ H _ I ht) (fun d s' hd => ?_) fun x s' hx => k.exc n s₀ x s' hx
  obtain ⟨H1, I1, q⟩ := hd
  have G1 : GIz X So ip ys σ H1 s' := back _ _ _ _ I1
  cases d with
  | true =>
    rw [if_pos rfl] at q ⊢
    exact ha.run A So ip R n ys s₀ c fs K J gd lv s' σ H1 D g hn k G1 q
  | false =>
    rw [if_neg Bool.false_ne_true] at q ⊢
    exact hb.run A So ip R n ys s₀ c fs K J gd lv s' σ H1 D g hn k G1 q
/-- the thing at d is locked meanwhile -/
def tzLock (t : TZn) : TZn := fun D ys σ H => ∃ d u, H d = some u ∧ Mut (some u) ∧ ∀ od, t ⟨fun ys' σ' H' => H' d = some (.frz od u) ∧ D.nx ys' σ' (upd H' d u), fun ys' v H' => H' d = some (.frz od u) ∧ D.rt ys' v (upd H' d u),
  fun ys' σ' H' => H' d = some (.frz od u) ∧ D.bk ys' σ' (upd H' d u), fun ys' σ' H' => H' d = some (.frz od u) ∧ D.ct ys' σ' (upd H' d u), D.yd⟩ ys σ (upd H d (.frz od u))
theorem gz_lock {t : TZn} (h : GSz X st t) : GSz X st (tzLock t) := by
  refine ⟨fun A So ip R n ys s₀ c fs K J gd lv s σ H D g hn k hI ht => ?_⟩
  obtain ⟨d, u, hd, mu, ht⟩ := ht
  obtain ⟨base, _, _, I, back⟩ := hI.open
  obtain ⟨od, I1⟩ := I.lock hd mu
  have un : ∀ {ys' : List V} {σ' : L2.St} {H' : Hp} {s' : Shared}, GIz X So ip ys' σ' H' s' → H' d = some (.frz od u) → GIz X So ip ys' σ' (upd H' d u) s' := fun {ys' σ' H' s'} G e => by
    obtain ⟨base', _, _, I', back'⟩ := G.open
    exact back' _ _ _ _ (I'.unlock e (I.nofrz hd mu))
  refine h.run A So ip R n ys s₀ c fs K J gd lv s σ _ { nx := fun ys' σ' H' => H' d = some (.frz od u) ∧ D.nx ys' σ' (upd H' d u), rt := fun ys' v H' => H' d = some (.frz od u) ∧ D.rt ys' v (upd H' d u), bk := fun ys' σ' H' => H' d = some (.frz od u) ∧ D.bk ys' σ' (upd H' d u), ct := fun ys' σ' H' => H' d = some (.frz od u) ∧ D.ct ys' σ' (upd H' d u), yd := D.yd } g hn ⟨fun n' ys' s₀' s' f hn' hs => ?_, k.exc⟩ (back _ _ _ _ I1) (ht od)
  cases f with
  | next => obtain ⟨σ', H', G, e, q⟩ := hs; exact k.ok n' ys' s₀' s' .next hn' ⟨σ', _, un G e, q⟩
  | brk => obtain ⟨σ', H', G, e, q⟩ := hs; exact k.ok n' ys' s₀' s' .brk hn' ⟨σ', _, un G e, q⟩
  | cont => obtain ⟨σ', H', G, e, q⟩ := hs; exact k.ok n' ys' s₀' s' .cont hn' ⟨σ', _, un G e, q⟩
  | ret v => obtain ⟨x, σ', H', G, r, e, q⟩ := hs; exact k.ok n' ys' s₀' s' (.ret v) hn' ⟨x, σ', _, un G e, r, q⟩
/-! ### for -/
def tzFor (wi : TI) (g : TG) (tb : TZn) : TZn := fun D ys σ H => wi σ H fun J H1 => ∃ W : Nat → Nat → List V → L2.St → Hp → Prop, (∃ m, W 0 m ys σ H1) ∧ ∀ i m ys σ H, W i m ys σ H →
  (J.stop i H ∧ D.nx ys σ H) ∨ (J.go i H ∧ ∃ N : List V → L2.St → Hp → Prop, (∀ ys' σ' H', N ys' σ' H' → ∃ m', m' < m ∧ W (i + 1) m' ys' σ' H') ∧ ∀ x H', J.yld i H x H' → g x σ H' fun σ2 H2 => tb { D with nx := N, ct := N, bk := D.nx } ys σ2 H2)
theorem gcz_loop {So : Option Addr} {ip : List (Addr × Obj)} {A : Around} {c c' : Code} {fs : List Frame} {gd : Bool → Bool} {k : Result → Sem PySem.Fin} {l kp : List Value} {p : Pos} (g : GCz X So ip A c fs gd) (hw : c'.weight = 0) (hu : c'.cUnits = 0) :
    GCz X So ip A c' (.ret k none (gd false) l c p kp :: fs) id where
  pn := g.pn
  ip := g.ip
  apart := g.apart
  over := (over_loop hw hu).trans g.over
  split := by
    show (splitAtGen fs).map _ = none
    rw [g.split]; rfl
  guard := by
    show (gd false || fs.any Frame.guarded) = false
    rw [g.gd, g.guard]; rfl
  gd := rfl
theorem GCz.more {So : Option Addr} {ip ip' : List (Addr × Obj)} {A : Around} {c : Code} {fs : List Frame} {gd : Bool → Bool} (g : GCz X So ip A c fs gd) (h : ∀ S, So = some S → ∀ p ∈ ip', p.1 ≠ S) : GCz X So ip' A c fs gd :=
  ⟨g.pn, h, g.apart, g.over, g.split, g.guard, g.gd⟩
theorem seg_cameBackz {So : Option Addr} {ip : List (Addr × Obj)} {A : Around} {R : GenEnd} {c : Code} {fs : List Frame} {K : Flow → Sem PySem.Fin} {J : Value → Sem PySem.Fin} {gd : Bool → Bool} {lv : List Value → List Value} {D : ZEnds} {n : Nat} {s₀ s : Shared} {e : Value}
    (g : GCz X So ip A c fs gd) (k : GKz X So ip A R c fs K J D) (h : cameBackBy (model X.prog X.w) X.A X.env X.xe e s) :
    Seg (model X.prog X.w) A R (YZ X So D.yd) n s₀ c (((Sem.raise e : Sem Flow).onRaise (cameBack X.env)).wrap K J gd lv) fs s := by
  show Seg _ _ _ _ _ _ _ (((cameBack X.env e).bind fun _ => (Sem.raise e : Sem Flow)).wrap K J gd lv) _ _
  rw [Sem.bind_eq_wrap, Sem.wrap_wrap]
  refine seg_wrap ?_
  rw [g.over]
  exact wpAny_mono h (fun _ s' hx => k.exc n s₀ e s' hx) fun x s' hx => k.exc n s₀ x s' hx
theorem gz_for {tg iter : Expr} {body : List Stmt} {wi : TI} {g : TG} {tb : TZn} {pos : Pos} (hp : PassesOwn (model X.prog X.w) X.A X.env X.xe) (hc : X.calm = true) (hi : PI X tg iter wi) (hg : PG X tg g) (hb : GSsz X body tb)
    (hs : ∀ x, foldedSetIterable iter X.env x = pure x := by intro _; rfl) : GSz X (.For tg iter body [] pos) (tzFor wi g tb) := by
  refine ⟨fun A So ip R n ys s₀ c fs K J gd lv s σ H D gc hn k hI ht => ?_⟩
  obtain ⟨base, hbs, hbo, I, back⟩ := hI.open
  refine seg_For ?_ hs
  rw [gc.over]
  refine wpAny_mono (hi.run _ s σ H _ I ht) (fun v s1 h1 => ?_) fun x s' hx => k.exc n s₀ x s' hx
  refine wpAny_mono h1 (fun itv s2 h2 => ?_) fun x s' hx => k.exc n s₀ x s' hx
  intro p
  obtain ⟨it, fp, tn, Jt, H2, e, I2, T, st2, f2, W, ⟨m0, w0⟩, turn⟩ := h2
  subst e
  have stat : ∀ {base' : List (Addr × Obj)} {H' : Hp}, (∀ p ∈ base', So = some p.1) → (∀ b ∈ fp, H' b = none) → ∀ b ∈ fp, FpOk X (base' ++ ip) H' b := fun {base' H'} hb' hn b hb => by
    obtain ⟨q1, q2, q3, q4, q5, q6⟩ := f2 b hb
    refine ⟨hn b hb, q2, q3, q4, q5, fun p hp => ?_⟩
    rcases List.mem_append.mp hp with hp | hp
    · exact q6 p (List.mem_append_left _ hp)
    · rcases List.mem_append.mp hp with hp | hp
      · obtain ⟨o, ho⟩ := hbo p.1 (hb' p hp)
        exact q6 (p.1, o) (List.mem_append_right _ (List.mem_append_left _ ho))
      · exact q6 p (List.mem_append_right _ (List.mem_append_right _ hp))
  have notS : ∀ S, So = some S → ∀ b ∈ fp, b ≠ S := fun S hS b hb z => by
    obtain ⟨o, ho⟩ := hbo S hS
    obtain ⟨_, _, _, _, _, q6⟩ := f2 b hb
    exact q6 (S, o) (List.mem_append_right _ (List.mem_append_left _ ho)) z.symm
  have gl := fun (kk : Result → Sem PySem.Fin) => gcz_loop (k := kk) (c' := .forLoop tg (.ref it) body [] X.env) (l := lv []) (kp := []) (p := p) gc rfl rfl
  have loop : ∀ (m i n : Nat) (ys : List V) (s₀ s : Shared) (σ : L2.St) (H : Hp), n + ys.length = sizeLine → W i m ys σ H → GIz X So ip ys σ H s → tn i s.heap → (∀ b ∈ fp, H b = none) →
      Seg (model X.prog X.w) A R (YZ X So D.yd) n s₀ (.forLoop tg (.ref it) body [] X.env) ((model X.prog X.w).den (.forLoop tg (.ref it) body [] X.env))
        (.ret (fun r => ((match r with | .ok f => (.pure f : Sem Flow) | .error e => .raise e).onRaise (cameBack X.env)).wrap K J gd lv) none (gd false) (lv []) c p [] :: fs) s := by
    intro m
    induction m using Nat.strongRecOn with
    | ind m ih =>
      intro i n ys s₀ s3 σ3 H3 hn w3 hI3 st3 fr3
      have ee : ∀ (n : Nat) (s₀ : Shared) (x : Value) (s' : Shared), X.xe x s' → Seg (model X.prog X.w) A R (YZ X So D.yd) n s₀ (.forLoop tg (.ref it) body [] X.env)
          ((do noteFrame x X.env; theTreesLotGoes x : Sem Unit).wrap (fun _ => .raise x) .raise id id)
          (.ret (fun r => ((match r with | .ok f => (.pure f : Sem Flow) | .error e => .raise e).onRaise (cameBack X.env)).wrap K J gd lv) none (gd false) (lv []) c p [] :: fs) s' := fun n s₀ x s' hx => by
        refine seg_wrap ?_
        rw [(gl _).over]
        refine wpAny_bind (wpAny_mono (hp x s' hx) (fun _ s'' hcb => wpAny_theTreesLotGoes ?_) fun y s'' hcb => ?_)
        · exact seg_leaf (.error x) (seg_cameBackz gc k hcb)
        · exact seg_leaf (.error y) (seg_cameBackz gc k hcb)
      obtain ⟨base3, hbs3, hbo3, I3, back3⟩ := hI3.open
      refine seg_forLoop ?_
      rw [(gl _).over]
      rcases turn i m ys σ3 H3 w3 with ⟨stop, qn⟩ | ⟨go, N, hN, step⟩
      · refine wpAny_mono (T.done X rfl rfl rfl hc i _ s3 σ3 H3 X.xe I3 (stat hbs3 fr3) st3 stop) (fun r s4 ⟨hr, I4⟩ => ?_) fun x s' hx => ee n s₀ x s' hx
        subst hr
        refine seg_again rfl (seg_block (seg_execs_nil ?_))
        exact seg_leaf (.ok .next) (k.ok n ys s₀ s4 .next hn ⟨σ3, H3, back3 _ _ _ _ I4, qn⟩)
      · refine wpAny_mono (T.item X rfl rfl rfl hc i _ s3 σ3 H3 X.xe I3 (stat hbs3 fr3) st3 go) (fun r s4 ⟨u, hr, h4⟩ => ?_) fun x s' hx => ee n s₀ x s' hx
        subst hr
        refine wpAny_mono h4 (fun _ s5 ⟨x, H5, I5, r5, y5, st5, fr5⟩ => ?_) fun x s' hx => ee n s₀ x s' hx
        have I5' := I5.pinned (stat hbs3 fr5) (T.obj _ _ st5)
        refine wpAny_mono (hg.run _ s5 σ3 H5 x u _ I5' r5 (step x H5 y5)) (fun _ s6 ⟨σ6, H6, I6, q6⟩ => ?_) fun x s' hx => ee n s₀ x s' hx
        rw [List.append_assoc] at I6
        have G6 := back3 _ _ _ _ I6
        have gc6 := (gl (fun r => ((match r with | .ok f => (.pure f : Sem Flow) | .error e => .raise e).onRaise (cameBack X.env)).wrap K J gd lv)).more (ip' := ip ++ pinsAt fp s5.heap) (fun S hS p hp => by
          rcases List.mem_append.mp hp with hp | hp
          · exact gc.ip S hS p hp
          · exact notS S hS p.1 (of_pinsAt hp).1)
        refine hb.run A So _ R n ys s₀ _ _ _ _ id id s6 σ6 H6 { D with nx := N, ct := N, bk := D.nx } gc6 hn ⟨fun n' ys' s₀' s7 f hn' hs7 => ?_, fun n' s₀' x s7 hx => ee n' s₀' x s7 hx⟩ G6 q6
        have un : ∀ {ys7 : List V} {σ7 : L2.St} {H7 : Hp}, GIz X So (ip ++ pinsAt fp s5.heap) ys7 σ7 H7 s7 → GIz X So ip ys7 σ7 H7 s7 ∧ tn (i + 1) s7.heap ∧ ∀ b ∈ fp, H7 b = none := fun {ys7 σ7 H7} G7 => by
          obtain ⟨base7, _, _, I7, back7⟩ := G7.open
          rw [← List.append_assoc] at I7
          refine ⟨back7 _ _ _ _ I7.unpinned, T.keep _ _ _ st5 fun b hb o e => (I7.pin (b, o) (List.mem_append_right _ (List.mem_append_right _ (mem_pinsAt hb e)))).1, fun b hb => ?_⟩
          obtain ⟨o, e, d⟩ := T.obj _ _ st5 b hb
          exact (I7.pin (b, o) (List.mem_append_right _ (List.mem_append_right _ (mem_pinsAt hb e)))).2.1
        cases f with
        | next =>
          obtain ⟨σ7, H7, G7, n7⟩ := hs7
          obtain ⟨m', hm, w7⟩ := hN ys' σ7 H7 n7
          obtain ⟨u1, u2, u3⟩ := un G7
          exact seg_again rfl (ih m' hm (i + 1) n' ys' s₀' s7 σ7 H7 hn' w7 u1 u2 u3)
        | cont =>
          obtain ⟨σ7, H7, G7, n7⟩ := hs7
          obtain ⟨m', hm, w7⟩ := hN ys' σ7 H7 n7
          obtain ⟨u1, u2, u3⟩ := un G7
          exact seg_again rfl (ih m' hm (i + 1) n' ys' s₀' s7 σ7 H7 hn' w7 u1 u2 u3)
        | brk =>
          obtain ⟨σ7, H7, G7, q7⟩ := hs7
          exact seg_leaf (.ok .next) (k.ok n' ys' s₀' s7 .next hn' ⟨σ7, H7, (un G7).1, q7⟩)
        | ret v =>
          obtain ⟨x7, σ7, H7, G7, r7, q7⟩ := hs7
          exact seg_leaf (.ok (.ret v)) (k.ok n' ys' s₀' s7 (.ret v) hn' ⟨x7, σ7, H7, (un G7).1, r7, q7⟩)
  exact loop m0 0 n ys s₀ s2 σ H2 hn w0 (back _ _ _ _ I2) st2 fun b hb => (f2 b hb).1
/-! ### as the library's generator bodies are -/
theorem gss_of {sts : List Stmt} {t : TZn} (h : GSsz X sts t) : GSs X sts (fun D ys σ H => t { nx := D.nx, rt := D.rt, bk := D.bk, ct := D.ct } ys σ H) := by
  refine ⟨fun A S ip R n ys s₀ c fs K J gd lv s σ H D g hn k hI ht => ?_⟩
  refine h.run A (some S) ip R n ys s₀ c fs K J gd lv s σ H { nx := D.nx, rt := D.rt, bk := D.bk, ct := D.ct } ⟨?_, ?_, ?_, g.over, g.split, g.guard, g.gd⟩ hn ⟨fun n' ys' s₀' s' f hn' hs => ?_, k.exc⟩ hI ht
  · intro S' hS
    cases hS
    exact g.pn
  · intro S' hS
    cases hS
    exact g.ip
  · intro S' hS
    cases hS
    exact g.apart
  · refine k.ok n' ys' s₀' s' f hn' ?_
    cases f with
    | next => exact hs
    | brk => exact hs
    | cont => exact hs
    | ret u => exact hs
end
/-! ### the first item alone -/
def RF (P : Program) (w : World) (outer : List Env) (H : Hp) (s : Shared) (Qe : Hp → Prop) : GenEnd := fun _ _ r s1 =>
  ((r = .ok (.ret .none) ∨ r = .ok .next) ∧ ∃ H', s1.os = s.os ∧ AllBare s1.gens ∧ Un (frs outer) [] H H' s.heap s1.heap ∧ HOk P w H' s1.heap ∧ Qe H') ∨ ∃ e, r = .error e ∧ (fun (_ : Value) (_ : Shared) => False) e s1
def YF (P : Program) (w : World) (outer : List Env) (H : Hp) (s : Shared) (Yd : V → Hp → Prop) : Protocol := fun _ _ v s1 _ =>
  ∃ x H', s1.os = s.os ∧ AllBare s1.gens ∧ Un (frs outer) [] H H' s.heap s1.heap ∧ HOk P w H' s1.heap ∧ RelV x v ∧ Yd x H'
def GMadeF (P : Program) (w : World) (k : Nat) (outer : List Env) (H : Hp) (s : Shared) (Yd : V → Hp → Prop) (Qe : Hp → Prop) (u : Value) (s' : Shared) : Prop :=
  ∃ (a : Addr) (g : Nat) (c : Code), u = .ref a ∧ s'.heap.IsGen a g ∧ s'.gens[g]? = some (.fresh c) ∧ s'.os = s.os ∧ AllBare s'.gens ∧ s'.heap.NoLimit ∧ (∀ b o, s.heap.get? b = some o → s'.heap.get? b = some o) ∧
    ∀ (A : Around) (s2 : Shared), Room k A → A.frames = some outer → (∀ b o, s'.heap.get? b = some o → s2.heap.get? b = some o) → s2.os = s.os → AllBare s2.gens →
      Seg (model P w) A (RF P w outer H s Qe) (YF P w outer H s Yd) sizeLine s2 c ((model P w).den c) [] s2
/-- the promise: what is told of the first item, what of the end if there is none -/
abbrev SpF := List V → Hp → (V → Hp → Prop) → (Hp → Prop) → Prop
structure GFnF (P : Program) (w : World) (K : PySem.W.Frag) (mg : Str → Option Value) (base : Heap) (k : Nat) (f : Addr) (fd : FuncData) (ps : List Str) (sp : SpF) : Prop where
  len : ∀ vs H Yd Qe, sp vs H Yd Qe → vs.length = ps.length
  run : ∀ (A : Around) (outer : List Env) (s : Shared) (H : Hp) (args : Args) (us : List Value) (vs : List V) (Yd : V → Hp → Prop) (Qe : Hp → Prop), Room k A → Env0 P w K mg base A outer s H → BindsTo s fd args (ps.zip us) → Vals vs us → sp vs H Yd Qe →
    codeAny (model P w) A (.call (.ref f) args) (fun r s' => match r with | .ok (.ret u) => GMadeF P w k outer H s Yd Qe u s' | _ => False) s
theorem gfnF_of {P : Program} {w : World} {K : PySem.W.Frag} {mg : Str → Option Value} {base : Heap} {k : Nat} {f : Addr} {name qual : Str} {params : Arguments} {body : List Stmt} {scope : Scope} {dV kV doc pm cdv ct oc : Value} {an od : Option Addr}
    {osl : Array (Option Value)} {N ps : List Str} {sp : SpF} (lk : K.lookup f = some ⟨oc, od, .func (PySem.W.fnOf name qual params body scope dV kV doc pm an cdv ct), osl⟩) (hcd : PySem.W.codeIn K cdv qual = true) (S : GScope N ps scope)
    (len : ∀ vs H Yd Qe, sp vs H Yd Qe → vs.length = ps.length)
    (hbody : ∀ (A : Around) (outer : List Env) (s : Shared) (H : Hp) (vs : List V) (Yd : V → Hp → Prop) (Qe : Hp → Prop), Room k (A.deeper (envOfC qual scope s.heap.objs.size f cdv)) → sp vs H Yd Qe →
      ∃ t, GSsz (gcxOf P w K mg base N qual scope f cdv A outer s H (fun _ _ _ => False) []) body t ∧ t { nx := fun ys _ H' => ys = [] → Qe H', rt := fun ys v H' => v = .non ∧ (ys = [] → Qe H'), yd := Yd } [] (start N vs) H) :
    GFnF P w K mg base (k + 1) f (PySem.W.fnOf name qual params body scope dV kV doc pm an cdv ct) ps sp := by
  refine ⟨len, fun A outer s H args us vs Yd Qe hr e0 hb r hsp => ?_⟩
  have hl := len _ _ _ _ hsp
  have KX : K.In s.heap := e0.mod.kin.keeps fun b o e => (e0.bs b o e).1
  have lim : s.heap.NoLimit := e0.mod.nolimit.keeps fun b o e => (e0.bs b o e).1
  have hkind : ∀ y ∈ ps.zip us, scope.names.lookup y.1 = some .local ∨ (scope.names.lookup y.1 = some .cell ∧ ((cellsFrom (s.heap.objs.size + 1) scope.names []).lookup y.1).isSome = true) := fun ⟨n, v⟩ hy => by
    rcases S.par n (List.of_mem_zip hy).1 with q | q
    · exact .inl q
    · exact .inr ⟨q, PySem.W.cellsFrom_some _ _ _ (.inl q)⟩
  refine codeAny_call_generator hr.depth (KX _ _ lk) rfl S.co S.gen rfl (PySem.W.codeRec_of KX hcd) (hb _ _ _ _ ?_)
  refine wpAny_newFunctionEnv_cells S.kind hkind fun env he s1 x => ?_
  subst he
  have lim1 : s1.heap.NoLimit := lim.keeps x.toInCall.keep
  refine ⟨lim1, ?_⟩
  obtain ⟨h1, tk, es1, hk1⟩ := x.done
  have os1 : s1.os = s.os := by rw [es1]
  have gen1 : s1.gens = s.gens := by rw [es1]
  have kp1 : ∀ b o, s.heap.get? b = some o → s1.heap.get? b = some o := x.toInCall.keep
  have main : ∀ (go : Obj) (nm qn : Value) (tk2 : Nat), go.cls = .type "generator" → go.data = .fields #[.int s1.gens.size 0, nm, qn] → go.slots = #[] → (∀ h : Heap, (h.push go).get? h.objs.size = some go) →
      GMadeF P w (k + 1) outer H s Yd Qe (.ref s1.heap.objs.size) { s1 with gens := s1.gens.push (.fresh (.func body (envOfC qual scope s.heap.objs.size f cdv))), toks := tk2, heap := s1.heap.push go } := by
    intro go nm qn tk2 hgc hgd0 hgs hgp
    refine ⟨s1.heap.objs.size, s1.gens.size, _, rfl, ⟨go, nm, qn, hgp _, hgc, hgd0, hgs⟩, Array.getElem?_push_size .., os1, ?_, lim1.keeps fun b o e => Heap.get?_push_of_some _ e, fun b o e => Heap.get?_push_of_some _ (kp1 b o e), ?_⟩
    · exact AllBare.push (by rw [gen1]; exact e0.bare) rfl
    intro Aw s2 hrw hfr hk2 hos hba
    have e0w : Env0 P w K mg base Aw outer s H := ⟨hfr, e0.mod, e0.bs, e0.bsz, e0.funs, e0.frf, e0.hok, e0.bare⟩
    obtain ⟨t, ht, hq⟩ := hbody Aw outer s H vs Yd Qe (hrw.deeper _) hsp
    have I1 : Inv (gcxOf P w K mg base N qual scope f cdv Aw outer s H (fun _ _ _ => False) []) [] (start N vs) H s1 := inv_startG S hrw.hd e0w hl r x
    have kp2 : ∀ b o, s1.heap.get? b = some o → s2.heap.get? b = some o := fun b o e => hk2 b o (Heap.get?_push_of_some _ e)
    have I2 : Inv (gcxOf P w K mg base N qual scope f cdv Aw outer s H (fun _ _ _ => False) []) [] (start N vs) H s2 :=
      I1.call' (ch := []) (hos.trans os1.symm) (Un.kept kp2) (I1.hok.kept kp2) hba fun b z => by simp at z
    refine seg_func ?_
    refine seg_imp (R := RF P w outer H s Qe) (Y := YZ (gcxOf P w K mg base N qual scope f cdv Aw outer s H (fun _ _ _ => False) []) none Yd) (fun n s₀ r s1' hR => hR) (fun n s₀ v s1' kap kap' hkk hY => ?_) sizeLine ?_
    · obtain ⟨xx, ip, σ', H', rv, J, hy⟩ := hY
      exact ⟨xx, H', J.os, J.bare, J.base, J.hok, rv, hy⟩
    · refine ht.run Aw none [] _ sizeLine [] s2 _ [] _ _ id id s2 (start N vs) H { nx := fun ys _ H' => ys = [] → Qe H', rt := fun ys v H' => v = .non ∧ (ys = [] → Qe H'), yd := Yd }
        ⟨?_, ?_, ?_, over_func, rfl, rfl, rfl⟩ (Nat.add_zero _) ⟨fun n ys s₀ s' fl hn hs => ?_, fun n s₀ e s' hx => ?_⟩ ⟨rfl, I2⟩ hq
      · intro S' hS
        cases hS
      · intro S' hS
        cases hS
      · intro S' hS
        cases hS
      · cases fl with
        | next =>
          obtain ⟨σ', H', ⟨ey, J⟩, hQ⟩ := hs
          exact seg_end (.ok (.ret .none)) (.inl ⟨.inl rfl, H', J.os, J.bare, J.base, J.hok, hQ ey⟩)
        | brk => obtain ⟨_, _, _, q⟩ := hs; exact False.elim q
        | cont => obtain ⟨_, _, _, q⟩ := hs; exact False.elim q
        | ret u =>
          obtain ⟨v, σ', H', ⟨ey, J⟩, rv, ev, hQ⟩ := hs
          subst ev
          have eu : u = Value.none := rv
          subst eu
          exact seg_end (.ok (.ret .none)) (.inl ⟨.inl rfl, H', J.os, J.bare, J.base, J.hok, hQ ey⟩)
      · refine seg_wrap ?_
        rw [over_func]
        refine wpAny_mono (show wpAny (model P w) (Aw.deeper (envOfC qual scope s.heap.objs.size f cdv)) (leaving (envOfC qual scope s.heap.objs.size f cdv) e) (fun _ s'' => CX P w outer H s (fun _ _ _ => False) e s'' ∧ ∀ p ∈ ([] : List (Addr × Obj)), s''.heap.get? p.1 = some p.2) (fun _ _ => False) s' from hx) (fun _ s'' q => ?_) fun _ s'' q => q.elim
        obtain ⟨_, _, _, _, _, _, _, _, _, _, _, _, z⟩ := q.1
        exact z.elim
  exact main _ _ _ _ rfl rfl rfl fun h => Heap.get?_push_size _ rfl
/-- an expression whose value is such a generator -/
abbrev TGenF := L2.St → Hp → (V → Hp → Prop) → (Hp → Prop) → Prop
structure PGenF (X : Cx) (k : Nat) (e : Expr) (tg : TGenF) : Prop where
  run : ∀ (pins : List (Addr × Obj)) (s : Shared) (σ : L2.St) (H : Hp) (Yd : V → Hp → Prop) (Qe : Hp → Prop), Inv X pins σ H s → tg σ H Yd Qe → wpAny (model X.prog X.w) X.A (eval e X.env)
    (fun u s' => ∃ H1 sc, Inv X pins σ H1 sc ∧ GMadeF X.prog X.w k X.stack H1 sc Yd Qe u s') X.xe s
section
variable {X : Cx} {k : Nat} {f : Addr} {fd : FuncData} {ps : List Str} {sp : SpF} {x : Str} {p pos' pos : Pos}
def tCallF (sp : SpF) (t : TA) : TGenF := fun σ H Yd Qe => t σ H fun vs H1 => sp vs H1 Yd Qe
theorem pgenF_call {e : Expr} {es : List Expr} {t : TA} (F : GFnF X.prog X.w X.K X.mg X.base k f fd ps sp) (hr : Room k X.A) (hg : Gl X x) (hm : X.mg x = some (.ref f)) (hk : PySem.W.keepIn X.K (.ref f) = true) (hb : Binds X.K fd ps [])
    (ha : PA X (e :: es) t) (hdb : (x == ("__debug__" : Str)) = false := by decide) (he : starEach (e :: es) X.env = (false, eval e X.env) :: starEach es X.env := by rfl) (hpl : (backTo pos' (starEach es X.env)).any (·.1) = false := by rfl) :
    PGenF X k (.Call (.Name x p) (e :: es) [] pos') (tCallF sp t) := by
  refine ⟨fun pins s σ H Yd Qe I h => ?_⟩
  refine wpAny_Call_Name_kw (ld_glob I hg hm ?_ hdb)
  refine PySem.W.callWith_K (h₀ := X.base) I.ok.mod.kin hk (thn (ha.run pos' pins s σ H _ I h) fun us s1 ⟨vs, H1, I1, r, q⟩ => ⟨I1.kIn, ?_⟩) he hpl
  have hl : us.length = ps.length := by rw [← r.length]; exact F.len _ _ _ _ q
  have b := hb s1 us I1.kIn (by rw [List.append_nil]; exact hl)
  rw [List.append_nil] at b
  refine wpAny_call (codeAny_mono (F.run X.A X.stack s1 H1 ⟨us, []⟩ us vs Yd Qe hr I1.env0 b r q) fun r s' hq => ?_)
  cases r with
  | error e => exact False.elim hq
  | ok fl =>
    cases fl with
    | ret u => exact ⟨H1, s1, I1, hq⟩
    | next => exact False.elim hq
    | brk => exact False.elim hq
    | cont => exact False.elim hq
def tFor1 (tg : TGenF) (g : TG) (tb : TS) : TS := fun D σ H => tg σ H (fun x H1 => g x σ H1 fun σ2 H2 => tb { D with nx := fun _ _ => False, ct := fun _ _ => False, bk := D.nx } σ2 H2) fun H1 => D.nx σ H1
theorem ps_for1 {iter target : Expr} {body : List Stmt} {tg : TGenF} {g : TG} {tb : TS} (hp : PassesOwn (model X.prog X.w) X.A X.env X.xe) (hc : X.calm = true) (h : PGenF X k iter tg) (hr : Room (k + 3) X.A) (hg : PG X target g) (hb : PSs X body tb)
    (hs : ∀ x, foldedSetIterable iter X.env x = pure x := by intro _; rfl) (ht : ∀ it v, letOwnedTupleGo target it v = pure () := by intro _ _; rfl) : PS X (.For target iter body [] pos) (tFor1 tg g tb) := by
  refine ⟨fun pins s σ H D I hw => ?_⟩
  refine wpAny_For (thn (h.run pins s σ H _ _ I hw) fun u s1 ⟨H1, sc, I1, hG⟩ => ?_) hs
  obtain ⟨a, g', c, rfl, hgen, hgs, hos, hba, hlim, hkp, wake⟩ := hG
  refine wpAny_pyIter_gen hgen ?_
  refine codeAny_forLoop_any (fun n s' => n = 0 ∧ s' = s1) ?_ 0 ⟨rfl, rfl⟩
  rintro n s3 ⟨rfl, rfl⟩
  have hr1 : Room k X.A.in1 := ⟨hr.hd, by have := hr.dp; show X.A.depth + 3 * k + 5 < _; omega, by have := hr.un; show X.A.units + 1 + 16 * k + 200 < _; omega⟩
  have fin : ∀ (s1 : Shared) (gg : Array GenState) (h' : Heap) (H' : Hp), s1.os = sc.os → AllBare gg → Un (frs X.stack) [] H1 H' sc.heap h' → HOk X.prog X.w H' h' → Inv X pins σ H' { s1 with gens := gg, heap := h' } := fun s1 gg h' H' e1 e2 e3 e4 =>
    I1.call' (ch := []) e1 e3 e4 e2 fun b z => by simp at z
  refine wpAny_passesOwn hp ?_
  refine next_genG (Er := fun _ _ => False) (F := fun _ _ s1 => ∃ H', s1.os = sc.os ∧ AllBare s1.gens ∧ Un (frs X.stack) [] H1 H' sc.heap s1.heap ∧ HOk X.prog X.w H' s1.heap ∧ _) (Y := YF X.prog X.w X.stack H1 sc _) (n := sizeLine) hr.hd hlim (by have := hr.dp; show X.A.depth < _; omega) hgen hgs
    ⟨rfl, wake X.A.in1 (s3.setGen g' .running) hr1 I1.ok.frames (fun _ _ e => e) hos (allBare_setGen hba rfl)⟩ (fun v s4 gs' hbare hv => ?_) (fun s4 hp4 h' hk => ?_) fun e s4 he => he.elim
  · obtain ⟨xx, H', q1, q2, q3, q4, rv, hy⟩ := hv
    have I4 : Inv X pins σ H' (s4.setGen g' gs') := fin s4 _ s4.heap H' q1 (allBare_setGen q2 hbare) q3 q4
    refine wpAny_of_eq (ht _ v) ?_
    refine wpAny_passesOwn hp (thn (hg.run _ _ σ H' xx v _ I4 rv hy) fun _ s6 ⟨σ6, H6, I6, q6⟩ => ?_)
    refine wpAny_passesOwn hp (thn (hb.run _ s6 σ6 H6 _ I6 q6) fun f s7 q7 => ?_)
    cases f with
    | next => obtain ⟨_, _, _, q⟩ := q7; exact False.elim q
    | cont => obtain ⟨_, _, _, q⟩ := q7; exact False.elim q
    | brk => obtain ⟨σ7, H7, I7, q7⟩ := q7; exact ⟨σ7, H7, I7, q7⟩
    | ret v => obtain ⟨x7, σ7, H7, I7, r7, q7⟩ := q7; exact ⟨x7, σ7, H7, I7, r7, q7⟩
  · obtain ⟨H', q1, q2, q3, q4, hq⟩ := hp4
    exact wpAny_execs_nil ⟨σ, H', fin s4 _ h' H' q1 (allBare_setGen q2 rfl) (q3.trans (Un.kept hk)) (q4.kept hk), hq⟩
end
/-! ### by a def of the text -/
section
variable {P : Program} {w : World} {K : PySem.W.Frag} {mg : Str → Option Value} {base : Heap}
theorem okF {x qual : Str} {st : Stmt} {f : Addr} {fd : FuncData} {N ps : List Str} {k : Nat} {sp : SpF} (F : Fun K x qual st f fd) (S : GScope N ps (defScope st)) (len : ∀ vs H Yd Qe, sp vs H Yd Qe → vs.length = ps.length)
    (hbody : ∀ (cdv : Value) (A : Around) (outer : List Env) (s : Shared) (H : Hp) (vs : List V) (Yd : V → Hp → Prop) (Qe : Hp → Prop), Room k (A.deeper (envOfC qual (defScope st) s.heap.objs.size f cdv)) → sp vs H Yd Qe →
      ∃ t, GSsz (gcxOf P w K mg base N qual (defScope st) f cdv A outer s H (fun _ _ _ => False) []) (defBody st) t ∧ t { nx := fun ys _ H' => ys = [] → Qe H', rt := fun ys v H' => v = .non ∧ (ys = [] → Qe H'), yd := Yd } [] (start N vs) H) :
    GFnF P w K mg base (k + 1) f fd ps sp := by
  obtain ⟨oc, od, kV, doc, pm, an, cdv, ct, osl, rfl, lk, hcd⟩ := F.ex
  exact gfnF_of lk hcd S len fun A outer s H vs Yd Qe hr hsp => hbody cdv A outer s H vs Yd Qe hr hsp
theorem okG {x qual : Str} {st : Stmt} {f : Addr} {fd : FuncData} {N ps : List Str} {k : Nat} {sp : SpG} (F : Fun K x qual st f fd) (S : GScope N ps (defScope st)) (len : ∀ vs H Q E, sp vs H Q E → vs.length = ps.length)
    (hbody : ∀ (cdv : Value) (A : Around) (outer : List Env) (s : Shared) (H : Hp) (vs : List V) (Q : List V → Hp → Prop) (E : XK) (pn : List (Addr × Obj)), Room k (A.deeper (envOfC qual (defScope st) s.heap.objs.size f cdv)) → sp vs H Q E →
      ∃ t, GSsz (gcxOf P w K mg base N qual (defScope st) f cdv A outer s H E pn) (defBody st) t ∧ t { nx := fun ys _ H' => Q ys H', rt := fun ys v H' => v = .non ∧ Q ys H' } [] (start N vs) H) :
    GFn P w K mg base (k + 1) f fd ps sp := by
  obtain ⟨oc, od, kV, doc, pm, an, cdv, ct, osl, rfl, lk, hcd⟩ := F.ex
  refine gfn_of lk hcd S len fun A outer s H vs Q E pn hr hsp => ?_
  obtain ⟨t, ht, hq⟩ := hbody cdv A outer s H vs Q E pn hr hsp
  exact ⟨_, gss_of ht, hq⟩
end
/-! ### walks in generators -/
theorem zfor_list {K : PySem.W.Frag} {a : Addr} {xs : List V} {g : TG} {tb : TZn} {D : ZEnds} {ys : List V} {σ : L2.St} {H : Hp} (Pv : Nat → List V → L2.St → Hp → Prop) (h0 : Pv 0 ys σ H) (hl : ∀ i ys σ H, i ≤ xs.length → Pv i ys σ H → SqL K H a xs)
    (hs : ∀ i x ys σ H, xs[i]? = some x → Pv i ys σ H → g x σ H fun σ2 H2 => tb { D with nx := Pv (i + 1), ct := Pv (i + 1), bk := D.nx } ys σ2 H2) (hd : ∀ ys σ H, Pv xs.length ys σ H → D.nx ys σ H) :
    ∃ W : Nat → Nat → List V → L2.St → Hp → Prop, (∃ m, W 0 m ys σ H) ∧ ∀ i m ys σ H, W i m ys σ H →
      ((Itl K a).stop i H ∧ D.nx ys σ H) ∨ ((Itl K a).go i H ∧ ∃ N : List V → L2.St → Hp → Prop, (∀ ys' σ' H', N ys' σ' H' → ∃ m', m' < m ∧ W (i + 1) m' ys' σ' H') ∧ ∀ x H', (Itl K a).yld i H x H' → g x σ H' fun σ2 H2 => tb { D with nx := N, ct := N, bk := D.nx } ys σ2 H2) := by
  refine ⟨fun i m ys σ H => m = xs.length - i ∧ i ≤ xs.length ∧ Pv i ys σ H, ⟨xs.length, by simp, Nat.zero_le _, h0⟩, ?_⟩
  rintro i m ys σ H ⟨rfl, hi, p⟩
  have q := hl i ys σ H hi p
  by_cases hlt : i < xs.length
  · refine .inr ⟨⟨xs, xs[i], q, by simp [hlt]⟩, Pv (i + 1), fun ys' σ' H' p' => ⟨xs.length - (i + 1), by omega, rfl, hlt, p'⟩, fun x H' y => ?_⟩
    obtain ⟨e, y⟩ := y
    subst e
    exact hs i x ys σ _ (y xs q) p
  · have e : i = xs.length := by omega
    subst e
    exact .inl ⟨⟨xs, q, Nat.le_refl _⟩, hd ys σ H p⟩
theorem zfor_vals {d : Addr} {o : Obj} {kvs : List (Key × V)} {g : TG} {tb : TZn} {D : ZEnds} {ys : List V} {σ : L2.St} {H : Hp} (Pv : Nat → List V → L2.St → Hp → Prop) (h0 : Pv 0 ys σ H) (hl : ∀ i ys σ H, i ≤ kvs.length → Pv i ys σ H → H d = some (.frz o (.dK kvs)))
    (hs : ∀ i k x ys σ H, kvs[i]? = some (k, x) → Pv i ys σ H → g x σ H fun σ2 H2 => tb { D with nx := Pv (i + 1), ct := Pv (i + 1), bk := D.nx } ys σ2 H2) (hd : ∀ ys σ H, Pv kvs.length ys σ H → D.nx ys σ H) :
    ∃ W : Nat → Nat → List V → L2.St → Hp → Prop, (∃ m, W 0 m ys σ H) ∧ ∀ i m ys σ H, W i m ys σ H →
      ((Itd d o kvs).stop i H ∧ D.nx ys σ H) ∨ ((Itd d o kvs).go i H ∧ ∃ N : List V → L2.St → Hp → Prop, (∀ ys' σ' H', N ys' σ' H' → ∃ m', m' < m ∧ W (i + 1) m' ys' σ' H') ∧ ∀ x H', (Itd d o kvs).yld i H x H' → g x σ H' fun σ2 H2 => tb { D with nx := N, ct := N, bk := D.nx } ys σ2 H2) := by
  refine ⟨fun i m ys σ H => m = kvs.length - i ∧ i ≤ kvs.length ∧ Pv i ys σ H, ⟨kvs.length, by simp, Nat.zero_le _, h0⟩, ?_⟩
  rintro i m ys σ H ⟨rfl, hi, p⟩
  have q := hl i ys σ H hi p
  by_cases hlt : i < kvs.length
  · refine .inr ⟨⟨q, hlt⟩, Pv (i + 1), fun ys' σ' H' p' => ⟨kvs.length - (i + 1), by omega, rfl, hlt, p'⟩, fun x H' y => ?_⟩
    obtain ⟨e, k, y⟩ := y
    subst e
    exact hs i k x ys σ _ y p
  · have e : i = kvs.length := by omega
    subst e
    exact .inl ⟨⟨q, Nat.le_refl _⟩, hd ys σ H p⟩
/-! ### a op b op c op d, as a test -/
def tChain3 (r r' r'' : R2) (ta tb tc td : TE) : TE := fun σ H Q => ta σ H fun x H1 => tb σ H1 fun y H2 => r x y H2 fun z H3 => ∃ k, z = .bl k ∧
  (if k = true then tc σ H3 fun u H4 => r' y u H4 fun z2 H5 => ∃ k2, z2 = .bl k2 ∧ (if k2 = true then td σ H5 fun v H6 => r'' u v H6 Q else Q (.bl false) H5) else Q (.bl false) H3)
section
variable {X : Cx} {a b c d : Expr} {ta tb tc td : TE} {pos : Pos}
theorem pt_chain3 {op op' op'' : CmpOp} {r r' r'' : R2} (ho : OpR X (compareOp op) r) (ho' : OpR X (compareOp op') r') (ho'' : OpR X (compareOp op'') r'') (ha : PE X a ta) (hb : PE X b tb) (hc : PE X c tc) (hd : PE X d td)
    (hm : lastMarks [op, op', op''] [b, c, d] = false := by with_unfolding_all rfl) : PT X (.Compare a [op, op', op''] [b, c, d] pos) (tTest (tChain3 r r' r'' ta tb tc td)) := by
  refine ⟨fun pins s σ H Q I h => ?_⟩
  refine isTrue_chain (thn (ha.run pins s σ H _ I h) fun v s1 ⟨x, H1, I1, r1, q1⟩ => test_link (thn (hb.run pins s1 σ H1 _ I1 q1) fun u s2 ⟨y, H2, I2, r2, q2⟩ =>
    thn (ho pins s2 σ H2 x y v u _ I2 r1 r2 q2) fun d s3 ⟨z, H3, I3, r3, k, e, q3⟩ => ?_)) hm
  subst e
  cases r3
  refine wpAny_truthy_bool ?_
  cases k with
  | false =>
    obtain ⟨k', e', q'⟩ := q3
    cases e'
    exact ite_ff ⟨H3, I3, q'⟩
  | true =>
    refine ite_tt (test_link (thn (hc.run pins s3 σ H3 _ I3 q3) fun w' s4 ⟨z', H4, I4, r4, q4⟩ => thn (ho' pins s4 σ H4 y z' u w' _ I4 r2 r4 q4) fun d' s5 ⟨z2, H5, I5, r5, k2, e2, q5⟩ => ?_))
    subst e2
    cases r5
    refine wpAny_truthy_bool ?_
    cases k2 with
    | false =>
      obtain ⟨k', e', q'⟩ := q5
      cases e'
      exact ite_ff ⟨H5, I5, q'⟩
    | true =>
      refine ite_tt (test_last (thn (hd.run pins s5 σ H5 _ I5 q5) fun w6 s6 ⟨z6, H6, I6, r6, q6⟩ => thn (ho'' pins s6 σ H6 z' z6 w' w6 _ I6 r4 r6 q6) fun d7 s7 ⟨z7, H7, I7, r7, k7, e7, q7⟩ => ?_))
      subst e7
      cases r7
      exact wpAny_truthy_bool ⟨H7, I7, q7⟩
end
end GZ

/-! ## pairs of tuples of ints; sorted(xs) of them -/
namespace My
open PySem PySem.Spec PyProof.Rows L2
/-- the pairs that are told, each a new tuple of two -/
inductive PT2 (H : Hp) : List Addr → List (List Int × List Int) → Prop
  | nil : PT2 H [] []
  | cons {q a b : Addr} {x y : List Int} {qs : List Addr} {ps : List (List Int × List Int)} : H q = some (.tup [.ref a, .ref b]) → H a = some (.tup (fI x)) → H b = some (.tup (fI y)) → PT2 H qs ps → PT2 H (q :: qs) ((x, y) :: ps)
theorem PT2.keep {H H' : Hp} {qs : List Addr} {ps : List (List Int × List Int)} (h : PT2 H qs ps) (e : ∀ b ys, H b = some (.tup ys) → H' b = some (.tup ys)) : PT2 H' qs ps := by
  induction h with
  | nil => exact .nil
  | cons a b c _ ih => exact .cons (e _ _ a) (e _ _ b) (e _ _ c) ih
theorem PT2.same {H H' : Hp} {qs : List Addr} {ps : List (List Int × List Int)} (h : PT2 H qs ps) (e : Same H H') : PT2 H' qs ps := h.keep fun _ _ z => e _ _ z
theorem PT2.snoc {H : Hp} {q a b : Addr} {x y : List Int} {qs : List Addr} {ps : List (List Int × List Int)} (h : PT2 H qs ps) (h1 : H q = some (.tup [.ref a, .ref b])) (h2 : H a = some (.tup (fI x))) (h3 : H b = some (.tup (fI y))) : PT2 H (qs ++ [q]) (ps ++ [(x, y)]) := by
  induction h with
  | nil => exact .cons h1 h2 h3 .nil
  | cons a b c _ ih => exact .cons a b c ih
theorem PT2.length {H : Hp} {qs : List Addr} {ps : List (List Int × List Int)} (h : PT2 H qs ps) : qs.length = ps.length := by
  induction h with
  | nil => rfl
  | cons a b c _ ih => rw [List.length_cons, List.length_cons, ih]
theorem PT2.get {H : Hp} {qs : List Addr} {ps : List (List Int × List Int)} (h : PT2 H qs ps) : ∀ {i : Nat} {v : V}, (qs.map V.ref)[i]? = some v → ∃ q a b x y, v = .ref q ∧ ps[i]? = some (x, y) ∧ H q = some (.tup [.ref a, .ref b]) ∧ H a = some (.tup (fI x)) ∧ H b = some (.tup (fI y)) := by
  induction h with
  | nil =>
    intro i v h
    simp at h
  | cons a b c _ ih =>
    intro i v h
    cases i with
    | zero =>
      simp at h
      exact ⟨_, _, _, _, _, h.symm, rfl, a, b, c⟩
    | succ i =>
      simp only [List.map_cons, List.getElem?_cons_succ] at h ⊢
      exact ih h
/-! ### the order of tuples of ints, as a number -/
theorem lex_code {B : Int} : ∀ {x y : List Int}, x.length = y.length → TS.Bd B x → TS.Bd B y → HT.lexLt x y = decide (TS.code B x < TS.code B y)
  | [], [], _, _, _ => by
    rw [decide_eq_false (Int.lt_irrefl _)]
    rfl
  | [], _ :: _, h, _, _ => by cases h
  | _ :: _, [], h, _, _ => by cases h
  | a :: x, b :: y, h, h1, h2 => by
    have hl : x.length = y.length := by simpa using h
    rw [HT.lexLt_cons]
    by_cases e : a = b
    · subst e
      rw [if_pos rfl, lex_code hl h1.tail h2.tail]
      exact decide_eq_decide.mpr (TS.code_same hl).symm
    · rw [if_neg e]
      refine decide_eq_decide.mpr ⟨fun z => TS.code_lt hl h1.tail h2.tail z, fun z => ?_⟩
      rcases Int.lt_trichotomy a b with y1 | y1 | y1
      · exact y1
      · exact absurd y1 e
      · have := TS.code_lt hl.symm h2.tail h1.tail y1
        omega
theorem code_app {B : Int} : ∀ (x u : List Int), TS.code B (x ++ u) = TS.code B x * B ^ u.length + TS.code B u
  | [], u => by
    show TS.code B u = 0 * B ^ u.length + TS.code B u
    rw [Int.zero_mul, Int.zero_add]
  | a :: x, u => by
    show a * B ^ (x ++ u).length + TS.code B (x ++ u) = (a * B ^ x.length + TS.code B x) * B ^ u.length + TS.code B u
    rw [code_app x u, List.length_append, Int.pow_add, Int.add_mul, ← Int.mul_assoc]
    omega
theorem bd_app {B : Int} {x u : List Int} (h1 : TS.Bd B x) (h2 : TS.Bd B u) : TS.Bd B (x ++ u) := fun m hm => (List.mem_append.mp hm).elim (h1 m) (h2 m)
/-- a pair as one list -/
def cat2 (p : List Int × List Int) : List Int := p.1 ++ p.2
def Ok33 (B : Int) (p : List Int × List Int) : Prop := (p.1.length = 3 ∧ TS.Bd B p.1) ∧ p.2.length = 3 ∧ TS.Bd B p.2
theorem Ok33.cat {B : Int} {p : List Int × List Int} (h : Ok33 B p) : (cat2 p).length = 6 ∧ TS.Bd B (cat2 p) := ⟨by
  unfold cat2
  rw [List.length_append, h.1.1, h.2.1], bd_app h.1.2 h.2.2⟩
theorem cat2_inj {B : Int} {p q : List Int × List Int} (h1 : Ok33 B p) (h2 : Ok33 B q) (e : cat2 p = cat2 q) : p = q := by
  have e' := List.append_inj e (by rw [h1.1.1, h2.1.1])
  exact Prod.ext e'.1 e'.2
theorem itemsInt {P : Program} {w : World} : ∀ {vs : List Value} {ns : List Int}, IntsAre vs ns → ItemsAre (PySem.intKind P w) ns vs := fun {vs ns} h => by
  induction h with
  | nil => exact .nil
  | cons p t _ ih => exact .cons (by show Value.isInt p (.int p t) = true; first | rfl | simp [Value.isInt] | decide) ih
theorem isT_of {P : Program} {w : World} {h : Heap} {a : Addr} {items : Array Value} {ns : List Int} (t : IsTup h a items) (i : IntsAre items.toList ns) : IsTupleKey (PySem.intKind P w) h ns a := by
  obtain ⟨o, ho, hc, n, hd⟩ := t
  exact ⟨o, items, n, ho, hc, hd, itemsInt i⟩
/-- v is a pair of tuples of ints -/
def PairT (h : Heap) (v : Value) (p : List Int × List Int) : Prop := ∃ q a b : Addr, v = .ref q ∧ IsTup h q #[.ref a, .ref b] ∧ TS.TupInts h (.ref a) p.1 ∧ TS.TupInts h (.ref b) p.2
theorem PairT.keeps {h h' : Heap} {v : Value} {p : List Int × List Int} (x : PairT h v p) (k : ∀ b o, h.get? b = some o → o.cls = .type "tuple" → h'.get? b = some o) : PairT h' v p := by
  obtain ⟨q, a, b, e, ⟨o, ho, hc, n⟩, h1, h2⟩ := x
  exact ⟨q, a, b, e, ⟨o, k _ _ ho hc, hc, n⟩, h1.keeps k, h2.keeps k⟩
theorem firstsP {h : Heap} {k : Value → List Int × List Int} : ∀ vs : List Value, (∀ v ∈ vs, PairT h v (k v)) → ∃ fs : List Value, PySem.W.KatTups h vs fs ∧ fs.length = vs.length ∧ ∀ f ∈ fs, ∃ (q : Addr) (o : Obj), f = Value.ref q ∧ h.get? q = some o ∧ o.cls = .type "tuple"
  | [], _ => ⟨[], PySem.W.KatTups.nil, rfl, fun f hf => by simp at hf⟩
  | v :: vs, x => by
    obtain ⟨fs, kk, hl, hi⟩ := firstsP vs fun u hu => x u (List.mem_cons_of_mem _ hu)
    obtain ⟨q, a, b, rfl, ⟨o, ho, hc, n, hd⟩, ⟨a2, xs2, e2, ⟨o2, ho2, hc2, _⟩, _⟩, _⟩ := x v (List.mem_cons_self ..)
    cases e2
    refine ⟨.ref a :: fs, PySem.W.KatTups.cons ho hc hd rfl kk, by rw [List.length_cons, List.length_cons, hl], fun f hf => ?_⟩
    rcases List.mem_cons.mp hf with rfl | hf
    · exact ⟨a, o2, rfl, ho2, hc2⟩
    · exact hi f hf
/-- which of two pairs is less, by the code of both lists in a row -/
def codeP (B : Int) (p : List Int × List Int) : Int := TS.code B (cat2 p)
theorem codeP_eq {B : Int} {p : List Int × List Int} (hp : Ok33 B p) : codeP B p = TS.code B p.1 * B ^ 3 + TS.code B p.2 := by
  unfold codeP cat2
  rw [code_app, hp.2.1]
theorem cat_lt {B : Int} {p q : List Int × List Int} (hp : Ok33 B p) (hq : Ok33 B q) (h : TS.code B p.1 < TS.code B q.1) : codeP B p < codeP B q := by
  rw [codeP_eq hp, codeP_eq hq]
  obtain ⟨c0, c1⟩ := TS.code_bd p.2 hp.2.2
  obtain ⟨g0, g1⟩ := TS.code_bd q.2 hq.2.2
  rw [hp.2.1] at c1
  exact TS.num2 c0 c1 g0 h
theorem codeP_lt1 {B : Int} {p q : List Int × List Int} (hp : Ok33 B p) (hq : Ok33 B q) (e : p.1 ≠ q.1) : HT.lexLt p.1 q.1 = decide (codeP B p < codeP B q) := by
  rw [lex_code (by rw [hp.1.1, hq.1.1]) hp.1.2 hq.1.2]
  rcases Int.lt_trichotomy (TS.code B p.1) (TS.code B q.1) with h | h | h
  · rw [decide_eq_true h, decide_eq_true (cat_lt hp hq h)]
  · exact absurd (code_inj hp.1.1 hq.1.1 hp.1.2 hq.1.2 h) e
  · have h' := cat_lt hq hp h
    rw [decide_eq_false (by omega), decide_eq_false (by omega)]
theorem codeP_lt2 {B : Int} {p q : List Int × List Int} (hp : Ok33 B p) (hq : Ok33 B q) (e : p.1 = q.1) : HT.lexLt p.2 q.2 = decide (codeP B p < codeP B q) := by
  rw [lex_code (by rw [hp.2.1, hq.2.1]) hp.2.2 hq.2.2, codeP_eq hp, codeP_eq hq, e]
  exact decide_eq_decide.mpr ⟨fun h => by omega, fun h => by omega⟩
theorem codeP_inj {B : Int} {p q : List Int × List Int} (hp : Ok33 B p) (hq : Ok33 B q) (e : codeP B p = codeP B q) : p = q := cat2_inj hp hq (code_inj hp.cat.1 hq.cat.1 hp.cat.2 hq.cat.2 e)
/-- a pair, read off the heap -/
def pairV (H : Hp) (v : V) : List Int × List Int := match v with
  | .ref q => match H q with
    | some (.tup [a, b]) => (intsV H a, intsV H b)
    | _ => ([], [])
  | _ => ([], [])
theorem pairV_of {H : Hp} {q a b : Addr} {x y : List Int} (h : H q = some (.tup [.ref a, .ref b])) (h1 : H a = some (.tup (fI x))) (h2 : H b = some (.tup (fI y))) : pairV H (.ref q) = (x, y) := by
  show (match H q with
    | some (.tup [a, b]) => (intsV H a, intsV H b)
    | _ => ([], [])) = (x, y)
  rw [h]
  show (intsV H (.ref a), intsV H (.ref b)) = (x, y)
  rw [intsV_of h1, intsV_of h2]
theorem PT2.mem {H : Hp} {qs : List Addr} {ps : List (List Int × List Int)} (h : PT2 H qs ps) : ∀ q ∈ qs, ∃ p ∈ ps, ∃ a b, H q = some (.tup [.ref a, .ref b]) ∧ H a = some (.tup (fI p.1)) ∧ H b = some (.tup (fI p.2)) := by
  induction h with
  | nil => exact fun _ h => absurd h (by simp)
  | cons h1 h2 h3 _ ih =>
    intro q hq
    rcases List.mem_cons.mp hq with rfl | hq
    · exact ⟨_, List.mem_cons_self, _, _, h1, h2, h3⟩
    · obtain ⟨p, hp, r⟩ := ih q hq
      exact ⟨p, List.mem_cons_of_mem _ hp, r⟩
theorem PT2.vals {H : Hp} {qs : List Addr} {ps : List (List Int × List Int)} (h : PT2 H qs ps) : ps = qs.map fun q => pairV H (.ref q) := by
  induction h with
  | nil => rfl
  | cons h1 h2 h3 _ ih => rw [List.map_cons, pairV_of h1 h2 h3, ← ih]
theorem pt2_of {H : Hp} : ∀ {qs : List Addr}, (∀ q ∈ qs, ∃ (p : List Int × List Int) (a b : Addr), H q = some (.tup [.ref a, .ref b]) ∧ H a = some (.tup (fI p.1)) ∧ H b = some (.tup (fI p.2))) → PT2 H qs (qs.map fun q => pairV H (.ref q))
  | [], _ => .nil
  | q :: qs, h => by
    obtain ⟨p, a, b, h1, h2, h3⟩ := h q List.mem_cons_self
    rw [List.map_cons, pairV_of h1 h2 h3]
    exact .cons h1 h2 h3 (pt2_of fun u hu => h u (List.mem_cons_of_mem _ hu))
def rSortP (K : PySem.W.Frag) (B : Int) : List V → Hp → VK → Prop := fun vs H Q => ∃ (a : Addr) (qs : List Addr) (ps : List (List Int × List Int)), vs = [V.ref a] ∧ SqL K H a (qs.map V.ref) ∧ PT2 H qs ps ∧ (∀ p ∈ ps, Ok33 B p) ∧
  ∀ qs' ps' z, PT2 H qs' ps' → ps'.Perm ps → ps'.Pairwise (fun x y => codeP B x ≤ codeP B y) → H z = none → Q (.ref z) (upd H z (.lst (qs'.map V.ref)))
theorem cr_sortP {X : Cx} {B : Int} (hu : X.A.units + 64 < cLine) : CallR X (.builtin "sorted") (rSortP X.K B) := by
  intro pins s σ H vs us Q I r h
  obtain ⟨a, qs, ps, rfl, hs, tu, hb, q⟩ := h
  obtain ⟨its, rv, hl, hz⟩ := I.list hs
  obtain ⟨u, rfl, ru⟩ := vals1 r
  obtain rfl : u = Value.ref a := ru
  obtain ⟨e1, e2⟩ := refs_back rv fun x m => by
    obtain ⟨t, _, e⟩ := List.mem_map.mp m
    exact ⟨t, e.symm⟩
  have key : ∀ v ∈ its, ∃ p, v = Value.ref p ∧ p ∈ qs := fun v hv => by
    obtain ⟨t, rfl⟩ := e2 v hv
    have hm : V.ref t ∈ qs.map V.ref := by rw [e1]; exact List.mem_map.mpr ⟨_, hv, rfl⟩
    obtain ⟨p, hp, e⟩ := List.mem_map.mp hm
    cases e
    exact ⟨t, rfl, hp⟩
  have ti : ∀ {b : Addr} {x : List Int}, H b = some (.tup (fI x)) → TS.TupInts s.heap (.ref b) x := fun {b x} hb' => by
    obtain ⟨its2, r2, pt, _⟩ := I.tuple (SqT.of hb')
    exact ⟨b, its2.toArray, rfl, pt, intsAre_of r2⟩
  have tin : ∀ v ∈ its, PairT s.heap v (pairV H (backV v)) ∧ Ok33 B (pairV H (backV v)) := fun v hv => by
    obtain ⟨p, rfl, hp⟩ := key v hv
    obtain ⟨xy, hm, a, b, h1, h2, h3⟩ := tu.mem p hp
    have ei : pairV H (backV (Value.ref p)) = xy := pairV_of h1 h2 h3
    rw [ei]
    obtain ⟨its2, r2, pt, _⟩ := I.tuple (SqT.of h1)
    obtain ⟨u1, u2, rfl, r1, r3⟩ := vals2 r2
    obtain rfl : u1 = Value.ref a := r1
    obtain rfl : u2 = Value.ref b := r3
    exact ⟨⟨p, a, b, rfl, pt, ti h2, ti h3⟩, hb _ hm⟩
  refine SrtO.sorted_ord (ltv := fun v u => decide (codeP B (pairV H (backV v)) < codeP B (pairV H (backV u)))) (swoC fun v => codeP B (pairV H (backV v))) hl.isList (by rw [← rv.length]; exact hz) (fun h2 h₁ a' ha' kk => ?_) fun out h1 h2 => ?_
  · intro h' keep
    have keep2 : ∀ b o, s.heap.get? b = some o → o.cls = .type "tuple" → h'.get? b = some o := fun b o e c => keep b o (kk b o e).1 (kk b o e).2
    have tin' : ∀ v ∈ its, PairT h' v (pairV H (backV v)) ∧ Ok33 B (pairV H (backV v)) := fun v hv => let ⟨x, y⟩ := tin v hv; ⟨x.keeps keep2, y⟩
    obtain ⟨fs, k1, k2, k3⟩ := firstsP (h := h') (k := fun v => pairV H (backV v)) its fun v hv => (tin' v hv).1
    refine ⟨tuples' false, fun Q E hq => ?_, ?_⟩
    · refine PySem.W.kat_kind (T := .type "tuple") k1 (by omega) (fun f hm => ?_) (by rfl) ?_
      · obtain ⟨q, o, rfl, ho, hc⟩ := k3 f hm
        have z : PySem.W.Looks (model X.prog X.w) h' (typeOf (.ref q)) o.cls := (PySem.W.Looks.ld ho).andThen .now
        rw [hc] at z
        exact z
      · have e : (Value.type "tuple" != Value.type "tuple") = false := by first | decide +kernel | rfl | decide
        rw [e]
        exact hq
    · intro p q hm hm'
      obtain ⟨⟨q1, a1, b1, x1, ⟨o1, ho1, hc1, n1, hd1⟩, ⟨a1', xs, x1', t1, i1⟩, ⟨b1', xs', x1'', t1', i1'⟩⟩, k1⟩ := tin' _ hm
      obtain ⟨⟨q2, a2, b2, x2, ⟨o2, ho2, hc2, n2, hd2⟩, ⟨a2', ys, x2', t2, i2⟩, ⟨b2', ys', x2'', t2', i2'⟩⟩, k2⟩ := tin' _ hm'
      cases x1'
      cases x1''
      cases x2'
      cases x2''
      show wpAny _ _ (keyLt' _ p.1 q.1) (fun r s' => s' = _ ∧ r = decide (codeP B (pairV H (backV p.1)) < codeP B (pairV H (backV q.1)))) (fun _ _ => False) _
      generalize pairV H (backV p.1) = P at *
      generalize pairV H (backV q.1) = R at *
      rw [x1, x2]
      refine PySem.W.kat_lt ho1 hd1 ho2 hd2 ?_
      have hu1 : X.A.in1.in1.units < cLine := by
        show X.A.units + 1 + 1 < cLine
        omega
      show PySem.W.KatLex X.prog X.w X.A.in1.in1 false false _ [(Value.ref a1, Value.ref a2), (Value.ref b1, Value.ref b2)] 0 _
      refine PySem.W.kat_cons (wpAny_eqBool_tuple hu1 (isT_of t1 i1) (isT_of t2 i2) ?_)
      refine PySem.W.kat_go (fun e0 => ?_) (fun e0 => ?_)
      · have e := of_decide_eq_true e0
        refine PySem.W.kat_yes (PySem.W.kat_cons (wpAny_eqBool_tuple hu1 (isT_of t1' i1') (isT_of t2' i2') ?_))
        refine PySem.W.kat_go (fun e1 => ?_) (fun e1 => ?_)
        · have e' := of_decide_eq_true e1
          refine PySem.W.kat_yes (PySem.W.kat_nil ⟨rfl, ?_⟩)
          have : P = R := Prod.ext e e'
          rw [this]
          exact (decide_eq_false (Int.lt_irrefl _)).symm
        · refine PySem.W.kat_no ?_
          show wpAny _ _ (oneLt' false _ _) _ _ _
          exact PySem.W.kat_one _ _ (HT.lt_tupInts t1' t2' i1' i2' hu1 ⟨rfl, codeP_lt2 k1 k2 e⟩)
      · have e := of_decide_eq_false e0
        refine PySem.W.kat_no ?_
        show wpAny _ _ (oneLt' false _ _) _ _ _
        exact PySem.W.kat_one _ _ (HT.lt_tupInts t1 t2 i1 i2 hu1 ⟨rfl, codeP_lt1 k1 k2 e⟩)
  · obtain ⟨ep, he'⟩ := PyProof.Rows.sortedAll_at s.heap its out.toArray
    have h3 : ∀ u ∈ out, ∃ p, u = Value.ref p ∧ p ∈ qs := fun u hu => key u (h2.perm.mem_iff.mp hu)
    have eo : out.map backV = (out.map fun u => match u with
      | Value.ref a => a
      | _ => 0).map V.ref := by
      rw [List.map_map]
      refine List.map_congr_left fun u hu => ?_
      obtain ⟨p, rfl, _⟩ := h3 u hu
      rfl
    have hp : (out.map backV).Perm (qs.map V.ref) := by
      rw [e1]
      exact h2.perm.map backV
    have hlen : (out.map backV).length ≤ sizeLine := by
      rw [hp.length_eq]
      exact hz
    generalize eps : (out.map fun u => match u with
      | Value.ref a => a
      | _ => 0) = qs' at eo
    have pp : qs'.Perm qs := by
      rw [eo] at hp
      have z := hp.map fun v => match v with
        | V.ref a => a
        | _ => 0
      rw [List.map_map, List.map_map] at z
      have id1 : ∀ l : List Addr, l.map ((fun v => match v with
        | V.ref a => a
        | _ => 0) ∘ V.ref) = l := fun l => by
        induction l with
        | nil => rfl
        | cons x l ih => rw [List.map_cons, ih]; rfl
      rw [id1, id1] at z
      exact z
    have tu' : PT2 H qs' (qs'.map fun p => pairV H (.ref p)) := pt2_of fun p hp => by
      obtain ⟨r, _, e⟩ := tu.mem p (pp.mem_iff.mp hp)
      exact ⟨r, e⟩
    have pw : (qs'.map fun p => pairV H (.ref p)).Pairwise (fun x y => codeP B x ≤ codeP B y) := by
      have z : (out.map backV).Pairwise (fun x y => codeP B (pairV H x) ≤ codeP B (pairV H y)) := List.pairwise_map.mpr (h1.imp fun {x y} h => Int.not_lt.mp (of_decide_eq_false h))
      rw [eo] at z
      rw [List.pairwise_map] at z ⊢
      exact z
    rw [eo] at hlen
    refine ⟨.ref _, upd H (s.heap.objs.size + 1) (.lst (qs'.map V.ref)), I.laid (t' := s.toks) (fun _ _ => PyProof.Rows.sortedAll_old) (Nat.le_succ _) ⟨hlen, out, ep, ?_, he'⟩, rfl, q qs' _ _ tu' ?_ pw (I.hok.fresh (Nat.le_succ _))⟩
    · rw [← eo]
      exact vals_back fun u hu => by
        obtain ⟨p, e, _⟩ := h3 u hu
        exact ⟨p, e⟩
    · rw [tu.vals]
      exact pp.map _
/-- of the pairs in a row by their codes and none twice there is just one list -/
theorem codeP_uniq {B : Int} {ps rs : List (List Int × List Int)} (hp : ∀ p ∈ ps, Ok33 B p) (h : ps.Perm rs) (h1 : ps.Pairwise fun x y => codeP B x ≤ codeP B y) (h2 : rs.Pairwise fun x y => codeP B x ≤ codeP B y) : ps = rs :=
  h.eq_of_pairwise (fun x y hx hy a b => codeP_inj (hp x hx) (hp y (h.mem_iff.mpr hy)) (Int.le_antisymm a b)) h1 h2
end My

/-! ### the clashes of a table in a row: just one list -/
namespace Pr
open My
theorem nodup_by {α : Type} {L : List α} (hL : L.Nodup) : ∀ {M : List α}, (∀ (j : Nat) (x : α), M[j]? = some x → x ∉ L ++ M.take j) → (L ++ M).Nodup := fun {M} h => by
  have key : ∀ n, n ≤ M.length → (L ++ M.take n).Nodup := fun n => by
    induction n with
    | zero => intro _; rw [List.take_zero, List.append_nil]; exact hL
    | succ n ih =>
      intro hn
      have hx : M[n]? = some M[n] := List.getElem?_eq_getElem (by omega)
      rw [My.take_snoc hx, ← List.append_assoc]
      refine List.nodup_append.mpr ⟨ih (by omega), List.nodup_cons.mpr ⟨by simp, .nil⟩, fun a ha b hb e => ?_⟩
      rw [List.mem_singleton] at hb
      subst hb
      subst e
      exact h n _ hx ha
  have := key M.length (Nat.le_refl _)
  rw [List.take_of_length_le (Nat.le_refl _)] at this
  exact this
theorem all_nodup {ls : List Int} {rs : List (List Int)} (R : Tb.Right ls rs) : ∀ n, n ≤ rs.length → (Tb.all ls rs n).Nodup
  | 0, _ => .nil
  | n + 1, hn => by
    have hr : rs[n]? = some rs[n] := List.getElem?_eq_getElem (by omega)
    obtain ⟨h1, _, _⟩ := R.2.2.2 n _ hr
    show (Tb.all ls rs n ++ Tb.ents ls ((n : Int) + 1) (rs.getD n [])).Nodup
    rw [Tb.getD_row hr]
    refine nodup_by (all_nodup R n (by omega)) fun j x hx => ?_
    unfold Tb.ents at hx ⊢
    rw [List.getElem?_map] at hx
    obtain ⟨p, hp, rfl⟩ := Option.map_eq_some_iff.mp hx
    rw [← List.map_take]
    exact Tb.new_one R.1 h1 hp
/-- in a row, none twice: each less than the next -/
theorem strict {α : Type} {f : α → Int} : ∀ {l : List α}, (∀ x ∈ l, ∀ y ∈ l, f x = f y → x = y) → l.Nodup → l.Pairwise (fun x y => f x ≤ f y) → l.Pairwise (fun x y => f x < f y)
  | [], _, _, _ => .nil
  | a :: l, hi, hn, hp => by
    obtain ⟨n1, n2⟩ := List.nodup_cons.mp hn
    obtain ⟨p1, p2⟩ := List.pairwise_cons.mp hp
    refine List.pairwise_cons.mpr ⟨fun y hy => ?_, strict (fun x hx y hy => hi x (List.mem_cons_of_mem _ hx) y (List.mem_cons_of_mem _ hy)) n2 p2⟩
    rcases Int.lt_or_eq_of_le (p1 y hy) with h | h
    · exact h
    · have := hi a List.mem_cons_self y (List.mem_cons_of_mem _ hy) h
      subst this
      exact absurd hy n1
theorem nodup_lt {α : Type} {f : α → Int} : ∀ {l : List α}, l.Pairwise (fun x y => f x < f y) → l.Nodup
  | [], _ => .nil
  | a :: l, hp => by
    obtain ⟨p1, p2⟩ := List.pairwise_cons.mp hp
    exact List.nodup_cons.mpr ⟨fun h => absurd (p1 a h) (Int.lt_irrefl _), nodup_lt p2⟩
def E3 (e : List Int) : Prop := e.length = 3 ∧ TS.Bd 1000 e
theorem hd_le {x y : List Int} (hx : E3 x) (hy : E3 y) (h : TS.code 1000 x < TS.code 1000 y) : Cl.hd x ≤ Cl.hd y := by
  obtain ⟨lx, bx⟩ := hx
  obtain ⟨ly, byy⟩ := hy
  match x, y, lx, ly, bx, byy, h with
  | [a, b, c], [d, e, f], _, _, bx, byy, h =>
    show a ≤ d
    apply Classical.byContradiction
    intro z
    have := TS.code_lt (d := d) (e := a) (r := [e, f]) (q := [b, c]) rfl byy.tail bx.tail (by omega)
    omega
theorem heads_up {es : List (List Int)} (hE : ∀ e ∈ es, E3 e) (hp : es.Pairwise fun x y => TS.code 1000 x < TS.code 1000 y) : (Cl.heads es).Pairwise (fun a b => a < b) := by
  have key : ∀ n, n ≤ es.length → (Cl.heads (es.take n)).Pairwise (fun a b => a < b) := fun n => by
    induction n with
    | zero => intro _; rw [List.take_zero]; exact .nil
    | succ n ih =>
      intro hn
      have hx : es[n]? = some es[n] := List.getElem?_eq_getElem (by omega)
      have hp' : (es.take n ++ [es[n]]).Pairwise fun x y => TS.code 1000 x < TS.code 1000 y := by
        rw [← My.take_snoc hx]
        exact hp.sublist (List.take_sublist _ _)
      rw [My.take_snoc hx, Cl.heads_snoc]
      unfold Cl.step
      split
      · exact ih (by omega)
      · next hno =>
        refine List.pairwise_append.mpr ⟨ih (by omega), List.pairwise_cons.mpr ⟨fun _ h => absurd h (by simp), .nil⟩, fun a ha b hb => ?_⟩
        rw [List.mem_singleton] at hb
        subst hb
        obtain ⟨e, he, rfl⟩ := Cl.mem_heads.mp ha
        have h1 := (List.pairwise_append.mp hp').2.2 e he es[n] (by simp)
        have h2 := hd_le (hE e (List.mem_of_mem_take he)) (hE _ (List.getElem_mem _)) h1
        rcases Int.lt_or_eq_of_le h2 with h | h
        · exact h
        · exact absurd (h ▸ ha) hno
  have := key es.length (Nat.le_refl _)
  rw [List.take_of_length_le (Nat.le_refl _)] at this
  exact this
theorem e33 {x y : List Int} (hx : E3 x) (hy : E3 y) : Ok33 1000 (x, y) := ⟨hx, hy⟩
theorem byOne_up {c : Int} {g : List (List Int)} {one : List Int} (h1 : E3 one) (hg : ∀ e ∈ g, E3 e) (hp : g.Pairwise fun x y => TS.code 1000 x < TS.code 1000 y) : (Cl.byOne c g one g.length).Pairwise fun p q => codeP 1000 p < codeP 1000 q := by
  unfold Cl.byOne
  rw [List.take_of_length_le (Nat.le_refl _), List.pairwise_map]
  have hp2 := hp.sublist (List.filter_sublist (p := Cl.cond c one))
  refine hp2.imp_of_mem fun {x y} hx hy h => ?_
  have ex := hg x (List.mem_filter.mp hx).1
  have ey := hg y (List.mem_filter.mp hy).1
  rw [codeP_eq (e33 h1 ex), codeP_eq (e33 h1 ey)]
  show _ + TS.code 1000 x < _ + TS.code 1000 y
  exact Int.add_lt_add_left h _
theorem code_of_hd {x y : List Int} (hx : E3 x) (hy : E3 y) (h : Cl.hd x < Cl.hd y) : TS.code 1000 x < TS.code 1000 y := by
  obtain ⟨lx, bx⟩ := hx
  obtain ⟨ly, byy⟩ := hy
  match x, y, lx, ly, bx, byy, h with
  | [a, b, c], [d, e, f], _, _, bx, byy, h => exact TS.code_lt (d := a) (e := d) (r := [b, c]) (q := [e, f]) rfl bx.tail byy.tail h
theorem cl_up {c : Int} {es : List (List Int)} (hE : ∀ e ∈ es, E3 e) (hp : es.Pairwise fun x y => TS.code 1000 x < TS.code 1000 y) : (Cl.cl c es).Pairwise fun p q => codeP 1000 p < codeP 1000 q := by
  unfold Cl.cl Cl.byHeads
  have hg : ∀ k, ∀ e ∈ Cl.grp k es, E3 e := fun k e he => hE e (Cl.mem_grp.mp he).1
  refine List.pairwise_flatMap.mpr ⟨fun k _ => ?_, (heads_up hE hp).imp fun {a b} hab x hx y hy => ?_⟩
  · have hpk : (Cl.grp k es).Pairwise fun x y => TS.code 1000 x < TS.code 1000 y := hp.sublist (List.filter_sublist)
    unfold Cl.byGrp
    rw [List.take_of_length_le (Nat.le_refl _)]
    refine List.pairwise_flatMap.mpr ⟨fun one ho => byOne_up (hg k one ho) (hg k) hpk, hpk.imp_of_mem fun {a b} ha hb hab p hp' q hq => ?_⟩
    obtain ⟨p1, p2⟩ := p
    obtain ⟨q1, q2⟩ := q
    obtain ⟨rfl, m1, _⟩ := Cl.mem_byOne.mp hp'
    obtain ⟨rfl, m2, _⟩ := Cl.mem_byOne.mp hq
    exact cat_lt (e33 (hg k _ ha) (hg k _ m1)) (e33 (hg k _ hb) (hg k _ m2)) hab
  · obtain ⟨x1, x2⟩ := x
    obtain ⟨y1, y2⟩ := y
    obtain ⟨a1, a2, _⟩ := Cl.mem_byGrp.mp hx
    obtain ⟨b1, b2, _⟩ := Cl.mem_byGrp.mp hy
    refine cat_lt (e33 (hg _ _ a1) (hg _ _ a2)) (e33 (hg _ _ b1) (hg _ _ b2)) (code_of_hd (hg _ _ a1) (hg _ _ b1) ?_)
    show Cl.hd x1 < Cl.hd y1
    rw [(Cl.mem_grp.mp a1).2, (Cl.mem_grp.mp b1).2]
    exact hab
/-- the clashes of a table, in a row, none twice -/
def Due (c : Int) (ls : List Int) (rs : List (List Int)) (ps : List (List Int × List Int)) : Prop := ps.Nodup ∧ ps.Pairwise (fun x y => codeP 1000 x ≤ codeP 1000 y) ∧ ∀ x y, (x, y) ∈ ps ↔ Cl.Clash c ls rs x y
theorem clash_ok {c : Int} {ls : List Int} {rs : List (List Int)} (R : Tb.Right ls rs) {x y : List Int} (h : Cl.Clash c ls rs x y) : Ok33 1000 (x, y) := ⟨Tb.all_bd R _ (Nat.le_refl _) _ h.1, Tb.all_bd R _ (Nat.le_refl _) _ h.2.1⟩
theorem due_cl {c : Int} {ls : List Int} {rs : List (List Int)} (R : Tb.Right ls rs) {es : List (List Int)} (pm : es.Perm (Tb.all ls rs rs.length)) (pw : es.Pairwise fun x y => TS.code 1000 x ≤ TS.code 1000 y) : Due c ls rs (Cl.cl c es) := by
  have hE : ∀ e ∈ es, E3 e := fun e he => Tb.all_bd R _ (Nat.le_refl _) _ (pm.mem_iff.mp he)
  have hs := strict (f := TS.code 1000) (fun x hx y hy e => code_inj (hE x hx).1 (hE y hy).1 (hE x hx).2 (hE y hy).2 e) (pm.nodup_iff.mpr (all_nodup R _ (Nat.le_refl _))) pw
  have hu := cl_up (c := c) hE hs
  exact ⟨nodup_lt (f := codeP 1000) hu, hu.imp fun h => Int.le_of_lt h, fun x y => Cl.clash_of pm⟩
theorem due_one {c : Int} {ls : List Int} {rs : List (List Int)} (R : Tb.Right ls rs) {ps qs : List (List Int × List Int)} (h1 : Due c ls rs ps) (h2 : Due c ls rs qs) : ps = qs := by
  obtain ⟨n1, p1, m1⟩ := h1
  obtain ⟨n2, p2, m2⟩ := h2
  refine codeP_uniq (B := 1000) (fun p hp => clash_ok R ((m1 p.1 p.2).mp hp)) ((List.perm_ext_iff_of_nodup n1 n2).mpr fun p => ?_) p1 p2
  obtain ⟨x, y⟩ := p
  rw [m1, m2]
theorem due_nil {c : Int} {ls : List Int} {rs : List (List Int)} {ps : List (List Int × List Int)} (h : Due c ls rs ps) : ps = [] ↔ Cl.Safe c ls rs := by
  constructor
  · intro e x y hc
    have := (h.2.2 x y).mpr hc
    rw [e] at this
    exact absurd this (by simp)
  · intro sf
    match ps, h with
    | [], _ => rfl
    | (x, y) :: _, h => exact absurd ((h.2.2 x y).mp List.mem_cons_self) (sf x y)
/-! ### a look at all pairs, one after another -/
def Cd (c : Int) (x y : List Int) : Bool := decide (Cl.hd x = Cl.hd y) && Cl.cond c x y
def FInv (c : Int) (es : List (List Int)) (i j : Nat) (ds : List (List Int × List Int)) : Prop := ds.Nodup ∧ ds.length ≤ i * es.length + j ∧ ∀ x y, (x, y) ∈ ds ↔ Cd c x y = true ∧ ((x ∈ es.take i ∧ y ∈ es) ∨ (es[i]? = some x ∧ y ∈ es.take j))
theorem mem_take_succ {α : Type} {es : List α} {j : Nat} {o y : α} (h : es[j]? = some o) : y ∈ es.take (j + 1) ↔ y ∈ es.take j ∨ y = o := by
  rw [My.take_snoc h, List.mem_append, List.mem_singleton]
theorem finv_zero (c : Int) (es : List (List Int)) : FInv c es 0 0 [] := ⟨.nil, Nat.zero_le _, fun x y => by simp⟩
theorem finv_old {c : Int} {es : List (List Int)} {i j : Nat} {ds : List (List Int × List Int)} {one o : List Int} (h : FInv c es i j ds) (h1 : es[i]? = some one) (h2 : es[j]? = some o) (h3 : Cd c one o = true → (one, o) ∈ ds) : FInv c es i (j + 1) ds := by
  obtain ⟨n, l, m⟩ := h
  refine ⟨n, by omega, fun x y => ?_⟩
  rw [m]
  constructor
  · rintro ⟨a, b | ⟨b, d⟩⟩
    · exact ⟨a, .inl b⟩
    · exact ⟨a, .inr ⟨b, (mem_take_succ h2).mpr (.inl d)⟩⟩
  · rintro ⟨a, b | ⟨b, d⟩⟩
    · exact ⟨a, .inl b⟩
    · rcases (mem_take_succ h2).mp d with d | d
      · exact ⟨a, .inr ⟨b, d⟩⟩
      · subst d
        obtain rfl : one = x := Option.some.inj (h1.symm.trans b)
        exact (m _ _).mp (h3 a)
theorem finv_new {c : Int} {es : List (List Int)} {i j : Nat} {ds : List (List Int × List Int)} {one o : List Int} (h : FInv c es i j ds) (h1 : es[i]? = some one) (h2 : es[j]? = some o) (h3 : Cd c one o = true) (h4 : (one, o) ∉ ds) : FInv c es i (j + 1) (ds ++ [(one, o)]) := by
  obtain ⟨n, l, m⟩ := h
  refine ⟨List.nodup_append.mpr ⟨n, List.nodup_cons.mpr ⟨by simp, .nil⟩, fun a ha b hb e => ?_⟩, by rw [List.length_append]; show _ + 1 ≤ _; omega, fun x y => ?_⟩
  · rw [List.mem_singleton] at hb
    subst hb
    subst e
    exact h4 ha
  · rw [List.mem_append, List.mem_singleton, m]
    constructor
    · rintro (⟨a, b | ⟨b, d⟩⟩ | e)
      · exact ⟨a, .inl b⟩
      · exact ⟨a, .inr ⟨b, (mem_take_succ h2).mpr (.inl d)⟩⟩
      · injection e with e1 e2
        subst e1 e2
        exact ⟨h3, .inr ⟨h1, (mem_take_succ h2).mpr (.inr rfl)⟩⟩
    · rintro ⟨a, b | ⟨b, d⟩⟩
      · exact .inl ⟨a, .inl b⟩
      · rcases (mem_take_succ h2).mp d with d | d
        · exact .inl ⟨a, .inr ⟨b, d⟩⟩
        · subst d
          obtain rfl : one = x := Option.some.inj (h1.symm.trans b)
          exact .inr rfl
theorem finv_next {c : Int} {es : List (List Int)} {i : Nat} {ds : List (List Int × List Int)} {one : List Int} (h : FInv c es i es.length ds) (h1 : es[i]? = some one) : FInv c es (i + 1) 0 ds := by
  obtain ⟨n, l, m⟩ := h
  refine ⟨n, by rw [Nat.add_mul]; omega, fun x y => ?_⟩
  rw [m, List.take_of_length_le (Nat.le_refl _), mem_take_succ h1]
  constructor
  · rintro ⟨a, ⟨b, d⟩ | ⟨b, d⟩⟩
    · exact ⟨a, .inl ⟨.inl b, d⟩⟩
    · exact ⟨a, .inl ⟨.inr (Option.some.inj (b.symm.trans h1)), d⟩⟩
  · rintro ⟨a, ⟨b | b, d⟩ | ⟨_, d⟩⟩
    · exact ⟨a, .inl ⟨b, d⟩⟩
    · subst b
      exact ⟨a, .inr ⟨h1, d⟩⟩
    · exact absurd d (by simp)
theorem finv_end {c : Int} {ls : List Int} {rs : List (List Int)} {ds ps : List (List Int × List Int)} (h : FInv c (Tb.all ls rs rs.length) (Tb.all ls rs rs.length).length 0 ds) (pm : ps.Perm ds) (pw : ps.Pairwise fun x y => codeP 1000 x ≤ codeP 1000 y) : Due c ls rs ps := by
  obtain ⟨n, _, m⟩ := h
  refine ⟨pm.nodup_iff.mpr n, pw, fun x y => ?_⟩
  rw [pm.mem_iff, m, List.take_of_length_le (Nat.le_refl _)]
  unfold Cl.Clash Cd
  rw [Bool.and_eq_true, decide_eq_true_iff]
  constructor
  · rintro ⟨⟨a, b⟩, ⟨d, e⟩ | ⟨_, d⟩⟩
    · exact ⟨d, e, a, b⟩
    · exact absurd d (by simp)
  · rintro ⟨d, e, a, b⟩
    exact ⟨⟨a, b⟩, .inl ⟨d, e⟩⟩
theorem finv_ok {c : Int} {es : List (List Int)} {i j : Nat} {ds : List (List Int × List Int)} (h : FInv c es i j ds) (hE : ∀ e ∈ es, E3 e) : ∀ p ∈ ds, Ok33 1000 p := fun p hp => by
  obtain ⟨x, y⟩ := p
  obtain ⟨_, a | a⟩ := (h.2.2 x y).mp hp
  · exact e33 (hE x (List.mem_of_mem_take a.1)) (hE y a.2)
  · exact e33 (hE x (List.mem_of_getElem? a.1)) (hE y (List.mem_of_mem_take a.2))
/-- more comers have all clashes of fewer -/
theorem cond_more {k k' : Int} (hk : k' ≤ k) {x y : List Int} (h : Cl.cond k' x y = true) : Cl.cond k x y = true := by
  unfold Cl.cond at h ⊢
  rw [Bool.and_eq_true, Bool.and_eq_true, decide_eq_true_iff, decide_eq_true_iff, decide_eq_true_iff] at h ⊢
  obtain ⟨a, b, d⟩ := h
  refine ⟨a, b, ?_⟩
  have : k' * (x.getD 1 0 - y.getD 1 0) ≤ k * (x.getD 1 0 - y.getD 1 0) := Int.mul_le_mul_of_nonneg_right hk (by omega)
  omega
theorem clash_more {k k' : Int} (hk : k' ≤ k) {ls : List Int} {rs : List (List Int)} {x y : List Int} (h : Cl.Clash k' ls rs x y) : Cl.Clash k ls rs x y := ⟨h.1, h.2.1, h.2.2.1, cond_more hk h.2.2.2⟩
/-! ### the first clash -/
theorem flat_head {α β : Type} {f : α → List β} {l : List α} {i : Nat} {a : α} (h : l[i]? = some a) (h0 : (l.take i).flatMap f = []) : l.flatMap f = f a ++ (l.drop (i + 1)).flatMap f := by
  obtain ⟨hi, ha⟩ := List.getElem?_eq_some_iff.mp h
  have e : l = l.take i ++ a :: l.drop (i + 1) := by
    rw [← ha, ← List.drop_eq_getElem_cons hi, List.take_append_drop]
  have e2 : l.flatMap f = (l.take i).flatMap f ++ (f a ++ (l.drop (i + 1)).flatMap f) := by
    conv => lhs; rw [e]
    rw [List.flatMap_append, List.flatMap_cons]
  rw [e2, h0, List.nil_append]
theorem filter_head {α : Type} {f : α → Bool} {l : List α} {i : Nat} {a : α} (h : l[i]? = some a) (ha : f a = true) (h0 : (l.take i).filter f = []) : l.filter f = a :: (l.drop (i + 1)).filter f := by
  obtain ⟨hi, e1⟩ := List.getElem?_eq_some_iff.mp h
  have e : l = l.take i ++ a :: l.drop (i + 1) := by
    rw [← e1, ← List.drop_eq_getElem_cons hi, List.take_append_drop]
  have e2 : l.filter f = (l.take i).filter f ++ (a :: (l.drop (i + 1)).filter f) := by
    conv => lhs; rw [e]
    rw [List.filter_append, List.filter_cons_of_pos ha]
  rw [e2, h0, List.nil_append]
theorem cl_head {c : Int} {es g : List (List Int)} {i j m : Nat} {k : Int} {x y : List Int} (hk : (Cl.heads es)[i]? = some k) (hg : Cl.grp k es = g) (h1 : g[j]? = some x) (h2 : g[m]? = some y) (hc : Cl.cond c x y = true)
    (h0 : Cl.byHeads c es ((Cl.heads es).take i) ++ Cl.byGrp c g j ++ Cl.byOne c g x m = []) : (Cl.cl c es).head? = some (x, y) := by
  obtain ⟨h0, h3⟩ := List.append_eq_nil_iff.mp h0
  obtain ⟨h4, h5⟩ := List.append_eq_nil_iff.mp h0
  have e1 : Cl.cl c es = Cl.byGrp c g g.length ++ ((Cl.heads es).drop (i + 1)).flatMap fun k => Cl.byGrp c (Cl.grp k es) (Cl.grp k es).length := by
    unfold Cl.cl Cl.byHeads
    rw [flat_head hk h4, hg]
  have e2 : Cl.byGrp c g g.length = Cl.byOne c g x g.length ++ (g.drop (j + 1)).flatMap fun one => Cl.byOne c g one g.length := by
    unfold Cl.byGrp
    rw [List.take_of_length_le (Nat.le_refl _)]
    exact flat_head h1 h5
  have h6 : (g.take m).filter (Cl.cond c x) = [] := by
    unfold Cl.byOne at h3
    exact List.map_eq_nil_iff.mp h3
  have e3 : Cl.byOne c g x g.length = (x, y) :: ((g.drop (m + 1)).filter (Cl.cond c x)).map fun other => (x, other) := by
    unfold Cl.byOne
    rw [List.take_of_length_le (Nat.le_refl _), filter_head h2 hc h6]
    rfl
  rw [e1, e2, e3]
  rfl
/-- the first of the clashes in a row -/
def First (c : Int) (ls : List Int) (rs : List (List Int)) (x y : List Int) : Prop := ∃ ds, Due c ls rs ds ∧ ds.head? = some (x, y)
theorem First.clash {c : Int} {ls : List Int} {rs : List (List Int)} {x y : List Int} (h : First c ls rs x y) : Cl.Clash c ls rs x y := by
  obtain ⟨ds, hd, hh⟩ := h
  exact (hd.2.2 x y).mp (List.mem_of_mem_head? hh)
theorem First.one {c : Int} {ls : List Int} {rs : List (List Int)} (R : Tb.Right ls rs) {x y x' y' : List Int} (h : First c ls rs x y) (h' : First c ls rs x' y') : x' = x ∧ y' = y := by
  obtain ⟨ds, hd, hh⟩ := h
  obtain ⟨ds', hd', hh'⟩ := h'
  rw [due_one R hd' hd, hh] at hh'
  injection hh' with e
  injection e with e1 e2
  exact ⟨e1.symm, e2.symm⟩
end Pr

/-! ## sorted lists of tuples of ints of any lengths, none empty: in the order of lists -/
namespace Lx
def lt : List Int → List Int → Bool
  | [], [] => false
  | [], _ :: _ => true
  | _ :: _, [] => false
  | p :: ns, q :: ms => if p = q then lt ns ms else decide (p < q)
theorem irr : ∀ x : List Int, lt x x = false
  | [] => rfl
  | p :: x => by
    show (if p = p then lt x x else decide (p < p)) = false
    rw [if_pos rfl]
    exact irr x
theorem asym : ∀ x y : List Int, lt x y = true → lt y x = false
  | [], [], h => by cases h
  | [], _ :: _, _ => rfl
  | _ :: _, [], h => by cases h
  | p :: x, q :: y, h => by
    have h : (if p = q then lt x y else decide (p < q)) = true := h
    show (if q = p then lt y x else decide (q < p)) = false
    by_cases e : p = q
    · subst e
      rw [if_pos rfl] at h ⊢
      exact asym x y h
    · rw [if_neg e] at h
      rw [if_neg (fun z => e z.symm)]
      have := of_decide_eq_true h
      exact decide_eq_false (by omega)
theorem ntr : ∀ x y z : List Int, lt x y = false → lt y z = false → lt x z = false
  | [], [], z, _, h => h
  | [], _ :: _, _, h, _ => by cases h
  | _ :: _, [], [], _, _ => rfl
  | _ :: _, [], _ :: _, _, h => by cases h
  | _ :: _, _ :: _, [], _, _ => rfl
  | p :: x, q :: y, r :: z, h1, h2 => by
    have h1 : (if p = q then lt x y else decide (p < q)) = false := h1
    have h2 : (if q = r then lt y z else decide (q < r)) = false := h2
    show (if p = r then lt x z else decide (p < r)) = false
    by_cases e : p = q
    · subst e
      rw [if_pos rfl] at h1
      by_cases e2 : p = r
      · subst e2
        rw [if_pos rfl] at h2 ⊢
        exact ntr x y z h1 h2
      · rw [if_neg e2] at h2 ⊢
        exact h2
    · rw [if_neg e] at h1
      have g1 := of_decide_eq_false h1
      by_cases e2 : q = r
      · subst e2
        rw [if_neg e]
        exact h1
      · rw [if_neg e2] at h2
        have g2 := of_decide_eq_false h2
        rw [if_neg (by omega)]
        exact decide_eq_false (by omega)
theorem anti : ∀ x y : List Int, lt x y = false → lt y x = false → x = y
  | [], [], _, _ => rfl
  | [], _ :: _, h, _ => by cases h
  | _ :: _, [], _, h => by cases h
  | p :: x, q :: y, h1, h2 => by
    have h1 : (if p = q then lt x y else decide (p < q)) = false := h1
    have h2 : (if q = p then lt y x else decide (q < p)) = false := h2
    by_cases e : p = q
    · subst e
      rw [if_pos rfl] at h1 h2
      rw [anti x y h1 h2]
    · rw [if_neg e] at h1
      rw [if_neg (fun z => e z.symm)] at h2
      have g1 := of_decide_eq_false h1
      have g2 := of_decide_eq_false h2
      omega
def ins (x : List Int) : List (List Int) → List (List Int)
  | [] => [x]
  | y :: r => if lt y x = true then y :: ins x r else x :: y :: r
def sort : List (List Int) → List (List Int)
  | [] => []
  | x :: r => ins x (sort r)
def Srt (l : List (List Int)) : Prop := l.Pairwise fun x y => lt y x = false
theorem ins_perm (x : List Int) : ∀ l, (ins x l).Perm (x :: l)
  | [] => .refl _
  | y :: r => by
    unfold ins
    split
    · exact ((ins_perm x r).cons y).trans (.swap x y r)
    · exact .refl _
theorem sort_perm : ∀ l, (sort l).Perm l
  | [] => .refl _
  | x :: r => (ins_perm x (sort r)).trans ((sort_perm r).cons x)
theorem ins_srt (x : List Int) : ∀ l, Srt l → Srt (ins x l)
  | [], _ => List.pairwise_singleton _ _
  | y :: r, h => by
    have h' := List.pairwise_cons.mp h
    unfold ins
    by_cases c : lt y x = true
    · rw [if_pos c]
      refine List.pairwise_cons.mpr ⟨fun z hz => ?_, ins_srt x r h'.2⟩
      rcases List.mem_cons.mp ((ins_perm x r).mem_iff.mp hz) with e | hz
      · subst e
        exact asym _ _ c
      · exact h'.1 z hz
    · rw [if_neg c]
      have c' : lt y x = false := by
        cases e : lt y x with
        | true => exact absurd e c
        | false => rfl
      refine List.pairwise_cons.mpr ⟨fun z hz => ?_, h⟩
      rcases List.mem_cons.mp hz with e | hz
      · subst e
        exact c'
      · exact ntr z y x (h'.1 z hz) c'
theorem sort_srt : ∀ l, Srt (sort l)
  | [] => .nil
  | x :: r => ins_srt x _ (sort_srt r)
theorem uniq : ∀ {l m : List (List Int)}, l.Perm m → Srt l → Srt m → l = m
  | [], m, p, _, _ => (List.nil_perm.mp p).symm
  | x :: l, [], p, _, _ => absurd p.length_eq (by simp)
  | x :: l, y :: m, p, a, b => by
    have a' := List.pairwise_cons.mp a
    have b' := List.pairwise_cons.mp b
    have e : x = y := by
      have h1 : x ∈ y :: m := p.mem_iff.mp List.mem_cons_self
      have h2 : y ∈ x :: l := p.mem_iff.mpr List.mem_cons_self
      rcases List.mem_cons.mp h1 with e | h1
      · exact e
      · rcases List.mem_cons.mp h2 with e | h2
        · exact e.symm
        · exact anti x y (b'.1 x h1) (a'.1 y h2)
    subst e
    rw [uniq (List.Perm.cons_inv p) a'.2 b'.2]
theorem sort_of {l m : List (List Int)} (p : m.Perm l) (h : Srt m) : m = sort l := uniq (p.trans (sort_perm l).symm) h (sort_srt l)
theorem sort_congr {l m : List (List Int)} (p : m.Perm l) : sort m = sort l := sort_of ((sort_perm m).trans p) (sort_srt m)
end Lx
namespace My
open PySem PySem.Spec PyProof.Rows L2
section
variable {prog : Program} {w : World} {A : Around} {E : Value → Shared → Prop} {s : Shared} {Q : Bool → Shared → Prop}
theorem lexV {b fin : Bool} {xs ys : List Value} {ns ms : List Int} (i : Nat) (hx : IntsAre xs ns) (hy : IntsAre ys ms) (hf : fin = decide (ns.length < ms.length))
    (h : Q (Lx.lt ns ms) s) : PySem.W.KatLex prog w A b fin Q (xs.zip ys) i s := by
  induction hx generalizing ys ms i with
  | nil =>
    cases hy with
    | nil =>
      subst hf
      exact PySem.W.kat_nil h
    | @cons q u ys ms hy =>
      subst hf
      rw [decide_eq_true (show ([] : List Int).length < (q :: ms).length from Nat.zero_lt_succ _)]
      exact PySem.W.kat_nil h
  | @cons p t xs ns hx ih =>
    cases hy with
    | nil =>
      subst hf
      rw [decide_eq_false (by simp)]
      exact PySem.W.kat_nil h
    | @cons q u ys ms hy =>
      show PySem.W.KatLex prog w A b fin Q ((Value.int p t, Value.int q u) :: xs.zip ys) i s
      refine PySem.W.kat_cons (wpAny_eqBool_int ?_)
      have h : Q (if p = q then Lx.lt ns ms else decide (p < q)) s := h
      by_cases e : p = q
      · subst e
        rw [beq_self_eq_true]
        rw [if_pos rfl] at h
        refine PySem.W.kat_yes ?_
        exact ih (i + 1) hy (by rw [hf]; exact decide_eq_decide.mpr (by simp)) h
      · rw [show (p == q) = false from beq_eq_false_iff_ne.mpr e]
        rw [if_neg e] at h
        exact PySem.W.kat_no (TS.oneLt_ints _ h)
end
theorem firstsV {h : Heap} : ∀ vs : List Value, (∀ v ∈ vs, ∃ ns, TS.TupInts h v ns ∧ ns ≠ []) → ∃ fs, PySem.W.KatTups h vs fs ∧ fs.length = vs.length ∧ ∀ f, f ∈ fs → ∃ n t, f = Value.int n t
  | [], _ => ⟨[], PySem.W.KatTups.nil, rfl, fun f hf => by simp at hf⟩
  | v :: vs, x => by
    obtain ⟨fs, k, hl, hi⟩ := firstsV vs fun u hu => x u (List.mem_cons_of_mem _ hu)
    obtain ⟨ns, ⟨a, xs, rfl, ⟨o, ho, hc, n, hdt⟩, i⟩, hn⟩ := x v (List.mem_cons_self ..)
    obtain ⟨y, ys, e⟩ : ∃ y ys, xs.toList = y :: ys := by
      cases q : xs.toList with
      | nil =>
        rw [q] at i
        have l := i.length
        rw [List.length_nil] at l
        exact absurd (List.length_eq_zero_iff.mp (by omega)) hn
      | cons y ys => exact ⟨y, ys, rfl⟩
    obtain ⟨m, t, hy⟩ := i.all y (by rw [e]; exact List.mem_cons_self ..)
    refine ⟨y :: fs, PySem.W.KatTups.cons ho hc hdt ?_ k, by simp [hl], ?_⟩
    · have z := congrArg (fun l : List Value => l[0]?) e
      simpa using z
    · intro f hf
      rcases List.mem_cons.mp hf with rfl | hf
      · exact ⟨m, t, hy⟩
      · exact hi f hf
theorem swoL {α : Type} (f : α → List Int) : SrtO.Swo fun x y => Lx.lt (f x) (f y) := ⟨fun x y h => Lx.asym _ _ h, fun x y z h1 h2 => Lx.ntr _ _ _ h2 h1⟩
def rSortV (K : PySem.W.Frag) : List V → Hp → VK → Prop := fun vs H Q => ∃ (a : Addr) (ps : List Addr) (rs : List (List Int)), vs = [V.ref a] ∧ SqL K H a (ps.map V.ref) ∧ Tups fI H ps rs ∧ (2 ≤ rs.length → ∀ r ∈ rs, r ≠ []) ∧
  ∀ ps' p, Tups fI H ps' (Lx.sort rs) → ps'.Perm ps → H p = none → Q (.ref p) (upd H p (.lst (ps'.map V.ref)))
theorem cr_sortV {X : Cx} : CallR X (.builtin "sorted") (rSortV X.K) := by
  intro pins s σ H vs us Q I r h
  obtain ⟨a, ps, rs, rfl, hs, tu, hb, q⟩ := h
  obtain ⟨its, rv, hl, hz⟩ := I.list hs
  obtain ⟨u, rfl, ru⟩ := vals1 r
  obtain rfl : u = Value.ref a := ru
  obtain ⟨e1, e2⟩ := refs_back rv fun x m => by
    obtain ⟨t, _, e⟩ := List.mem_map.mp m
    exact ⟨t, e.symm⟩
  have key : ∀ v ∈ its, ∃ p, v = Value.ref p ∧ p ∈ ps := fun v hv => by
    obtain ⟨t, rfl⟩ := e2 v hv
    have hm : V.ref t ∈ ps.map V.ref := by rw [e1]; exact List.mem_map.mpr ⟨_, hv, rfl⟩
    obtain ⟨p, hp, e⟩ := List.mem_map.mp hm
    cases e
    exact ⟨t, rfl, hp⟩
  have tin : ∀ v ∈ its, TS.TupInts s.heap v (intsV H (backV v)) ∧ (2 ≤ its.length → intsV H (backV v) ≠ []) := fun v hv => by
    obtain ⟨p, rfl, hp⟩ := key v hv
    obtain ⟨r, hr, ep⟩ := tu.mem p hp
    have ei : intsV H (backV (Value.ref p)) = r := intsV_of ep
    rw [ei]
    obtain ⟨its2, r2, pt, _⟩ := I.tuple (SqT.of ep)
    refine ⟨⟨p, its2.toArray, rfl, pt, intsAre_of r2⟩, fun z => hb ?_ r hr⟩
    have z1 := rv.length
    have z2 := tu.length
    rw [List.length_map] at z1
    omega
  refine SrtO.sorted_ord (ltv := fun v u => Lx.lt (intsV H (backV v)) (intsV H (backV u))) (swoL fun v => intsV H (backV v)) hl.isList (by rw [← rv.length]; exact hz) (fun h2 h₁ a' ha' kk => ?_) fun out h1 h2 => ?_
  · intro h' keep
    have keep2 : ∀ b o, s.heap.get? b = some o → o.cls = .type "tuple" → h'.get? b = some o := fun b o e c => keep b o (kk b o e).1 (kk b o e).2
    have tin' : ∀ v ∈ its, TS.TupInts h' v (intsV H (backV v)) ∧ intsV H (backV v) ≠ [] := fun v hv => let ⟨x, y⟩ := tin v hv; ⟨x.keeps keep2, y h2⟩
    obtain ⟨fs, k1, k2, k3⟩ := firstsV (h := h') its fun v hv => ⟨_, tin' v hv⟩
    refine ⟨tuples' true, fun Q E hq => ?_, ?_⟩
    · refine PySem.W.kat_kind (T := .type "int") k1 (by omega) (fun f hm => ?_) (by rfl) ?_
      · obtain ⟨x, t, rfl⟩ := k3 f hm
        exact PySem.W.Looks.now
      · have e : (Value.type "int" != Value.type "tuple") = true := by first | decide +kernel | rfl | decide
        rw [e]
        exact hq
    · intro p q hm hm'
      obtain ⟨⟨a1, xs, x1, ⟨o1, ho1, hc1, n1, hd1⟩, i1⟩, l1⟩ := tin' _ hm
      obtain ⟨⟨a2, ys, x2, ⟨o2, ho2, hc2, n2, hd2⟩, i2⟩, l2⟩ := tin' _ hm'
      show wpAny _ _ (keyLt' _ p.1 q.1) (fun r s' => s' = _ ∧ r = Lx.lt (intsV H (backV p.1)) (intsV H (backV q.1))) (fun _ _ => False) _
      generalize intsV H (backV p.1) = ns at *
      generalize intsV H (backV q.1) = ms at *
      rw [x1, x2]
      refine PySem.W.kat_lt ho1 hd1 ho2 hd2 ?_
      exact lexV 0 i1 i2 (by
        have z1 := i1.length
        have z2 := i2.length
        simp at z1 z2
        exact decide_eq_decide.mpr (by omega)) ⟨rfl, rfl⟩
  · obtain ⟨ep, he'⟩ := PyProof.Rows.sortedAll_at s.heap its out.toArray
    have h3 : ∀ u ∈ out, ∃ p, u = Value.ref p ∧ p ∈ ps := fun u hu => key u (h2.perm.mem_iff.mp hu)
    have eo : out.map backV = (out.map fun u => match u with
      | Value.ref a => a
      | _ => 0).map V.ref := by
      rw [List.map_map]
      refine List.map_congr_left fun u hu => ?_
      obtain ⟨p, rfl, _⟩ := h3 u hu
      rfl
    have hp : (out.map backV).Perm (ps.map V.ref) := by
      rw [e1]
      exact h2.perm.map backV
    have hlen : (out.map backV).length ≤ sizeLine := by
      rw [hp.length_eq]
      exact hz
    generalize eps : (out.map fun u => match u with
      | Value.ref a => a
      | _ => 0) = ps' at eo
    have pp : ps'.Perm ps := by
      rw [eo] at hp
      have z := hp.map fun v => match v with
        | V.ref a => a
        | _ => 0
      rw [List.map_map, List.map_map] at z
      have id1 : ∀ l : List Addr, l.map ((fun v => match v with
        | V.ref a => a
        | _ => 0) ∘ V.ref) = l := fun l => by
        induction l with
        | nil => rfl
        | cons x l ih => rw [List.map_cons, ih]; rfl
      rw [id1, id1] at z
      exact z
    have tu' : Tups fI H ps' (ps'.map fun p => intsV H (.ref p)) := tups_of fun p hp => by
      obtain ⟨r, _, e⟩ := tu.mem p (pp.mem_iff.mp hp)
      exact ⟨r, e⟩
    have pw : Lx.Srt (ps'.map fun p => intsV H (.ref p)) := by
      have z : (out.map backV).Pairwise (fun x y => Lx.lt (intsV H y) (intsV H x) = false) := List.pairwise_map.mpr h1
      rw [eo] at z
      unfold Lx.Srt
      rw [List.pairwise_map] at z ⊢
      exact z
    have er : (ps'.map fun p => intsV H (.ref p)) = Lx.sort rs := Lx.sort_of (by rw [tu.ints]; exact pp.map _) pw
    rw [er] at tu'
    rw [eo] at hlen
    refine ⟨.ref _, upd H (s.heap.objs.size + 1) (.lst (ps'.map V.ref)), I.laid (t' := s.toks) (fun _ _ => PyProof.Rows.sortedAll_old) (Nat.le_succ _) ⟨hlen, out, ep, ?_, he'⟩, rfl, q ps' _ tu' pp (I.hok.fresh (Nat.le_succ _))⟩
    · rw [← eo]
      exact vals_back fun u hu => by
        obtain ⟨p, e, _⟩ := h3 u hu
        exact ⟨p, e⟩
end My

/-! ### exceptions of own classes as values: made, asked for their class -/
namespace EX6
open PySem PySem.Spec PyProof.Rows L2
/-- C(e, ..) as a value, C an exception class with its own __init__ -/
def tNewE (C : Addr) (sp : Sp) (dvs : List V) (ta : TA) : TE := fun σ H Q => ta σ H fun vs H1 => vs.length ≤ 1000 ∧ ∀ a, H1 a = none → sp (.ref a :: (vs ++ dvs)) (upd H1 a (exo a C none)) (fun v H2 => v = .non ∧ Q (.ref a) H2) (fun _ _ _ => False)
theorem pe_newE {X : Cx} {CX : CXT} {x : Str} {C fI : Addr} {k : Nat} {fd : FuncData} {ps : List Str} {sp : Sp} {ds : List Value} {dvs : List V} {e : Expr} {es : List Expr} {ta : TA} {p pos : Pos} (T : OexC X.K C) (iC : PySem.W.findIn X.K (.ref C) "__init__" = some (some (.ref fI))) (tI : PySem.W.typeIn X.K (.ref fI) = some (.type "function"))
    (F1 : FnOk X.prog X.w X.K X.mg X.base CX k fI fd ps sp) (hr : Room (k + 1) X.A) (hb : Binds X.K fd ps ds) (hd : Vals dvs ds) (hx : Passes CX X (fun _ _ _ => False)) (hg : Gl X x) (hm : X.mg x = some (.ref C)) (ha : PA X (e :: es) ta)
    (hdb : (x == ("__debug__" : Str)) = false := by decide) (he : starEach (e :: es) X.env = (false, eval e X.env) :: starEach es X.env := by rfl) (hpl : (backTo pos (starEach es X.env)).any (·.1) = false := by rfl) :
    PE X (.Call (.Name x p) (e :: es) [] pos) (tNewE C sp dvs ta) := by
  refine ⟨fun pins s σ H Q I h => ?_⟩
  obtain ⟨nm, q, N, bs, bm, sn, sub, ab, col, dd, k0, k1, k2, k3, k5, hC, hbm⟩ := T.cls
  refine wpAny_Call_Name_kw (ld_glob I hg hm ?_ hdb)
  refine PySem.W.callWith_K (h₀ := X.base) I.ok.mod.kin T.kC (thn (ha.run pos pins s σ H _ I h) fun us s1 ⟨vs, H1, I1, r1, hz, q1⟩ => ⟨I1.kIn, ?_⟩) he hpl
  show wpAny _ _ (call (.ref C) us) _ _ _
  obtain ⟨hp, g, dr, tk, os⟩ := s1
  have hsz : hp.objs.size ≤ hp.objs.size + 1 := Nat.le_succ _
  have hn : H1 (hp.objs.size + 1) = none := I1.hok.fresh hsz
  have hq := q1 (hp.objs.size + 1) hn
  have kk : ∀ b o, hp.get? b = some o → ((hp.push (PySem.W.kdv_tup us)).push (PySem.HandSPX.excO C hp.objs.size)).get? b = some o := fun b o e => Heap.get?_push_of_some _ (Heap.get?_push_of_some _ e)
  have hget : ((hp.push (PySem.W.kdv_tup us)).push (PySem.HandSPX.excO C hp.objs.size)).get? (hp.objs.size + 1) = some (PySem.HandSPX.excO C hp.objs.size) := by heap_get
  have I2 : Inv X pins σ (upd H1 (hp.objs.size + 1) (exo (hp.objs.size + 1) C none)) ⟨(hp.push (PySem.W.kdv_tup us)).push (PySem.HandSPX.excO C hp.objs.size), g, dr, tk, os⟩ :=
    I1.laid (t' := tk) (a := hp.objs.size + 1) (o := exo (hp.objs.size + 1) C none) (h' := (hp.push (PySem.W.kdv_tup us)).push (PySem.HandSPX.excO C hp.objs.size)) kk hsz (exo_ok hget)
  have r2 : Vals (V.ref (hp.objs.size + 1) :: (vs ++ dvs)) (Value.ref (hp.objs.size + 1) :: (us ++ ds)) := .cons rfl (r1.append hd)
  have hl : (Value.ref (hp.objs.size + 1) :: us ++ ds).length = ps.length := by
    have e := r2.length
    rw [F1.len _ _ _ _ hq] at e
    exact e.symm
  have hus : us.length ≤ sizeLine := by
    rw [← Paired.length r1, sizeLine_eq]
    omega
  refine wpAny_call (PySem.HandSPX.call_own F.excBase_ValueError (fun Y => PySem.HandSPX.refsVE_contains Y bm hbm) (I1.kIn _ _ hC) (PySem.W.looks_findIn I1.kIn iC) (fun self => PySem.W.bind_fn I1.kIn self tI) hus
    (codeAny_mono (F1.run _ X.stack _ _ ⟨Value.ref (hp.objs.size + 1) :: us, []⟩ (Value.ref (hp.objs.size + 1) :: (us ++ ds)) _ _ (fun _ _ _ => False) (hr.make C us []) (I2.env0.make C us []) (hb _ (Value.ref (hp.objs.size + 1) :: us) I2.kIn hl) r2 hq) fun r s' hq' => ?_))
  cases r with
  | error er => exact hx pins σ _ _ er s' I2 hq'
  | ok fl =>
    cases fl with
    | ret u =>
      obtain ⟨v, H', I3, rv, ev, q3⟩ := I2.after hq'
      subst ev
      exact ⟨rv, ⟨V.ref (hp.objs.size + 1), H', I3, rfl, q3⟩⟩
    | next => exact False.elim hq'
    | brk => exact False.elim hq'
    | cont => exact False.elim hq'
/-- isinstance(e, c), e an exception of the own class at C that stands in the heap with its dict -/
def rIsX (K : PySem.W.Frag) (C : Addr) : List V → Hp → VK → Prop := fun xs H Q => ∃ (a d : Addr) (fs : List (Str × V)) (c : V) (cv : Value) (b : Bool), xs = [.ref a, c] ∧ H a = some (exo a C (some d)) ∧ H d = some (exd d fs) ∧ ClsV c cv ∧ PySem.W.kitOne K (.ref C) cv = some b ∧ Q (.bl b) H
theorem call_isX {X : Cx} {C : Addr} (E : ExcC X.K C) : CallR X (.builtin "isinstance") (rIsX X.K C) := by
  intro pins s σ H xs us Q I r h
  obtain ⟨a, d, fs, c, cv, b, rfl, ea, ed, k, e, q⟩ := h
  obtain ⟨u1, u2, rfl, r1, r2⟩ := vals2 r
  have e2 := k.eq r2
  subst e2
  cases (show u1 = Value.ref a from r1)
  obtain ⟨⟨t1, hget⟩, _⟩ := I.hok a _ ea
  obtain ⟨⟨mA, hns, _⟩, _⟩ := I.hok d _ ed
  obtain ⟨od, ho, _⟩ := lookIn_ns hns
  obtain ⟨cd, hcD, _⟩ := PySem.W.any_some E.hd
  have J : PySem.W.InstAt s.heap a ({ cls := .ref C, dict := some d, data := .fields #[.ref t1, .none, .none, .none, .bool false, .none] } : Obj) C (some od) := ⟨hget, rfl, rfl, ho⟩
  exact PySem.W.kia_one (PySem.W.kitx_exc (by rw [hcD]; rfl) E.hg E.hk E.hs E.ha E.hn E.ht E.hm) I.kIn J e (fun z => nomatch z) fun tk => ⟨.bl b, H, I.tok tk, rfl, q⟩
theorem kit_own {K : PySem.W.Frag} {a b : Addr} (h1 : PySem.W.subIn K (.ref a) (.ref b) = some true) (h2 : PySem.W.isClsIn K b = true) (h3 : PySem.W.typeIn K (.ref b) = some (.type "type")) : PySem.W.kitOne K (.ref a) (.ref b) = some true := by
  unfold PySem.W.kitOne
  split
  · rfl
  · have h2' : (PySem.W.clsIn K b).isSome = true := h2
    show (if ((PySem.W.clsIn K b).isSome && PySem.W.typeIn K (.ref b) == some (.type "type")) = true then PySem.W.subIn K (.ref a) (.ref b) else none) = some true
    rw [h2', h3, if_pos (by rfl)]
    exact h1
theorem kit_ownN {K : PySem.W.Frag} {a b : Addr} (h1 : PySem.W.subIn K (.ref a) (.ref b) = some false) (h2 : PySem.W.isClsIn K b = true) (h3 : PySem.W.typeIn K (.ref b) = some (.type "type")) (h4 : (Value.ref a == Value.ref b) = false) : PySem.W.kitOne K (.ref a) (.ref b) = some false := by
  unfold PySem.W.kitOne
  rw [h4, if_neg Bool.false_ne_true]
  have h2' : (PySem.W.clsIn K b).isSome = true := h2
  show (if ((PySem.W.clsIn K b).isSome && PySem.W.typeIn K (.ref b) == some (.type "type")) = true then PySem.W.subIn K (.ref a) (.ref b) else none) = some false
  rw [h2', h3, if_pos (by rfl)]
  exact h1
end EX6
/-! ### a tuple times an int of any sign -/
namespace RN6
open PySem PySem.Spec PyProof.Rows L2
theorem tuple_mulN (l : Addr) (items : Array Value) (n : Nat) (dd : Option Addr) (sl : Array (Option Value)) (x : Int) (u : Tok) (c0 : (decide (x < -(2 ^ 63)) || decide (x ≥ 2 ^ 63)) = false) (c1 : (items.isEmpty || x == 1) = false) (c2 : (decide (x ≤ 0) || items.isEmpty) = true) :
    Meets (Builtin.«tuple.__mul__» ⟨[.ref l, .int x u], []⟩) (fun _ R s => s.heap.get? l = some { cls := .type "tuple", dict := dd, data := .seq items n, slots := sl } ∧
      R (.ok (.ret (Value.ref s.heap.objs.size))) { s with heap := s.heap.push { cls := Value.type "tuple", data := Data.seq #[] }, toks := s.toks }) :=
  .of_wp fun prog w A R s h => by
    obtain ⟨hp, g, d, tk, os⟩ := s
    obtain ⟨hl, h⟩ := h
    have f1 := AutoSeq1.idx_int
    wp_walk using wpAny_loadPart' hl
    repeat (first
      | (refine wpAny_ite_false (decide_eq_false (by rw [c0]; exact Bool.false_ne_true)) ?_; wp_walk using wpAny_loadPart' hl)
      | (refine wpAny_ite_false (decide_eq_false (by rw [c1]; exact Bool.false_ne_true)) ?_; wp_walk using wpAny_loadPart' hl)
      | (refine wpAny_ite_true (decide_eq_true c2) ?_; wp_walk using wpAny_loadPart' hl))
    exact ⟨_, rfl, h⟩
def rRepN (K : PySem.W.Frag) : R2 := fun x y H Q => ∃ l k xs, x = .ref l ∧ y = .int k ∧ SqT K H l xs ∧ -1000 ≤ k ∧ k ≤ 1000 ∧ xs.length ≤ 1000 ∧ ∀ p H', (∀ b o, H b = some o → H' b = some o) → SqT K H' p (List.replicate k.toNat xs).flatten → Q (.ref p) H'
theorem op_repN {X : Cx} : OpR X (binaryOp .Mult) (rRepN X.K) := by
  intro pins s σ H x y v u Q I rx ry h
  obtain ⟨l, k, xs, rfl, rfl, hT, h1, h2, hz, q⟩ := h
  by_cases hk : 1 ≤ k
  · exact RR.op_repZ pins s σ H _ _ v u Q I rx ry ⟨l, k, xs, rfl, rfl, hT, hk, h2, hz, q⟩
  · have c0 : (decide (k < -(2 ^ 63)) || decide (k ≥ 2 ^ 63)) = false := by
      rw [decide_eq_false (by omega), decide_eq_false (by omega)]
      rfl
    have e0 : k.toNat = 0 := by omega
    cases rx
    obtain ⟨t, rfl⟩ := ry
    obtain ⟨its, r, ⟨⟨cls, dd, data, sl⟩, ho, hc, n, hd⟩, hs⟩ := I.tuple hT
    simp only at hc hd
    subst hc hd
    by_cases hne : xs = []
    · subst hne
      cases r
      refine wpAny_binaryOp_repeat_ref (T := "tuple") (U := "int") (by decide) ⟨_, ho, rfl⟩ (fun s' => typeIs_int s' k t) noFill_tuple_mul F.fills_int_mul F.slot_int_rmul repeat_tuple F.slot_int_index.lookup
        (call_meets F.slot_int_rmul (typeIs_int s k t) F.entry_int_rmul (F.args_int_rmul_2 _ _) (int_rmul_tuple k t l #[] n dd sl)
          ⟨ho, rfl, ⟨_, ho, rfl⟩, call_meets F.slot_tuple_mul ⟨_, ho, rfl⟩ F.entry_tuple_mul (F.args_tuple_mul_2 _ _) (RR.tuple_mul0 l n dd sl k t c0) ⟨ho, ?_⟩⟩)
      exact ⟨.ref l, H, I, rfl, q l H (fun _ _ h => h) (by rw [RR.flat_nil]; exact hT)⟩
    · have hle : its.length = xs.length := r.length.symm
      have hn : its ≠ [] := fun e => hne (by
        rw [e] at hle
        exact List.eq_nil_of_length_eq_zero hle.symm)
      have hi : its.toArray.isEmpty = false := by
        cases its with
        | nil => exact absurd rfl hn
        | cons a b => rfl
      have c1 : (its.toArray.isEmpty || k == 1) = false := by
        rw [hi, Bool.false_or]
        exact beq_eq_false_iff_ne.mpr (by omega)
      have c2 : (decide (k ≤ 0) || its.toArray.isEmpty) = true := by
        rw [decide_eq_true (by omega)]
        rfl
      refine wpAny_binaryOp_repeat_ref (T := "tuple") (U := "int") (by decide) ⟨_, ho, rfl⟩ (fun s' => typeIs_int s' k t) noFill_tuple_mul F.fills_int_mul F.slot_int_rmul repeat_tuple F.slot_int_index.lookup
        (call_meets F.slot_int_rmul (typeIs_int s k t) F.entry_int_rmul (F.args_int_rmul_2 _ _) (int_rmul_tuple k t l its.toArray n dd sl)
          ⟨ho, rfl, ⟨_, ho, rfl⟩, call_meets F.slot_tuple_mul ⟨_, ho, rfl⟩ F.entry_tuple_mul (F.args_tuple_mul_2 _ _) (tuple_mulN l its.toArray n dd sl k t c0 c1 c2) ⟨ho, ?_⟩⟩)
      have hf : H s.heap.objs.size = none := I.hok.fresh (Nat.le_refl _)
      refine ⟨.ref s.heap.objs.size, _, I.laid (t' := s.toks) (o := .tup []) (fun b ob q => Heap.get?_push_of_some _ q) (Nat.le_refl _) ?_, rfl, q _ _ (fun b o e => by rw [upd_ne (ne_of_none e hf)]; exact e) (SqT.of ?_)⟩
      · exact ⟨Nat.zero_le _, [], .nil, IsTup.new _ _⟩
      · rw [upd_same, e0]
        rfl
end RN6
/-! ### list.count of a flat thing -/
namespace CF6
open PySem PySem.Spec PyProof.Rows L2
theorem cnt_eqU {x : V} : ∀ {xs : List V} {us : List Value}, Vals xs us → xs.all flatV = true → us.countP (eqU x) = xs.countP fun y => eqV y x
  | _, _, .nil, _ => rfl
  | y :: xs, u :: us, .cons r t, f => by
    rw [List.all_cons, Bool.and_eq_true] at f
    rw [List.countP_cons, List.countP_cons, eqU_of r f.1, cnt_eqU t f.2]
def rCntF (K : PySem.W.Frag) : V → List V → Hp → VK → Prop := fun x xs H Q => ∃ (p : Addr) (ys : List V) (z : V), x = .ref p ∧ xs = [z] ∧ SqL K H p ys ∧ flatV z = true ∧ ys.all flatV = true ∧ Q (.int (ys.countP fun y => eqV y z : Nat)) H
theorem mt_countF {X : Cx} : MtR X "list.count" (rCntF X.K) := by
  intro pins s σ H x xs v us Q I rx rxs h
  obtain ⟨p, ys, z, rfl, rfl, hs, fz, fy, q⟩ := h
  cases rx
  obtain ⟨u, rfl, ru⟩ := rxs.one
  obtain ⟨its, rv, ⟨⟨cls, dd, data, sl⟩, n, ho, hc, hdn, hd⟩, hlen⟩ := I.list hs
  simp only at hc hd
  subst hc hd
  refine call_meets PySem.F.slot_list_count ⟨_, ho, rfl⟩ PySem.F.entry_list_count (PySem.F.args_list_count_2 _ _)
    (SeqAt.list_countAt p its.toArray n dd sl u (eqU z)) ⟨ho, fun y hy => mem_eqAt ru fz rv fy y (by simpa using hy), .int (ys.countP fun y => eqV y z : Nat), H, I.tok _, ⟨s.toks, ?_⟩, q⟩
  rw [← cnt_eqU rv fy, List.toList_toArray]
end CF6

/-! ### an own exception without fields: raised, asked -/
namespace EXN
open PySem PySem.Spec PyProof.Rows L2
section
variable {X : Cx} {pins : List (Addr × Obj)} {σ : L2.St}
theorem mk_endN {H1 : Hp} {hp hp2 h2 : Heap} {g1 g2 : Array GenState} {d1 d2 : Drawn} {t1 t2 : Nat} {os1 os2 : OsState} {a C : Addr} (I1 : Inv X pins σ H1 ⟨hp, g1, d1, t1, os1⟩)
    (ha : hp.objs.size ≤ a) (k : ∀ b o, hp.get? b = some o → hp2.get? b = some o) (un : Un (frs X.stack) [] (upd H1 a (exo a C none)) (upd H1 a (exo a C none)) hp2 h2) (hok : HOk X.prog X.w (upd H1 a (exo a C none)) h2) (ho : os2 = os1) (hb : AllBare g2) :
    ∃ (t0 : Addr) (G : Heap), Inv X pins σ H1 ⟨G, g2, d2, t2, os2⟩ ∧ (∀ b o, G.get? b = some o → h2.get? b = some o) ∧ G.get? a = none ∧
      h2.get? a = some ({ cls := .ref C, dict := none, data := .fields #[.ref t0, .none, .none, .none, .bool false, .none] } : Obj) ∧ H1 a = none := by
  obtain ⟨t0, hoe⟩ := exo_at hok upd_same
  have hn : H1 a = none := I1.hok.fresh ha
  obtain ⟨G, g1', g2'⟩ := restrict h2 fun b => decide (b ≠ a)
  have gk : ∀ b, b ≠ a → G.get? b = h2.get? b := fun b hb => g1' b (decide_eq_true hb)
  have ge : G.get? a = none := g2' a (by simp)
  have nha : ∀ {b : Addr} {o : Obj}, hp.get? b = some o → b ≠ a := fun {b o} z => Nat.ne_of_lt (Nat.lt_of_lt_of_le (Heap.lt_size z) ha)
  have up : ∀ {b : Addr}, b ≠ a → H1 b = none → upd H1 a (exo a C none) b = none := fun {b} hb n => by rw [upd_ne hb]; exact n
  have U : Un (frs X.stack) [] H1 H1 hp G := {
    keep := fun b o z n hf hx => by
      rw [gk b (nha z)]
      exact un.keep b o (k b o z) (up (nha z) n) hf hx
    slot := fun b o z n hf hx => by
      rw [gk b (nha z)]
      exact un.slot b o (k b o z) (up (nha z) n) hf hx
    free := fun b o z n hx => n
    there := fun b o z hx => by
      rw [gk b (nha z)]
      exact un.there b o (k b o z) hx
    tups := fun b xs z => z
    frzs := fun b o v z => z
    tbls := fun b ps z => ⟨#[], by rw [z]; simp⟩ }
  have hok3 : HOk X.prog X.w H1 G := fun b o z => by
    have hba : b ≠ a := ne_of_none z hn
    have z' : upd H1 a (exo a C none) b = some o := by rw [upd_ne hba]; exact z
    refine (hok b o z').stay (fun c v hc y => ?_) (fun c hc => ?_) (fun c xs hc => ?_)
    · have hca : c ≠ a := by
        rcases hc with hc | hc
        · rw [hc]
          exact hba
        · exact at_ne (upd_same (H := H1) (o := exo a C none)) hc exo_own
      rw [gk c hca]
      exact y
    · have hca : c ≠ a := at_ne (upd_same (H := H1) (o := exo a C none)) hc exo_own
      rw [upd_ne hca] at hc
      exact hc
    · have hca : c ≠ a := at_ne (upd_same (H := H1) (o := exo a C none)) hc exo_tup
      rw [upd_ne hca] at hc
      exact hc
  have J : Inv X pins σ H1 ⟨G, g2, d2, t2, os2⟩ := I1.call' (ch := []) ho U hok3 hb (fun b z => absurd z (by simp))
  refine ⟨t0, G, J, fun b o z => ?_, ge, hoe, hn⟩
  by_cases hba : b = a
  · rw [hba, ge] at z
    cases z
  · exact (gk b hba).symm.trans z
/-- C(), C an exception class whose own __init__ does nothing -/
theorem pmk_oex0 {CX : CXT} {x : Str} {C fI : Addr} {k : Nat} {fd : FuncData} {sp : Sp} {p pos : Pos} (T : OexC X.K C) (iC : PySem.W.findIn X.K (.ref C) "__init__" = some (some (.ref fI))) (tI : PySem.W.typeIn X.K (.ref fI) = some (.type "function"))
    (F1 : FnOk X.prog X.w X.K X.mg X.base CX k fI fd ["self"] sp) (hsp : ∀ (a : Addr) (H : Hp) (Q : VK) (E : XK), Q .non H → sp [.ref a] H Q E) (hr : Room (k + 1) X.A) (hb : Binds X.K fd ["self"] []) (hx : Passes CX X (fun _ _ _ => False)) (hg : Gl X x) (hm : X.mg x = some (.ref C))
    (hdb : (x == ("__debug__" : Str)) = false := by decide) :
    PMk X (.Call (.Name x p) [] [] pos) (fun _ H Q => Q (.ref C) none H) := by
  intro pins s σ H Q I h
  obtain ⟨nm, q, N, bs, bm, sn, sub, ab, col, dd, k0, k1, k2, k3, k5, hC, hbm⟩ := T.cls
  refine wpAny_Call_Name_kw (ld_glob I hg hm ?_ hdb)
  refine PySem.W.callWith_K0 I.kIn T.kC ?_
  show wpAny _ _ (call (.ref C) []) _ _ _
  obtain ⟨hp, g, dr, tk, os⟩ := s
  have hsz : hp.objs.size ≤ hp.objs.size + 1 := Nat.le_succ _
  have kk : ∀ b o, hp.get? b = some o → ((hp.push (PySem.W.kdv_tup [])).push (PySem.HandSPX.excO C hp.objs.size)).get? b = some o := fun b o e => Heap.get?_push_of_some _ (Heap.get?_push_of_some _ e)
  have hget : ((hp.push (PySem.W.kdv_tup [])).push (PySem.HandSPX.excO C hp.objs.size)).get? (hp.objs.size + 1) = some (PySem.HandSPX.excO C hp.objs.size) := by heap_get
  have I2 : Inv X pins σ (upd H (hp.objs.size + 1) (exo (hp.objs.size + 1) C none)) ⟨(hp.push (PySem.W.kdv_tup [])).push (PySem.HandSPX.excO C hp.objs.size), g, dr, tk, os⟩ :=
    I.laid (t' := tk) (a := hp.objs.size + 1) (o := exo (hp.objs.size + 1) C none) (h' := (hp.push (PySem.W.kdv_tup [])).push (PySem.HandSPX.excO C hp.objs.size)) kk hsz (exo_ok hget)
  have r2 : Vals [V.ref (hp.objs.size + 1)] [Value.ref (hp.objs.size + 1)] := .cons rfl .nil
  refine wpAny_call (PySem.HandSPX.call_own F.excBase_ValueError (fun Y => PySem.HandSPX.refsVE_contains Y bm hbm) (I.kIn _ _ hC) (PySem.W.looks_findIn I.kIn iC) (fun self => PySem.W.bind_fn I.kIn self tI) (Nat.zero_le _)
    (codeAny_mono (F1.run _ X.stack _ _ ⟨[Value.ref (hp.objs.size + 1)], []⟩ [Value.ref (hp.objs.size + 1)] _ (fun v H3 => v = .non ∧ H3 = upd H (hp.objs.size + 1) (exo (hp.objs.size + 1) C none)) (fun _ _ _ => False) (hr.make C [] []) (I2.env0.make C [] []) (hb _ [Value.ref (hp.objs.size + 1)] I2.kIn rfl) r2 (hsp _ _ _ _ ⟨rfl, rfl⟩)) fun r s' hq' => ?_))
  cases r with
  | error er => exact hx pins σ _ _ er s' I2 hq'
  | ok fl =>
    cases fl with
    | ret u =>
      obtain ⟨v, H2, os2, bare2, un2, hok2, rv, ev, eH⟩ := hq'
      subst ev
      subst eH
      obtain ⟨h2, g2, d2, t2, os'⟩ := s'
      refine ⟨rv, ?_⟩
      obtain ⟨t0, G, J, kG, ge, hoe, na⟩ := mk_endN (d2 := d2) (t2 := t2) I hsz kk un2 hok2 os2 bare2
      exact ⟨_, _, _, ⟨G, g2, d2, t2, os'⟩, _, .ref C, none, rfl, J, kG, ge, hoe, ⟨rfl, rfl⟩, rfl, rfl, na, rfl, bare2, raises_own T.exC T.tyC, h⟩
    | next => exact False.elim hq'
    | brk => exact False.elim hq'
    | cont => exact False.elim hq'
/-- the same, its context known to be None -/
theorem pmk_oex0N {CX : CXT} {x : Str} {C fI : Addr} {k : Nat} {fd : FuncData} {sp : Sp} {p pos : Pos} (T : OexC X.K C) (iC : PySem.W.findIn X.K (.ref C) "__init__" = some (some (.ref fI))) (tI : PySem.W.typeIn X.K (.ref fI) = some (.type "function"))
    (F1 : FnOk X.prog X.w X.K X.mg X.base CX k fI fd ["self"] sp) (hsp : ∀ (a : Addr) (H : Hp) (Q : VK) (E : XK), Q .non H → sp [.ref a] H Q E) (hr : Room (k + 1) X.A) (hb : Binds X.K fd ["self"] []) (hx : Passes CX X (fun _ _ _ => False)) (hg : Gl X x) (hm : X.mg x = some (.ref C))
    (hdb : (x == ("__debug__" : Str)) = false := by decide) :
    L2N.PMk X (.Call (.Name x p) [] [] pos) (fun _ H Q => Q (.ref C) none H) := by
  intro pins s σ H Q I h
  obtain ⟨nm, q, N, bs, bm, sn, sub, ab, col, dd, k0, k1, k2, k3, k5, hC, hbm⟩ := T.cls
  refine wpAny_Call_Name_kw (ld_glob I hg hm ?_ hdb)
  refine PySem.W.callWith_K0 I.kIn T.kC ?_
  show wpAny _ _ (call (.ref C) []) _ _ _
  obtain ⟨hp, g, dr, tk, os⟩ := s
  have hsz : hp.objs.size ≤ hp.objs.size + 1 := Nat.le_succ _
  have kk : ∀ b o, hp.get? b = some o → ((hp.push (PySem.W.kdv_tup [])).push (PySem.HandSPX.excO C hp.objs.size)).get? b = some o := fun b o e => Heap.get?_push_of_some _ (Heap.get?_push_of_some _ e)
  have hget : ((hp.push (PySem.W.kdv_tup [])).push (PySem.HandSPX.excO C hp.objs.size)).get? (hp.objs.size + 1) = some (PySem.HandSPX.excO C hp.objs.size) := by heap_get
  have I2 : Inv X pins σ (upd H (hp.objs.size + 1) (exo (hp.objs.size + 1) C none)) ⟨(hp.push (PySem.W.kdv_tup [])).push (PySem.HandSPX.excO C hp.objs.size), g, dr, tk, os⟩ :=
    I.laid (t' := tk) (a := hp.objs.size + 1) (o := exo (hp.objs.size + 1) C none) (h' := (hp.push (PySem.W.kdv_tup [])).push (PySem.HandSPX.excO C hp.objs.size)) kk hsz (exo_ok hget)
  have r2 : Vals [V.ref (hp.objs.size + 1)] [Value.ref (hp.objs.size + 1)] := .cons rfl .nil
  refine wpAny_call (PySem.HandSPX.call_own F.excBase_ValueError (fun Y => PySem.HandSPX.refsVE_contains Y bm hbm) (I.kIn _ _ hC) (PySem.W.looks_findIn I.kIn iC) (fun self => PySem.W.bind_fn I.kIn self tI) (Nat.zero_le _)
    (codeAny_mono (F1.run _ X.stack _ _ ⟨[Value.ref (hp.objs.size + 1)], []⟩ [Value.ref (hp.objs.size + 1)] _ (fun v H3 => v = .non ∧ H3 = upd H (hp.objs.size + 1) (exo (hp.objs.size + 1) C none)) (fun _ _ _ => False) (hr.make C [] []) (I2.env0.make C [] []) (hb _ [Value.ref (hp.objs.size + 1)] I2.kIn rfl) r2 (hsp _ _ _ _ ⟨rfl, rfl⟩)) fun r s' hq' => ?_))
  cases r with
  | error er => exact hx pins σ _ _ er s' I2 hq'
  | ok fl =>
    cases fl with
    | ret u =>
      obtain ⟨v, H2, os2, bare2, un2, hok2, rv, ev, eH⟩ := hq'
      subst ev
      subst eH
      obtain ⟨h2, g2, d2, t2, os'⟩ := s'
      refine ⟨rv, ?_⟩
      obtain ⟨t0, G, J, kG, ge, hoe, na⟩ := mk_endN (d2 := d2) (t2 := t2) I hsz kk un2 hok2 os2 bare2
      exact ⟨_, _, _, ⟨G, g2, d2, t2, os'⟩, _, .ref C, none, rfl, J, kG, ge, hoe, ⟨rfl, rfl, fun vs e => by cases e; rfl⟩, rfl, rfl, na, rfl, bare2, raises_own T.exC T.tyC, h⟩
    | next => exact False.elim hq'
    | brk => exact False.elim hq'
    | cont => exact False.elim hq'
/-- isinstance(e, c), e the caught exception without fields: of one of several classes -/
def rIsN (K : PySem.W.Frag) (cls : Value) (d : Option Addr) (a : Addr) : List V → Hp → VK → Prop := fun xs H Q => ∃ (D : Addr) (c : V) (cv : Value) (b : Bool), xs = [.ref a, c] ∧ cls = .ref D ∧ d = none ∧ ExcC K D ∧ ClsV c cv ∧ PySem.W.kitOne K (.ref D) cv = some b ∧ Q (.bl b) H
theorem call_isN {X : Cx} {a : Addr} {oe : Obj} {cls : Value} {d : Option Addr} {pn : List (Addr × Obj)} (hz : Zc cls d oe) (hf : ∃ vs, oe.data = .fields vs) : CallR (X.suite a ((a, oe) :: pn)) (.builtin "isinstance") (rIsN X.K cls d a) := by
  intro pins s σ H xs us Q I r h
  obtain ⟨D, c, cv, b, rfl, ec, ed, C, hcv, e, q⟩ := h
  subst ec
  subst ed
  exact call_isE (a := a) C hz hf pins s σ H _ us Q I r ⟨c, cv, b, rfl, fun u r => hcv.eq r, e, q⟩
/-- a method where the frame is named (within a try or its suite) -/
theorem pe_bmK {X : Cx} {K : PySem.W.Frag} {T : String} {name : Str} {id : String} {r : V → List V → Hp → VK → Prop} {o e : Expr} {es : List Expr} {to : TE} {t : TA} {apos cpos : Pos} (h : X.K = K) (pa : PlainAttrs T) (slot : Slot T name id) (hty : typeOf (.builtin id) = pure (.type "method_descriptor")) (hm : MtR X id r) (ho : PE X o to) (ha : PA X (e :: es) t)
    (hbase : attributeBase o name X.env (eval o X.env) = eval o X.env := by rfl)
    (hfew : ((backTo cpos (starEach (e :: es) X.env)).all (fun x => !x.1) && (backToKw cpos (keywordEach [] X.env)).all (fun x => x.1.isSome)
      && decide ((e :: es).length + ([] : List Keyword).length + (if ([] : List Keyword).isEmpty then 0 else 1) < 30)) = true := by rfl)
    (hline : (apos.endLine == cpos.line) = true := by rfl) (hs : starEach (e :: es) X.env = (false, eval e X.env) :: starEach es X.env := by rfl) (hplain : (backTo cpos (starEach es X.env)).any (·.1) = false := by rfl) :
    PE X (.Call (.Attribute o name apos) (e :: es) [] cpos) (tBM K T r to t) := h ▸ pe_bm pa slot hty hm ho ha hbase hfew hline hs hplain
def rJoin (K : PySem.W.Frag) : V → List V → Hp → VK → Prop := fun x xs H Q => ∃ a p, ∃ ys : List Str, x = .str a ∧ xs = [.ref p] ∧ (SqL K H p (ys.map V.str) ∨ SqT K H p (ys.map V.str)) ∧ (ys.map (·.length)).sum + ys.length * a.length ≤ 16777216 ∧ Q (.str (Txt.join a ys)) H
theorem mt_joinK {X : Cx} {K : PySem.W.Frag} (h : X.K = K) : MtR X "str.join" (rJoin K) := h ▸ mt_join
end
end EXN
/-! ### what a def promises, taken together -/
namespace FN11
open PySem PySem.Spec PyProof.Rows L2
section
variable {P : Program} {w : World} {K : PySem.W.Frag} {mg : Str → Option Value} {base : Heap} {k : Nat} {f : Addr} {fd : FuncData} {ps : List Str} {sp sp' : Sp}
/-- what raises nothing may be called where something is let out -/
theorem lift {CX : CXT} (F : FnOk P w K mg base CX0 k f fd ps sp) : FnOk P w K mg base CX k f fd ps sp :=
  ⟨F.len, fun A outer s H args us vs Q E hr e0 hb r h => codeAny_mono (F.run A outer s H args us vs Q E hr e0 hb r h) fun r s' hq => by
    cases r with
    | error e => exact (show False from hq).elim
    | ok fl =>
      cases fl with
      | ret u => exact hq
      | next => exact False.elim hq
      | brk => exact False.elim hq
      | cont => exact False.elim hq⟩
/-- either -/
theorem or {CX : CXT} (F : FnOk P w K mg base CX k f fd ps sp) (G : FnOk P w K mg base CX k f fd ps sp') : FnOk P w K mg base CX k f fd ps (fun vs H Q E => sp vs H Q E ∨ sp' vs H Q E) :=
  ⟨fun vs H Q E h => h.elim (F.len vs H Q E) (G.len vs H Q E), fun A outer s H args us vs Q E hr e0 hb r h => h.elim (F.run A outer s H args us vs Q E hr e0 hb r) (G.run A outer s H args us vs Q E hr e0 hb r)⟩
end
end FN11
/-! ### [.. for .. in range(..)] where an exception is handled -/
namespace HL11
open PySem PySem.Spec PyProof.Rows L2
open L2H (HotC PIH)
/-- the block's context with the handled exception's object in it -/
abbrev withP (Y : Cx) (p : Addr × Obj) : Cx := { Y with pn := [p] }
theorem toP {Y : Cx} {p : Addr × Obj} {σ : L2.St} {H : Hp} {s : Shared} (hY : Y.pn = []) (I : Inv Y [p] σ H s) : Inv (withP Y p) [] σ H s :=
  have o := I.ok
  ⟨⟨o.mod, o.kind, o.glob, o.blt, o.above, o.inj, o.has, o.cab, o.hd, o.frames, o.stk, o.exf, o.bs, o.bsz, o.noex, o.exfs, o.funs, o.frf⟩, I.os, I.bare, I.base, I.loc, I.cell, I.free, I.freeC,
    fun x hx => I.pin x (by rw [hY]; simpa using hx), I.hok, I.len⟩
theorem ofP {Y : Cx} {p : Addr × Obj} {σ : L2.St} {H : Hp} {s : Shared} (hY : Y.pn = []) (I : Inv (withP Y p) [] σ H s) : Inv Y [p] σ H s :=
  have o := I.ok
  ⟨⟨o.mod, o.kind, o.glob, o.blt, o.above, o.inj, o.has, o.cab, o.hd, o.frames, o.stk, o.exf, o.bs, o.bsz, o.noex, o.exfs, o.funs, o.frf⟩, I.os, I.bare, I.base, I.loc, I.cell, I.free, I.freeC,
    fun x hx => I.pin x (by rw [hY] at hx; simpa using hx), I.hok, I.len⟩
section
variable {X : Cx}
theorem lc_hot {pins : List (Addr × Obj)} {s : Shared} {σ : L2.St} {H : Hp} {Q : VK} {elt tg iter : Expr} {ifs : List Expr} {scope : Scope} {own : List (Str × Nat)} {pos pos' : Pos} {wi : TI} {g : TG} {tt : TT} {te : TE}
    (hot : HotC X) (hN : X.N.Nodup) (I : Inv X pins σ H s) (hi : PIH X tg iter wi) (ok : BlkOk X.N X.env.scope scope own)
    (hg : ∀ s H C cl fp, PG (X.blk s H scope (compEnvC scope cl C X.env) fp) tg g) (ht : ∀ s H C cl fp, PTs (X.blk s H scope (compEnvC scope cl C X.env) fp) ifs tt)
    (he : ∀ s H C cl fp, PE (X.blk s H scope (compEnvC scope cl C X.env) fp) elt te) (hs : ∀ x, foldedSetIterable iter X.env x = pure x)
    (want : tLc wi g tt te (own.map (·.2)) σ H Q) :
    wpAny (model X.prog X.w) X.A (comprehension (.ListComp elt [⟨tg, iter, ifs, 0⟩] scope pos) scope X.env pos' (newList []) false (eval iter X.env) none) (EP X pins σ Q) X.xe s := by
  obtain ⟨p, hp1, hpm⟩ := hot
  have caught : ∀ y ∈ scope.names, y.2 = .free → ∃ c, X.env.cells.lookup y.1 = some c := fun y hy e => (ok.free y hy e).elim (fun k => I.ok.has _ (.inl k)) fun k => I.ok.has _ (.inr k)
  refine wpAny_comprehension_free (use := none) rfl hs (closure_ok caught) ok.kind (fun y hy e => (ok.uniq y hy).trans (by rw [e])) (thn (hi.run pins s σ H _ I want) fun _ _ hx => thn hx fun _ sI got => ?_)
  obtain ⟨it, fp, tn, J, HI, e, JI, T, tn0, fOk, q⟩ := got
  subst e
  refine wpAny_newObj_type (newEnv_comp ?_) (Nat.zero_le _)
  obtain ⟨D, eD⟩ : ∃ D, D = sI.heap.objs.size := ⟨_, rfl⟩
  rw [← eD]
  have nD : HI D = none := JI.hok.fresh (Nat.le_of_eq eD.symm)
  obtain ⟨W, ⟨m0, w0⟩, turn⟩ := q D nD
  obtain ⟨sL, esL⟩ : ∃ sL : Shared, sL = { sI with heap := sI.heap.push { cls := .type "list", data := .seq ([] : List Value).toArray } } := ⟨_, rfl⟩
  have hL : sL.heap = sI.heap.push { cls := .type "list", data := .seq ([] : List Value).toArray } := by rw [esL]
  have grow : ∀ b o, sI.heap.get? b = some o → sL.heap.get? b = some o := fun b o e => by rw [hL]; exact Heap.get?_push_of_some _ e
  have JL : Inv X pins σ (upd HI D (.lst [])) sL := by
    rw [esL]
    refine JI.laid (t' := sI.toks) (o := .lst []) (fun b o e => Heap.get?_push_of_some _ e) (Nat.le_of_eq eD.symm) ?_
    refine ⟨Nat.zero_le _, [], 0, .nil, ?_⟩
    rw [eD]
    exact Heap.get?_push_size _ rfl
  have small : ∀ b ∈ fp, b < sI.heap.objs.size := fun b hb => let ⟨_, e, _⟩ := T.obj _ _ tn0 b hb; Heap.lt_size e
  have fL : ∀ b ∈ fp, FpOk X pins (upd HI D (.lst [])) b ∧ b < sL.heap.objs.size := fun b hb => by
    have lt := small b hb
    have ne : b ≠ D := by rw [eD]; exact Nat.ne_of_lt lt
    exact ⟨⟨(upd_ne ne).trans (fOk b hb).1, (fOk b hb).2⟩, by rw [hL, Heap.size_push]; exact Nat.lt_succ_of_lt lt⟩
  have tnL : tn 0 sL.heap := T.keep _ _ _ tn0 fun b _ o e => grow b o e
  have JB := block_start JL ok hN fL
  have PGb := hg sL (upd HI D (.lst [])) sL.heap.objs.size (cellsFrom (sL.heap.objs.size + 1) scope.names (cloFrom X.env.cells scope.names [])) fp
  have PTb := ht sL (upd HI D (.lst [])) sL.heap.objs.size (cellsFrom (sL.heap.objs.size + 1) scope.names (cloFrom X.env.cells scope.names [])) fp
  have PEb := he sL (upd HI D (.lst [])) sL.heap.objs.size (cellsFrom (sL.heap.objs.size + 1) scope.names (cloFrom X.env.cells scope.names [])) fp
  rw [← esL]
  show codeAny _ _ (.compStart _ 0 (.ref it) (.ref D) (compEnvC scope (cellsFrom (sL.heap.objs.size + 1) scope.names (cloFrom X.env.cells scope.names [])) sL.heap.objs.size X.env)) (compPost (model X.prog X.w) X.A X.xe none (EP X pins σ Q) (.ref D) sL.heap.objs.size) { sL with heap := pushCells (sL.heap.push { cls := .type "dict", data := .dict #[] }) scope.names }
  have nF : ∀ b ∈ fp, (upd HI D (.lst [])) b = none := fun b hb => (fL b hb).1.1
  obtain ⟨ce, ece⟩ : ∃ ce, ce = compEnvC scope (cellsFrom (sL.heap.objs.size + 1) scope.names (cloFrom X.env.cells scope.names [])) sL.heap.objs.size X.env := ⟨_, rfl⟩
  have lce : ce.locals = sL.heap.objs.size := by rw [ece]; rfl
  rw [← ece] at JB PGb PTb PEb ⊢
  obtain ⟨HL, eHL⟩ : ∃ HL, HL = upd HI D (.lst []) := ⟨_, rfl⟩
  rw [← eHL] at JL JB PGb PTb PEb w0 nF fL
  obtain ⟨sB, esB⟩ : ∃ sB : Shared, sB = { sL with heap := pushCells (sL.heap.push { cls := .type "dict", data := .dict #[] }) scope.names } := ⟨_, rfl⟩
  rw [← esB] at JB ⊢
  have tnB : tn 0 sB.heap := T.keep _ _ _ tnL fun b _ o e => by rw [esB]; exact pushCells_keeps _ _ _ _ (Heap.get?_push_of_some _ e)
  -- the handled exception's object stands through the block
  obtain ⟨pg1, pg2, pg3, pg4, pg5⟩ := JL.pin p (List.mem_append_left _ hpm)
  have pFp : p.1 ∉ fp := fun hb => (fL p.1 hb).1.2.2.2.2.2 p (List.mem_append_left _ hpm) rfl
  have pinned : ∀ {σ' : L2.St} {H' : Hp} {s' : Shared}, Inv (X.blk sL HL scope ce fp) [] σ' H' s' → Inv (X.blk sL HL scope ce fp) [p] σ' H' s' := fun {σ' H' s'} K => by
    refine K.pins_of fun x hx => ?_
    have ex : x = p := by simpa using hx
    rw [ex]
    have nfr : p.1 ∉ frs X.stack := fun z => by
      rcases List.mem_cons.mp (JL.stkSub _ z) with z | z
      · exact pg3 z
      · exact pg4 z
    refine ⟨K.base.keep p.1 p.2 pg1 pg2 nfr pFp, K.base.free p.1 p.2 pg1 pg2 pFp, fun z => ?_, nfr, pg5⟩
    have z' : p.1 = ce.locals := z
    rw [lce] at z'
    exact absurd (Heap.lt_size pg1) (by rw [z']; exact Nat.lt_irrefl _)
  have hotB : HotC (withP (X.blk sL HL scope ce fp) p) := ⟨p, hp1, List.mem_singleton.mpr rfl⟩
  have fpB : ∀ {σ' : L2.St} {H' : Hp} {s' : Shared}, Inv (X.blk sL HL scope ce fp) [p] σ' H' s' → (∀ b ∈ fp, H' b = none) → ∀ b ∈ fp, FpOk (withP (X.blk sL HL scope ce fp) p) [] H' b := fun {σ' H' s'} K hn b hb =>
    ⟨hn b hb, (K.ok.exf b hb).1, K.ok.exfs b hb, .inl hb, fun x c e => (K.ok.exf b hb).2 x c e, fun x hx z => by
      have ex : x = p := by simpa using hx
      rw [ex] at z
      exact pFp (z ▸ hb)⟩
  refine codeAny_compStart_list ?_ (T.self X.A 0 _ _ _ tnB ?_)
  all_goals
    refine compLoop_any (fun n s' => ∃ i H', Inv (X.blk sL HL scope ce fp) [] (wipe σ (own.map (·.2))) H' s' ∧ tn i s'.heap ∧ (∀ b ∈ fp, H' b = none) ∧ W i n H') ?_ m0 ⟨0, HL, JB, tnB, nF, w0⟩
    rintro n s5 ⟨i, H5, K5, tn5, n5, w5⟩
    have P5 := pinned K5
    rcases turn i n H5 w5 with ⟨stop, fin⟩ | ⟨go, Nx, hNx, step⟩
    · refine thnF (T.done (withP (X.blk sL HL scope ce fp) p) rfl rfl rfl hotB i [] s5 _ H5 (fun _ _ => False) (toP rfl P5) (fpB P5 n5) tn5 stop) fun r s6 ⟨er, K6⟩ => ?_
      subst er
      have J6 : Inv X pins σ H5 s6 := JL.call' (ch := fp) K6.os K6.base K6.hok K6.bare fun b hb => let f := (fL b hb).1.2; ⟨f.2.2.1, f.1, f.2.2.2.1, f.2.2.2.2⟩
      have free6 : H5 sL.heap.objs.size = none := by
        have z := K6.free
        rw [show (withP (X.blk sL HL scope ce fp) p).env.locals = ce.locals from rfl, lce] at z
        exact z
      obtain ⟨m, ns6, _⟩ := K6.loc
      rw [show (withP (X.blk sL HL scope ce fp) p).env.locals = ce.locals from rfl, lce] at ns6
      obtain ⟨g0, g1, g2, g3, g4, g5⟩ := JL.fpOk (Nat.le_refl _) free6
      exact ⟨m, ns6, fun h'' sb => ⟨.ref D, H5, J6.turned (t' := s6.toks) (fun b o hb e => (sb.2 b hb).trans e) g0 g1 g3 g4 g5, rfl, fin⟩⟩
    · refine thnF (T.item (withP (X.blk sL HL scope ce fp) p) rfl rfl rfl hotB i [] s5 _ H5 (fun _ _ => False) (toP rfl P5) (fpB P5 n5) tn5 go) fun r s6 ⟨u, er, h6⟩ => ?_
      subst er
      refine thnF h6 fun _ s7 ⟨x, H7, K7, rx, y7, tn7, n7⟩ => ?_
      have P7 := ofP (Y := X.blk sL HL scope ce fp) rfl K7
      have Q7 : Inv (X.blk sL HL scope ce fp) ([p] ++ pinsAt fp s7.heap) _ H7 s7 := P7.pinned (fun b hb => by
        obtain ⟨a1, a2, a3, a4, a5, a6⟩ := fpB P7 n7 b hb
        exact ⟨a1, a2, a3, a4, a5, fun x hx => a6 x (by simpa using hx)⟩) (T.obj _ _ tn7)
      refine thnF (PGb.run _ s7 _ H7 x u _ Q7 rx (step x H7 y7)) fun _ s8 ⟨σ8, H8, K8, w8, q8⟩ => ?_
      refine thnF (PTb.run _ s8 σ8 H8 _ K8 q8) fun b s9 ⟨H9, K9, q9⟩ => ?_
      have last : ∀ {s' : Shared} {H' : Hp}, Inv (X.blk sL HL scope ce fp) ([p] ++ pinsAt fp s7.heap) σ8 H' s' → Nx H' → ∃ m, m < n ∧ ∃ i H', Inv (X.blk sL HL scope ce fp) [] (wipe σ (own.map (·.2))) H' s' ∧ tn i s'.heap ∧ (∀ b ∈ fp, H' b = none) ∧ W i m H' := fun {s' H'} K nx => by
        obtain ⟨m', lt, w'⟩ := hNx H' nx
        have held : ∀ b ∈ fp, ∀ o, s7.heap.get? b = some o → s'.heap.get? b = some o ∧ H' b = none := fun b hb o e =>
          let z := K.pin (b, o) (List.mem_append_right _ (List.mem_append_right _ (mem_pinsAt hb e)))
          ⟨z.1, z.2.1⟩
        have K' : Inv (X.blk sL HL scope ce fp) [] σ8 H' s' := (K.unpinned (pins := [p]) (pl := pinsAt fp s7.heap)).pins_of fun _ hx => absurd hx (by simp)
        refine ⟨m', lt, i + 1, H', K'.weak (by rw [← w8, wipe_length]) (fun j v e => (wipe_some (by rw [w8]; exact e)).1), T.keep _ _ _ tn7 fun b hb o e => (held b hb o e).1, fun b hb => ?_, w'⟩
        obtain ⟨o, e, _⟩ := T.obj _ _ tn7 b hb
        exact (held b hb o e).2
      cases b with
      | false => exact last K9 q9
      | true => exact thnF (PEb.run _ s9 σ8 H9 _ K9 q9) fun z s10 ⟨yv, H10, K10, r10, acc, eD10, z10, nx⟩ => app_ok (X := X.blk sL HL scope ce fp) K10 eD10 z10 r10 fun s11 K11 => last K11 nx
theorem hotS {Y : Cx} {a : Addr} {oe : Obj} {cls : Value} {d : Option Addr} {pn : List (Addr × Obj)} (hz : L2N.Zn cls d oe) (hf : ∃ vs, oe.data = .fields vs) : HotC (Y.suite a ((a, oe) :: pn)) :=
  let ⟨vs, hv⟩ := hf
  ⟨(a, oe), ⟨rfl, vs, hv, hz.2.2 vs hv⟩, List.mem_cons_self⟩
theorem pe_lcH {elt tg iter : Expr} {ifs : List Expr} {scope : Scope} {own : List (Str × Nat)} {pos : Pos} {wi : TI} {g : TG} {tt : TT} {te : TE} (hot : HotC X) (hN : X.N.Nodup) (hi : PIH X tg iter wi) (ok : BlkOk X.N X.env.scope scope own)
    (hg : ∀ (s : Shared) (H : Hp) (C : Addr) (cl : List (Str × Addr)) (fp : List Addr), PG (X.blk s H scope (compEnvC scope cl C X.env) fp) tg g) (ht : ∀ (s : Shared) (H : Hp) (C : Addr) (cl : List (Str × Addr)) (fp : List Addr), PTs (X.blk s H scope (compEnvC scope cl C X.env) fp) ifs tt)
    (he : ∀ (s : Shared) (H : Hp) (C : Addr) (cl : List (Str × Addr)) (fp : List Addr), PE (X.blk s H scope (compEnvC scope cl C X.env) fp) elt te) (hs : ∀ x, foldedSetIterable iter X.env x = pure x := by intro _; rfl) :
    PE X (.ListComp elt [⟨tg, iter, ifs, 0⟩] scope pos) (tLc wi g tt te (own.map (·.2))) := by
  refine ⟨fun pins s σ H Q I h => ?_⟩
  rw [eval_ListComp]
  exact lc_hot hot hN I hi ok hg ht he hs h
end
end HL11
/-! ### a def that may raise, its exceptions' context None -/
namespace HL11
open PySem PySem.Spec PyProof.Rows L2
theorem takes0N {X : Cx} : L2N.Takes X (fun _ _ _ _ => False) := fun _ _ x => by
  obtain ⟨_, _, _, _, _, _, _, _, _, _, _, _, _, _, _, _, z⟩ := x
  exact z.elim
theorem okN {P : Program} {w : World} {K : PySem.W.Frag} {mg : Str → Option Value} {base : Heap} {x qual : Str} {st : Stmt} {f : Addr} {fd : FuncData} {N ps : List Str} {k : Nat} {sp : Sp} (F : Fun K x qual st f fd) (S : FnScope N ps (defScope st)) (many : ∀ vs H Q E, sp vs H Q E → vs.length = ps.length)
    (body : ∀ (cdv : Value) (A : Around) (outer : List Env) (s : Shared) (H : Hp) (vs : List V) (Q : VK) (E : XK), Room k (A.deeper (envOfC qual (defScope st) s.heap.objs.size f cdv)) → sp vs H Q E →
      ∃ t, PSs (cxOf (L2N.CX P w) P w K mg base N qual (defScope st) f cdv A outer s H E) (defBody st) t ∧ t { nx := fun _ H' => Q .non H', rt := Q } (L2.start N vs) H) : FnOk P w K mg base (L2N.CX P w) (k + 1) f fd ps sp := by
  obtain ⟨oc, od, kV, doc, pm, an, cdv, ct, osl, rfl, look, code⟩ := F.ex
  exact fn_of look code S many fun A outer s H vs Q E hr want => body cdv A outer s H vs Q E hr want
end HL11

/-! ### a call of an expression that gives one of several defs -/
namespace CE12
open PySem PySem.Spec PyProof.Rows L2
structure HeldX (P : Program) (w : World) (K : PySem.W.Frag) (mg : Str → Option Value) (base : Heap) (CX : CXT) (k : Nat) (f : Addr) (sp : Sp) : Prop where
  ex : ∃ (fd : FuncData) (ps : List Str), FnOk P w K mg base CX k f fd ps sp ∧ PySem.W.keepIn K (.ref f) = true ∧ Binds K fd ps []
def tCallE (S : Addr → Sp → Prop) (E : L2.St → XK) (tf : TE) (t : TA) : TE := fun σ H Q => tf σ H fun x H1 => ∃ f sp, x = .ref f ∧ S f sp ∧ t σ H1 fun vs H2 => sp vs H2 Q (E σ)
section
variable {X : Cx} {CX : CXT} {k : Nat} {E : L2.St → XK} {pos : Pos} {g e : Expr} {es : List Expr} {tf : TE} {t : TA}
theorem pe_callE {S : Addr → Sp → Prop} (A : ∀ f sp, S f sp → HeldX X.prog X.w X.K X.mg X.base CX k f sp) (hr : Room k X.A) (hx : ∀ σ, PassesAt CX X σ (E σ)) (hf : PE X g tf) (ha : PA X (e :: es) t)
    (ht : eval (.Call g (e :: es) [] pos) X.env = (do callWith pos (← eval g X.env) [] (backTo pos (starEach (e :: es) X.env)) (backToKw pos (keywordEach [] X.env))) := by rfl)
    (he : starEach (e :: es) X.env = (false, eval e X.env) :: starEach es X.env := by rfl) (hpl : (backTo pos (starEach es X.env)).any (·.1) = false := by rfl) :
    PE X (.Call g (e :: es) [] pos) (tCallE S E tf t) := by
  refine ⟨fun pins s σ H Q I h => ?_⟩
  refine Call_ (thn (hf.run pins s σ H _ I h) fun u s1 ⟨x, H1, I1, rx, f, sp, ex, hS, q⟩ => ?_) ht
  subst ex
  obtain rfl : u = Value.ref f := rx
  obtain ⟨fd, ps, F, hk, hb⟩ := (A f sp hS).ex
  refine PySem.W.callWith_K (h₀ := X.base) I1.ok.mod.kin hk (thn (ha.run pos pins s1 σ H1 _ I1 q) fun us s2 ⟨vs, H2, I2, r, q2⟩ => ⟨I2.kIn, ?_⟩) he hpl
  exact run_fnS F hr hb (hx σ) I2 r q2
end
end CE12

/-! ### repr of data: a def that is called where no repr is under way -/
namespace RG7
open PySem PySem.Spec PyProof.Rows L2
/-- a def's promise where no repr is under way -/
structure FnG (P : Program) (w : World) (K : PySem.W.Frag) (mg : Str → Option Value) (base : Heap) (k : Nat) (f : Addr) (fd : FuncData) (ps : List Str) (sp : Sp) : Prop where
  many : ∀ vs H Q E, sp vs H Q E → vs.length = ps.length
  goes : ∀ {A : Around} {outer : List Env} {s : Shared} {H : Hp} {args : Args} {us : List Value} {vs : List V} {Q : VK} {E : XK}, A.guards = some [] → Room k A → Env0 P w K mg base A outer s H → BindsTo s fd args (ps.zip us) → Vals vs us → sp vs H Q E →
    codeAny (model P w) A (.call (.ref f) args) (CR CX0 outer P w H s Q E) s
theorem FnG.of {P : Program} {w : World} {K : PySem.W.Frag} {mg : Str → Option Value} {base : Heap} {k : Nat} {f : Addr} {fd : FuncData} {ps : List Str} {sp : Sp} (F : FnOk P w K mg base CX0 k f fd ps sp) : FnG P w K mg base k f fd ps sp :=
  ⟨F.len, fun _ r e b v h => F.run _ _ _ _ _ _ _ _ _ r e b v h⟩
section
variable {P : Program} {w : World} {K : PySem.W.Frag} {mg : Str → Option Value} {base : Heap}
theorem fnG {x qual : Str} {st : Stmt} {f : Addr} {fd : FuncData} {N ps : List Str} {k : Nat} {sp : Sp} (F : Fun K x qual st f fd) (S : FnScope N ps (defScope st)) (many : ∀ vs H Q E, sp vs H Q E → vs.length = ps.length)
    (body : ∀ (cdv : Value) (A : Around) (outer : List Env) (s : Shared) (H : Hp) (vs : List V) (Q : VK) (E : XK), A.guards = some [] → Room k (A.deeper (envOfC qual (defScope st) s.heap.objs.size f cdv)) → sp vs H Q E →
      ∃ t, PSs (cxOf CX0 P w K mg base N qual (defScope st) f cdv A outer s H E).nox (defBody st) t ∧ t { nx := fun _ H' => Q .non H', rt := Q } (L2.start N vs) H) : FnG P w K mg base (k + 1) f fd ps sp := by
  obtain ⟨oc, od, kV, doc, pm, an, cdv, ct, osl, rfl, look, code⟩ := F.ex
  constructor
  · exact many
  · intro A outer s H args us vs Q E noG room e0 bd rv want
    have inK : K.In s.heap := e0.mod.kin.keeps fun b o e => (e0.bs b o e).1
    have kinds : ∀ y ∈ ps.zip us, (defScope st).names.lookup y.1 = some .local ∨ ((defScope st).names.lookup y.1 = some .cell ∧ ((cellsFrom (s.heap.objs.size + 1) (defScope st).names []).lookup y.1).isSome = true) := by
      rintro ⟨n, v⟩ hy
      cases S.par n (List.of_mem_zip hy).1 with
      | inl l => exact .inl l
      | inr l => exact .inr ⟨l, PySem.W.cellsFrom_some _ _ _ (.inl l)⟩
    apply codeAny_call_function room.depth (inK _ _ look) rfl S.co S.gen rfl (PySem.W.codeRec_of inK code)
    apply bd
    apply wpAny_newFunctionEnv_cells S.kind kinds
    rintro env rfl s1 inside
    refine ⟨(e0.mod.nolimit.keeps fun b o e => (e0.bs b o e).1).keeps inside.toInCall.keep, codeAny_func ?_⟩
    obtain ⟨t, ht, q⟩ := body cdv A outer s H vs Q E noG (room.deeper _) want
    have I := inv_start (CX := CX0) (mg := mg) (base := base) (qual := qual) (f := f) (cd := cdv) (E := E) S room.hd e0 (many _ _ _ _ want) rv inside
    refine wpAny_mono (ht.nox.run [] s1 _ H _ I q) (fun fl s' got => ?_) fun e s' got => got
    cases fl with
    | brk => exact got.elim fun _ z => z.elim fun _ z => z.2.elim
    | cont => exact got.elim fun _ z => z.elim fun _ z => z.2.elim
    | next =>
      obtain ⟨σ', H', J, q'⟩ := got
      exact ⟨V.non, H', J.os, J.bare, J.base, J.hok, rfl, q'⟩
    | ret u =>
      obtain ⟨v, σ', H', J, rel, q'⟩ := got
      exact ⟨v, H', J.os, J.bare, J.base, J.hok, rel, q'⟩
end
/-- the script's heap: only the script is told of, and only if the module has no such object -/
def only1 (a : Addr) (u : HO) : Hp := fun b => if b = a then some u else none
theorem only1_at {a : Addr} {u : HO} : only1 a u a = some u := if_pos rfl
theorem only1_no {a b : Addr} {u : HO} (h : b ≠ a) : only1 a u b = none := if_neg h
theorem only1_of {a b : Addr} {u v : HO} (h : only1 a u b = some v) : b = a ∧ v = u := by
  by_cases e : b = a
  · rw [e, only1_at] at h
    exact ⟨e, (Option.some.inj h).symm⟩
  · rw [only1_no e] at h
    cases h
/-- what a call from the claim's caller must end in -/
abbrev EndT (s₁ : Shared) : Result → Shared → Prop := fun r s' => r = .ok (.ret (.bool true)) ∧ OldK s₁.heap s'.heap ∧ s'.os = s₁.os ∧ AllBare s'.gens
/-- from a heap in which at most the script is told of -/
theorem enter {P : Program} {w : World} {K : PySem.W.Frag} {mg mb : Str → Option Value} {k : Nat} {fa a : Addr} {fd : FuncData} {x : Str} {sp : Sp} {s₁ : Shared} {vs : List Value} {H : Hp}
    (inK : K.In s₁.heap) (gl : s₁.heap.Ns mainGlobals mg) (bt : s₁.heap.Ns builtinsNs mb) (boot : ∀ y : Str, y ≠ "__name__" → mb y = bootBuiltins y) (lim : s₁.heap.NoLimit) (ng : s₁.gens = #[])
    (at_ : s₁.heap.get? a = some { cls := .type "list", data := .seq vs.toArray }) (room : Room k callerA)
    (F : ∀ base : Heap, K.In base → base.Ns mainGlobals mg → FnG P w K mg base k fa fd [x] sp) (bd : ∀ (s : Shared) (u : Value), BindsTo s fd ⟨[u], []⟩ [(x, u)])
    (frz : ∀ b u, H b = some u → b = a ∧ ∃ o xs, u = .frz o (.lst xs)) (ok : HOk P w H s₁.heap) (own : H a ≠ none → K.lookup a = none)
    (want : sp [.ref a] H (fun v _ => v = .bl true) fun _ _ _ => False) : codeAny (model P w) callerA (.call (.ref fa) ⟨[.ref a], []⟩) (EndT s₁) s₁ := by
  have told : ∀ {b o}, s₁.heap.get? b = some o → (∀ xs n, o.data = .seq xs n → False) ∨ H b = none → (hidT s₁.heap H).get? b = some o := fun {b o} e h => hidT_get e (by
    rcases h with h | h
    · cases q : H b with
      | none => rfl
      | some u =>
        have ea := (frz b u q).1
        subst ea
        rw [at_] at e
        cases e
        exact (h _ _ rfl).elim
    · exact h)
  have isNs : ∀ {b : Addr} {m : Str → Option Value}, s₁.heap.Ns b m → (hidT s₁.heap H).Ns b m := by
    rintro b m ⟨o, es, ep, e, d, r⟩
    exact ⟨o, es, ep, told e (.inl fun xs n z => by rw [d] at z; cases z), d, r⟩
  have kept : K.In (hidT s₁.heap H) := fun b o e => told (inK b o e) (.inr (by
    cases q : H b with
    | none => rfl
    | some u =>
      have ea := (frz b u q).1
      subst ea
      rw [own (by rw [q]; exact fun z => by cases z)] at e
      cases e))
  obtain ⟨mc, lim1, lim2⟩ := lim
  have start : Env0 P w K mg (hidT s₁.heap H) callerA [] s₁ H :=
    { frames := rfl, mod := ⟨kept, isNs gl, ⟨mb, isNs bt, boot⟩, ⟨mc, isNs lim1, lim2⟩⟩, bs := fun b o e => of_hidT e, bsz := Nat.le_of_eq (hidT_size _ _), funs := trivial, frf := fun b hb => (List.not_mem_nil hb).elim, hok := ok, bare := .of_eq ng }
  refine codeAny_mono ((F _ kept (isNs gl)).goes (us := [.ref a]) (vs := [.ref a]) (E := fun _ _ _ => False) (Q := fun v _ => v = .bl true) rfl room start (bd s₁ (.ref a)) (.cons rfl .nil) want) fun r s' got => ?_
  match r, got with
  | .error e, got => exact got.elim
  | .ok (.ret u), ⟨v, H', os, bare, un, ok', rel, ev⟩ =>
    have ev' : v = .bl true := ev
    subst ev'
    obtain rfl : u = Value.bool true := rel
    refine ⟨rfl, OldK.of_keep fun b o e => ?_, os, bare⟩
    cases q : H b with
    | none => exact un.keep b o e q (by exact fun z => (List.not_mem_nil z).elim) (by exact fun z => (List.not_mem_nil z).elim)
    | some u =>
      obtain ⟨_, ob, xs, eu⟩ := frz b u q
      subst eu
      obtain ⟨y1, _⟩ := ok b _ q
      obtain ⟨y2, _⟩ := ok' b _ (un.frzs b ob _ q)
      rw [e] at y1
      cases y1
      exact y2
theorem callG {P : Program} {w : World} {K : PySem.W.Frag} {mg mb : Str → Option Value} {k : Nat} {fa a : Addr} {fd : FuncData} {x : Str} {sp : Sp} {s₁ : Shared} {vs : List Value} {ns : List Int}
    (inK : K.In s₁.heap) (gl : s₁.heap.Ns mainGlobals mg) (bt : s₁.heap.Ns builtinsNs mb) (boot : ∀ y : Str, y ≠ "__name__" → mb y = bootBuiltins y) (lim : s₁.heap.NoLimit) (ng : s₁.gens = #[])
    (at_ : s₁.heap.get? a = some { cls := .type "list", data := .seq vs.toArray }) (whole : IntsAre vs ns) (few : ns.length ≤ sizeLine) (room : Room k callerA)
    (F : ∀ base : Heap, K.In base → base.Ns mainGlobals mg → FnG P w K mg base k fa fd [x] sp) (bd : ∀ (s : Shared) (u : Value), BindsTo s fd ⟨[u], []⟩ [(x, u)])
    (want : ∀ H : Hp, Only H → SqL K H a (ns.map V.int) → sp [.ref a] H (fun v _ => v = .bl true) fun _ _ _ => False) : codeAny (model P w) callerA (.call (.ref fa) ⟨[.ref a], []⟩) (EndT s₁) s₁ := by
  have rv := vals_ints whole
  have many := whole.length
  cases hk : K.lookup a with
  | some o =>
    have e := inK a o hk
    rw [at_] at e
    cases e
    refine enter (H := fun _ => none) inK gl bt boot lim ng at_ room F bd (fun b u z => by cases z) (fun b u z => by cases z) (fun z => (z rfl).elim) (want _ (fun _ => .inl rfl) (.inr ⟨_, vs.toArray, _, hk, rfl, rfl, rfl, ?_, ?_⟩))
    · rw [List.size_toArray, many]
      exact few
    · rw [List.toList_toArray]
      exact rv
  | none =>
    refine enter (H := only1 a (.frz { cls := .type "list", data := .seq vs.toArray } (.lst (ns.map V.int)))) inK gl bt boot lim ng at_ room F bd (fun b u z => ⟨(only1_of z).1, _, _, (only1_of z).2⟩) (fun b u z => ?_) (fun _ => hk) (want _ (fun b => ?_) (.inl (.inr ⟨_, only1_at⟩)))
    · obtain ⟨rfl, rfl⟩ := only1_of z
      exact ⟨at_, by rw [List.length_map]; exact few, vs, _, rv, at_⟩
    · by_cases e : b = a
      · rw [e]
        exact .inr ⟨_, _, only1_at⟩
      · exact .inl (only1_no e)
theorem walk_ofG {l : PySem.W.OpenLaw} {n k : Nat} {q : Program} {loose : List Str} {XP : (Str → Option Value) → Heap → Prop} {YP : World → Heap → Prop} {d : DefRec} {K : Params → PySem.W.Frag} {sp : World → Sp} {x : Str}
    (hn : l.most = some n) (hn2 : n ≤ sizeLine) (hdf : d.params.defaults = []) (hr : Room k callerA)
    (hY : ∀ (w : World) (h : Heap), YP w h → (K w.params).In h)
    (F : ∀ (w : World) (mg : Str → Option Value) (fa : Addr) (h : Heap), (K w.params).In h → h.Ns mainGlobals mg → mg d.name = some (.ref fa) →
      ∃ fd : FuncData, (∀ (s : Shared) (u : Value), BindsTo s fd ⟨[u], []⟩ [(x, u)]) ∧ ∀ base : Heap, (K w.params).In base → base.Ns mainGlobals mg → FnG l.prog w (K w.params) mg base k fa fd [x] (sp w))
    (hsp : ∀ (w : World) (H : Hp) (a : Addr) (ns : List Int), ns.length ≤ n → Only H → SqL (K w.params) H a (ns.map V.int) → sp w [.ref a] H (fun v _ => v = .bl true) fun _ _ _ => False) :
    PySem.W.WalkO q loose XP YP l.row.toRowW d [] (fun f vs => PySem.call f vs) :=
  Att.attach_call hn hdf fun w s₀ s₁ mg mb fa o pm cd doc a vs ns G Y ho hd hcd hmg hobj hints hlen hg => by
    have KX := hY w _ Y
    obtain ⟨fd, bd, FF⟩ := F w mg fa _ KX G.T.g hmg
    exact callG KX G.T.g G.T.b G.T.builtins G.T.nolimit hg hobj hints (Nat.le_trans hlen hn2) hr FF bd fun H hO hS => hsp w H a ns hlen hO hS
/-- data whose repr is told: k deep, n things in it -/
structure Rp (k n : Nat) (d : PyData) : Prop where
  sh : d.showable = true
  nd : d.hasDict = false
  dp : d.depth ≤ k
  lf : d.leavesShort 64 = true
  bk : d.bulk ≤ n
theorem Rp.up {k k' n n' : Nat} {d : PyData} (h : Rp k n d) (hk : k ≤ k') (hn : n ≤ n') : Rp k' n' d := ⟨h.sh, h.nd, Nat.le_trans h.dp hk, h.lf, Nat.le_trans h.bk hn⟩
theorem Rp.non : Rp 0 0 .none := ⟨rfl, rfl, Nat.le_refl _, rfl, Nat.le_refl _⟩
theorem Rp.bl (b : Bool) : Rp 0 0 (.bool b) := ⟨rfl, rfl, Nat.le_refl _, rfl, Nat.le_refl _⟩
theorem Rp.int {i : Int} (h : i.natAbs < 10 ^ 60) : Rp 0 0 (.int i) := by
  refine ⟨?_, rfl, Nat.le_refl _, ?_, Nat.le_refl _⟩
  · simp only [PyData.showable]
    refine decide_eq_true ?_
    by_cases z : i.natAbs = 0
    · rw [z]
      decide
    · exact (Nat.log2_lt z).mpr (Nat.lt_of_lt_of_le h (Nat.le_trans (by decide : 10 ^ 60 ≤ 2 ^ 200) (Nat.pow_le_pow_right (by decide) (by decide))))
  · simp only [PyData.leavesShort]
    refine decide_eq_true ?_
    have e := int_text_length_le10 (a := i) (k := 60) (by decide) h
    have e2 : (PyData.shown (.int i)).length = (toString i).length := by
      show (Str.ofString (toString i)).length = _
      exact PySem.ofString_length _
    omega
theorem Rp.all {k n : Nat} : ∀ {ds : List PyData}, (∀ d ∈ ds, Rp k n d) → PyData.showableAll ds = true ∧ PyData.hasDictAll ds = false ∧ PyData.depthAll ds ≤ k ∧ PyData.leavesShortAll 64 ds = true ∧ PyData.bulkAll ds ≤ ds.length * (n + 1)
  | [], _ => ⟨by simp [PyData.showableAll], by simp [PyData.hasDictAll], by simp [PyData.depthAll], by simp [PyData.leavesShortAll], by simp [PyData.bulkAll]⟩
  | d :: ds, h => by
    obtain ⟨a1, a2, a3, a4, a5⟩ := Rp.all (ds := ds) fun x hx => h x (List.mem_cons_of_mem _ hx)
    have b := h d List.mem_cons_self
    refine ⟨?_, ?_, ?_, ?_, ?_⟩
    · simp only [PyData.showableAll, b.sh, a1, Bool.and_true]
    · simp only [PyData.hasDictAll, b.nd, a2, Bool.or_false]
    · simp only [PyData.depthAll]
      exact Nat.max_le.mpr ⟨b.dp, a3⟩
    · simp only [PyData.leavesShortAll, b.lf, a4, Bool.and_true]
    · simp only [PyData.bulkAll, List.length_cons]
      have := b.bk
      rw [Nat.add_mul]
      omega
theorem Rp.tup {k n m : Nat} {ds : List PyData} (h : ∀ d ∈ ds, Rp k n d) (hm : ds.length * (n + 1) ≤ m) : Rp (k + 1) m (.tuple ds) := by
  obtain ⟨a1, a2, a3, a4, a5⟩ := Rp.all h
  refine ⟨?_, ?_, ?_, ?_, ?_⟩
  · simpa only [PyData.showable] using a1
  · simpa only [PyData.hasDict] using a2
  · simp only [PyData.depth]
    omega
  · simpa only [PyData.leavesShort] using a4
  · simp only [PyData.bulk]
    omega
theorem Rp.lst {k n m : Nat} {ds : List PyData} (h : ∀ d ∈ ds, Rp k n d) (hm : ds.length * (n + 1) ≤ m) : Rp (k + 1) m (.list ds) := by
  obtain ⟨a1, a2, a3, a4, a5⟩ := Rp.all h
  refine ⟨?_, ?_, ?_, ?_, ?_⟩
  · simpa only [PyData.showable] using a1
  · simpa only [PyData.hasDict] using a2
  · simp only [PyData.depth]
    omega
  · simpa only [PyData.leavesShort] using a4
  · simp only [PyData.bulk]
    omega
theorem Rp.size {k n : Nat} {d : PyData} (h : Rp k n d) (hn : n ≤ 200000) : d.shown.length ≤ sizeLine := by
  have e := PyData.shown_le_bulk 64 (by decide) d h.lf
  have := h.bk
  rw [sizeLine_eq]
  omega
/-- repr(x), x data that the heap holds, a list or a tuple -/
def rReprD (K : PySem.W.Frag) : List V → Hp → VK → Prop := fun xs H Q => ∃ (a : Addr) (d : PyData) (k n : Nat), xs = [.ref a] ∧ Dp K H (.ref a) d ∧ Rp k n d ∧ k ≤ 40 ∧ n ≤ 200000 ∧ Q (.str d.shown) H
theorem call_reprD {X : Cx} (noG : X.A.guards = some []) (hu : X.A.units + 65 < cLine) : CallR X (.builtin "repr") (rReprD X.K) := by
  intro pins s σ H xs us Q I r h
  obtain ⟨a, d, k, n, rfl, hd, rp, hk, hn, q⟩ := h
  cases r with
  | cons r1 rr =>
    cases rr
    obtain ⟨as, rd⟩ := Dp.reads I d _ _ hd r1
    cases (show _ = Value.ref a from r1)
    have dp := rp.dp
    exact repr_of_reads' rd rp.sh (fun z => by rw [rp.nd] at z; cases z) noG (by omega) (fun _ _ e => e) (fun h' u tk keep => ⟨.str d.shown, H, I.kept keep, ⟨u, rfl⟩, q⟩) (rp.size hn)
end RG7

/-! ### data with dicts: repr of anything; the start of a law that knows where sys.modules stands -/
namespace RO9
open PySem PySem.Spec PyProof.Rows L2
def kD : Key → PyData
  | .inl i => .int i
  | .inr x => .str x
mutual
inductive Od (K : PySem.W.Frag) (H : Hp) : V → PyData → Prop
  | non : Od K H .non .none
  | bl (b : Bool) : Od K H (.bl b) (.bool b)
  | int (i : Int) : Od K H (.int i) (.int i)
  | str (x : Str) : Od K H (.str x) (.str x)
  | lst {a : Addr} {xs : List V} {ds : List PyData} : H a = some (.lst xs) → OdAll K H xs ds → Od K H (.ref a) (.list ds)
  | tup {a : Addr} {xs : List V} {ds : List PyData} : SqT K H a xs → OdAll K H xs ds → Od K H (.ref a) (.tuple ds)
  | dct {a : Addr} {kvs : List (Key × V)} {ds : List PyData} : H a = some (.dK kvs) → OdAll K H (kvs.map (·.2)) ds → Od K H (.ref a) (.dict ((kvs.map fun p => kD p.1).zip ds))
inductive OdAll (K : PySem.W.Frag) (H : Hp) : List V → List PyData → Prop
  | nil : OdAll K H [] []
  | cons {v : V} {vs : List V} {d : PyData} {ds : List PyData} : Od K H v d → OdAll K H vs ds → OdAll K H (v :: vs) (d :: ds)
end
/-- where sys.modules stands, there stands no list of the law's -/
def SysK (K : PySem.W.Frag) (H : Hp) : Prop := (∃ u, H sysModules = some u ∧ ∀ xs, u ≠ .lst xs) ∨ ∃ o, K.lookup sysModules = some o
theorem SysK.same {K : PySem.W.Frag} {H H' : Hp} (h : SysK K H) (s : Same H H') : SysK K H' := h.elim (fun ⟨u, e, n⟩ => .inl ⟨u, s _ _ e, n⟩) .inr
theorem SysK.nl {K : PySem.W.Frag} {H H' : Hp} (h : SysK K H) (s : ∀ b o, (∀ ys, o ≠ HO.lst ys) → H b = some o → H' b = some o) : SysK K H' := h.elim (fun ⟨u, e, n⟩ => .inl ⟨u, s _ _ n e, n⟩) .inr
theorem OdAll.len {K : PySem.W.Frag} {H : Hp} : ∀ {vs : List V} {ds : List PyData}, OdAll K H vs ds → vs.length = ds.length
  | [], _, h => by cases h; rfl
  | _ :: vs, _, h => by
    cases h with
    | cons _ t => rw [List.length_cons, List.length_cons, OdAll.len t]
theorem zip_fst {α β : Type} : ∀ (l : List α) (m : List β), l.length = m.length → (l.zip m).map (·.1) = l
  | [], [], _ => rfl
  | a :: l, b :: m, h => by
    rw [List.zip_cons_cons, List.map_cons, zip_fst l m (by simpa using h)]
  | [], _ :: _, h => by simp at h
  | _ :: _, [], h => by simp at h
theorem zip_snd {α β : Type} : ∀ (l : List α) (m : List β), l.length = m.length → (l.zip m).map (·.2) = m
  | [], [], _ => rfl
  | a :: l, b :: m, h => by
    rw [List.zip_cons_cons, List.map_cons, zip_snd l m (by simpa using h)]
  | [], _ :: _, h => by simp at h
  | _ :: _, [], h => by simp at h
section
variable {X : Cx} {pins : List (Addr × Obj)} {σ : L2.St} {H : Hp} {s : Shared}
theorem keys_read {h : Heap} : ∀ {es : List PySem.DictEntry} {vs : List (Key × Value)} {kvs : List (Key × V)}, PySem.Pairs (mixKind X.prog X.w) es vs → KV kvs vs → ∃ as, ReadsAll h (es.map (·.key)) (kvs.map fun p => kD p.1) as ∧ sysModules ∉ as ∧ Vals (kvs.map (·.2)) (es.map (·.val))
  | _, _, _, .nil, .nil => ⟨[], .nil, by simp, .nil⟩
  | e :: es, kv :: vs, p :: kvs, .cons hk hv t, .cons r rt => by
    obtain ⟨as, h1, h2, h3⟩ := keys_read (h := h) t rt
    have hk' : keyIs kv.1 e.key = true := hk
    rw [← r.1] at hk'
    obtain ⟨k, v⟩ := p
    have rv : RelV v e.val := by rw [hv]; exact r.2
    rcases keyIs_shape hk' with ⟨i, t, rfl, e2⟩ | ⟨x, t, rfl, e2⟩
    · refine ⟨[] ++ as, ?_, by simpa using h2, ?_⟩
      · rw [List.map_cons, List.map_cons, e2]
        exact .cons (.int i t) h1
      · rw [List.map_cons, List.map_cons]
        exact .cons rv h3
    · refine ⟨[] ++ as, ?_, by simpa using h2, ?_⟩
      · rw [List.map_cons, List.map_cons, e2]
        exact .cons (.str x t) h1
      · rw [List.map_cons, List.map_cons]
        exact .cons rv h3
theorem od_reads (I : Inv X pins σ H s) (hS : SysK X.K H) {v : V} {d : PyData} (h : Od X.K H v d) : ∀ u, RelV v u → ∃ as, Reads s.heap u d as ∧ sysModules ∉ as := by
  refine Od.rec (motive_1 := fun v d _ => ∀ u, RelV v u → ∃ as, Reads s.heap u d as ∧ sysModules ∉ as) (motive_2 := fun vs ds _ => ∀ us, Vals vs us → ∃ as, ReadsAll s.heap us ds as ∧ sysModules ∉ as) ?_ ?_ ?_ ?_ ?_ ?_ ?_ ?_ ?_ h
  · intro u r
    cases r
    exact ⟨_, Reads.none, by simp⟩
  · intro b u r
    cases r
    exact ⟨_, Reads.bool b, by simp⟩
  · intro i u r
    obtain ⟨t, rfl⟩ := r
    exact ⟨_, Reads.int i t, by simp⟩
  · intro x u r
    obtain ⟨t, rfl⟩ := r
    exact ⟨_, Reads.str x t, by simp⟩
  · intro a xs ds e _ ih u r
    cases r
    obtain ⟨its, rv, ⟨o, n, ho, hc, _, hd⟩, _⟩ := I.list (SqL.of e)
    obtain ⟨as, hr, hn⟩ := ih its rv
    refine ⟨_, Reads.list ho hc hd hr, fun z => ?_⟩
    rcases List.mem_cons.mp z with z | z
    · rw [← z] at e
      rcases hS with ⟨u, eS, nS⟩ | ⟨o, eS⟩
      · rw [eS] at e
        exact nS _ (Option.some.inj e)
      · rw [(I.env0.bs _ _ (I.env0.mod.kin _ _ eS)).2] at e
        cases e
    · exact hn z
  · intro a xs ds e _ ih u r
    cases r
    obtain ⟨its, rv, ⟨o, ho, hc, n, hd⟩, _⟩ := I.tuple e
    obtain ⟨as, hr, hn⟩ := ih its rv
    exact ⟨_, Reads.tuple ho hc hd hr, hn⟩
  · intro a kvs ds e ha ih u r
    cases r
    obtain ⟨_, hm, vs, rel, o, es, ep, ho, hx, hd, _, pr, _⟩ := dk_of I.hok e
    obtain ⟨as, k1, k2, k3⟩ := keys_read (h := s.heap) pr rel
    obtain ⟨bs, v1, v2⟩ := ih _ k3
    have hl : (kvs.map fun p => kD p.1).length = ds.length := by
      rw [List.length_map, ← ha.len, List.length_map]
    refine ⟨_, Reads.dict ho hx.1 hd (by rw [zip_fst _ _ hl]; exact k1) (by rw [zip_snd _ _ hl]; exact v1), fun z => ?_⟩
    rcases List.mem_append.mp z with z | z
    · rcases List.mem_cons.mp z with z | z
      · rw [← z] at hm
        simp at hm
      · exact k2 z
    · exact v2 z
  · intro us r
    cases r
    exact ⟨_, ReadsAll.nil, by simp⟩
  · intro v vs d ds _ _ ih1 ih2 us r
    cases r with
    | cons r1 r2 =>
      obtain ⟨as, q1, n1⟩ := ih1 _ r1
      obtain ⟨bs, q2, n2⟩ := ih2 _ r2
      refine ⟨_, ReadsAll.cons q1 q2, fun z => ?_⟩
      rcases List.mem_append.mp z with z | z
      · exact n1 z
      · exact n2 z
end
/-- data whose repr is told, with dicts: k deep, n things in it -/
structure Ro (k n : Nat) (d : PyData) : Prop where
  sh : d.showable = true
  dp : d.depth ≤ k
  lf : d.leavesShort 64 = true
  bk : d.bulk ≤ n
theorem Ro.of {k n : Nat} {d : PyData} (h : RG7.Rp k n d) : Ro k n d := ⟨h.sh, h.dp, h.lf, h.bk⟩
theorem Ro.size {k n : Nat} {d : PyData} (h : Ro k n d) (hn : n ≤ 200000) : d.shown.length ≤ sizeLine := by
  have e := PyData.shown_le_bulk 64 (by decide) d h.lf
  have := h.bk
  rw [show (sizeLine : Nat) = 16777216 by decide]
  omega
/-- repr(x), x any data that the heap holds -/
def rReprO (K : PySem.W.Frag) : List V → Hp → VK → Prop := fun xs H Q => ∃ (a : Addr) (d : PyData) (k n : Nat), xs = [.ref a] ∧ SysK K H ∧ Od K H (.ref a) d ∧ Ro k n d ∧ k ≤ 40 ∧ n ≤ 200000 ∧ Q (.str d.shown) H
theorem call_reprO {X : Cx} (noG : X.A.guards = some []) (hu : X.A.units + 65 < cLine) : CallR X (.builtin "repr") (rReprO X.K) := by
  intro pins s σ H xs us Q I r h
  obtain ⟨a, d, k, n, rfl, hS, hd, rp, hk, hn, q⟩ := h
  cases r with
  | cons r1 rr =>
    cases rr
    cases (show _ = Value.ref a from r1)
    obtain ⟨as, rd, nm⟩ := od_reads I hS hd _ rfl
    have dp := rp.dp
    exact repr_of_reads' rd rp.sh (fun _ => nm) noG (by omega) (fun _ _ e => e) (fun h' u tk keep => ⟨.str d.shown, H, I.kept keep, ⟨u, rfl⟩, q⟩) (rp.size hn)
/-- what is told at a law's start: the script, and where sys.modules stands -/
def first (a : Addr) (u : Option HO) (v : Option HO) : Hp := fun b => if b = a then u else if b = sysModules then v else none
theorem first_of {a b : Addr} {u v : Option HO} {o : HO} (h : first a u v b = some o) : (b = a ∧ u = some o) ∨ (b ≠ a ∧ b = sysModules ∧ v = some o) := by
  unfold first at h
  by_cases e : b = a
  · rw [if_pos e] at h
    exact .inl ⟨e, h⟩
  · rw [if_neg e] at h
    by_cases e2 : b = sysModules
    · rw [if_pos e2] at h
      exact .inr ⟨e, e2, h⟩
    · rw [if_neg e2] at h
      cases h
/-- what may be told at the start: the script, frozen; an object that is known -/
def Start1 (a : Addr) (b : Addr) (u : HO) : Prop := (b = a ∧ ∃ o xs, u = .frz o (.lst xs)) ∨ (b = sysModules ∧ ∃ (o : Obj) (v : HO), u = .frz o v)
theorem enterS {P : Program} {w : World} {K : PySem.W.Frag} {mg mb : Str → Option Value} {k : Nat} {fa a : Addr} {fd : FuncData} {x : Str} {sp : Sp} {s₁ : Shared} {vs : List Value} {H : Hp}
    (inK : K.In s₁.heap) (gl : s₁.heap.Ns mainGlobals mg) (bt : s₁.heap.Ns builtinsNs mb) (boot : ∀ y : Str, y ≠ "__name__" → mb y = bootBuiltins y) (lim : s₁.heap.NoLimit) (ng : s₁.gens = #[])
    (at_ : s₁.heap.get? a = some { cls := .type "list", data := .seq vs.toArray }) (room : Room k callerA)
    (F : ∀ base : Heap, K.In base → base.Ns mainGlobals mg → RG7.FnG P w K mg base k fa fd [x] sp) (bd : ∀ (s : Shared) (u : Value), BindsTo s fd ⟨[u], []⟩ [(x, u)])
    (frz : ∀ b u, H b = some u → Start1 a b u) (ok : HOk P w H s₁.heap) (own : H a ≠ none → K.lookup a = none) (ownS : H sysModules ≠ none → K.lookup sysModules = none)
    (want : sp [.ref a] H (fun v _ => v = .bl true) fun _ _ _ => False) : codeAny (model P w) callerA (.call (.ref fa) ⟨[.ref a], []⟩) (RG7.EndT s₁) s₁ := by
  have told : ∀ {b o}, s₁.heap.get? b = some o → (b ≠ sysModules ∧ ∀ xs n, o.data = .seq xs n → False) ∨ H b = none → (hidT s₁.heap H).get? b = some o := fun {b o} e h => hidT_get e (by
    rcases h with ⟨h1, h⟩ | h
    · cases q : H b with
      | none => rfl
      | some u =>
        rcases frz b u q with ⟨ea, _⟩ | ⟨eb, _⟩
        · subst ea
          rw [at_] at e
          cases e
          exact (h _ _ rfl).elim
        · exact (h1 eb).elim
    · exact h)
  have isNs : ∀ {b : Addr} {m : Str → Option Value}, b ≠ sysModules → s₁.heap.Ns b m → (hidT s₁.heap H).Ns b m := by
    rintro b m hb ⟨o, es, ep, e, d, r⟩
    exact ⟨o, es, ep, told e (.inl ⟨hb, fun xs n z => by rw [d] at z; cases z⟩), d, r⟩
  have kept : K.In (hidT s₁.heap H) := fun b o e => told (inK b o e) (.inr (by
    cases q : H b with
    | none => rfl
    | some u =>
      rcases frz b u q with ⟨ea, _⟩ | ⟨eb, _⟩
      · subst ea
        rw [own (by rw [q]; exact fun z => by cases z)] at e
        cases e
      · subst eb
        rw [ownS (by rw [q]; exact fun z => by cases z)] at e
        cases e))
  obtain ⟨mc, lim1, lim2⟩ := lim
  have start : Env0 P w K mg (hidT s₁.heap H) callerA [] s₁ H :=
    { frames := rfl, mod := ⟨kept, isNs (by decide) gl, ⟨mb, isNs (by decide) bt, boot⟩, ⟨mc, isNs (by decide) lim1, lim2⟩⟩, bs := fun b o e => of_hidT e, bsz := Nat.le_of_eq (hidT_size _ _), funs := trivial, frf := fun b hb => (List.not_mem_nil hb).elim, hok := ok, bare := .of_eq ng }
  refine codeAny_mono ((F _ kept (isNs (by decide) gl)).goes (us := [.ref a]) (vs := [.ref a]) (E := fun _ _ _ => False) (Q := fun v _ => v = .bl true) rfl room start (bd s₁ (.ref a)) (.cons rfl .nil) want) fun r s' got => ?_
  match r, got with
  | .error e, got => exact got.elim
  | .ok (.ret u), ⟨v, H', os, bare, un, ok', rel, ev⟩ =>
    have ev' : v = .bl true := ev
    subst ev'
    obtain rfl : u = Value.bool true := rel
    refine ⟨rfl, OldK.of_keep fun b o e => ?_, os, bare⟩
    cases q : H b with
    | none => exact un.keep b o e q (by exact fun z => (List.not_mem_nil z).elim) (by exact fun z => (List.not_mem_nil z).elim)
    | some u =>
      rcases frz b u q with ⟨_, ob, xs, eu⟩ | ⟨eb, ob, v, eu⟩
      · subst eu
        obtain ⟨y1, _⟩ := ok b _ q
        obtain ⟨y2, _⟩ := ok' b _ (un.frzs b ob _ q)
        rw [e] at y1
        cases y1
        exact y2
      · subst eu
        obtain ⟨y1, _⟩ := ok b _ q
        obtain ⟨y2, _⟩ := ok' b _ (un.frzs b ob _ q)
        rw [e] at y1
        cases y1
        exact y2
theorem callS {P : Program} {w : World} {K : PySem.W.Frag} {mg mb : Str → Option Value} {k : Nat} {fa a : Addr} {fd : FuncData} {x : Str} {sp : Sp} {s₁ : Shared} {vs : List Value} {ns : List Int}
    (inK : K.In s₁.heap) (gl : s₁.heap.Ns mainGlobals mg) (bt : s₁.heap.Ns builtinsNs mb) (boot : ∀ y : Str, y ≠ "__name__" → mb y = bootBuiltins y) (lim : s₁.heap.NoLimit) (ng : s₁.gens = #[])
    (at_ : s₁.heap.get? a = some { cls := .type "list", data := .seq vs.toArray }) (whole : IntsAre vs ns) (few : ns.length ≤ sizeLine) (room : Room k callerA) (hos : ∃ os, s₁.heap.get? sysModules = some os)
    (F : ∀ base : Heap, K.In base → base.Ns mainGlobals mg → RG7.FnG P w K mg base k fa fd [x] sp) (bd : ∀ (s : Shared) (u : Value), BindsTo s fd ⟨[u], []⟩ [(x, u)])
    (want : ∀ H : Hp, SysK K H → SqL K H a (ns.map V.int) → sp [.ref a] H (fun v _ => v = .bl true) fun _ _ _ => False) : codeAny (model P w) callerA (.call (.ref fa) ⟨[.ref a], []⟩) (RG7.EndT s₁) s₁ := by
  have rv := vals_ints whole
  have many := whole.length
  obtain ⟨os, hos⟩ := hos
  -- what is told of either
  obtain ⟨uA, hA⟩ : ∃ uA : Option HO, uA = if K.lookup a = none then some (.frz { cls := .type "list", data := .seq vs.toArray } (.lst (ns.map V.int))) else none := ⟨_, rfl⟩
  obtain ⟨uS, hS⟩ : ∃ uS : Option HO, uS = if K.lookup sysModules = none then some (.frz os (.ext fun _ => True)) else none := ⟨_, rfl⟩
  have cA : ∀ u, uA = some u → K.lookup a = none ∧ u = .frz { cls := .type "list", data := .seq vs.toArray } (.lst (ns.map V.int)) := fun u e => by
    rw [hA] at e
    by_cases c : K.lookup a = none
    · rw [if_pos c] at e
      exact ⟨c, (Option.some.inj e).symm⟩
    · rw [if_neg c] at e
      cases e
  have cS : ∀ u, uS = some u → K.lookup sysModules = none ∧ u = .frz os (.ext fun _ => True) := fun u e => by
    rw [hS] at e
    by_cases c : K.lookup sysModules = none
    · rw [if_pos c] at e
      exact ⟨c, (Option.some.inj e).symm⟩
    · rw [if_neg c] at e
      cases e
  refine enterS (H := first a uA uS) inK gl bt boot lim ng at_ room F bd (fun b u z => ?_) (fun b u z => ?_) (fun z => ?_) (fun z => ?_) (want _ ?_ ?_)
  · rcases first_of z with ⟨e, h⟩ | ⟨_, e, h⟩
    · exact .inl ⟨e, _, _, (cA u h).2⟩
    · exact .inr ⟨e, _, _, (cS u h).2⟩
  · rcases first_of z with ⟨e, h⟩ | ⟨_, e, h⟩
    · obtain ⟨_, rfl⟩ := cA u h
      subst e
      exact ⟨at_, by rw [List.length_map]; exact few, vs, _, rv, at_⟩
    · obtain ⟨_, rfl⟩ := cS u h
      subst e
      exact ⟨hos, trivial, ⟨_, hos⟩, fun _ _ _ _ => trivial⟩
  · cases q : first a uA uS a with
    | none => exact (z q).elim
    | some u =>
      rcases first_of q with ⟨_, h⟩ | ⟨n, _⟩
      · exact (cA u h).1
      · exact (n rfl).elim
  · cases q : first a uA uS sysModules with
    | none => exact (z q).elim
    | some u =>
      rcases first_of q with ⟨e, h⟩ | ⟨_, _, h⟩
      · rw [e]
        exact (cA u h).1
      · exact (cS u h).1
  · cases hk : K.lookup sysModules with
    | some o => exact .inr ⟨o, hk⟩
    | none =>
      refine .inl ?_
      by_cases e : sysModules = a
      · refine ⟨.frz { cls := .type "list", data := .seq vs.toArray } (.lst (ns.map V.int)), ?_, fun _ z => by cases z⟩
        unfold first
        rw [if_pos e, hA, ← e, if_pos hk]
      · refine ⟨.frz os (.ext fun _ => True), ?_, fun _ z => by cases z⟩
        unfold first
        rw [if_neg e, if_pos rfl, hS, if_pos hk]
  · cases hk : K.lookup a with
    | some o =>
      have e := inK a o hk
      rw [at_] at e
      cases e
      refine .inr ⟨_, vs.toArray, _, hk, rfl, rfl, rfl, ?_, ?_⟩
      · rw [List.size_toArray, many]
        exact few
      · rw [List.toList_toArray]
        exact rv
    | none =>
      refine .inl (.inr ⟨{ cls := .type "list", data := .seq vs.toArray }, ?_⟩)
      unfold first
      rw [if_pos rfl, hA, if_pos hk]
theorem walk_ofS {l : PySem.W.OpenLaw} {n k : Nat} {q : Program} {loose : List Str} {XP : (Str → Option Value) → Heap → Prop} {YP : World → Heap → Prop} {d : DefRec} {K : Params → PySem.W.Frag} {sp : World → Sp} {x : Str}
    (hn : l.most = some n) (hn2 : n ≤ sizeLine) (hdf : d.params.defaults = []) (hr : Room k callerA) (hq : importsNone q = true)
    (hY : ∀ (w : World) (h : Heap), YP w h → (K w.params).In h)
    (F : ∀ (w : World) (mg : Str → Option Value) (fa : Addr) (h : Heap), (K w.params).In h → h.Ns mainGlobals mg → mg d.name = some (.ref fa) →
      ∃ fd : FuncData, (∀ (s : Shared) (u : Value), BindsTo s fd ⟨[u], []⟩ [(x, u)]) ∧ ∀ base : Heap, (K w.params).In base → base.Ns mainGlobals mg → RG7.FnG l.prog w (K w.params) mg base k fa fd [x] (sp w))
    (hsp : ∀ (w : World) (H : Hp) (a : Addr) (ns : List Int), ns.length ≤ n → SysK (K w.params) H → SqL (K w.params) H a (ns.map V.int) → sp w [.ref a] H (fun v _ => v = .bl true) fun _ _ _ => False) :
    PySem.W.WalkO q loose XP YP l.row.toRowW d [] (fun f vs => PySem.call f vs) :=
  Att.attach_call hn hdf fun w s₀ s₁ mg mb fa o pm cd doc a vs ns G Y ho hd hcd hmg hobj hints hlen hg => by
    have KX := hY w _ Y
    obtain ⟨fd, bd, FF⟩ := F w mg fa _ KX G.T.g hmg
    exact callS KX G.T.g G.T.b G.T.builtins G.T.nolimit hg hobj hints (Nat.le_trans hlen hn2) hr (by
      obtain ⟨mm, ⟨o, _, _, e, _⟩, _⟩ := (G.T.seer hq).mods
      exact ⟨o, e⟩) FF bd fun H hO hS => hsp w H a ns hlen hO hS
/-! ### what kind of thing it is -/
def tyD : PyData → String
  | .none => "NoneType"
  | .bool _ => "bool"
  | .int _ => "int"
  | .str _ => "str"
  | .list _ => "list"
  | .tuple _ => "tuple"
  | .dict _ => "dict"
theorem tyTup' {K : PySem.W.Frag} {H : Hp} {a : Addr} {xs : List V} (h : SqT K H a xs) : TyX K H (.ref a) (.type "tuple") := by
  rcases h with (h | ⟨o, h⟩) | h
  · exact .base (.tup h)
  · exact .fTuple h
  · obtain ⟨o, n, vs, e, c, _⟩ := h
    exact .kTuple e c
theorem Od.ty {K : PySem.W.Frag} {H : Hp} {v : V} {d : PyData} (h : Od K H v d) : TyX K H v (.type (tyD d)) := by
  cases h with
  | non => exact .base .non
  | bl b => exact .base (.bl b)
  | int i => exact .base (.int i)
  | str x => exact .base (.str x)
  | lst e _ => exact .base (.lst e)
  | tup e _ => exact tyTup' e
  | dct e _ => exact .base (.dK e)
theorem kit_tuple {K : PySem.W.Frag} (d : PyData) : PySem.W.kitOne K (.type (tyD d)) (.type "tuple") = some (match d with | .tuple _ => true | _ => false) := by
  cases d with
  | none => exact kit_ty (show kitB "NoneType" "tuple" = some false by decide +kernel)
  | bool _ => exact kit_ty (show kitB "bool" "tuple" = some false by decide +kernel)
  | int _ => exact kit_ty (show kitB "int" "tuple" = some false by decide +kernel)
  | str _ => exact kit_ty (show kitB "str" "tuple" = some false by decide +kernel)
  | list _ => exact kit_ty (show kitB "list" "tuple" = some false by decide +kernel)
  | tuple _ => exact kit_ty (show kitB "tuple" "tuple" = some true by decide +kernel)
  | dict _ => exact kit_ty (show kitB "dict" "tuple" = some false by decide +kernel)
theorem kit_int {K : PySem.W.Frag} (d : PyData) : PySem.W.kitOne K (.type (tyD d)) (.type "int") = some (match d with | .int _ => true | .bool _ => true | _ => false) := by
  cases d with
  | none => exact kit_ty (show kitB "NoneType" "int" = some false by decide +kernel)
  | bool _ => exact kit_ty (show kitB "bool" "int" = some true by decide +kernel)
  | int _ => exact kit_ty (show kitB "int" "int" = some true by decide +kernel)
  | str _ => exact kit_ty (show kitB "str" "int" = some false by decide +kernel)
  | list _ => exact kit_ty (show kitB "list" "int" = some false by decide +kernel)
  | tuple _ => exact kit_ty (show kitB "tuple" "int" = some false by decide +kernel)
  | dict _ => exact kit_ty (show kitB "dict" "int" = some false by decide +kernel)
theorem kit_bool {K : PySem.W.Frag} (d : PyData) : PySem.W.kitOne K (.type (tyD d)) (.type "bool") = some (match d with | .bool _ => true | _ => false) := by
  cases d with
  | none => exact kit_ty (show kitB "NoneType" "bool" = some false by decide +kernel)
  | bool _ => exact kit_ty (show kitB "bool" "bool" = some true by decide +kernel)
  | int _ => exact kit_ty (show kitB "int" "bool" = some false by decide +kernel)
  | str _ => exact kit_ty (show kitB "str" "bool" = some false by decide +kernel)
  | list _ => exact kit_ty (show kitB "list" "bool" = some false by decide +kernel)
  | tuple _ => exact kit_ty (show kitB "tuple" "bool" = some false by decide +kernel)
  | dict _ => exact kit_ty (show kitB "dict" "bool" = some false by decide +kernel)
/-- all but what may change stays: data stay data -/
theorem Od.mono {K : PySem.W.Frag} {H H' : Hp} {v : V} {d : PyData} (h : Od K H v d) (s : ∀ b o, H b = some o → H' b = some o) : Od K H' v d := by
  refine Od.rec (motive_1 := fun v d _ => Od K H' v d) (motive_2 := fun vs ds _ => OdAll K H' vs ds) ?_ ?_ ?_ ?_ ?_ ?_ ?_ ?_ ?_ h
  · exact .non
  · exact fun b => .bl b
  · exact fun i => .int i
  · exact fun x => .str x
  · exact fun e _ ih => .lst (s _ _ e) ih
  · exact fun e _ ih => .tup (e.elim (fun h => .inl (h.elim (fun h => .inl (s _ _ h)) fun ⟨o, h⟩ => .inr ⟨o, s _ _ h⟩)) .inr) ih
  · exact fun e _ ih => .dct (s _ _ e) ih
  · exact .nil
  · exact fun _ _ a b => .cons a b
theorem OdAll.get {K : PySem.W.Frag} {H : Hp} : ∀ {vs : List V} {ds : List PyData}, OdAll K H vs ds → ∀ {i : Nat} {v : V}, vs[i]? = some v → ∃ d, ds[i]? = some d ∧ Od K H v d
  | [], _, h, i, v, hv => by simp at hv
  | x :: vs, _, h, i, v, hv => by
    cases h with
    | cons a t =>
      cases i with
      | zero =>
        simp at hv
        subst hv
        exact ⟨_, rfl, a⟩
      | succ i =>
        simp only [List.getElem?_cons_succ] at hv ⊢
        exact OdAll.get t hv
/-- a whole number within bounds -/
def numD (lo hi : Int) : PyData → Bool
  | .int i => decide (lo ≤ i) && decide (i ≤ hi)
  | _ => false
def isI : PyData → Bool
  | .int _ => true
  | _ => false
/-! ### an instance made where the making may raise -/
section
variable {X : Cx} {CX : CXT} {k : Nat} {f C : Addr} {fd : FuncData} {ps : List Str} {sp : Sp} {E : L2.St → XK} {x : Str} {p pos : Pos} {e : Expr} {es : List Expr} {t : TA}
def tMakeS (C : Addr) (sp : Sp) (E : L2.St → XK) (t : TA) : TE := fun σ H Q => t σ H fun vs H1 => ∀ x dx, H1 x = none → H1 dx = none → dx ≠ x → sp (.ref x :: vs) (upd (upd H1 dx (.own x)) x (.ins C dx [])) (fun v H2 => v = .non ∧ Q (.ref x) H2) (E σ)
theorem run_makeS {pins : List (Addr × Obj)} {σ : L2.St} {H : Hp} {s : Shared} {Q : VK} {us : List Value} {vs : List V} (M : Mk X.K C f) (F : FnOk X.prog X.w X.K X.mg X.base CX k f fd ps sp) (hr : Room (k + 1) X.A) (hb : Binds X.K fd ps [])
    (hx : PassesAt CX X σ (E σ)) (I : Inv X pins σ H s) (r : Vals vs us)
    (h : ∀ x dx, H x = none → H dx = none → dx ≠ x → sp (.ref x :: vs) (upd (upd H dx (.own x)) x (.ins C dx [])) (fun v H2 => v = .non ∧ Q (.ref x) H2) (E σ)) :
    wpAny (model X.prog X.w) X.A (call (.ref C) us) (EP X pins σ Q) X.xe s := by
  have hq := h (s.heap.objs.size + 1) s.heap.objs.size (I.hok.fresh (Nat.le_succ _)) (I.hok.fresh (Nat.le_refl _)) (Nat.ne_of_lt (Nat.lt_succ_self _))
  have I2 := Inv.made (C := C) I
  have r2 : Vals (V.ref (s.heap.objs.size + 1) :: vs) (Value.ref (s.heap.objs.size + 1) :: us) := .cons rfl r
  have hl : (Value.ref (s.heap.objs.size + 1) :: us ++ []).length = ps.length := by
    have e := r2.length
    rw [F.len _ _ _ _ hq] at e
    rw [List.append_nil]
    exact e.symm
  have hbb := hb _ (Value.ref (s.heap.objs.size + 1) :: us) I2.kIn hl
  rw [List.append_nil] at hbb
  refine wpAny_call (make_map (f := f) I.kIn M.makes M.init (beq_iff_eq.mp M.fn) (codeAny_mono (F.run _ X.stack _ _ ⟨Value.ref (s.heap.objs.size + 1) :: us, []⟩ (Value.ref (s.heap.objs.size + 1) :: us) _ _ (E σ) (hr.make C us [])
    (I2.env0.make C us []) hbb r2 hq) fun r s' hq' => ?_))
  cases r with
  | error e => exact hx pins _ _ e s' I2 hq'
  | ok fl =>
    cases fl with
    | ret u =>
      obtain ⟨v, H', I3, rv, ev, q3⟩ := I2.after hq'
      subst ev
      exact ⟨rv, ⟨V.ref (s.heap.objs.size + 1), H', I3, rfl, q3⟩⟩
    | next => exact False.elim hq'
    | brk => exact False.elim hq'
    | cont => exact False.elim hq'
theorem pe_makeS (M : Mk X.K C f) (F : FnOk X.prog X.w X.K X.mg X.base CX k f fd ps sp) (hr : Room (k + 1) X.A) (hg : Gl X x) (hm : X.mg x = some (.ref C)) (hb : Binds X.K fd ps []) (hx : ∀ σ, PassesAt CX X σ (E σ))
    (ha : PA X (e :: es) t) (hdb : (x == ("__debug__" : Str)) = false := by decide) (he : starEach (e :: es) X.env = (false, eval e X.env) :: starEach es X.env := by rfl) (hpl : (backTo pos (starEach es X.env)).any (·.1) = false := by rfl) :
    PE X (.Call (.Name x p) (e :: es) [] pos) (tMakeS C sp E t) := by
  refine ⟨fun pins s σ H Q I h => ?_⟩
  refine wpAny_Call_Name_kw (ld_glob I hg hm ?_ hdb)
  refine PySem.W.callWith_K (h₀ := X.base) I.ok.mod.kin M.kp (thn (ha.run pos pins s σ H _ I h) fun us s1 ⟨vs, H1, I1, r, q⟩ => ⟨I1.kIn, ?_⟩) he hpl
  exact run_makeS M F hr hb (hx σ) I1 r q
end
/-- isinstance(e, c), e the caught exception, its fields in the dict at d -/
def rIsED (K : PySem.W.Frag) (D : Addr) (cls : Value) (d : Option Addr) (a : Addr) : List V → Hp → VK → Prop := fun xs H Q => ∃ (c : V) (cv : Value) (b : Bool) (dd : Addr) (fs : List (Str × V)), xs = [.ref a, c] ∧ cls = .ref D ∧ d = some dd ∧ H dd = some (.xd fs) ∧ ClsV c cv ∧ PySem.W.kitOne K (.ref D) cv = some b ∧ Q (.bl b) H
theorem call_isED {X : Cx} {a D : Addr} {oe : Obj} {cls : Value} {d : Option Addr} {pn : List (Addr × Obj)} (C : ExcC X.K D) (hz : Zc cls d oe) (hf : ∃ vs, oe.data = .fields vs) : CallR (X.suite a ((a, oe) :: pn)) (.builtin "isinstance") (rIsED X.K D cls d a) := by
  intro pins s σ H xs us Q I r h
  obtain ⟨c, cv, b, dd, fs, rfl, ec, ed, ea, hcv, e, q⟩ := h
  subst ec
  subst ed
  cases r with
  | cons rx rr =>
    cases rr with
    | cons rt rr =>
      cases rr
      cases rx
      have e2 := hcv.eq rt
      subst e2
      obtain ⟨hget, _⟩ := I.pin (a, oe) (List.mem_append.mpr (.inl List.mem_cons_self))
      obtain ⟨vs, hv⟩ := hf
      have hx : ObjOk X.prog X.w H s.heap dd (.xd fs) := I.hok dd _ ea
      obtain ⟨mA, hns, hr⟩ := hx
      obtain ⟨od, ho, hl⟩ := lookIn_ns hns
      obtain ⟨cd, hcD, _⟩ := PySem.W.any_some C.hd
      have J : PySem.W.InstAt s.heap a oe D (some od) := ⟨hget, hz.1, by unfold PySem.W.notCls; rw [hv] <;> rfl, by rw [hz.2]; exact ho⟩
      exact PySem.W.kia_one (PySem.W.kitx_exc (by rw [hcD]; rfl) C.hg C.hk C.hs C.ha C.hn C.ht C.hm) I.kIn J e (fun z => nomatch z) fun tk => ⟨.bl b, H, I.tok tk, rfl, q⟩
/-- a field where the frame is named (within a try) -/
theorem pe_fldK {X : Cx} {K : PySem.W.Frag} {e : Expr} {f : Str} {ta : TE} {pos : Pos} (h : X.K = K) (he : PE X e ta) (hb : attributeBase e f X.env (eval e X.env) = eval e X.env) : PE X (.Attribute e f pos) (tFld K ta f) := h ▸ pe_fld he hb
end RO9

/-! ### things of any kind: bounds of their repr, data without dicts -/
namespace RO9
open PySem PySem.Spec PyProof.Rows L2
def roB (k n : Nat) (d : PyData) : Bool := d.showable && decide (d.depth ≤ k) && d.leavesShort 64 && decide (d.bulk ≤ n)
theorem roOf {k n : Nat} {d : PyData} (h : roB k n d = true) : Ro k n d := by
  unfold roB at h
  simp only [Bool.and_eq_true, decide_eq_true_eq] at h
  exact ⟨h.1.1.1, h.1.1.2, h.1.2, h.2⟩
theorem Ro.up {k k' n n' : Nat} {d : PyData} (h : Ro k n d) (hk : k ≤ k') (hn : n ≤ n') : Ro k' n' d := ⟨h.sh, Nat.le_trans h.dp hk, h.lf, Nat.le_trans h.bk hn⟩
theorem Ro.all {k n : Nat} : ∀ {ds : List PyData}, (∀ d ∈ ds, Ro k n d) → PyData.showableAll ds = true ∧ PyData.depthAll ds ≤ k ∧ PyData.leavesShortAll 64 ds = true ∧ PyData.bulkAll ds ≤ ds.length * (n + 1)
  | [], _ => ⟨by simp [PyData.showableAll], by simp [PyData.depthAll], by simp [PyData.leavesShortAll], by simp [PyData.bulkAll]⟩
  | d :: ds, h => by
    obtain ⟨a1, a3, a4, a5⟩ := Ro.all (ds := ds) fun x hx => h x (List.mem_cons_of_mem _ hx)
    have b := h d List.mem_cons_self
    refine ⟨?_, ?_, ?_, ?_⟩
    · simp only [PyData.showableAll, b.sh, a1, Bool.and_true]
    · simp only [PyData.depthAll]
      exact Nat.max_le.mpr ⟨b.dp, a3⟩
    · simp only [PyData.leavesShortAll, b.lf, a4, Bool.and_true]
    · simp only [PyData.bulkAll, List.length_cons]
      have := b.bk
      rw [Nat.add_mul]
      omega
theorem Ro.tup {k n m : Nat} {ds : List PyData} (h : ∀ d ∈ ds, Ro k n d) (hm : ds.length * (n + 1) ≤ m) : Ro (k + 1) m (.tuple ds) := by
  obtain ⟨a1, a3, a4, a5⟩ := Ro.all h
  refine ⟨?_, ?_, ?_, ?_⟩
  · simpa only [PyData.showable] using a1
  · simp only [PyData.depth]
    omega
  · simpa only [PyData.leavesShort] using a4
  · simp only [PyData.bulk]
    omega
theorem Ro.lst {k n m : Nat} {ds : List PyData} (h : ∀ d ∈ ds, Ro k n d) (hm : ds.length * (n + 1) ≤ m) : Ro (k + 1) m (.list ds) := by
  obtain ⟨a1, a3, a4, a5⟩ := Ro.all h
  refine ⟨?_, ?_, ?_, ?_⟩
  · simpa only [PyData.showable] using a1
  · simp only [PyData.depth]
    omega
  · simpa only [PyData.leavesShort] using a4
  · simp only [PyData.bulk]
    omega
theorem Ro.pair {k n m q : Nat} {a b : PyData} (ha : Ro k n a) (hb : Ro k m b) (hq : n + m + 2 ≤ q) : Ro (k + 1) q (.tuple [a, b]) := by
  have h1 := ha.bk
  have h2 := hb.bk
  have h3 := ha.dp
  have h4 := hb.dp
  refine ⟨?_, ?_, ?_, ?_⟩
  · simp only [PyData.showable, PyData.showableAll, ha.sh, hb.sh, Bool.and_true]
  · simp only [PyData.depth, PyData.depthAll]
    omega
  · simp only [PyData.leavesShort, PyData.leavesShortAll, ha.lf, hb.lf, Bool.and_true]
  · simp only [PyData.bulk, PyData.bulkAll]
    omega
theorem Ro.int {i : Int} (h : -1000000000 ≤ i) (g : i ≤ 1000000000) : Ro 0 0 (.int i) := .of (.int (by omega))
theorem Ro.ints {ns : List Int} {m : Nat} (h : ∀ n ∈ ns, -1000000000 ≤ n ∧ n ≤ 1000000000) (hm : ns.length ≤ m) : Ro 1 m (.tuple (ns.map PyData.int)) := .tup (n := 0) (fun d hd => by
  obtain ⟨n, hn, rfl⟩ := List.mem_map.mp hd
  exact .int (h n hn).1 (h n hn).2) (by rw [List.length_map]; omega)
theorem Od.dp {K : PySem.W.Frag} {H : Hp} {v : V} {d : PyData} (h : Od K H v d) (n : d.hasDict = false) : Dp K H v d := by
  refine Od.rec (motive_1 := fun v d _ => d.hasDict = false → Dp K H v d) (motive_2 := fun vs ds _ => PyData.hasDictAll ds = false → DpAll K H vs ds) ?_ ?_ ?_ ?_ ?_ ?_ ?_ ?_ ?_ h n
  · exact fun _ => .non
  · exact fun b _ => .bl b
  · exact fun i _ => .int i
  · exact fun x _ => .str x
  · exact fun e _ ih n => .lst (SqL.of e) (ih (by simpa only [PyData.hasDict] using n))
  · exact fun e _ ih n => .tup e (ih (by simpa only [PyData.hasDict] using n))
  · exact fun _ _ _ n => by simp [PyData.hasDict] at n
  · exact fun _ => .nil
  · intro v vs d ds _ _ a b n
    simp only [PyData.hasDictAll, Bool.or_eq_false_iff] at n
    exact .cons (a n.1) (b n.2)
mutual
theorem Dp.od {K : PySem.W.Frag} {H : Hp} (sl : ∀ a xs, SqL K H a xs → H a = some (.lst xs)) : ∀ {v : V} {d : PyData}, Dp K H v d → Od K H v d
  | _, _, .non => .non
  | _, _, .bl b => .bl b
  | _, _, .int i => .int i
  | _, _, .str x => .str x
  | _, _, .lst e h => .lst (sl _ _ e) (DpAll.od sl h)
  | _, _, .tup e h => .tup e (DpAll.od sl h)
theorem DpAll.od {K : PySem.W.Frag} {H : Hp} (sl : ∀ a xs, SqL K H a xs → H a = some (.lst xs)) : ∀ {vs : List V} {ds : List PyData}, DpAll K H vs ds → OdAll K H vs ds
  | _, _, .nil => .nil
  | _, _, .cons a b => .cons (Dp.od sl a) (DpAll.od sl b)
end
theorem OdAll.ints {K : PySem.W.Frag} {H : Hp} : ∀ ns : List Int, OdAll K H (ns.map V.int) (ns.map PyData.int)
  | [] => .nil
  | n :: ns => .cons (.int n) (OdAll.ints ns)
theorem Od.ints {K : PySem.W.Frag} {H : Hp} {a : Addr} {ns : List Int} (h : SqT K H a (ns.map V.int)) : Od K H (.ref a) (.tuple (ns.map PyData.int)) := .tup h (OdAll.ints ns)
theorem OdAll.mono {K : PySem.W.Frag} {H H' : Hp} {vs : List V} {ds : List PyData} (h : OdAll K H vs ds) (s : ∀ b o, H b = some o → H' b = some o) : OdAll K H' vs ds := by
  refine OdAll.rec (motive_1 := fun v d _ => Od K H' v d) (motive_2 := fun vs ds _ => OdAll K H' vs ds) ?_ ?_ ?_ ?_ ?_ ?_ ?_ ?_ ?_ h
  · exact .non
  · exact fun b => .bl b
  · exact fun i => .int i
  · exact fun x => .str x
  · exact fun e _ ih => .lst (s _ _ e) ih
  · exact fun e _ ih => .tup (e.elim (fun h => .inl (h.elim (fun h => .inl (s _ _ h)) fun ⟨o, h⟩ => .inr ⟨o, s _ _ h⟩)) .inr) ih
  · exact fun e _ ih => .dct (s _ _ e) ih
  · exact .nil
  · exact fun _ _ a b => .cons a b
theorem OdAll.append {K : PySem.W.Frag} {H : Hp} {ds' : List PyData} {vs' : List V} (h' : OdAll K H vs' ds') : ∀ {vs : List V} {ds : List PyData}, OdAll K H vs ds → OdAll K H (vs ++ vs') (ds ++ ds')
  | [], _, h => by
    cases h
    exact h'
  | _ :: _, _, h => by
    cases h with
    | cons a t => exact .cons a (OdAll.append h' t)
theorem OdAll.set {K : PySem.W.Frag} {H : Hp} {v : V} {d : PyData} (hd : Od K H v d) : ∀ {vs : List V} {ds : List PyData} (i : Nat), OdAll K H vs ds → OdAll K H (vs.set i v) (ds.set i d)
  | [], _, _, h => by
    cases h
    exact .nil
  | _ :: _, _, 0, h => by
    cases h with
    | cons a t => exact .cons hd t
  | _ :: _, _, i + 1, h => by
    cases h with
    | cons a t => exact .cons a (OdAll.set hd i t)
theorem OdAll.take {K : PySem.W.Frag} {H : Hp} : ∀ {vs : List V} {ds : List PyData} (i : Nat), OdAll K H vs ds → OdAll K H (vs.take i) (ds.take i)
  | [], _, _, h => by
    cases h
    simp only [List.take_nil]
    exact .nil
  | _ :: _, _, 0, _ => .nil
  | _ :: _, _, i + 1, h => by
    cases h with
    | cons a t => exact .cons a (OdAll.take i t)
theorem OdAll.drop {K : PySem.W.Frag} {H : Hp} : ∀ {vs : List V} {ds : List PyData} (i : Nat), OdAll K H vs ds → OdAll K H (vs.drop i) (ds.drop i)
  | [], _, _, h => by
    cases h
    simp only [List.drop_nil]
    exact .nil
  | _ :: _, _, 0, h => h
  | _ :: _, _, i + 1, h => by
    cases h with
    | cons a t => exact OdAll.drop i t
theorem OdAll.rep {K : PySem.W.Frag} {H : Hp} {vs : List V} {ds : List PyData} (h : OdAll K H vs ds) : ∀ n : Nat, OdAll K H (List.replicate n vs).flatten (List.replicate n ds).flatten
  | 0 => .nil
  | n + 1 => by
    rw [List.replicate_succ, List.replicate_succ, List.flatten_cons, List.flatten_cons]
    exact OdAll.append (OdAll.rep h n) h
theorem len_flat {α : Type} (xs : List α) : ∀ n : Nat, (List.replicate n xs).flatten.length = n * xs.length
  | 0 => by simp
  | n + 1 => by
    rw [List.replicate_succ, List.flatten_cons, List.length_append, len_flat xs n, Nat.succ_mul]
    omega
theorem mem_flat {α : Type} {xs : List α} {x : α} {n : Nat} (h : x ∈ (List.replicate n xs).flatten) : x ∈ xs := by
  obtain ⟨l, hl, hx⟩ := List.mem_flatten.mp h
  rw [(List.mem_replicate.mp hl).2] at hx
  exact hx
end RO9

/-! ## sorted(range(n), key=lambda x: (ys[x], x)) -/
namespace LS13
open PySem PySem.Spec PySem.Calls PyProof.Rows L2
/-- the lambda's scope: its parameter x, the captured name y -/
structure LamP (scope : Scope) (x y : Str) : Prop where
  kind : scope.kind = .function
  co : scope.isCoroutine = false
  gen : scope.isGenerator = false
  names : scope.names = [(x, .local), (y, .free)]
section
variable {prog : Program} {w : World} {A : Around} {s : Shared}
/-- the key of one item -/
theorem key_call {f c c' la : Addr} {x y q : Str} {p1 p2 p3 p4 p5 : Pos} {k0 : Nat} {scope : Scope} {cl : List (Str × Addr)} {params : Arguments} {pm ctv : Value} {its : List Value} {ls : List Int} {i : Int} {t0 : Tok} {j : Nat}
    (L : LamP scope x y) (hxy : (x == y) = false) (hcl : cl = [(y, c)]) (hroom : A.depth < recursionLimit) (hlim : s.heap.NoLimit) (hcell : s.heap.IsCell c (some (.ref la))) (htup : IsTup s.heap la its.toArray) (hv : Vals (ls.map V.int) its) (hz : ls.length ≤ 1000)
    (hf : s.heap.get? f = some (PySem.W.kla_obj "<lambda>" q params (.Tuple [.Subscript (.Name y p1) (.Name x p2) p3, .Name x p4] k0 p5) scope cl pm c' ctv)) (hcd : s.heap.CodeRec (.ref c') q)
    (hbind : bindArgs (PySem.W.kla_fn "<lambda>" q params (.Tuple [.Subscript (.Name y p1) (.Name x p2) p3, .Name x p4] k0 p5) scope cl pm (.ref c') ctv) ⟨[.int (j : Int) t0], []⟩ = pure [(x, .int (j : Int) t0)])
    (hj : ls[j]? = some i) (hd1 : (x == ("__debug__" : Str)) = false) (hd2 : (y == ("__debug__" : Str)) = false) (hd3 : (y == ("__classdict__" : Str)) = false) :
    wpAny (model prog w) A (call (.ref f) [.int (j : Int) t0]) (PySem.W.KeyPure (.tuple [.int i, .int (j : Int)]) s) (fun _ _ => False) s := by
  refine wpAny_call ?_
  refine PySem.W.kla_callFunE hroom hf rfl L.co L.gen rfl hcd ?_
  rw [hbind]
  have ln : scope.names.lookup x = some .local := by rw [L.names]; simp [List.lookup]
  have yx : (y == x) = false := by
    cases h : (y == x) with
    | false => rfl
    | true =>
      have e := eq_of_beq h
      rw [e] at hxy
      simp at hxy
  have fn : scope.names.lookup y = some .free := by rw [L.names]; simp [List.lookup, yx]
  refine wpAny_pure (wpAny_newFunctionEnv (fun z hz => ?_) (fun z hz => ?_) (fun h₁ hns hsb => ⟨hlim.fresh _ hsb, ?_⟩) L.kind)
  · rw [L.names] at hz
    rcases List.mem_cons.mp hz with rfl | hz
    · exact fun z => by cases z
    · rw [List.mem_singleton.mp hz]
      exact fun z => by cases z
  · rw [List.mem_singleton.mp hz]
    exact ln
  have kp : ∀ b o, s.heap.get? b = some o → h₁.get? b = some o := fun b o e => hsb.extBut b o (Nat.ne_of_lt (Heap.lt_size e)) (Heap.get?_push_of_some _ e)
  obtain ⟨L0, hL0⟩ : ∃ L0, L0 = s.heap.objs.size := ⟨_, rfl⟩
  show codeAny _ _ (.expr _ (PySem.W.envX q scope s.heap.objs.size f (.ref c') cl)) _ _
  rw [← hL0]
  rw [← hL0] at hns
  refine PySem.W.kla_codeExpr ?_
  have kx : (PySem.W.envX q scope L0 f (.ref c') cl).kindOf x = some .local := ln
  have ky : (PySem.W.envX q scope L0 f (.ref c') cl).kindOf y = some .free := fn
  have cy : (PySem.W.envX q scope L0 f (.ref c') cl).cells.lookup y = some c := by
    show cl.lookup y = some c
    rw [hcl]
    simp [List.lookup]
  have lz := hv.length
  rw [List.length_map] at lz
  have hjl := (List.getElem?_eq_some_iff.mp hj).1
  obtain ⟨u, eu, ru⟩ := hv.get (i := j) (x := .int i) (by rw [List.getElem?_map, hj]; rfl)
  obtain ⟨tu, rfl⟩ := ru
  have hloc : (fun z => ([(x, Value.int (j : Int) t0)] : List (Str × Value)).reverse.lookup z) x = some (.int (j : Int) t0) := by
    show List.lookup x [(x, Value.int (j : Int) t0)] = _
    simp [List.lookup]
  refine wpAny_Tuple_spliced (pos := p5) ?_
  show wpAny _ _ (spliced ((false, eval (.Subscript (.Name y p1) (.Name x p2) p3) (PySem.W.envX q scope L0 f (.ref c') cl)) :: backTo p5 (starEach [.Name x p4] (PySem.W.envX q scope L0 f (.ref c') cl)))) _ _ _
  refine spliced_cons (Subscript_ (wpAny_Name (wpAny_loadName_free L.kind ky cy (v := .ref la) ?_ (wpAny_Name (wpAny_loadName_local L.kind kx hns hloc ?_) hd1) hd3) hd2))
  · obtain ⟨o, ho, hd⟩ := hcell
    exact ⟨o, kp _ _ ho, hd⟩
  have htup' : IsTup h₁ la its.toArray := by
    obtain ⟨o, ho, hc, n, hd⟩ := htup
    exact ⟨o, kp _ _ ho, hc, n, hd⟩
  have hn := line63
  refine subscriptTail_builtinR (x := .int i tu) htup'.typeIs slot_tuple_getitem.lookup
    (getItem_tuple (j := j) (Q := fun r s' => r = .int i tu ∧ _) htup' (by omega) (by omega) (by rw [List.size_toArray, seqIndex_of (by omega) (by omega), Int.toNat_natCast]) (by simpa using eu) ⟨rfl, ?_⟩) (by rfl)
  show wpAny _ _ (spliced ((false, eval (.Name x p4) (PySem.W.envX q scope L0 f (.ref c') cl)) :: backTo p5 (starEach [] (PySem.W.envX q scope L0 f (.ref c') cl)))) _ _ _
  refine spliced_cons (wpAny_Name (wpAny_loadName_local L.kind kx hns hloc ?_) hd1)
  refine spliced_nil ⟨by show 2 ≤ sizeLine; decide, ?_⟩
  exact ⟨_, _, rfl, fun b o e => Heap.get?_push_of_some _ (kp b o e), .tuple (Heap.get?_push_size _ rfl) rfl rfl (.cons (.int _ _) (.cons (.int _ _) .nil))⟩
end
end LS13
namespace LS13
open PySem PySem.Spec PySem.Calls PyProof.Rows L2 LamX
/-- the order: by what stands there, then by the place -/
def lexle (ls : List Int) (i j : Int) : Prop := ls.getD i.toNat 0 < ls.getD j.toNat 0 ∨ (ls.getD i.toNat 0 = ls.getD j.toNat 0 ∧ i ≤ j)
def rgI (n : Nat) : List Int := (List.range n).map fun i => ((i : Nat) : Int)
def keyD (ls : List Int) (i : Int) : PyData := .tuple [.int (ls.getD i.toNat 0), .int i]
def IsI (v : Value) (i : Int) : Prop := ∃ t, v = .int i t
theorem each_vals : ∀ {bs : List Int} {vs : List Value}, Vals (bs.map V.int) vs → PySem.W.EachIs IsI vs bs
  | [], _, h => by
    cases h
    exact .nil
  | b :: bs, _, h => by
    cases h with
    | cons r t =>
      obtain ⟨tk, rfl⟩ := r
      exact .cons ⟨tk, rfl⟩ (each_vals t)
theorem vals_each : ∀ {bs : List Int} {vs : List Value}, PySem.W.EachIs IsI vs bs → Vals (bs.map V.int) vs
  | _, _, .nil => .nil
  | _, _, .cons ⟨t, e⟩ h => .cons ⟨t, e⟩ (vals_each h)
theorem key_le (ls : List Int) : PySem.W.dataLe false (keyD ls) = fun p q => decide (ls.getD p.toNat 0 < ls.getD q.toNat 0 ∨ (ls.getD p.toNat 0 = ls.getD q.toNat 0 ∧ p ≤ q)) := PySem.W.dataLe_ii (fun i : Int => ls.getD i.toNat 0) (fun i => i)
theorem sorted_pw (ls bs : List Int) : (bs.mergeSort (PySem.W.dataLe false (keyD ls))).Pairwise (lexle ls) := by
  have e := key_le ls
  refine (List.pairwise_mergeSort (le := PySem.W.dataLe false (keyD ls)) (fun a b c h1 h2 => ?_) (fun a b => ?_) bs).imp fun {a b} h => ?_
  · rw [e] at h1 h2 ⊢
    have h1 := of_decide_eq_true h1
    have h2 := of_decide_eq_true h2
    exact decide_eq_true (by omega)
  · rw [e, Bool.or_eq_true]
    by_cases c : ls.getD a.toNat 0 < ls.getD b.toNat 0 ∨ (ls.getD a.toNat 0 = ls.getD b.toNat 0 ∧ a ≤ b)
    · exact .inl (decide_eq_true c)
    · exact .inr (decide_eq_true (show ls.getD b.toNat 0 < ls.getD a.toNat 0 ∨ (ls.getD b.toNat 0 = ls.getD a.toNat 0 ∧ b ≤ a) by omega))
  · rw [e] at h
    have h := of_decide_eq_true h
    exact h
/-- a reading that goes on with SqT behind tables that grow -/
theorem sT_ext {K : PySem.W.Frag} {H H' : Hp} {a : Addr} {xs : List V} (h : SqT K H a xs) (e : ExtN H H') : SqT K H' a xs :=
  h.elim (fun h => .inl (h.elim (fun h => .inl (e _ _ h (fun _ z => by cases z))) fun ⟨o, h⟩ => .inr ⟨o, e _ _ h (fun _ z => by cases z)⟩)) fun h => .inr h
def tSortLam (K : PySem.W.Frag) (T : List (Addr × Str)) (i0 : Nat) (ta : TE) : TE := fun σ H Q => ta σ H fun z H1 => ∃ (la : Addr) (ls : List Int), z = .int ((ls.length : Nat) : Int) ∧ σ[i0]? = some (some (.ref la)) ∧ SqT K H1 la (ls.map V.int) ∧ ls.length ≤ 1000 ∧ Tabs T H1 ∧
  ∀ (os : List Int) (p : Addr) (H2 : Hp), os.Perm (rgI ls.length) → os.Pairwise (lexle ls) → H1 p = none → ExtN H1 H2 → Tabs T H2 → H2 p = some (.lst (os.map V.int)) → Q (.ref p) H2
section
variable {X : Cx}
theorem pe_sortLam {T : List (Addr × Str)} {x y : Str} {a : Expr} {ta : TE} {i0 k k0 : Nat} {c P : Addr} {scope : Scope} {params : Arguments} {p0 p1 p2 p3 p4 p5 p6 p7 lpos kpos pos : Pos} (ha : PE X a ta)
    (hgS : Gl X "sorted") (hmS : X.mg "sorted" = none) (hgR : Gl X "range") (hmR : X.mg "range" = none) (na : starEach [a] X.env = (false, eval a X.env) :: starEach [] X.env)
    (TB : TabB X.base X.mg c P) (hcode : X.env.code = .ref c) (hmT : (P, X.env.qual ++ "<lambda>") ∈ T) (hu : ∀ p ∈ T, p.1 = P → p.2 = X.env.qual ++ "<lambda>") (hr : Room (k + 2) X.A)
    (hN : X.N[i0]? = some y) (hy : X.env.kindOf y = some .cell) (L : LamP scope x y) (hxy : (x == y) = false) (hdef : defaultsOf params X.env = ([], []))
    (hbind : ∀ (q : Str) (cl : List (Str × Addr)) (pm cv ctv : Value) (v : Value), bindArgs (PySem.W.kla_fn "<lambda>" q params (.Tuple [.Subscript (.Name y p1) (.Name x p2) p3, .Name x p4] k0 p5) scope cl pm cv ctv) ⟨[v], []⟩ = pure [(x, v)])
    (hd1 : (x == ("__debug__" : Str)) = false := by decide) (hd2 : (y == ("__debug__" : Str)) = false := by decide) (hd3 : (y == ("__classdict__" : Str)) = false := by decide) :
    PE X (.Call (.Name "sorted" p0) [.Call (.Name "range" p6) [a] [] p7] [⟨some "key", .Lambda params (.Tuple [.Subscript (.Name y p1) (.Name x p2) p3, .Name x p4] k0 p5) scope lpos, kpos⟩] pos) (tSortLam X.K T i0 ta) := by
  refine ⟨fun pins s σ H Q I h => ?_⟩
  refine wpAny_Call_Name_kw (ld_blt I hgS hmS (u := .builtin "sorted") (by rfl) ?_)
  refine PyProof.Rows.callWith_kw ?_
  refine args_cons (Call_ (ld_blt I hgR hmR boot_range (PyProof.Rows.callWith_type1 (one_arg ha I h (fun v s2 z H2 I2 r q => ?_) na) na)))
  obtain ⟨la, ls, rfl, hs, hT, hz, hTb, q⟩ := q
  obtain ⟨t, rfl⟩ := r
  refine call_range_1 (args_nil ?_)
  have fr0 : H2 s2.heap.objs.size = none := I2.hok.fresh (Nat.le_refl _)
  obtain ⟨ro, hro⟩ : ∃ ro : Obj, ro = { cls := .type "range", data := .fields #[.int 0 s2.toks, .int ((ls.length : Nat) : Int) t, .int 1 (s2.toks + 1)] } := ⟨_, rfl⟩
  have I3 : Inv X ((s2.heap.objs.size, ro) :: pins) σ H2 { s2 with heap := s2.heap.push { cls := .type "range", data := .fields #[.int 0 s2.toks, .int ((ls.length : Nat) : Int) t, .int 1 (s2.toks + 1)] }, toks := s2.toks + 1 + 1 } := by
    have J := I2.kept (t' := s2.toks + 1 + 1) (h' := s2.heap.push { cls := .type "range", data := .fields #[.int 0 s2.toks, .int ((ls.length : Nat) : Int) t, .int 1 (s2.toks + 1)] }) fun b u e => Heap.get?_push_of_some _ e
    refine J.pins_of fun p hp => ?_
    rcases List.mem_cons.mp hp with rfl | hp
    · refine ⟨by rw [hro]; exact Heap.get?_push_size _ rfl, fr0, Nat.ne_of_gt I2.lt, I2.nofs (Nat.le_refl _), fun v => ?_⟩
      rw [hro]
      exact fun z => by cases z
    · exact J.pin p (List.mem_append_right _ hp)
  have hfree : ∀ z ∈ scope.names, z.2 = .free → ∃ c, X.env.cells.lookup z.1 = some c := fun z hz e => by
    rw [L.names] at hz
    rcases List.mem_cons.mp hz with rfl | hz
    · cases e
    · rw [List.mem_singleton.mp hz]
      exact I.ok.has _ (.inl hy)
  show wpAny _ _ (evalAll ((do let v ← eval (.Lambda params (.Tuple [.Subscript (.Name y p1) (.Name x p2) p3, .Name x p4] k0 p5) scope lpos) X.env; standAt pos; pure v) :: [])) _ _ _
  refine wpAny_evalAll_cons (wpAny_bind (lam_make2 I3 TB hcode hmT hu hTb hdef hfree fun f c' pm ctv H3 s3 I4 eN T3 hf hfn hfr hco => wpAny_bind (wpAny_standAt (wpAny_pure (wpAny_evalAll_nil ?_)))))
  show wpAny _ _ (call (.builtin "sorted") [.ref s2.heap.objs.size] [(Str.ofString "key", .ref f)]) _ _ s3
  have hT3 := sT_ext hT eN
  -- what a key's call wants
  obtain ⟨its, hv, htup, _⟩ := I4.tuple hT3
  obtain ⟨m, hn, hl⟩ := I4.loc
  obtain ⟨u, ru, lu⟩ := hl i0 y (.ref la) hN hs (.inr (.inl hy))
  obtain ⟨cc, hcc, hcell⟩ : ∃ cc, X.env.cells.lookup y = some cc ∧ s3.heap.IsCell cc (some (.ref la)) := by
    cases ru
    rcases lu with ⟨k', _⟩ | ⟨_, cc, h1, h2⟩
    · rw [hy] at k'
      cases k'
    · exact ⟨cc, h1, h2⟩
  obtain ⟨⟨oc, cvs, ct, hoc, hdc, hvc⟩, _, _⟩ := I4.hok c' _ hco
  have hcl : cloFrom X.env.cells scope.names [] = [(y, cc)] := by
    rw [L.names]
    show cloFrom X.env.cells [(y, .free)] [] = _
    show [(y, (X.env.cells.lookup y).getD 0)] = _
    rw [hcc]
    rfl
  have hrng := (I4.pin (s2.heap.objs.size, ro) (List.mem_append_right _ (.head _))).1
  have hd := hr.hd
  refine call_function_entry_kw kind_sorted plain_sorted entry_sorted (PyProof.Rows.ksk_s1 _ _) ?_
  unfold Builtin.«sorted»
  refine wpAny_bind (m := checkCount "sorted" 1 1 _) (wpAny_pure ?_)
  have hrng' : IsRange s3.heap s2.heap.objs.size 0 ((ls.length : Nat) : Int) 1 s2.toks t (s2.toks + 1) := by
    rw [hro] at hrng
    exact hrng
  refine wpAny_bind (collect_range (n := ls.length) (A := X.A.in1) hd hrng' (small_one (by omega) (by omega) (by omega) (by omega)) (by have := rangeSize_nat 0 ((ls.length : Nat) : Int); simpa using this) (by omega) fun h5 tk5 acc k5 hi5 => ?_)
  have vacc : Vals ((rgI ls.length).map V.int) acc.toList := by
    have v := vals_rg (a := 0) (b := ((ls.length : Nat) : Int)) (acc := acc) (by
      have e : (((ls.length : Nat) : Int) - 0).toNat = ls.length := by omega
      rw [e]
      exact hi5)
    have e : rgV 0 ((ls.length : Nat) : Int) = (rgI ls.length).map V.int := by
      unfold rgV rgI
      rw [show (((ls.length : Nat) : Int) - 0).toNat = ls.length by omega, List.map_map]
      refine List.map_congr_left fun i _ => ?_
      show V.int (0 + (i : Int)) = V.int (i : Int)
      rw [Int.zero_add]
    rw [← e]
    exact v
  have lacc : acc.toList.length = ls.length := by
    have := vacc.length
    rw [List.length_map] at this
    unfold rgI at this
    rw [List.length_map, List.length_range] at this
    exact this.symm
  have hL : acc.toList.length ≤ sizeLine := by
    rw [lacc]
    show ls.length ≤ 2 ^ 24
    omega
  refine wpAny_bind (wpAny_newList ?_ hL)
  show wpAny _ _ _ _ _ { s3 with heap := h5.push (seqObj "list" acc.toList.toArray 0), toks := tk5 }
  obtain ⟨h6, hh6⟩ : ∃ h6, h6 = h5.push (seqObj "list" acc.toList.toArray 0) := ⟨_, rfl⟩
  rw [← hh6]
  have k6 : ∀ b o, s3.heap.get? b = some o → h6.get? b = some o := fun b o e => by
    rw [hh6]
    exact Heap.get?_push_of_some _ (k5 b o e)
  have at6 : h6.get? h5.objs.size = some (seqObj "list" acc.toList.toArray 0) := by
    rw [hh6]
    exact Heap.get?_push_size _ rfl
  have lt6 : ∀ b o, s3.heap.get? b = some o → b ≠ h5.objs.size := fun b o e => Nat.ne_of_lt (Heap.lt_size (k5 b o e))
  refine wpAny_bind (wpAny_holding (PySem.W.list_sort_key_data (b := false) (β := Int) (bs := rgI ls.length) (R := IsI) (keyD ls) at6 (each_vals vacc) (PySem.W.AllAlike.of fun b b' => by rfl) (PySem.W.Sortable.tuples fun b => ⟨_, _, rfl⟩) (by unfold rgI; rw [List.length_map, List.length_range]; show ls.length ≤ 2 ^ 24; omega)
    (fun z hz => ?_) (PyProof.Rows.ksk_l1 _ _) (PyProof.Rows.ksk_t1 f _) (fun v z hR hz h7 tk7 kb => ?_) (fun out c7 h7 tk7 kb ho hlen he => wpAny_pure ⟨_, rfl, ?_⟩)))
  · have hd1 : (keyD ls z).depth = 1 := by
      unfold keyD
      simp [PyData.depth, PyData.depthAll]
    have := hr.un
    rw [hd1]
    show X.A.units + 1 + 1 + 1 < cLine
    omega
  · have keep7 : ∀ b o, s3.heap.get? b = some o → h7.get? b = some o := fun b o e => kb b o (lt6 b o e) (k6 b o e)
    obtain ⟨j, hj, rfl⟩ := List.mem_map.mp hz
    have hjl := List.mem_range.mp hj
    obtain ⟨t0, rfl⟩ := hR
    have hlj := List.getElem?_eq_getElem hjl
    have ek : keyD ls (j : Int) = .tuple [.int ls[j], .int (j : Int)] := by
      unfold keyD
      rw [Int.toNat_natCast, List.getD_eq_getElem?_getD, hlj]
      rfl
    rw [ek]
    obtain ⟨oC, hoC, hdC⟩ := hcell
    obtain ⟨oT, hoT, hcT, nT, hdT⟩ := htup
    exact key_call (s := { heap := h7, gens := s3.gens, drawn := s3.drawn, toks := tk7, os := s3.os }) L hxy hcl (by have := hr.dp; show X.A.depth < _; omega) (I4.nolimit.keeps keep7) ⟨oC, keep7 _ _ hoC, hdC⟩ ⟨oT, keep7 _ _ hoT, hcT, nT, hdT⟩ hv ‹ls.length ≤ 1000›
      (keep7 _ _ hf) ⟨c', oc, cvs, ct, rfl, keep7 _ _ hoc, hdc, hvc⟩ (hbind _ _ _ _ _ _) hlj hd1 hd2 hd3
  · have keep7 : ∀ b o, s3.heap.get? b = some o → h7.get? b = some o := fun b o e => kb b o (lt6 b o e) (k6 b o e)
    obtain ⟨os, hos⟩ : ∃ os, os = (rgI ls.length).mergeSort (PySem.W.dataLe false (keyD ls)) := ⟨_, rfl⟩
    have pe : os.Perm (rgI ls.length) := by
      rw [hos]
      exact List.mergeSort_perm _ _
    have pw : os.Pairwise (lexle ls) := by
      rw [hos]
      exact sorted_pw ls _
    rw [← hos] at he
    have vo := vals_each he
    have I5 : Inv X pins σ H3 s3 := I4.pins_of fun p hp => I4.pin p (by
      rcases List.mem_append.mp (List.mem_append_right X.pn hp) with h | h
      · exact List.mem_append_left _ h
      · exact List.mem_append_right _ (.tail _ h))
    have I6 : Inv X pins σ H3 { s3 with heap := h5, toks := tk5 } := I5.kept k5
    have nH3 : H3 h5.objs.size = none := I6.hok.fresh (Nat.le_refl _)
    have lo : (os.map V.int).length ≤ sizeLine := by
      rw [List.length_map, pe.length_eq]
      unfold rgI
      rw [List.length_map, List.length_range]
      show ls.length ≤ 2 ^ 24
      omega
    have nH2 : H2 h5.objs.size = none := I2.hok.fresh (Nat.le_of_lt (Heap.lt_size (k5 _ _ hrng)))
    refine ⟨.ref h5.objs.size, upd H3 h5.objs.size (.lst (os.map V.int)), I6.laid (t' := tk7) (h' := h7) (fun b o e => kb b o (Nat.ne_of_lt (Heap.lt_size e)) (by rw [hh6]; exact Heap.get?_push_of_some _ e)) (Nat.le_refl _) ⟨lo, out, c7, vo, ho⟩, rfl, q os _ _ pe pw nH2 (eN.trans (ExtN.of fun b o e => ?_)) (T3.ext fun b o e => ?_) upd_same⟩
    · rw [upd_ne (ne_of_none e nH3)]
      exact e
    · rw [upd_ne (ne_of_none e nH3)]
      exact e
end
end LS13
namespace LS13
open PySem PySem.Spec PySem.Calls PyProof.Rows L2 LamX
/-- a def whose code object is known -/
structure FunC (K : PySem.W.Frag) (x qual : Str) (st : Stmt) (f : Addr) (fd : FuncData) (c : Addr) : Prop where
  ex : ∃ (oc : Value) (od : Option Addr) (kV doc pm : Value) (an : Option Addr) (ct : Value) (osl : Array (Option Value)),
    fd = PySem.W.fnOf x qual (defArgs st) (defBody st) (defScope st) .none kV doc pm an (.ref c) ct ∧ K.lookup f = some ⟨oc, od, .func fd, osl⟩ ∧ PySem.W.codeIn K (.ref c) qual = true
theorem FunC.ok {P : Program} {w : World} {K : PySem.W.Frag} {mg : Str → Option Value} {base : Heap} {x qual : Str} {st : Stmt} {f c : Addr} {fd : FuncData} {N ps : List Str} {k : Nat} {sp : Sp} (F : FunC K x qual st f fd c) (S : FnScope N ps (defScope st)) (len : ∀ vs H Q E, sp vs H Q E → vs.length = ps.length)
    (hbody : ∀ (A : Around) (outer : List Env) (s : Shared) (H : Hp) (vs : List V) (Q : VK) (E : XK), Room k (A.deeper (envOfC qual (defScope st) s.heap.objs.size f (.ref c))) → sp vs H Q E →
      ∃ t, PSs (cxOf CX0 P w K mg base N qual (defScope st) f (.ref c) A outer s H E).nox (defBody st) t ∧ t { nx := fun _ H' => Q .non H', rt := Q } (start N vs) H) : FnOk P w K mg base CX0 (k + 1) f fd ps sp := by
  obtain ⟨oc, od, kV, doc, pm, an, ct, osl, rfl, lk, hcd⟩ := F.ex
  refine fn_of lk hcd S len fun A outer s H vs Q E hr hsp => ?_
  obtain ⟨t, h, q⟩ := hbody A outer s H vs Q E hr hsp
  exact ⟨t, h.nox, q⟩
theorem funC_mk {K : PySem.W.Frag} {x qual : Str} {st : Stmt} {f c : Addr} {oc : Value} {od an : Option Addr} {osl : Array (Option Value)} {kV doc pm ct : Value} (l : K.lookup f = some ⟨oc, od, .func (PySem.W.fnOf x qual (defArgs st) (defBody st) (defScope st) .none kV doc pm an (.ref c) ct), osl⟩)
    (h : PySem.W.codeIn K (.ref c) qual = true) : FunC K x qual st f (PySem.W.fnOf x qual (defArgs st) (defBody st) (defScope st) .none kV doc pm an (.ref c) ct) c := ⟨oc, od, kV, doc, pm, an, ct, osl, rfl, l, h⟩
/-- a def's table, found in the written part -/
theorem tab_mk {K : PySem.W.Frag} {x qual : Str} {f c P : Addr} {oc : Value} {od an : Option Addr} {osl : Array (Option Value)} {kV doc pm ct dV : Value} {params : Arguments} {body : List Stmt} {scope : Scope} {coc : Value} {cod : Option Addr} {cvs : Array Value} {csl : Array (Option Value)}
    (n : PySem.W.nsIn K mainGlobals x = some (some (.ref f))) (l : K.lookup f = some ⟨oc, od, .func (PySem.W.fnOf x qual params body scope dV kV doc pm an (.ref c) ct), osl⟩)
    (lc : K.lookup c = some ⟨coc, cod, .fields cvs, csl⟩) (hv : cvs[11]? = some (.ref P)) : PySem.W.tabIn K x = some (c, P) := by
  unfold PySem.W.tabIn
  rw [n]
  show (match K.lookup f with
    | some ⟨_, _, .func fd, _⟩ => (match fd.code with
      | .ref c => (match K.lookup c with
        | some ⟨_, _, .fields vs, _⟩ => (match (vs[11]? : Option Value) with
          | some (.ref P) => some (c, P)
          | _ => none)
        | _ => none)
      | _ => none)
    | _ => none) = _
  rw [l]
  show (match K.lookup c with
        | some ⟨_, _, .fields vs, _⟩ => (match (vs[11]? : Option Value) with
          | some (.ref P) => some (c, P)
          | _ => none)
        | _ => none) = _
  rw [lc]
  show (match (cvs[11]? : Option Value) with
          | some (.ref P) => some (c, P)
          | _ => none) = _
  rw [hv]
theorem walk_ofT {l : PySem.W.OpenLaw} {n k : Nat} {q : Program} {loose : List Str} {XP : (Str → Option Value) → Heap → Prop} {YP : World → Heap → Prop} {d : DefRec} {K : Params → PySem.W.Frag} {CX : World → CXT} {x : Str}
    (hn : l.most = some n) (hn2 : n ≤ sizeLine) (hdf : d.params.defaults = []) (hr : Room k callerA) (hY : ∀ (w : World) (h : Heap), YP w h → (K w.params).In h)
    (F : ∀ (w : World) (mg mb : Str → Option Value) (mean : ExcName → Option Value) (loose' : List Str) (fa : Addr) (h : Heap), YP w h → (K w.params).In h → Top q loose' mean mg mb h → mg d.name = some (.ref fa) → LawAtS l w (K w.params) (CX w) k n x mg fa h)
    (hCX : ∀ (w : World) (H : Hp) (s : Shared) (e : Value) (s' : Shared), CX w [] H s (fun _ _ _ => False) e s' → False) :
    PySem.W.WalkO q loose XP YP l.row.toRowW d [] (fun f vs => PySem.call f vs) := by
  refine Att.attach_callB hn hdf fun w s₀ s₁ mg mb fa o pm cd doc a vs ns G Y ho hd hcd hmg hobj hints hlen hbits hg => ?_
  have KX := hY w _ Y
  obtain ⟨fd, cs, sp, hT, nT, C, hb, hsp, hF⟩ := F w mg mb _ _ fa _ Y KX G.T hmg
  exact law_callTs KX G.T.g G.T.b G.T.builtins G.T.nolimit hg hT nT C G.T.bmain hobj hints (Nat.le_trans hlen hn2) hr hF hb (fun H hH hS => hsp H a ns hlen hbits hH hS) fun H e s' => hCX w H s₁ e s'
end LS13

/-! ### try with several clauses, each with a name -/
namespace TM14
open PySem PySem.Spec PyProof.Rows L2
/-- what the clauses wish of an exception of the body, one after the other -/
def wAsMany (K : PySem.W.Frag) (Wout : WX) (D : Ends) : List (Value × Nat × (Addr → Value → Option Addr → TS)) → WX
  | [] => Wout
  | (c, i, ts) :: r => wAs K c i ts (wAsMany K Wout D r) D
inductive HdsAs (X : Cx) : List ExceptHandler → List (Value × Nat × (Addr → Value → Option Addr → TS)) → Prop
  | nil : HdsAs X [] []
  | cons {x n : Str} {c : Value} {i : Nat} {ts : Addr → Value → Option Addr → TS} {b : Stmt} {suite : List Stmt} {np pos : Pos} {hds : List ExceptHandler} {l : List (Value × Nat × (Addr → Value → Option Addr → TS))}
      (hi : X.N[i]? = some n) (hl : X.env.kindOf n = some .local) (hc : Names X x c)
      (hsu : ∀ (a : Addr) (oe : Obj) (cls : Value) (d : Option Addr) (pn : List (Addr × Obj)), Zc cls d oe → (∃ vs, oe.data = .fields vs) → PSs (X.suite a ((a, oe) :: pn)) (b :: suite) (ts a cls d))
      (r : HdsAs X hds l) : HdsAs X (.ExceptHandler (some (.Name x np)) (some n) (b :: suite) pos :: hds) ((c, i, ts) :: l)
section
variable {X : Cx} {pins : List (Addr × Obj)} {D : Ends} {Wout : WX}
theorem off_frames {a : Addr} {B h : Heap} {o : Obj} {vs : Array Value} (ff : h.FunFrames B (X.env :: X.outer)) (e : h.get? a = some o) (hd : o.data = .fields vs) (hf : X.env.frame = some X.env.locals) : a ≠ X.env.locals ∧ a ∉ X.fs := by
  have nfr : a ∉ frs (X.env :: X.outer) := fun hm => by
    obtain ⟨_, o', e', hnf⟩ := ff.mem hm
    rw [e] at e'
    cases e'
    exact hnf _ hd
  refine ⟨fun z => nfr (List.mem_filterMap.mpr ⟨X.env, List.mem_cons_self, by rw [hf, z]⟩), fun hm => ?_⟩
  obtain ⟨y, hy, q⟩ := List.mem_filterMap.mp hm
  exact nfr (List.mem_filterMap.mpr ⟨y, List.mem_cons_of_mem _ hy, q⟩)
/-- no clause takes it: it goes on -/
theorem go_on (hs : X.stack = X.env :: X.outer) (hf : X.env.frame = some X.env.locals) (tk : Takes X Wout) {a : Addr} {B h3 : Heap} {sI s' : Shared} {σ : L2.St} {H : Hp} {cls : Value} {d : Option Addr} (J : Inv X pins σ H sI)
    (nb : ∀ b o, sI.heap.get? b = some o → b ∉ frs X.stack → B.get? b = some o) (up : sI.heap.UpToSlots h3) (fl : HandSPX.FlyingZ B (X.env :: X.outer) a (Zc cls d) h3) (na : H a = none) (os : s'.os = sI.os) (ag : AllBare s'.gens) (w : Wout cls d σ H) :
    wpAny (model X.prog X.w) X.A (handleBy (.ref a) X.env []) (SP X pins D) X.xe { s' with heap := h3 } := by
  refine wpAny_handleBy_nil ?_
  obtain ⟨_, _, _, oe, vs, T, _, _, he, _, hd, h1, _⟩ := id fl
  unfold PySem.passOn
  refine wpAny_bind (wpAny_field he hd h1 ?_)
  rw [if_neg (show ¬ ((Value.ref T == Value.none) = true) from by simp)]
  have fin : wpAny (model X.prog X.w) X.A (setFlight (.ref a) X.env.frame) (fun _ s4 => wpAny (model X.prog X.w) X.A (throw (.ref a) : Sem Flow) (SP X pins D) X.xe s4) X.xe { s' with heap := h3 } := by
    rw [hf]
    exact HandSPX.setFlight_upZ fl fun h4 hh4 up4 => wpAny_throw (tk _ _ ⟨a, B, sI, pins, σ, H, cls, d, rfl, J, nb, up.trans up4, .inr (.inr (by rw [hs]; exact hh4)), na, os, ag, w⟩)
  first
    | exact wpAny_bind (wpAny_pure (wpAny_bind fin))
    | exact wpAny_bind fin
/-- the clauses, one after the other -/
theorem clauses (hs : X.stack = X.env :: X.outer) (hf : X.env.frame = some X.env.locals) (hN : X.N.Nodup) (tk : Takes X Wout) {hds : List ExceptHandler} {l : List (Value × Nat × (Addr → Value → Option Addr → TS))} (hk : HdsAs X hds l)
    {a : Addr} {B h3 : Heap} {sI s' : Shared} {σ : L2.St} {H : Hp} {cls : Value} {d : Option Addr} (J : Inv X pins σ H sI)
    (nb : ∀ b o, sI.heap.get? b = some o → b ∉ frs X.stack → B.get? b = some o) (up : sI.heap.UpToSlots h3) (fl : HandSPX.FlyingZ B (X.env :: X.outer) a (Zc cls d) h3) (na : H a = none) (os : s'.os = sI.os) (ag : AllBare s'.gens)
    (w : wAsMany X.K Wout D l cls d σ H) : wpAny (model X.prog X.w) X.A (handleBy (.ref a) X.env hds) (SP X pins D) X.xe { s' with heap := h3 } := by
  have ok := J.ok
  induction hk with
  | nil => exact go_on hs hf tk J nb up fl na os ag w
  | @cons x n c i ts b₀ suite np pos hds l hi hl hc hsu r ih =>
    obtain ⟨b, hb, hyes, hno⟩ := w
    have J3 : Inv X pins σ H { s' with heap := h3 } := J.landed nb fl.1 up os ag
    obtain ⟨oe3, vs3, he3, hz3, hd3⟩ := fl.there
    obtain ⟨nL, nF⟩ := off_frames (X := X) fl.2.2.1 he3 hd3 hf
    have S3 := J3.suite he3 hd3 na nL nF
    refine wpAny_handleBy_cons (codeAny_handlers_test ?_) (by intro q; cases q)
    have LT : PySem.W.Looks (model X.prog X.w) h3 (typeOf (.ref a)) cls := fun A Q E s k q => wpAny_typeOf_ref (k _ _ he3) (by rw [hz3.1]; exact q)
    have LM := PySem.W.exm_one (M := model X.prog X.w) (J3.kIn) LT hb
    have test : ∀ {Q : Value → Shared → Prop} {E : Value → Shared → Prop}, Q c { s' with heap := h3 } → wpAny (model X.prog X.w) (X.A.mark (some (.ref a))) (eval (.Name x np) X.env) Q E { s' with heap := h3 } := fun {Q E} q => by
      obtain ⟨hg, hdbg, hm | ⟨hm, hv, hnn⟩⟩ := hc
      · exact ld_glob (X := X.suite a ((a, oe3) :: (X.pn ++ pins))) S3 hg hm q hdbg
      · exact ld_blt (X := X.suite a ((a, oe3) :: (X.pn ++ pins))) S3 hg hm hv q hnn hdbg
    refine test (LM.here ?_)
    cases b with
    | false => exact ih (hno rfl)
    | true =>
      refine codeAny_handlers_suite_as ?_
      refine HandSPX.lands_againZ fl fun h4 fl4 up4 => ?_
      have J4 : Inv X pins σ H { s' with heap := h4 } := J.landed nb fl4.1 (up.trans up4) os ag
      obtain ⟨oe4, vs4, he4, hz4, hd4⟩ := fl4.there
      have S4 := J4.suite he4 hd4 na nL nF
      refine store_ok (X := X.suite a ((a, oe4) :: (X.pn ++ pins))) (v := .ref a) S4 hN hi (.inl hl) rfl (fun s5 S5 => ?_) (.inr hl)
      refine wpAny_mono ((hsu a oe4 cls d (X.pn ++ pins) hz4 ⟨_, hd4⟩).run [] s5 _ H _ S5 (hyes rfl a na)) (fun f s6 hsp => ?_) (fun _ _ z => False.elim z)
      cases f with
      | ret u =>
        obtain ⟨v6, σ6, H6, S6, r6, q6⟩ := hsp
        exact gone_ok (S6.unsuite ok) hN hi hl fun s7 J7 => ⟨_, _, _, J7, r6, q6⟩
      | next =>
        obtain ⟨σ6, H6, S6, q6⟩ := hsp
        exact gone_ok (S6.unsuite ok) hN hi hl fun s7 J7 => ⟨_, _, J7, q6⟩
      | brk =>
        obtain ⟨σ6, H6, S6, q6⟩ := hsp
        exact gone_ok (S6.unsuite ok) hN hi hl fun s7 J7 => ⟨_, _, J7, q6⟩
      | cont =>
        obtain ⟨σ6, H6, S6, q6⟩ := hsp
        exact gone_ok (S6.unsuite ok) hN hi hl fun s7 J7 => ⟨_, _, J7, q6⟩
theorem ps_try_asMany {body : List Stmt} {h₀ : ExceptHandler} {hds : List ExceptHandler} {l : List (Value × Nat × (Addr → Value → Option Addr → TS))} {pos : Pos} {tb : WX → TS} (hs : X.stack = X.env :: X.outer) (hf : X.env.frame = some X.env.locals) (hN : X.N.Nodup) (tk : Takes X Wout)
    (hb : ∀ (W : WX) (pn : List (Addr × Obj)) (xe : Value → Shared → Prop), Takes (X.tr pn xe) W → PassesOwn (model X.prog X.w) X.A X.env xe → PSs (X.tr pn xe) body (tb W))
    (hh : HdsAs X (h₀ :: hds) l) : PS X (.Try body (h₀ :: hds) [] [] pos) (fun D σ H => tb (wAsMany X.K Wout D l) D σ H) := by
  refine ⟨fun pins s σ H D I h => wpAny_Try_except ?_⟩
  have ok := I.ok
  have hfr : X.A.frames = some (X.env :: X.outer) := by rw [ok.frames, hs]
  refine wpAny_mono ((hb (wAsMany X.K Wout D l) (X.pn ++ pins) (fun e s₁ => wpAny (model X.prog X.w) X.A (noteFrame e X.env) (fun _ s₂ => wpAny (model X.prog X.w) X.A (setFlight e none) (fun _ s₃ =>
    wpAny (model X.prog X.w) X.A (handleBy e X.env (h₀ :: hds)) (SP X pins D) X.xe s₃) X.xe s₂) X.xe s₁) (fun u s' xx => ?_) PassesOwn.looking).run [] s σ H D (I.toTry _) h) (fun f s1 hsp => ?_) (fun e s1 he => he)
  · obtain ⟨a, B, sI, _, σ', H', cls, d, rfl, J', nb, up, sky, na, os, ag, w⟩ := xx
    rw [hs] at sky
    exact Sky.land Zc.steady hfr hf sky fun h3 fl3 up3 => clauses hs hf hN tk hh (J'.ofTry ok) nb (up.trans up3) fl3 na os ag w
  · cases f with
    | next =>
      obtain ⟨σ', H', J', q⟩ := hsp
      exact wpAny_execs_nil ⟨σ', H', J'.ofTry ok, q⟩
    | brk =>
      obtain ⟨σ', H', J', q⟩ := hsp
      exact ⟨σ', H', J'.ofTry ok, q⟩
    | cont =>
      obtain ⟨σ', H', J', q⟩ := hsp
      exact ⟨σ', H', J'.ofTry ok, q⟩
    | ret u =>
      obtain ⟨v, σ', H', J', r, q⟩ := hsp
      exact ⟨v, σ', H', J'.ofTry ok, r, q⟩
end
end TM14

/-! ### long comings: the line round by round -/
namespace Lg
open Ln
/-- so many letters come: the line, and how many are turned away -/
def add (b : Int) : Nat → Int × Int → Int × Int
  | 0, s => s
  | k + 1, s => if (add b k s).1 > b then ((add b k s).1, (add b k s).2 + 1) else ((add b k s).1 + 1, (add b k s).2)
/-- a tick: line, gone out, turned away -/
abbrev Tri := Int × Int × Int
def tk (b : Int) (c : Int) (s : Tri) : Tri := if (add b c.toNat (s.1, s.2.2)).1 > 0 then ((add b c.toNat (s.1, s.2.2)).1 - 1, s.2.1 + 1, (add b c.toNat (s.1, s.2.2)).2) else ((add b c.toNat (s.1, s.2.2)).1, s.2.1, (add b c.toNat (s.1, s.2.2)).2)
def rdN (b : Int) (cs : List Int) (s : Tri) : Nat → Tri
  | 0 => s
  | i + 1 => tk b (cs.getD i 0) (rdN b cs s i)
/-- a round from a line -/
def rd (b : Int) (cs : List Int) (l : Int) : Tri := rdN b cs (l, 0, 0) cs.length
/-! the program's own line from any line on -/
def preL (b l : Int) (cs : List Int) : Nat → List Let × Int
  | 0 => ([], l)
  | i + 1 => ((turns b (i : Int) (cs.getD i 0).toNat (preL b l cs i)).1, close (turns b (i : Int) (cs.getD i 0).toNat (preL b l cs i)).2)
def behindL (b l : Int) (cs : List Int) : Nat → List Int
  | 0 => []
  | i + 1 => behindL b l cs i ++ [(preL b l cs (i + 1)).2]
theorem preL_0 (b : Int) (cs : List Int) : ∀ i, preL b 0 cs i = pre b cs i
  | 0 => rfl
  | i + 1 => by
    unfold preL pre
    rw [preL_0 b cs i]
theorem behindL_0 (b : Int) (cs : List Int) : ∀ i, behindL b 0 cs i = behind b cs i
  | 0 => rfl
  | i + 1 => by
    unfold behindL behind
    rw [behindL_0 b cs i, preL_0]
theorem behindL_len (b l : Int) (cs : List Int) : ∀ i, (behindL b l cs i).length = i
  | 0 => rfl
  | i + 1 => by
    unfold behindL
    rw [List.length_append, behindL_len b l cs i]
    rfl
def away (L : List Let) : Int := ((L.countP fun x => x.2.2.isNone : Nat) : Int)
theorem away_snoc (L : List Let) (x : Let) : away (L ++ [x]) = away L + if x.2.2.isNone then 1 else 0 := by
  unfold away
  rw [List.countP_append, List.countP_cons, List.countP_nil]
  cases x.2.2.isNone
  · rw [if_neg Bool.false_ne_true, if_neg Bool.false_ne_true]
    omega
  · rw [if_pos rfl, if_pos rfl]
    omega
theorem turns_add (b τ : Int) (L : List Let) (l : Int) : ∀ k : Nat, add b k (l, away L) = ((turns b τ k (L, l)).2, away (turns b τ k (L, l)).1)
  | 0 => rfl
  | k + 1 => by
    have ih := turns_add b τ L l k
    unfold add turns step
    rw [ih]
    show (if (turns b τ k (L, l)).2 > b then _ else _) = _
    split
    · rw [away_snoc]
      rfl
    · rw [away_snoc]
      show _ = (_, away _ + 0)
      rw [Int.add_zero]
theorem rd_pre (b l : Int) (cs : List Int) : ∀ i : Nat, (rdN b cs (l, 0, 0) i).1 = (preL b l cs i).2 ∧ (rdN b cs (l, 0, 0) i).2.2 = away (preL b l cs i).1
  | 0 => ⟨rfl, rfl⟩
  | i + 1 => by
    obtain ⟨e1, e2⟩ := rd_pre b l cs i
    have t := turns_add b (i : Int) (preL b l cs i).1 (preL b l cs i).2 (cs.getD i 0).toNat
    unfold rdN tk preL close
    rw [e1, e2, t]
    show (if (turns b (i : Int) (cs.getD i 0).toNat (preL b l cs i)).2 > 0 then _ else _ : Tri).1 = _ ∧ (if (turns b (i : Int) (cs.getD i 0).toNat (preL b l cs i)).2 > 0 then _ else _ : Tri).2.2 = _
    split
    · exact ⟨rfl, rfl⟩
    · exact ⟨rfl, rfl⟩
/-! the line stays within the bound; nobody is lost on the way -/
theorem add_rng {b : Int} : ∀ (k : Nat) (s : Int × Int), 0 ≤ s.1 → s.1 ≤ b + 1 → 0 ≤ s.2 → 0 ≤ (add b k s).1 ∧ (add b k s).1 ≤ b + 1 ∧ 0 ≤ (add b k s).2 ∧ (add b k s).1 + (add b k s).2 = s.1 + s.2 + (k : Int)
  | 0, s, h0, h1, h2 => ⟨h0, h1, h2, by show s.1 + s.2 = s.1 + s.2 + ((0 : Nat) : Int); omega⟩
  | k + 1, s, h0, h1, h2 => by
    obtain ⟨a, b', c, d⟩ := add_rng (b := b) k s h0 h1 h2
    unfold add
    split
    · refine ⟨a, b', by show 0 ≤ _ + 1; omega, ?_⟩
      show (add b k s).1 + ((add b k s).2 + 1) = _
      omega
    · refine ⟨by show 0 ≤ _ + 1; omega, by show _ + 1 ≤ _; omega, c, ?_⟩
      show (add b k s).1 + 1 + (add b k s).2 = _
      omega
structure Ok (b came : Int) (s : Tri) : Prop where
  l0 : 0 ≤ s.1
  l1 : s.1 ≤ b
  o0 : 0 ≤ s.2.1
  a0 : 0 ≤ s.2.2
  sum : s.1 + s.2.1 + s.2.2 = came
theorem Ok.tk {b came c : Int} {s : Tri} (h : Ok b came s) (hc : 0 ≤ c) : Ok b (came + c) (tk b c s) := by
  obtain ⟨h1, h2, h3, h4, h5⟩ := h
  obtain ⟨a1, a2, a3, a4⟩ := add_rng (b := b) c.toNat (s.1, s.2.2) h1 (by show s.1 ≤ _; omega) h4
  unfold Lg.tk
  generalize add b c.toNat (s.1, s.2.2) = m at *
  have a4' : m.1 + m.2 = s.1 + s.2.2 + (c.toNat : Int) := a4
  split
  · exact ⟨by show 0 ≤ m.1 - 1; omega, by show m.1 - 1 ≤ b; omega, by show 0 ≤ s.2.1 + 1; omega, a3, by show (m.1 - 1) + (s.2.1 + 1) + m.2 = came + c; omega⟩
  · exact ⟨a1, by show m.1 ≤ b; omega, h3, a3, by show m.1 + s.2.1 + m.2 = came + c; omega⟩
def sumN (cs : List Int) (i : Nat) : Int := (cs.take i).sum
theorem sumN_succ {cs : List Int} {i : Nat} (h : i < cs.length) : sumN cs (i + 1) = sumN cs i + cs.getD i 0 := by
  unfold sumN
  rw [List.take_add_one, List.getElem?_eq_getElem h, List.sum_append, List.getD_eq_getElem?_getD, List.getElem?_eq_getElem h]
  simp
theorem Ok.rdN {b came : Int} {s : Tri} {cs : List Int} (h : Ok b came s) (hc : ∀ c ∈ cs, 0 ≤ c) : ∀ i, i ≤ cs.length → Ok b (came + sumN cs i) (rdN b cs s i)
  | 0, _ => by
    show Ok b (came + 0) s
    rw [Int.add_zero]
    exact h
  | i + 1, hi => by
    rw [sumN_succ (by omega), ← Int.add_assoc]
    refine (Ok.rdN h hc i (by omega)).tk ?_
    rw [List.getD_eq_getElem?_getD, List.getElem?_eq_getElem (by omega)]
    exact hc _ (List.getElem_mem _)
theorem rd_ok {b l : Int} {cs : List Int} (h0 : 0 ≤ l) (h1 : l ≤ b) (hc : ∀ c ∈ cs, 0 ≤ c) : Ok b (l + cs.sum) (rd b cs l) := by
  have o : Ok b l (l, 0, 0) := ⟨h0, h1, Int.le_refl _, Int.le_refl _, by show l + 0 + 0 = l; omega⟩
  have := o.rdN hc cs.length (Nat.le_refl _)
  unfold sumN at this
  rw [List.take_length] at this
  exact this
/-! many rounds -/
def it (b : Int) (cs : List Int) : Nat → Int → Tri
  | 0, l => (l, 0, 0)
  | n + 1, l => ((rd b cs (it b cs n l).1).1, (it b cs n l).2.1 + (rd b cs (it b cs n l).1).2.1, (it b cs n l).2.2 + (rd b cs (it b cs n l).1).2.2)
theorem it_ok {b l : Int} {cs : List Int} (h0 : 0 ≤ l) (h1 : l ≤ b) (hc : ∀ c ∈ cs, 0 ≤ c) : ∀ n : Nat, Ok b (l + (n : Int) * cs.sum) (it b cs n l)
  | 0 => ⟨h0, h1, Int.le_refl _, Int.le_refl _, by show l + 0 + 0 = _; simp⟩
  | n + 1 => by
    have i := it_ok h0 h1 hc n
    have r := rd_ok i.l0 i.l1 hc
    refine ⟨r.l0, r.l1, ?_, ?_, ?_⟩
    · have := i.o0
      have := r.o0
      show 0 ≤ _ + _
      omega
    · have := i.a0
      have := r.a0
      show 0 ≤ _ + _
      omega
    · have a := i.sum
      have c := r.sum
      have e : ((n + 1 : Nat) : Int) * cs.sum = (n : Int) * cs.sum + cs.sum := by
        rw [Int.natCast_add, Int.add_mul]
        simp
      rw [e]
      show (rd b cs (it b cs n l).1).1 + ((it b cs n l).2.1 + (rd b cs (it b cs n l).1).2.1) + ((it b cs n l).2.2 + (rd b cs (it b cs n l).1).2.2) = _
      generalize (n : Int) * cs.sum = m at *
      omega
theorem it_add (b : Int) (cs : List Int) (m : Nat) (l : Int) : ∀ n : Nat, it b cs (m + n) l = ((it b cs n (it b cs m l).1).1, (it b cs m l).2.1 + (it b cs n (it b cs m l).1).2.1, (it b cs m l).2.2 + (it b cs n (it b cs m l).1).2.2)
  | 0 => by
    show it b cs m l = ((it b cs m l).1, (it b cs m l).2.1 + 0, (it b cs m l).2.2 + 0)
    rw [Int.add_zero, Int.add_zero]
  | n + 1 => by
    have e := it_add b cs m l n
    show ((rd b cs (it b cs (m + n) l).1).1, (it b cs (m + n) l).2.1 + (rd b cs (it b cs (m + n) l).1).2.1, (it b cs (m + n) l).2.2 + (rd b cs (it b cs (m + n) l).1).2.2) = _
    rw [e]
    show (_, _, _) = ((rd b cs (it b cs n (it b cs m l).1).1).1, (it b cs m l).2.1 + ((it b cs n (it b cs m l).1).2.1 + (rd b cs (it b cs n (it b cs m l).1).1).2.1), (it b cs m l).2.2 + ((it b cs n (it b cs m l).1).2.2 + (rd b cs (it b cs n (it b cs m l).1).1).2.2))
    rw [← Int.add_assoc, ← Int.add_assoc]
/-- a round that leaves the line as it was is like all behind it -/
theorem it_fix {b : Int} {cs : List Int} {l : Int} (h : (rd b cs l).1 = l) : ∀ n : Nat, it b cs n l = (l, (n : Int) * (rd b cs l).2.1, (n : Int) * (rd b cs l).2.2)
  | 0 => by
    show (l, 0, 0) = _
    simp
  | n + 1 => by
    unfold it
    rw [it_fix h n]
    show ((rd b cs l).1, _ + (rd b cs l).2.1, _ + (rd b cs l).2.2) = _
    rw [h]
    have e : ∀ x : Int, (n : Int) * x + x = ((n + 1 : Nat) : Int) * x := fun x => by
      rw [Int.natCast_add, Int.add_mul]
      simp
    rw [e, e]
/-! long comings: line, came, gone out, turned away -/
abbrev Quad := Int × Int × Int × Int
def go1 (b : Int) (s : Quad) (x : List Int × Int) : Quad := ((it b x.1 x.2.toNat s.1).1, s.2.1 + x.2 * x.1.sum, s.2.2.1 + (it b x.1 x.2.toNat s.1).2.1, s.2.2.2 + (it b x.1 x.2.toNat s.1).2.2)
def tot (b : Int) (xs : List (List Int × Int)) : Quad := xs.foldl (go1 b) (0, 0, 0, 0)
def Right (k : Int) (xs : List (List Int × Int)) : Prop := xs.length ≤ 20 ∧ ∀ x ∈ xs, x.1.length ≤ 60 ∧ (∀ c ∈ x.1, 0 ≤ c ∧ c ≤ k) ∧ 0 ≤ x.2 ∧ x.2 ≤ 10 ^ 30
structure Qk (b : Int) (s : Quad) : Prop where
  l0 : 0 ≤ s.1
  l1 : s.1 ≤ b
  sum : s.2.1 = s.2.2.1 + s.2.2.2 + s.1
theorem Qk.go {b : Int} {s : Quad} {x : List Int × Int} (h : Qk b s) (hc : ∀ c ∈ x.1, 0 ≤ c) (hx : 0 ≤ x.2) : Qk b (go1 b s x) := by
  have i := it_ok h.l0 h.l1 hc x.2.toNat
  have a := i.sum
  rw [Int.toNat_of_nonneg hx] at a
  have c := h.sum
  refine ⟨i.l0, i.l1, ?_⟩
  show s.2.1 + x.2 * x.1.sum = s.2.2.1 + (it b x.1 x.2.toNat s.1).2.1 + (s.2.2.2 + (it b x.1 x.2.toNat s.1).2.2) + (it b x.1 x.2.toNat s.1).1
  generalize x.2 * x.1.sum = m at *
  omega
theorem fold_ok {b : Int} : ∀ (xs : List (List Int × Int)) (s : Quad), Qk b s → (∀ x ∈ xs, (∀ c ∈ x.1, 0 ≤ c) ∧ 0 ≤ x.2) → Qk b (xs.foldl (go1 b) s)
  | [], s, h, _ => h
  | x :: xs, s, h, hx => fold_ok xs _ (h.go (hx x (by simp)).1 (hx x (by simp)).2) fun y hy => hx y (by simp [hy])
theorem tot_ok {b k : Int} (hb : 0 ≤ b) {xs : List (List Int × Int)} (h : Right k xs) : Qk b (tot b xs) := fold_ok xs _ ⟨Int.le_refl _, hb, rfl⟩ fun x hx => ⟨fun c hc => ((h.2 x hx).2.1 c hc).1, (h.2 x hx).2.2.1⟩
/-- so many times and so many times more -/
theorem tot_part (b : Int) (cs : List Int) (m n : Int) (hm : 0 ≤ m) (hn : 0 ≤ n) (xs : List (List Int × Int)) : tot b ((cs, m) :: (cs, n) :: xs) = tot b ((cs, m + n) :: xs) := by
  have e : go1 b (go1 b (0, 0, 0, 0) (cs, m)) (cs, n) = go1 b (0, 0, 0, 0) (cs, m + n) := by
    unfold go1
    show ((it b cs n.toNat (it b cs m.toNat 0).1).1, 0 + m * cs.sum + n * cs.sum, 0 + (it b cs m.toNat 0).2.1 + (it b cs n.toNat (it b cs m.toNat 0).1).2.1, 0 + (it b cs m.toNat 0).2.2 + (it b cs n.toNat (it b cs m.toNat 0).1).2.2) =
      ((it b cs (m + n).toNat 0).1, 0 + (m + n) * cs.sum, 0 + (it b cs (m + n).toNat 0).2.1, 0 + (it b cs (m + n).toNat 0).2.2)
    rw [show (m + n).toNat = m.toNat + n.toNat by omega, it_add, Int.add_mul]
    show (_, _, _, _) = (_, _, _, _)
    rw [Int.add_assoc, Int.add_assoc, Int.add_assoc]
  show xs.foldl (go1 b) (go1 b (go1 b (0, 0, 0, 0) (cs, m)) (cs, n)) = xs.foldl (go1 b) (go1 b (0, 0, 0, 0) (cs, m + n))
  rw [e]
end Lg
namespace Lg
open Ln
theorem preL_len {b l : Int} {cs : List Int} (hc : ∀ c ∈ cs, c ≤ 4) : ∀ i, (preL b l cs i).1.length ≤ 4 * i
  | 0 => Nat.le_refl _
  | i + 1 => by
    have ih := preL_len (b := b) (l := l) hc i
    unfold preL
    rw [turns_len]
    have : cs.getD i 0 ≤ 4 := by
      rw [List.getD_eq_getElem?_getD]
      cases h : cs[i]? with
      | none => decide
      | some c => exact hc c (List.mem_of_getElem? h)
    omega
theorem preL_sum {b l : Int} {cs : List Int} (hc : ∀ c ∈ cs, 0 ≤ c) : ∀ i, i ≤ cs.length → (((preL b l cs i).1.length : Nat) : Int) = sumN cs i
  | 0, _ => rfl
  | i + 1, hi => by
    have ih := preL_sum (b := b) (l := l) hc i (by omega)
    have h0 : 0 ≤ cs.getD i 0 := by
      rw [List.getD_eq_getElem?_getD, List.getElem?_eq_getElem (by omega)]
      exact hc _ (List.getElem_mem _)
    rw [sumN_succ (by omega), ← ih]
    show (((turns b (i : Int) (cs.getD i 0).toNat (preL b l cs i)).1.length : Nat) : Int) = _
    rw [turns_len]
    omega
end Lg
namespace Lg
theorem sum_le : ∀ {cs : List Int}, (∀ c ∈ cs, 0 ≤ c ∧ c ≤ 4) → 0 ≤ cs.sum ∧ cs.sum ≤ 4 * (cs.length : Int)
  | [], _ => ⟨Int.le_refl _, Int.le_refl _⟩
  | c :: cs, h => by
    have ih := sum_le (cs := cs) fun x hx => h x (by simp [hx])
    have := h c (by simp)
    rw [List.sum_cons, List.length_cons]
    omega
end Lg

/-! ### spots, nexts, the walk of a line, the size of comings -/
namespace Wk
open Ln (Let)
def rowN (i : Int) : Nat → List Spt
  | 0 => []
  | j + 1 => rowN i j ++ [(i, 1 + (j : Int))]
def spN (k : Nat) : Nat → List Spt
  | 0 => []
  | i + 1 => spN k i ++ rowN (i : Int) (min k (i + 1))
theorem rowN_len (i : Int) : ∀ j, (rowN i j).length = j
  | 0 => rfl
  | j + 1 => by
    show (rowN i j ++ [_]).length = _
    rw [List.length_append, rowN_len i j]
    rfl
theorem spN_len (k : Nat) : ∀ i, (spN k i).length ≤ k * i
  | 0 => Nat.zero_le _
  | i + 1 => by
    have ih := spN_len k i
    show (spN k i ++ rowN _ _).length ≤ _
    rw [List.length_append, rowN_len, Nat.mul_succ]
    have := Nat.min_le_left k (i + 1)
    omega
theorem rowN_mem {i : Int} : ∀ {j : Nat} {s : Spt}, s ∈ rowN i j → s.1 = i ∧ 1 ≤ s.2 ∧ s.2 ≤ j
  | 0, s, h => by simp [rowN] at h
  | j + 1, s, h => by
    rcases List.mem_append.mp (h : s ∈ rowN i j ++ [(i, 1 + (j : Int))]) with h | h
    · have := rowN_mem h
      omega
    · rw [List.mem_singleton.mp h]
      show i = i ∧ 1 ≤ 1 + (j : Int) ∧ 1 + (j : Int) ≤ ((j + 1 : Nat) : Int)
      omega
theorem spN_spot {k b : Nat} : ∀ {n : Nat} {s : Spt}, n ≤ b + 1 → s ∈ spN k n → Spot k b s
  | 0, s, _, h => by simp [spN] at h
  | i + 1, s, hn, h => by
    rcases List.mem_append.mp (h : s ∈ spN k i ++ rowN (i : Int) (min k (i + 1))) with h | h
    · exact spN_spot (by omega) h
    · obtain ⟨a, b1, c⟩ := rowN_mem h
      have m1 := Nat.min_le_left k (i + 1)
      have m2 := Nat.min_le_right k (i + 1)
      unfold Spot
      omega
def nxP (s o : Spt) : Bool := decide (o = (s.1 + 1, s.2 + 1)) || (decide (o.2 = 1) && decide (o.1 ≤ s.1))
def onesN : Nat → List Spt
  | 0 => []
  | i + 1 => onesN i ++ [((i : Int), 1)]
def nxL (k b : Int) (s : Spt) : List Spt := onesN (s.1 + 1).toNat ++ if s.1 + 1 ≤ b ∧ s.2 + 1 ≤ k then [(s.1 + 1, s.2 + 1)] else []
theorem onesN_len : ∀ i, (onesN i).length = i
  | 0 => rfl
  | i + 1 => by
    show (onesN i ++ [_]).length = _
    rw [List.length_append, onesN_len i]
    rfl
theorem onesN_mem : ∀ {n : Nat} {i : Nat}, i < n → ((i : Int), (1 : Int)) ∈ onesN n
  | 0, i, h => absurd h (Nat.not_lt_zero _)
  | n + 1, i, h => by
    show _ ∈ onesN n ++ [_]
    by_cases e : i = n
    · subst e
      exact List.mem_append_right _ (List.mem_singleton.mpr rfl)
    · exact List.mem_append_left _ (onesN_mem (by omega))
theorem nxL_mem {k b : Int} {s o : Spt} (h : Nx k b s o) : o ∈ nxL k b s := by
  obtain ⟨sp, h | ⟨h1, h2⟩⟩ := h
  · refine List.mem_append_right _ ?_
    unfold Spot at sp
    have e1 : o.1 = s.1 + 1 := by rw [h]
    have e2 : o.2 = s.2 + 1 := by rw [h]
    rw [if_pos (by omega), h]
    exact List.mem_singleton.mpr rfl
  · refine List.mem_append_left _ ?_
    unfold Spot at sp
    have := onesN_mem (n := (s.1 + 1).toNat) (i := o.1.toNat) (by omega)
    have e : o = ((o.1.toNat : Int), (1 : Int)) := Prod.ext (by show o.1 = ((o.1.toNat : Nat) : Int); omega) h1
    rw [e]
    exact this
theorem filt_low {s : Spt} {i : Int} (hs : 1 ≤ s.2) (h : i ≤ s.1) : ∀ j, (rowN i (j + 1)).filter (nxP s) = [(i, 1)]
  | 0 => by
    show [(i, 1 + ((0 : Nat) : Int))].filter _ = _
    have e : nxP s (i, 1 + ((0 : Nat) : Int)) = true := by
      unfold nxP
      rw [Bool.or_eq_true, Bool.and_eq_true, decide_eq_true_eq, decide_eq_true_eq, decide_eq_true_eq]
      exact .inr ⟨rfl, h⟩
    rw [List.filter_cons, e]
    rfl
  | j + 1 => by
    show (rowN i (j + 1) ++ [(i, 1 + ((j + 1 : Nat) : Int))]).filter _ = _
    have e : nxP s (i, 1 + ((j + 1 : Nat) : Int)) = false := by
      unfold nxP
      rw [Bool.or_eq_false_iff, Bool.and_eq_false_iff, decide_eq_false_iff_not, decide_eq_false_iff_not, decide_eq_false_iff_not]
      refine ⟨fun z => ?_, .inl fun z => ?_⟩
      · have := congrArg Prod.fst z
        simp only at this
        omega
      · simp only at z
        omega
    rw [List.filter_append, filt_low hs h j, List.filter_cons, e]
    rfl
theorem filt_at {s : Spt} (hs : 1 ≤ s.2) : ∀ j : Nat, (rowN (s.1 + 1) j).filter (nxP s) = if s.2 + 1 ≤ (j : Int) then [(s.1 + 1, s.2 + 1)] else []
  | 0 => by
    rw [if_neg (by omega)]
    rfl
  | j + 1 => by
    show (rowN (s.1 + 1) j ++ [(s.1 + 1, 1 + (j : Int))]).filter _ = _
    by_cases h : s.2 = (j : Int)
    · have e : nxP s (s.1 + 1, 1 + (j : Int)) = true := by
        unfold nxP
        rw [Bool.or_eq_true, decide_eq_true_eq]
        exact .inl (Prod.ext rfl (by show 1 + (j : Int) = s.2 + 1; omega))
      have e0 : [(s.1 + 1, 1 + (j : Int))].filter (nxP s) = [(s.1 + 1, s.2 + 1)] := by
        rw [List.filter_cons, e, if_pos rfl, h, Int.add_comm 1]
        rfl
      rw [List.filter_append, filt_at hs j, e0, if_neg (by omega), if_pos (by omega)]
      rfl
    · have e : nxP s (s.1 + 1, 1 + (j : Int)) = false := by
        unfold nxP
        rw [Bool.or_eq_false_iff, Bool.and_eq_false_iff, decide_eq_false_iff_not, decide_eq_false_iff_not, decide_eq_false_iff_not]
        refine ⟨fun z => ?_, .inr fun z => ?_⟩
        · have := congrArg Prod.snd z
          simp only at this
          omega
        · simp only at z
          omega
      have e0 : [(s.1 + 1, 1 + (j : Int))].filter (nxP s) = [] := by
        rw [List.filter_cons, e]
        rfl
      rw [List.filter_append, filt_at hs j, e0, List.append_nil]
      by_cases h2 : s.2 + 1 ≤ (j : Int)
      · rw [if_pos h2, if_pos (by omega)]
      · rw [if_neg h2, if_neg (by omega)]
theorem filt_high {s : Spt} {i : Int} (h : s.1 + 1 < i) : ∀ j, (rowN i j).filter (nxP s) = []
  | 0 => rfl
  | j + 1 => by
    show (rowN i j ++ [(i, 1 + (j : Int))]).filter _ = _
    have e : nxP s (i, 1 + (j : Int)) = false := by
      unfold nxP
      rw [Bool.or_eq_false_iff, Bool.and_eq_false_iff, decide_eq_false_iff_not, decide_eq_false_iff_not, decide_eq_false_iff_not]
      refine ⟨fun z => ?_, .inr fun z => ?_⟩
      · have := congrArg Prod.fst z
        simp only at this
        omega
      · simp only at z
        omega
    rw [List.filter_append, filt_high h j, List.filter_cons, e]
    rfl
theorem filt_spN {k : Nat} {s : Spt} (hk : 1 ≤ k) (h0 : 0 ≤ s.1) (h1 : 1 ≤ s.2) (h2 : s.2 - 1 ≤ s.1) : ∀ n : Nat, (spN k n).filter (nxP s) = onesN (min n (s.1 + 1).toNat) ++ if s.1 + 1 < (n : Int) ∧ s.2 + 1 ≤ (k : Int) then [(s.1 + 1, s.2 + 1)] else []
  | 0 => by
    rw [Nat.zero_min, if_neg (by omega)]
    rfl
  | n + 1 => by
    show (spN k n ++ rowN (n : Int) (min k (n + 1))).filter _ = _
    rw [List.filter_append, filt_spN hk h0 h1 h2 n]
    by_cases c1 : (n : Int) ≤ s.1
    · obtain ⟨j, hj⟩ : ∃ j, min k (n + 1) = j + 1 := ⟨min k (n + 1) - 1, by omega⟩
      rw [hj, filt_low h1 c1 j, if_neg (by omega), if_neg (by omega), List.append_nil, List.append_nil]
      have e1 : min n (s.1 + 1).toNat = n := by omega
      have e2 : min (n + 1) (s.1 + 1).toNat = n + 1 := by omega
      rw [e1, e2]
      rfl
    · have e1 : min n (s.1 + 1).toNat = (s.1 + 1).toNat := by omega
      have e2 : min (n + 1) (s.1 + 1).toNat = (s.1 + 1).toNat := by omega
      rw [e1, e2]
      by_cases c2 : (n : Int) = s.1 + 1
      · rw [c2, filt_at h1, if_neg (by omega), List.append_nil]
        have ha : s.2 + 1 ≤ ((n + 1 : Nat) : Int) := by omega
        by_cases c3 : s.2 + 1 ≤ (k : Int)
        · rw [if_pos (by omega), if_pos (by omega)]
        · rw [if_neg (by omega), if_neg (by omega)]
      · rw [filt_high (by omega), List.append_nil]
        by_cases c3 : s.2 + 1 ≤ (k : Int)
        · rw [if_pos (by omega), if_pos (by omega)]
        · rw [if_neg (by omega), if_neg (by omega)]
theorem filt_nx {k b : Nat} {s : Spt} (hs : Spot k b s) : (spN k (b + 1)).filter (nxP s) = nxL k b s := by
  unfold Spot at hs
  rw [filt_spN (by omega) hs.1 hs.2.2.1 hs.2.2.2.2]
  unfold nxL
  have e : min (b + 1) (s.1 + 1).toNat = (s.1 + 1).toNat := by omega
  rw [e]
  by_cases c : s.1 + 1 ≤ (b : Int) ∧ s.2 + 1 ≤ (k : Int)
  · rw [if_pos c, if_pos (by omega)]
  · rw [if_neg c, if_neg (by omega)]
/-! the spots of the letters that are not turned away -/
def wk1 (l : Let) : List Spt := match l.2.2 with
  | none => []
  | some w => [(w, l.2.1)]
def wkL (L : List Let) : List Spt := (L.map wk1).flatten
theorem wkL_snoc (L : List Let) (l : Let) : wkL (L ++ [l]) = wkL L ++ wk1 l := by
  unfold wkL
  rw [List.map_append, List.flatten_append]
  simp
theorem wkL_len : ∀ L : List Let, (wkL L).length ≤ L.length
  | [] => Nat.le_refl _
  | l :: L => by
    show (wk1 l ++ wkL L).length ≤ L.length + 1
    have := wkL_len L
    have : (wk1 l).length ≤ 1 := by
      unfold wk1
      split <;> simp
    rw [List.length_append]
    omega
theorem wkL_all : ∀ {L : List Let} {row : List Spt}, L.map (fun l => (l.2.2, l.2.1)) = row.map (fun p => (some p.1, p.2)) → wkL L = row
  | [], [], _ => rfl
  | [], _ :: _, h => by simp at h
  | _ :: _, [], h => by simp at h
  | l :: L, p :: row, h => by
    rw [List.map_cons, List.map_cons] at h
    obtain ⟨h1, h2⟩ := List.cons.inj h
    show wk1 l ++ wkL L = _
    rw [wkL_all h2]
    have e1 : l.2.2 = some p.1 := congrArg Prod.fst h1
    have e2 : l.2.1 = p.2 := congrArg Prod.snd h1
    unfold wk1
    rw [e1, e2]
    rfl
/-- where letters are: each spot next to the one ahead -/
structure Wl (k b : Int) (W : List Spt) : Prop where
  sp : ∀ x ∈ W, Spot k b x
  hd : ∀ x, W[0]? = some x → x = (0, 1)
  nx : ∀ (i : Nat) x y, W[i]? = some x → W[i + 1]? = some y → Nx k b x y
theorem Wl.nil {k b : Int} : Wl k b [] := ⟨fun x h => by simp at h, fun x h => by simp at h, fun i x y h => by simp at h⟩
theorem Wl.snoc {k b : Int} {W : List Spt} {o : Spt} (h : Wl k b W) (so : Spot k b o) (h0 : W = [] → o = (0, 1)) (hn : ∀ x, W.getLast? = some x → Nx k b x o) : Wl k b (W ++ [o]) := by
  refine ⟨fun x hx => ?_, fun x hx => ?_, fun i x y hx hy => ?_⟩
  · rcases List.mem_append.mp hx with hx | hx
    · exact h.sp x hx
    · rw [List.mem_singleton.mp hx]
      exact so
  · cases W with
    | nil =>
      simp at hx
      rw [← hx]
      exact h0 rfl
    | cons w W =>
      refine h.hd x ?_
      rw [List.getElem?_append_left (by simp)] at hx
      exact hx
  · have hl : i + 1 < (W ++ [o]).length := (List.getElem?_eq_some_iff.mp hy).1
    rw [List.length_append] at hl
    have hl' : i + 1 ≤ W.length := Nat.le_of_lt_succ hl
    rw [List.getElem?_append_left (by omega)] at hx
    by_cases c : i + 1 < W.length
    · rw [List.getElem?_append_left c] at hy
      exact h.nx i x y hx hy
    · have e : i + 1 = W.length := by omega
      rw [List.getElem?_append_right (by omega), e, Nat.sub_self] at hy
      have ey : o = y := by simpa using hy
      rw [← ey]
      refine hn x ?_
      rw [List.getLast?_eq_getElem?]
      rw [show W.length - 1 = i by omega]
      exact hx
/-- while letters come at a tick -/
structure Wi (k b : Int) (W : List Spt) (line : Int) (j : Nat) : Prop where
  wl : Wl k b W
  lo : 0 ≤ line
  hi : line ≤ b + 1
  zz : j = 0 → line ≤ b ∧ (W = [] → line = 0) ∧ ∀ x, W.getLast? = some x → line ≤ x.1
  ss : j ≠ 0 → W ≠ [] ∧ ∀ x, W.getLast? = some x → line ≤ x.1 + 1 ∧ (line ≤ b → x = (line - 1, (j : Int)))
theorem last_some {W : List Spt} (h : W ≠ []) : ∃ x, W.getLast? = some x := ⟨W.getLast h, List.getLast?_eq_some_getLast h⟩
theorem last_mem {W : List Spt} {x : Spt} (h : W.getLast? = some x) : x ∈ W := by
  rw [List.getLast?_eq_getElem?] at h
  exact List.mem_of_getElem? h
theorem Wi.step {k b τ : Int} {s : List Let × Int} {j : Nat} (hb : 0 ≤ b) (hj : (j : Int) < k) (h : Wi k b (wkL s.1) s.2 j) : Wi k b (wkL (Ln.step b τ (1 + (j : Int)) s).1) (Ln.step b τ (1 + (j : Int)) s).2 (j + 1) := by
  unfold Ln.step
  by_cases c : s.2 > b
  · rw [if_pos c]
    have e : wkL (s.1 ++ [(τ, 1 + (j : Int), none)]) = wkL s.1 := by
      rw [wkL_snoc]
      exact List.append_nil _
    have hj0 : j ≠ 0 := fun z => by
      have := (h.zz z).1
      omega
    obtain ⟨h1, h2⟩ := h.ss hj0
    refine ⟨?_, h.lo, h.hi, fun z => absurd z (Nat.succ_ne_zero _), fun _ => ?_⟩
    · show Wl k b (wkL (s.1 ++ [(τ, 1 + (j : Int), none)]))
      rw [e]
      exact h.wl
    · show wkL (s.1 ++ [(τ, 1 + (j : Int), none)]) ≠ [] ∧ ∀ x, (wkL (s.1 ++ [(τ, 1 + (j : Int), none)])).getLast? = some x → _
      rw [e]
      refine ⟨h1, fun x hx => ⟨(h2 x hx).1, fun z => ?_⟩⟩
      have z' : s.2 ≤ b := z
      omega
  · rw [if_neg c]
    have e : wkL (s.1 ++ [(τ, 1 + (j : Int), some s.2)]) = wkL s.1 ++ [(s.2, 1 + (j : Int))] := wkL_snoc _ _
    have ej : j ≠ 0 → ∀ x, (wkL s.1).getLast? = some x → x = (s.2 - 1, (j : Int)) := fun z x hx => ((h.ss z).2 x hx).2 (by omega)
    have hjl : (j : Int) ≤ s.2 := by
      by_cases z : j = 0
      · have := h.lo
        omega
      · obtain ⟨x, hx⟩ := last_some (h.ss z).1
        have sx := h.wl.sp x (last_mem hx)
        have := ej z x hx
        unfold Spot at sx
        rw [this] at sx
        simp only at sx
        omega
    have so : Spot k b (s.2, 1 + (j : Int)) := by
      have := h.lo
      unfold Spot
      simp only
      omega
    refine ⟨?_, ?_, ?_, fun z => absurd z (Nat.succ_ne_zero _), fun _ => ?_⟩
    · show Wl k b (wkL (s.1 ++ [(τ, 1 + (j : Int), some s.2)]))
      rw [e]
      refine h.wl.snoc so (fun z => ?_) (fun x hx => ⟨so, ?_⟩)
      · by_cases z0 : j = 0
        · rw [(h.zz z0).2.1 z, z0]
          rfl
        · exact absurd z (h.ss z0).1
      · by_cases z0 : j = 0
        · right
          refine ⟨by rw [z0]; rfl, (h.zz z0).2.2 x hx⟩
        · left
          rw [ej z0 x hx]
          show (s.2, 1 + (j : Int)) = (s.2 - 1 + 1, (j : Int) + 1)
          rw [Int.sub_add_cancel, Int.add_comm]
    · show 0 ≤ s.2 + 1
      have := h.lo
      omega
    · show s.2 + 1 ≤ b + 1
      omega
    · show wkL (s.1 ++ [(τ, 1 + (j : Int), some s.2)]) ≠ [] ∧ ∀ x, (wkL (s.1 ++ [(τ, 1 + (j : Int), some s.2)])).getLast? = some x → s.2 + 1 ≤ x.1 + 1 ∧ (s.2 + 1 ≤ b → x = (s.2 + 1 - 1, ((j + 1 : Nat) : Int)))
      rw [e]
      refine ⟨by simp, fun x hx => ?_⟩
      rw [List.getLast?_append] at hx
      have ex : x = (s.2, 1 + (j : Int)) := by simpa using hx.symm
      rw [ex]
      refine ⟨Int.le_refl _, fun _ => ?_⟩
      refine Prod.ext ?_ ?_
      · show s.2 = s.2 + 1 - 1
        omega
      · show 1 + (j : Int) = ((j + 1 : Nat) : Int)
        omega
theorem Wi.turns {k b τ : Int} {s : List Let × Int} (hb : 0 ≤ b) (h : Wi k b (wkL s.1) s.2 0) : ∀ j : Nat, (j : Int) ≤ k → Wi k b (wkL (Ln.turns b τ j s).1) (Ln.turns b τ j s).2 j
  | 0, _ => h
  | j + 1, hj => Wi.step hb (by omega) (Wi.turns hb h j (by omega))
theorem Wi.close {k b : Int} {W : List Spt} {line : Int} {j : Nat} (hb : 0 ≤ b) (h : Wi k b W line j) : Wi k b W (Ln.close line) 0 := by
  have r := Ln.close_rng hb h.lo h.hi
  refine ⟨h.wl, r.1, by omega, fun _ => ⟨r.2, fun z => ?_, fun x hx => ?_⟩, fun z => absurd rfl z⟩
  · by_cases c : j = 0
    · rw [(h.zz c).2.1 z]
      rfl
    · exact absurd z (h.ss c).1
  · have sx := h.wl.sp x (last_mem hx)
    unfold Spot at sx
    by_cases c : j = 0
    · have := (h.zz c).2.2 x hx
      unfold Ln.close
      split <;> omega
    · have := ((h.ss c).2 x hx).1
      unfold Ln.close
      split <;> omega
theorem wi_pre {k b : Int} {cs : List Int} (hb : 0 ≤ b) (hk : 0 ≤ k) (hc : ∀ c ∈ cs, c ≤ k) : ∀ i, Wi k b (wkL (Ln.pre b cs i).1) (Ln.pre b cs i).2 0
  | 0 => ⟨.nil, Int.le_refl _, by show (0 : Int) ≤ b + 1; omega, fun _ => ⟨hb, fun _ => rfl, fun x hx => by simp [Ln.pre, wkL] at hx⟩, fun z => absurd rfl z⟩
  | i + 1 => by
    have ih := wi_pre hb hk hc i
    have hg : cs.getD i 0 ≤ k := by
      rw [List.getD_eq_getElem?_getD]
      cases h : cs[i]? with
      | none => exact hk
      | some c => exact hc c (List.mem_of_getElem? h)
    unfold Ln.pre
    exact (Wi.turns (τ := (i : Int)) hb ih (cs.getD i 0).toNat (by omega)).close hb
theorem wl_letts {k b : Int} {cs : List Int} (hb : 0 ≤ b) (hk : 0 ≤ k) (hc : ∀ c ∈ cs, c ≤ k) : Wl k b (wkL (Ln.letts b cs)) := (wi_pre hb hk hc cs.length).wl
/-! the size of the comings of a walk -/
theorem incL_len : ∀ l : List Int, (incL l).length = l.length
  | [] => rfl
  | [_] => rfl
  | x :: y :: r => by
    show (incL (y :: r)).length + 1 = _
    rw [incL_len (y :: r)]
    rfl
structure Cs (k : Int) (cs : List Int) (n : Int) (s : Spt) : Prop where
  ex : ∃ ds, cs = ds ++ [s.2] ∧ ∀ c ∈ ds, 0 ≤ c ∧ c ≤ k
  ln : (cs.length : Int) + s.1 ≤ n
theorem cs_start {k b : Int} {s : Spt} (hk : 2 ≤ k) (hs : Spot k b s) (h1 : s.2 = 1) : Cs k (start s.1) (2 * b + 1) s := by
  unfold Spot at hs
  refine ⟨⟨List.replicate s.1.toNat 2, by rw [h1]; rfl, fun c hc => by rw [(List.mem_replicate.mp hc).2]; omega⟩, ?_⟩
  unfold start
  rw [List.length_append, List.length_replicate]
  show ((s.1.toNat + 1 : Nat) : Int) + s.1 ≤ _
  omega
theorem cs_grow {k b : Int} {cs : List Int} {n : Int} {s o : Spt} (h : Cs k cs n s) (hs : Spot k b s) (hn : Nx k b s o) : Cs k (grow cs s o) (n + 1) o := by
  obtain ⟨⟨ds, hd, hc⟩, hl⟩ := h
  have ho := hn.1
  unfold Spot at hs ho
  unfold grow
  rcases hn.2 with e | ⟨e1, e2⟩
  · have o1 : o.1 = s.1 + 1 := by rw [e]
    have o2 : o.2 = s.2 + 1 := by rw [e]
    rw [if_pos (by omega)]
    refine ⟨⟨ds, by rw [hd, incL_snoc, o2], hc⟩, ?_⟩
    rw [incL_len, o1]
    omega
  · rw [if_neg (by omega)]
    refine ⟨⟨cs ++ List.replicate (s.1 - o.1).toNat 0, by rw [List.append_assoc, e1], fun c hc' => ?_⟩, ?_⟩
    · rcases List.mem_append.mp hc' with hc' | hc'
      · rw [hd] at hc'
        rcases List.mem_append.mp hc' with hc' | hc'
        · exact hc c hc'
        · rw [List.mem_singleton.mp hc']
          omega
      · rw [(List.mem_replicate.mp hc').2]
        omega
    · rw [List.length_append, List.length_append, List.length_replicate]
      show ((cs.length + ((s.1 - o.1).toNat + 1) : Nat) : Int) + o.1 ≤ _
      omega
theorem cs_all {k b : Int} : ∀ (r : List Spt) (cs : List Int) (n : Int) (s : Spt), Cs k cs n s → Spot k b s → Chain k b s r → ∃ o, Spot k b o ∧ Cs k (cfGo cs s r) (n + (r.length : Int)) o
  | [], cs, n, s, h, hs, _ => ⟨s, hs, by simpa [cfGo] using h⟩
  | o :: r, cs, n, s, h, hs, hc => by
    obtain ⟨o', h1, h2⟩ := cs_all r _ _ o (cs_grow h hs hc.1) hc.1.1 hc.2
    refine ⟨o', h1, ?_⟩
    rw [List.length_cons, show n + ((r.length + 1 : Nat) : Int) = n + 1 + (r.length : Int) by omega]
    exact h2
theorem cf_right {k b : Int} {row : List Spt} (hk : 2 ≤ k) (h : Walk k b row) : ((cf row).length : Int) ≤ 2 * b + (row.length : Int) ∧ ∀ c ∈ cf row, 0 ≤ c ∧ c ≤ k := by
  cases row with
  | nil => exact False.elim h
  | cons s r =>
    obtain ⟨hs, h1, hc⟩ := h
    obtain ⟨o, ho, ⟨ds, hd, hin⟩, hl⟩ := cs_all r _ _ s (cs_start hk hs h1) hs hc
    unfold Spot at ho
    refine ⟨?_, fun c hc' => ?_⟩
    · show ((cfGo (start s.1) s r).length : Int) ≤ _
      rw [List.length_cons]
      omega
    · have hc' : c ∈ cfGo (start s.1) s r := hc'
      rw [hd] at hc'
      rcases List.mem_append.mp hc' with hc' | hc'
      · exact hin c hc'
      · rw [List.mem_singleton.mp hc']
        omega
theorem chain_snoc {k b : Int} {o : Spt} : ∀ (r : List Spt) (s : Spt), Chain k b s r → (∀ x, (s :: r).getLast? = some x → Nx k b x o) → Chain k b s (r ++ [o])
  | [], s, _, h => ⟨h s rfl, trivial⟩
  | x :: r, s, hc, h => ⟨hc.1, chain_snoc r x hc.2 fun y hy => h y (by rw [List.getLast?_cons_cons]; exact hy)⟩
theorem walk_snoc {k b : Int} {row : List Spt} {o : Spt} (h : Walk k b row) (hn : ∀ x, row.getLast? = some x → Nx k b x o) : Walk k b (row ++ [o]) := by
  cases row with
  | nil => exact False.elim h
  | cons s r => exact ⟨h.1, h.2.1, chain_snoc r s h.2.2 hn⟩
end Wk

/-! ### try with several clauses, some with a name, some without -/
namespace TM15
open PySem PySem.Spec PyProof.Rows L2 TM14
/-- what the clauses wish of an exception of the body, one after the other -/
def wMix (K : PySem.W.Frag) (Wout : WX) (D : Ends) : List (Value × Option Nat × (Addr → Value → Option Addr → TS)) → WX
  | [] => Wout
  | (c, some i, ts) :: r => wAs K c i ts (wMix K Wout D r) D
  | (c, none, ts) :: r => wOnly K c ts (wMix K Wout D r) D
inductive HdsMx (X : Cx) : List ExceptHandler → List (Value × Option Nat × (Addr → Value → Option Addr → TS)) → Prop
  | nil : HdsMx X [] []
  | cons {x n : Str} {c : Value} {i : Nat} {ts : Addr → Value → Option Addr → TS} {b : Stmt} {suite : List Stmt} {np pos : Pos} {hds : List ExceptHandler} {l : List (Value × Option Nat × (Addr → Value → Option Addr → TS))}
      (hi : X.N[i]? = some n) (hl : X.env.kindOf n = some .local) (hc : Names X x c)
      (hsu : ∀ (a : Addr) (oe : Obj) (cls : Value) (d : Option Addr) (pn : List (Addr × Obj)), Zc cls d oe → (∃ vs, oe.data = .fields vs) → PSs (X.suite a ((a, oe) :: pn)) (b :: suite) (ts a cls d))
      (r : HdsMx X hds l) : HdsMx X (.ExceptHandler (some (.Name x np)) (some n) (b :: suite) pos :: hds) ((c, some i, ts) :: l)
  | plain {x : Str} {c : Value} {ts : Addr → Value → Option Addr → TS} {b : Stmt} {suite : List Stmt} {np pos : Pos} {hds : List ExceptHandler} {l : List (Value × Option Nat × (Addr → Value → Option Addr → TS))} (hc : Names X x c)
      (hsu : ∀ (a : Addr) (oe : Obj) (cls : Value) (d : Option Addr) (pn : List (Addr × Obj)), Zc cls d oe → (∃ vs, oe.data = .fields vs) → PSs (X.suite a ((a, oe) :: pn)) (b :: suite) (ts a cls d))
      (r : HdsMx X hds l) : HdsMx X (.ExceptHandler (some (.Name x np)) none (b :: suite) pos :: hds) ((c, none, ts) :: l)
section
variable {X : Cx} {pins : List (Addr × Obj)} {D : Ends} {Wout : WX}
/-- the clauses, one after the other -/
theorem clauses (hs : X.stack = X.env :: X.outer) (hf : X.env.frame = some X.env.locals) (hN : X.N.Nodup) (tk : Takes X Wout) {hds : List ExceptHandler} {l : List (Value × Option Nat × (Addr → Value → Option Addr → TS))} (hk : HdsMx X hds l)
    {a : Addr} {B h3 : Heap} {sI s' : Shared} {σ : L2.St} {H : Hp} {cls : Value} {d : Option Addr} (J : Inv X pins σ H sI)
    (nb : ∀ b o, sI.heap.get? b = some o → b ∉ frs X.stack → B.get? b = some o) (up : sI.heap.UpToSlots h3) (fl : HandSPX.FlyingZ B (X.env :: X.outer) a (Zc cls d) h3) (na : H a = none) (os : s'.os = sI.os) (ag : AllBare s'.gens)
    (w : wMix X.K Wout D l cls d σ H) : wpAny (model X.prog X.w) X.A (handleBy (.ref a) X.env hds) (SP X pins D) X.xe { s' with heap := h3 } := by
  have ok := J.ok
  induction hk with
  | nil => exact go_on hs hf tk J nb up fl na os ag w
  | @cons x n c i ts b₀ suite np pos hds l hi hl hc hsu r ih =>
    obtain ⟨b, hb, hyes, hno⟩ := w
    have J3 : Inv X pins σ H { s' with heap := h3 } := J.landed nb fl.1 up os ag
    obtain ⟨oe3, vs3, he3, hz3, hd3⟩ := fl.there
    obtain ⟨nL, nF⟩ := off_frames (X := X) fl.2.2.1 he3 hd3 hf
    have S3 := J3.suite he3 hd3 na nL nF
    refine wpAny_handleBy_cons (codeAny_handlers_test ?_) (by intro q; cases q)
    have LT : PySem.W.Looks (model X.prog X.w) h3 (typeOf (.ref a)) cls := fun A Q E s k q => wpAny_typeOf_ref (k _ _ he3) (by rw [hz3.1]; exact q)
    have LM := PySem.W.exm_one (M := model X.prog X.w) (J3.kIn) LT hb
    have test : ∀ {Q : Value → Shared → Prop} {E : Value → Shared → Prop}, Q c { s' with heap := h3 } → wpAny (model X.prog X.w) (X.A.mark (some (.ref a))) (eval (.Name x np) X.env) Q E { s' with heap := h3 } := fun {Q E} q => by
      obtain ⟨hg, hdbg, hm | ⟨hm, hv, hnn⟩⟩ := hc
      · exact ld_glob (X := X.suite a ((a, oe3) :: (X.pn ++ pins))) S3 hg hm q hdbg
      · exact ld_blt (X := X.suite a ((a, oe3) :: (X.pn ++ pins))) S3 hg hm hv q hnn hdbg
    refine test (LM.here ?_)
    cases b with
    | false => exact ih (hno rfl)
    | true =>
      refine codeAny_handlers_suite_as ?_
      refine HandSPX.lands_againZ fl fun h4 fl4 up4 => ?_
      have J4 : Inv X pins σ H { s' with heap := h4 } := J.landed nb fl4.1 (up.trans up4) os ag
      obtain ⟨oe4, vs4, he4, hz4, hd4⟩ := fl4.there
      have S4 := J4.suite he4 hd4 na nL nF
      refine store_ok (X := X.suite a ((a, oe4) :: (X.pn ++ pins))) (v := .ref a) S4 hN hi (.inl hl) rfl (fun s5 S5 => ?_) (.inr hl)
      refine wpAny_mono ((hsu a oe4 cls d (X.pn ++ pins) hz4 ⟨_, hd4⟩).run [] s5 _ H _ S5 (hyes rfl a na)) (fun f s6 hsp => ?_) (fun _ _ z => False.elim z)
      cases f with
      | ret u =>
        obtain ⟨v6, σ6, H6, S6, r6, q6⟩ := hsp
        exact gone_ok (S6.unsuite ok) hN hi hl fun s7 J7 => ⟨_, _, _, J7, r6, q6⟩
      | next =>
        obtain ⟨σ6, H6, S6, q6⟩ := hsp
        exact gone_ok (S6.unsuite ok) hN hi hl fun s7 J7 => ⟨_, _, J7, q6⟩
      | brk =>
        obtain ⟨σ6, H6, S6, q6⟩ := hsp
        exact gone_ok (S6.unsuite ok) hN hi hl fun s7 J7 => ⟨_, _, J7, q6⟩
      | cont =>
        obtain ⟨σ6, H6, S6, q6⟩ := hsp
        exact gone_ok (S6.unsuite ok) hN hi hl fun s7 J7 => ⟨_, _, J7, q6⟩
  | @plain x c ts b₀ suite np pos hds l hc hsu r ih =>
    obtain ⟨b, hb, hyes, hno⟩ := w
    have J3 : Inv X pins σ H { s' with heap := h3 } := J.landed nb fl.1 up os ag
    obtain ⟨oe3, vs3, he3, hz3, hd3⟩ := fl.there
    obtain ⟨nL, nF⟩ := off_frames (X := X) fl.2.2.1 he3 hd3 hf
    have S3 := J3.suite he3 hd3 na nL nF
    refine wpAny_handleBy_cons (codeAny_handlers_test ?_) (by intro q; cases q)
    have LT : PySem.W.Looks (model X.prog X.w) h3 (typeOf (.ref a)) cls := fun A Q E s k q => wpAny_typeOf_ref (k _ _ he3) (by rw [hz3.1]; exact q)
    have LM := PySem.W.exm_one (M := model X.prog X.w) (J3.kIn) LT hb
    have test : ∀ {Q : Value → Shared → Prop} {E : Value → Shared → Prop}, Q c { s' with heap := h3 } → wpAny (model X.prog X.w) (X.A.mark (some (.ref a))) (eval (.Name x np) X.env) Q E { s' with heap := h3 } := fun {Q E} q => by
      obtain ⟨hg, hdbg, hm | ⟨hm, hv, hnn⟩⟩ := hc
      · exact ld_glob (X := X.suite a ((a, oe3) :: (X.pn ++ pins))) S3 hg hm q hdbg
      · exact ld_blt (X := X.suite a ((a, oe3) :: (X.pn ++ pins))) S3 hg hm hv q hnn hdbg
    refine test (LM.here ?_)
    cases b with
    | false => exact ih (hno rfl)
    | true =>
      refine codeAny_handlers_suite ?_
      refine HandSPX.lands_againZ fl fun h4 fl4 up4 => ?_
      have J4 : Inv X pins σ H { s' with heap := h4 } := J.landed nb fl4.1 (up.trans up4) os ag
      obtain ⟨oe4, vs4, he4, hz4, hd4⟩ := fl4.there
      have S4 := J4.suite he4 hd4 na nL nF
      refine wpAny_mono ((hsu a oe4 cls d (X.pn ++ pins) hz4 ⟨_, hd4⟩).run [] _ _ H _ S4 (hyes rfl a na)) (fun f s6 hsp => ?_) (fun _ _ z => False.elim z)
      cases f with
      | next =>
        obtain ⟨σ6, H6, S6, q6⟩ := hsp
        exact ⟨_, _, S6.unsuite ok, q6⟩
      | brk =>
        obtain ⟨σ6, H6, S6, q6⟩ := hsp
        exact ⟨_, _, S6.unsuite ok, q6⟩
      | cont =>
        obtain ⟨σ6, H6, S6, q6⟩ := hsp
        exact ⟨_, _, S6.unsuite ok, q6⟩
      | ret u =>
        obtain ⟨v6, σ6, H6, S6, r6, q6⟩ := hsp
        exact ⟨_, _, _, S6.unsuite ok, r6, q6⟩
theorem ps_try_mix {body : List Stmt} {h₀ : ExceptHandler} {hds : List ExceptHandler} {l : List (Value × Option Nat × (Addr → Value → Option Addr → TS))} {pos : Pos} {tb : WX → TS} (hs : X.stack = X.env :: X.outer) (hf : X.env.frame = some X.env.locals) (hN : X.N.Nodup) (tk : Takes X Wout)
    (hb : ∀ (W : WX) (pn : List (Addr × Obj)) (xe : Value → Shared → Prop), Takes (X.tr pn xe) W → PassesOwn (model X.prog X.w) X.A X.env xe → PSs (X.tr pn xe) body (tb W))
    (hh : HdsMx X (h₀ :: hds) l) : PS X (.Try body (h₀ :: hds) [] [] pos) (fun D σ H => tb (wMix X.K Wout D l) D σ H) := by
  refine ⟨fun pins s σ H D I h => wpAny_Try_except ?_⟩
  have ok := I.ok
  have hfr : X.A.frames = some (X.env :: X.outer) := by rw [ok.frames, hs]
  refine wpAny_mono ((hb (wMix X.K Wout D l) (X.pn ++ pins) (fun e s₁ => wpAny (model X.prog X.w) X.A (noteFrame e X.env) (fun _ s₂ => wpAny (model X.prog X.w) X.A (setFlight e none) (fun _ s₃ =>
    wpAny (model X.prog X.w) X.A (handleBy e X.env (h₀ :: hds)) (SP X pins D) X.xe s₃) X.xe s₂) X.xe s₁) (fun u s' xx => ?_) PassesOwn.looking).run [] s σ H D (I.toTry _) h) (fun f s1 hsp => ?_) (fun e s1 he => he)
  · obtain ⟨a, B, sI, _, σ', H', cls, d, rfl, J', nb, up, sky, na, os, ag, w⟩ := xx
    rw [hs] at sky
    exact Sky.land Zc.steady hfr hf sky fun h3 fl3 up3 => clauses hs hf hN tk hh (J'.ofTry ok) nb (up.trans up3) fl3 na os ag w
  · cases f with
    | next =>
      obtain ⟨σ', H', J', q⟩ := hsp
      exact wpAny_execs_nil ⟨σ', H', J'.ofTry ok, q⟩
    | brk =>
      obtain ⟨σ', H', J', q⟩ := hsp
      exact ⟨σ', H', J'.ofTry ok, q⟩
    | cont =>
      obtain ⟨σ', H', J', q⟩ := hsp
      exact ⟨σ', H', J'.ofTry ok, q⟩
    | ret u =>
      obtain ⟨v, σ', H', J', r, q⟩ := hsp
      exact ⟨v, σ', H', J'.ofTry ok, r, q⟩
end
end TM15
/-! ### exceptions as values: made with nothing, asked for their class, their fields -/
namespace EX15
open PySem PySem.Spec PyProof.Rows L2
/-- C() as a value, C an exception class with its own __init__ that takes nothing -/
def tNewE0 (C : Addr) : TE := fun _ H Q => ∀ a, H a = none → Q (.ref a) (upd H a (exo a C none))
theorem pe_newE0 {X : Cx} {CX : CXT} {x : Str} {C fI : Addr} {k : Nat} {fd : FuncData} {sp : Sp} {p pos : Pos} (T : OexC X.K C) (iC : PySem.W.findIn X.K (.ref C) "__init__" = some (some (.ref fI))) (tI : PySem.W.typeIn X.K (.ref fI) = some (.type "function"))
    (F1 : FnOk X.prog X.w X.K X.mg X.base CX k fI fd ["self"] sp) (hsp : ∀ (a : Addr) (H : Hp) (Q : VK) (E : XK), Q .non H → sp [.ref a] H Q E) (hr : Room (k + 1) X.A) (hb : Binds X.K fd ["self"] []) (hx : Passes CX X (fun _ _ _ => False)) (hg : Gl X x) (hm : X.mg x = some (.ref C))
    (hdb : (x == ("__debug__" : Str)) = false := by decide) : PE X (.Call (.Name x p) [] [] pos) (tNewE0 C) := by
  refine ⟨fun pins s σ H Q I h => ?_⟩
  obtain ⟨nm, q, N, bs, bm, sn, sub, ab, col, dd, k0, k1, k2, k3, k5, hC, hbm⟩ := T.cls
  refine wpAny_Call_Name_kw (ld_glob I hg hm ?_ hdb)
  refine PySem.W.callWith_K0 I.kIn T.kC ?_
  show wpAny _ _ (call (.ref C) []) _ _ _
  obtain ⟨hp, g, dr, tk, os⟩ := s
  have hsz : hp.objs.size ≤ hp.objs.size + 1 := Nat.le_succ _
  have hn : H (hp.objs.size + 1) = none := I.hok.fresh hsz
  have kk : ∀ b o, hp.get? b = some o → ((hp.push (PySem.W.kdv_tup [])).push (PySem.HandSPX.excO C hp.objs.size)).get? b = some o := fun b o e => Heap.get?_push_of_some _ (Heap.get?_push_of_some _ e)
  have hget : ((hp.push (PySem.W.kdv_tup [])).push (PySem.HandSPX.excO C hp.objs.size)).get? (hp.objs.size + 1) = some (PySem.HandSPX.excO C hp.objs.size) := by heap_get
  have I2 : Inv X pins σ (upd H (hp.objs.size + 1) (exo (hp.objs.size + 1) C none)) ⟨(hp.push (PySem.W.kdv_tup [])).push (PySem.HandSPX.excO C hp.objs.size), g, dr, tk, os⟩ :=
    I.laid (t' := tk) (a := hp.objs.size + 1) (o := exo (hp.objs.size + 1) C none) (h' := (hp.push (PySem.W.kdv_tup [])).push (PySem.HandSPX.excO C hp.objs.size)) kk hsz (exo_ok hget)
  have r2 : Vals [V.ref (hp.objs.size + 1)] [Value.ref (hp.objs.size + 1)] := .cons rfl .nil
  refine wpAny_call (PySem.HandSPX.call_own F.excBase_ValueError (fun Y => PySem.HandSPX.refsVE_contains Y bm hbm) (I.kIn _ _ hC) (PySem.W.looks_findIn I.kIn iC) (fun self => PySem.W.bind_fn I.kIn self tI) (Nat.zero_le _)
    (codeAny_mono (F1.run _ X.stack _ _ ⟨[Value.ref (hp.objs.size + 1)], []⟩ [Value.ref (hp.objs.size + 1)] _ (fun v H3 => v = .non ∧ Q (.ref (hp.objs.size + 1)) H3) (fun _ _ _ => False) (hr.make C [] []) (I2.env0.make C [] []) (hb _ [Value.ref (hp.objs.size + 1)] I2.kIn rfl) r2 (hsp _ _ _ _ ⟨rfl, h _ hn⟩)) fun r s' hq' => ?_))
  cases r with
  | error er => exact hx pins σ _ _ er s' I2 hq'
  | ok fl =>
    cases fl with
    | ret u =>
      obtain ⟨v, H', I3, rv, ev, q3⟩ := I2.after hq'
      subst ev
      exact ⟨rv, ⟨V.ref (hp.objs.size + 1), H', I3, rfl, q3⟩⟩
    | next => exact False.elim hq'
    | brk => exact False.elim hq'
    | cont => exact False.elim hq'
/-- isinstance(e, c), e an exception of an own class that stands in the heap, with its dict or without -/
def rIsG (K : PySem.W.Frag) : List V → Hp → VK → Prop := fun xs H Q => ∃ (C a : Addr) (d : Option Addr) (c : V) (cv : Value) (b : Bool), xs = [.ref a, c] ∧ ExcC K C ∧ H a = some (exo a C d) ∧ (∀ dd, d = some dd → ∃ fs, H dd = some (exd dd fs)) ∧ ClsV c cv ∧ PySem.W.kitOne K (.ref C) cv = some b ∧ Q (.bl b) H
theorem call_isG {X : Cx} : CallR X (.builtin "isinstance") (rIsG X.K) := by
  intro pins s σ H xs us Q I r h
  obtain ⟨C, a, d, c, cv, b, rfl, E, ea, ed, k, e, q⟩ := h
  obtain ⟨u1, u2, rfl, r1, r2⟩ := vals2 r
  have e2 := k.eq r2
  subst e2
  cases (show u1 = Value.ref a from r1)
  obtain ⟨⟨t1, hget⟩, _⟩ := I.hok a _ ea
  obtain ⟨cd, hcD, _⟩ := PySem.W.any_some E.hd
  cases d with
  | none =>
    have J : PySem.W.InstAt s.heap a ({ cls := .ref C, dict := none, data := .fields #[.ref t1, .none, .none, .none, .bool false, .none] } : Obj) C none := ⟨hget, rfl, rfl, trivial⟩
    exact PySem.W.kia_one (PySem.W.kitx_exc (by rw [hcD]; rfl) E.hg E.hk E.hs E.ha E.hn E.ht E.hm) I.kIn J e (fun z => nomatch z) fun tk => ⟨.bl b, H, I.tok tk, rfl, q⟩
  | some dd =>
    obtain ⟨fs, edd⟩ := ed dd rfl
    obtain ⟨⟨mA, hns, _⟩, _⟩ := I.hok dd _ edd
    obtain ⟨od, ho, _⟩ := lookIn_ns hns
    have J : PySem.W.InstAt s.heap a ({ cls := .ref C, dict := some dd, data := .fields #[.ref t1, .none, .none, .none, .bool false, .none] } : Obj) C (some od) := ⟨hget, rfl, rfl, ho⟩
    exact PySem.W.kia_one (PySem.W.kitx_exc (by rw [hcD]; rfl) E.hg E.hk E.hs E.ha E.hn E.ht E.hm) I.kIn J e (fun z => nomatch z) fun tk => ⟨.bl b, H, I.tok tk, rfl, q⟩
/-- e.f, e an exception of an own class that stands in the heap with its dict -/
def tXg (K : PySem.W.Frag) (f : Str) (te : TE) : TE := fun σ H Q => te σ H fun x H1 => ∃ (C a d : Addr) (fs : List (Str × V)) (v : V), x = .ref a ∧ XfC K C ∧ PySem.W.findIn K (.ref C) f = some none ∧ H1 a = some (exo a C (some d)) ∧ H1 d = some (exd d fs) ∧ fs.lookup f = some v ∧ Q v H1
theorem pe_xg {X : Cx} {e : Expr} {te : TE} {pos : Pos} {f : Str} (he : PE X e te) (hb : attributeBase e f X.env (eval e X.env) = eval e X.env := by rfl) : PE X (.Attribute e f pos) (tXg X.K f te) := by
  refine ⟨fun pins s σ H Q I h => ?_⟩
  refine attr_of hb (thn (he.run pins s σ H _ I h) fun u s1 hh => ?_)
  obtain ⟨x, H1, I1, rx, C, a, d, fs, v, ex, T, hno, ea, ed, l, q⟩ := hh
  subst ex
  obtain rfl : u = Value.ref a := rx
  obtain ⟨⟨t1, hget⟩, _⟩ := I1.hok a _ ea
  obtain ⟨⟨mA, hns, hr⟩, _⟩ := I1.hok d _ ed
  obtain ⟨od, ho, hl⟩ := lookIn_ns hns
  obtain ⟨u, hu, ru⟩ := RelO.some_of (v := v) (o := mA f) (by rw [← l]; exact hr f)
  have J : PySem.W.InstAt s1.heap a ({ cls := .ref C, dict := some d, data := .fields #[.ref t1, .none, .none, .none, .bool false, .none] } : Obj) C (some od) := ⟨hget, rfl, rfl, ho⟩
  exact HandSPX.exc_get I1.kIn J T.ga T.gg T.exC (PySem.W.findObj_own T.hdC hno rfl (by rw [hl, hu])) (handed_of ru) ⟨v, H1, I1.tok _, ru, q⟩
/-- an own exception class whose base stands at le and is no base of others here -/
structure XcO (K : PySem.W.Frag) (le c : Addr) : Prop where
  lk : ∃ nm q N bs sn sub ab col dd k0 k1 k2 k3 k5, K.lookup c = some (excClassObj nm q c N bs [.ref le, .type "ValueError", .type "Exception", .type "BaseException", .type "object"] true sn sub ab col dd k0 k1 k2 k3 k5 "ValueError.__new__")
  ty : PySem.W.typeIn K (.ref c) = some (.type "type")
  ec : ExcC K c
def AllX (K : PySem.W.Frag) (le : Addr) : List Addr → Prop
  | [] => True
  | c :: r => XcO K le c ∧ AllX K le r
theorem AllX.mem {K : PySem.W.Frag} {le : Addr} : ∀ {cs : List Addr}, AllX K le cs → ∀ c ∈ cs, XcO K le c
  | [], _, _, h => by cases h
  | c :: r, ⟨h, hr⟩, d, hd => by
    rcases List.mem_cons.mp hd with rfl | hd
    · exact h
    · exact AllX.mem hr d hd
/-- own exception classes of one base, none under another -/
structure Kts (K : PySem.W.Frag) (le : Addr) (cs : List Addr) : Prop where
  one : ∀ (i j : Nat) (a b : Addr), cs[i]? = some a → cs[j]? = some b → PySem.W.kitOne K (.ref a) (.ref b) = some (decide (i = j))
  bas : ∀ (i : Nat) (a : Addr), cs[i]? = some a → PySem.W.kitOne K (.ref a) (.ref le) = some true
  ve : ∀ (i : Nat) (a : Addr), cs[i]? = some a → PySem.W.kitOne K (.ref a) (.type "ValueError") = some true
  ec : ∀ (i : Nat) (a : Addr), cs[i]? = some a → ExcC K a
theorem cls_at {K : PySem.W.Frag} {le c : Addr} (h : XcO K le c) : ∃ cd : ClassData, PySem.W.clsIn K c = some cd ∧ cd.mro = [.ref c, .ref le, .type "ValueError", .type "Exception", .type "BaseException", .type "object"] := by
  obtain ⟨nm, q, N, bs, sn, sub, ab, col, dd, k0, k1, k2, k3, k5, e⟩ := h.lk
  unfold PySem.W.clsIn
  rw [e]
  exact ⟨_, rfl, rfl⟩
theorem sub_at {K : PySem.W.Frag} {le c : Addr} (h : XcO K le c) (v : Value) : PySem.W.subIn K (.ref c) v = some (([.ref c, .ref le, .type "ValueError", .type "Exception", .type "BaseException", .type "object"] : List Value).contains v) := by
  obtain ⟨cd, e, m⟩ := cls_at h
  show PySem.W.mroIn K c v = _
  unfold PySem.W.mroIn
  rw [e]
  show (if cd.mro.isEmpty = true then none else some (cd.mro.contains v)) = _
  rw [m]
  rfl
theorem ref_ne {a b : Addr} (h : a ≠ b) : (Value.ref a == Value.ref b) = false := by
  have : ¬ (Value.ref a == Value.ref b) = true := fun z => h (by
    have := eq_of_beq z
    injection this)
  simpa using this
theorem nodup_inj {cs : List Addr} (nd : cs.Nodup) {i j : Nat} (hi : i < cs.length) (hj : j < cs.length) (h : cs[i] = cs[j]) : i = j := by
  rcases Nat.lt_trichotomy i j with c | c | c
  · exact absurd h (List.pairwise_iff_getElem.mp nd i j hi hj c)
  · exact c
  · exact absurd h.symm (List.pairwise_iff_getElem.mp nd j i hj hi c)
theorem kts_of {K : PySem.W.Frag} {le : Addr} {cs : List Addr} (h : AllX K le cs) (nd : cs.Nodup) (nl : le ∉ cs) (lc : PySem.W.isClsIn K le = true) (lt : PySem.W.typeIn K (.ref le) = some (.type "type")) : Kts K le cs := by
  have m : ∀ {i : Nat} {a : Addr}, cs[i]? = some a → a ∈ cs := fun e => List.mem_of_getElem? e
  refine ⟨fun i j a b ei ej => ?_, fun i a ei => ?_, fun i a ei => ?_, fun i a ei => (h.mem a (m ei)).ec⟩
  · have ha := h.mem a (m ei)
    have hb := h.mem b (m ej)
    obtain ⟨cb, eb, _⟩ := cls_at hb
    have lb : PySem.W.isClsIn K b = true := by
      unfold PySem.W.isClsIn
      rw [eb]
      rfl
    by_cases z : i = j
    · subst z
      cases Option.some.inj (ei.symm.trans ej)
      rw [decide_eq_true rfl]
      refine EX6.kit_own ?_ lb hb.ty
      rw [sub_at ha]
      rw [List.contains_cons, show (Value.ref a == Value.ref a) = true from by simp, Bool.true_or]
    · rw [decide_eq_false z]
      have ne : a ≠ b := fun q => z (by
        subst q
        obtain ⟨hi, qi⟩ := List.getElem?_eq_some_iff.mp ei
        obtain ⟨hj, qj⟩ := List.getElem?_eq_some_iff.mp ej
        exact nodup_inj nd hi hj (qi.trans qj.symm))
      have nle : le ≠ b := fun q => nl (q ▸ m ej)
      refine EX6.kit_ownN ?_ lb hb.ty (ref_ne ne)
      rw [sub_at ha]
      rw [List.contains_cons, List.contains_cons, ref_ne (Ne.symm ne), ref_ne (Ne.symm nle)]
      rfl
  · have ha := h.mem a (m ei)
    refine EX6.kit_own ?_ lc lt
    rw [sub_at ha]
    rw [List.contains_cons, List.contains_cons, show (Value.ref le == Value.ref le) = true from by simp, Bool.true_or, Bool.or_true]
  · have ha := h.mem a (m ei)
    show (if (Value.ref a == Value.type "ValueError") = true then some true else if PySem.W.kitMeta "ValueError" = true then PySem.W.subIn K (.ref a) (.type "ValueError") else none) = some true
    rw [if_neg (show ¬ (Value.ref a == Value.type "ValueError") = true from fun z => nomatch (eq_of_beq z)), if_pos (by decide +kernel), sub_at ha]
    rw [List.contains_cons, List.contains_cons, List.contains_cons, show (Value.type "ValueError" == Value.type "ValueError") = true from by decide +kernel, Bool.true_or, Bool.or_true, Bool.or_true]
/-- a row that is never reached -/
theorem ps_false {X : Cx} {st : Stmt} : PS X st (fun _ _ _ => False) := ⟨fun _ _ _ _ _ _ h => (show False from h).elim⟩
/-- a list that is walked, the frame named -/
theorem pi_listK {X : Cx} {K : PySem.W.Frag} (h : X.K = K) {tg e : Expr} {te : TE} (he : PE X e te) : PI X tg e (iList K te) := by
  subst h
  exact pi_list he
/-- len, the frame named -/
theorem call_lenK {X : Cx} {K : PySem.W.Frag} (h : X.K = K) : CallR X (.builtin "len") (fun xs H Q => ∃ p ys, xs = [.ref p] ∧ (SqL K H p ys ∨ SqT K H p ys) ∧ Q (.int ys.length) H) := by
  subst h
  exact call_len_seq
/-- isinstance(x, c), the frame named -/
theorem call_isiN {X : Cx} {K : PySem.W.Frag} (h : X.K = K) : CallR X (.builtin "isinstance") (rIsi K) := by
  subst h
  exact call_isi
/-- a thing that is equal to itself: flat, or one object -/
def Sm (v : V) : Prop := flatB v = true ∨ ∃ a, v = .ref a
theorem sm_eq {A : Around} {s : Shared} {v : V} (h : Sm v) {u w : Value} (r : RelV v u) (r' : RelV v w) : SeqAt.EqAt A s u w true := by
  rcases h with f | ⟨a, rfl⟩
  · exact eqAt_same r r' f
  · cases (show u = Value.ref a from r)
    cases (show w = Value.ref a from r')
    exact SeqAt.EqAt.same _
theorem sm_all {A : Around} {s : Shared} : ∀ {xs : List V}, (∀ v ∈ xs, Sm v) → ∀ {us ws : List Value}, Vals xs us → Vals xs ws → ∀ j (h1 : j < us.length) (h2 : j < ws.length), SeqAt.EqAt A s us[j] ws[j] true
  | [], _, us, ws, r1, _, j, h1, _ => by
    cases r1
    exact absurd h1 (Nat.not_lt_zero j)
  | x :: xs, h, us, ws, r1, r2, j, h1, h2 => by
    cases r1 with
    | cons a1 b1 =>
      cases r2 with
      | cons a2 b2 =>
        cases j with
        | zero => exact sm_eq (h x List.mem_cons_self) a1 a2
        | succ j => exact sm_all (fun v hv => h v (List.mem_cons_of_mem _ hv)) b1 b2 j (Nat.lt_of_succ_lt_succ h1) (Nat.lt_of_succ_lt_succ h2)
/-- xs != ys, two lists of the same things -/
def rNeS (K : PySem.W.Frag) : R2 := fun x y H Q => ∃ a b xs, x = .ref a ∧ y = .ref b ∧ SqL K H a xs ∧ SqL K H b xs ∧ (∀ v ∈ xs, Sm v) ∧ Q (.bl false) H
theorem op_neS {X : Cx} (hu : X.A.units + 64 < cLine) : OpR X (compareOp .NotEq) (rNeS X.K) := by
  intro pins s σ H x y v u Q I rx ry h
  obtain ⟨a, b, xs, rfl, rfl, ha, hb, sm, q⟩ := h
  cases (show v = Value.ref a from rx)
  cases (show u = Value.ref b from ry)
  obtain ⟨us, r1, p1, _⟩ := I.list ha
  obtain ⟨ws, r2, p2, _⟩ := I.list hb
  have hsz : us.toArray.size = ws.toArray.size := by
    rw [List.size_toArray, List.size_toArray, ← r1.length, ← r2.length]
  have t := SeqAt.RcNeAt.lists (A := X.A) (e := fun _ => true) p1.isList p2.isList hsz (by omega) (fun j h1 h2 => by
    have k := sm_all (A := X.A.in1) (s := s) sm r1 r2 j (by simpa using h1) (by simpa using h2)
    simpa using k)
  rw [show ((List.range us.toArray.size).all fun _ => true) = true from List.all_eq_true.mpr fun _ _ => rfl] at t
  exact t X.prog X.w _ _ ⟨.bl false, H, I, rfl, q⟩
/-- the same thing, or two tuples of the same things -/
def EqS (K : PySem.W.Frag) (H : Hp) (x y : V) : Prop := (x = y ∧ Sm x) ∨ ∃ a b xs, x = .ref a ∧ y = .ref b ∧ SqT K H a xs ∧ SqT K H b xs ∧ ∀ v ∈ xs, Sm v
theorem eqS_run {X : Cx} {pins : List (Addr × Obj)} {σ : L2.St} {H : Hp} {s : Shared} (I : Inv X pins σ H s) {A : Around} (hu : A.units < cLine) (x y : V) (v u : Value) (h : EqS X.K H x y) (rx : RelV x v) (ry : RelV y u) : SeqAt.EqP X.prog X.w A s v u true := by
  rcases h with ⟨rfl, sm⟩ | ⟨a, b, xs, rfl, rfl, ha, hb, sm⟩
  · exact (sm_eq sm rx ry).eqP
  · cases (show v = Value.ref a from rx)
    cases (show u = Value.ref b from ry)
    by_cases e : a = b
    · subst e
      exact (SeqAt.EqAt.same _).eqP
    · obtain ⟨us, r1, p1, _⟩ := I.tuple ha
      obtain ⟨ws, r2, p2, _⟩ := I.tuple hb
      have hsz : us.toArray.size = ws.toArray.size := by
        rw [List.size_toArray, List.size_toArray, ← r1.length, ← r2.length]
      refine SeqAt.eqP_refs e fun E Q q => ?_
      refine (SeqAt.RcAt.tuples (e := fun _ => true) p1 p2 hu fun j h1 h2 => ?_) X.prog X.w E Q ?_
      · have k := sm_all (A := A.in1) (s := s) sm r1 r2 j (by simpa using h1) (by simpa using h2)
        simpa using k
      · rw [hsz, show ((List.range (min ws.toArray.size ws.toArray.size)).all fun _ => true) = true from List.all_eq_true.mpr fun _ _ => rfl]
        simpa using q
/-- xs == ys, two lists of things that are the same or tuples of the same -/
def rEqS (K : PySem.W.Frag) : R2 := fun x y H Q => ∃ a b xs ys, x = .ref a ∧ y = .ref b ∧ SqL K H a xs ∧ SqL K H b ys ∧ Paired (EqS K H) xs ys ∧ Q (.bl true) H
theorem op_eqS {X : Cx} (hu : X.A.units + 64 < cLine) : OpR X (compareOp .Eq) (rEqS X.K) := by
  intro pins s σ H x y v u Q I rx ry h
  obtain ⟨a, b, xs, ys, rfl, rfl, ha, hb, hp, q⟩ := h
  cases (show v = Value.ref a from rx)
  cases (show u = Value.ref b from ry)
  obtain ⟨us, r1, p1, _⟩ := I.list ha
  obtain ⟨ws, r2, p2, _⟩ := I.list hb
  have hsz : us.toArray.size = ws.toArray.size := by
    rw [List.size_toArray, List.size_toArray, ← r1.length, ← r2.length]
    exact Paired.length hp
  refine SeqAt.rcP_lists (A := X.A) (e := fun _ => true) p1.isList p2.isList hsz (by omega) (fun j h1 h2 => ?_) _ _ ?_
  · have k := items_run (eqS_run I (A := X.A.in1) (by show X.A.units + 1 < cLine; omega)) hp r1 r2 j (by simpa using h1) (by simpa using h2)
    simpa using k
  · rw [show ((List.range us.toArray.size).all fun _ => true) = true from List.all_eq_true.mpr fun _ _ => rfl]
    exact ⟨.bl true, H, I, rfl, q⟩
end EX15

/-! ### texts of numbers, of rows, of tables -/
namespace TxM
open PySem PySem.Spec PyProof.Rows L2 TL
/-- a number as a text -/
def num (i : Int) : Str := Str.ofString (toString i)
theorem tl_num' {i : Int} (h : 0 ≤ i) : tl (num i) = numL i.toNat := by
  have e : i = ((i.toNat : Nat) : Int) := by omega
  unfold num
  rw [e]
  exact tl_num _
theorem free {i : Int} (h : 0 ≤ i) {s : Nat} (hs : s < 48 ∨ 57 < s) : s ∉ tl (num i) := by
  rw [tl_num' h]
  exact numL_free hs
theorem num_inj {i j : Int} (hi : 0 ≤ i) (hj : 0 ≤ j) (h : num i = num j) : i = j := by
  have := congrArg tl h
  rw [tl_num' hi, tl_num' hj] at this
  have := numL_inj this
  omega
theorem num_len {i : Int} (h : 0 ≤ i) (h9 : i < 10 ^ 9) : 1 ≤ (num i).length ∧ (num i).length ≤ 9 := by
  rw [len_tl, tl_num' h]
  have hne := numL_ne i.toNat
  have hl := numL_len (n := i.toNat) (k := 9) (by decide) (by omega)
  constructor
  · cases e : numL i.toNat with
    | nil => exact absurd e hne
    | cons _ _ => simp
  · exact hl
theorem num_text {i : Int} (h : 0 ≤ i) (h9 : i < 10 ^ 9) : intText? (num i) = some i := by
  have hl := numL_len (n := i.toNat) (k := 9) (by decide) (by omega)
  have e : i = ((i.toNat : Nat) : Int) := by omega
  unfold num
  rw [e]
  exact int_num (by omega)
/-- only nought begins with nought -/
theorem numL_head : ∀ n : Nat, (numL n)[0]? = some 48 → n = 0
  | n, h => by
    by_cases c : n < 10
    · rw [numL_lt c] at h
      have := Option.some.inj h
      omega
    · have ih := numL_head (n / 10)
      rw [numL_step (by omega)] at h
      rw [List.getElem?_append_left (by
        cases e : numL (n / 10) with
        | nil => exact absurd e (numL_ne _)
        | cons _ _ => simp)] at h
      have := ih h
      omega
termination_by n => n
decreasing_by omega
/-- numbers with blanks between -/
def blanks (ns : List Int) : Str := Txt.join " " (ns.map num)
theorem tl_sp : tl (" " : Str) = [32] := by decide +kernel
theorem tl_nl : tl ("\n" : Str) = [10] := by decide +kernel
theorem tl_em : tl ("" : Str) = [] := by decide +kernel
theorem joinL_cons {s a : List Nat} : ∀ {r : List (List Nat)}, r ≠ [] → joinL s (a :: r) = a ++ (s ++ joinL s r)
  | [], h => absurd rfl h
  | _ :: _, _ => rfl
/-- a line: a word, then numbers -/
def line (head : Str) (ns : List Int) : Str := head ++ " " ++ blanks ns
theorem line_join {head : Str} {ns : List Int} (h : ns ≠ []) : line head ns = Txt.join " " (head :: ns.map num) := by
  refine ext_tl ?_
  unfold line blanks
  rw [tl_append, tl_append, join_eq, join_eq, tl_join, tl_join, tl_sp, List.map_cons, joinL_cons (by simpa using h), List.append_assoc]
theorem line_split {head : Str} {ns : List Int} (h : ns ≠ []) (hh : 32 ∉ tl head) (h0 : ∀ n ∈ ns, 0 ≤ n) : Txt.split (line head ns) " " = head :: ns.map num := by
  rw [line_join h]
  refine split_join tl_sp (by decide +kernel) (by simp) fun p hp => ?_
  rcases List.mem_cons.mp hp with rfl | hp
  · exact hh
  · obtain ⟨n, hn, rfl⟩ := List.mem_map.mp hp
    exact free (h0 n hn) (.inl (by decide))
theorem mem_joinL {s : List Nat} {c : Nat} : ∀ {ps : List (List Nat)}, c ∈ joinL s ps → c ∈ s ∨ ∃ p ∈ ps, c ∈ p
  | [], h => by cases h
  | [p], h => .inr ⟨p, List.mem_singleton.mpr rfl, h⟩
  | p :: q :: r, h => by
    rw [joinL_cons (by simp)] at h
    rcases List.mem_append.mp h with h | h
    · exact .inr ⟨p, List.mem_cons_self, h⟩
    · rcases List.mem_append.mp h with h | h
      · exact .inl h
      · rcases mem_joinL h with h | ⟨z, hz, h⟩
        · exact .inl h
        · exact .inr ⟨z, List.mem_cons_of_mem _ hz, h⟩
theorem line_free {head : Str} {ns : List Int} (h0 : ∀ n ∈ ns, 0 ≤ n) (hh : 10 ∉ tl head) : 10 ∉ tl (line head ns) := by
  unfold line blanks
  rw [tl_append, tl_append, join_eq, tl_join, tl_sp]
  intro h
  rcases List.mem_append.mp h with h | h
  · rcases List.mem_append.mp h with h | h
    · exact hh h
    · simp at h
  · rcases mem_joinL h with h | ⟨p, hp, h⟩
    · simp at h
    · obtain ⟨q, hq, rfl⟩ := List.mem_map.mp hp
      obtain ⟨n, hn, rfl⟩ := List.mem_map.mp hq
      exact free (h0 n hn) (.inl (by decide)) h
/-- lines, each closed -/
def closed : List Str → Str
  | [] => ""
  | x :: r => x ++ "\n" ++ closed r
theorem closed_join : ∀ xs : List Str, closed xs = Txt.join "\n" (xs ++ [("" : Str)])
  | [] => by
    refine ext_tl ?_
    rw [join_eq, tl_join]
    rfl
  | x :: r => by
    have ih := closed_join r
    refine ext_tl ?_
    show tl (x ++ "\n" ++ closed r) = _
    rw [ih, tl_append, tl_append, join_eq, join_eq, tl_join, tl_join, tl_nl, List.cons_append, List.map_cons, joinL_cons (by simp), List.append_assoc]
theorem closed_split {xs : List Str} (h : ∀ x ∈ xs, 10 ∉ tl x) : Txt.split (closed xs) "\n" = xs ++ [("" : Str)] := by
  rw [closed_join]
  refine split_join tl_nl (by decide +kernel) (by simp) fun p hp => ?_
  rcases List.mem_append.mp hp with hp | hp
  · exact h p hp
  · rw [List.mem_singleton.mp hp, tl_em]
    simp
theorem closed_snoc (xs : List Str) (y : Str) : closed (xs ++ [y]) = closed xs ++ (y ++ "\n") := by
  induction xs with
  | nil =>
    refine ext_tl ?_
    show tl (y ++ "\n" ++ "") = tl ("" ++ (y ++ "\n"))
    simp only [tl_append, tl_em, List.append_nil, List.nil_append]
  | cons x r ih =>
    refine ext_tl ?_
    show tl (x ++ "\n" ++ closed (r ++ [y])) = tl (x ++ "\n" ++ closed r ++ (y ++ "\n"))
    rw [ih]
    simp only [tl_append, List.append_assoc]
/-- the words ahead of the rows -/
def mark (i : Nat) : Str := num ((i : Int) + 1) ++ ":"
theorem tl_colon : tl (":" : Str) = [58] := by decide +kernel
theorem mark_free {i s : Nat} (hs : s < 48 ∨ 58 < s) : s ∉ tl (mark i) := by
  unfold mark
  rw [tl_append, tl_colon]
  intro h
  rcases List.mem_append.mp h with h | h
  · exact free (by omega) (by omega) h
  · simp at h
    omega
def rowLines : Nat → List (List Int) → List Str
  | _, [] => []
  | i, r :: rs => line (mark i) r :: rowLines (i + 1) rs
theorem rowLines_at : ∀ {rs : List (List Int)} {i j : Nat}, (rowLines i rs)[j]? = (rs[j]?).map (line (mark (i + j)))
  | [], i, j => by simp [rowLines]
  | r :: rs, i, 0 => by simp [rowLines]
  | r :: rs, i, j + 1 => by
    show (rowLines (i + 1) rs)[j]? = (rs[j]?).map (line (mark (i + (j + 1))))
    rw [rowLines_at, show i + 1 + j = i + (j + 1) by omega]
theorem rowLines_len : ∀ (rs : List (List Int)) (i : Nat), (rowLines i rs).length = rs.length
  | [], _ => rfl
  | _ :: rs, i => by
    show (rowLines (i + 1) rs).length + 1 = rs.length + 1
    rw [rowLines_len rs]
theorem rowLines_snoc : ∀ (rs : List (List Int)) (i : Nat) (r : List Int), rowLines i (rs ++ [r]) = rowLines i rs ++ [line (mark (i + rs.length)) r]
  | [], i, r => rfl
  | x :: rs, i, r => by
    show line (mark i) x :: rowLines (i + 1) (rs ++ [r]) = _
    rw [rowLines_snoc rs (i + 1) r, show i + 1 + rs.length = i + (x :: rs).length by simp; omega]
    rfl
/-- the lines of a table's text, and the text -/
def lines (ls : List Int) (rs : List (List Int)) : List Str := line "loops" ls :: rowLines 0 rs
def text (ls : List Int) (rs : List (List Int)) : Str := closed (lines ls rs)
theorem text_snoc (ls : List Int) (rs : List (List Int)) (r : List Int) : text ls (rs ++ [r]) = text ls rs ++ (line (mark rs.length) r ++ "\n") := by
  unfold text lines
  rw [rowLines_snoc, ← List.cons_append, closed_snoc, Nat.zero_add]
theorem loops_free {s : Nat} (h : s < 97) : s ∉ tl ("loops" : Str) := by
  rw [show tl ("loops" : Str) = [108, 111, 111, 112, 115] by decide +kernel]
  simp
  omega
theorem text_split {ls : List Int} {rs : List (List Int)} (hl : ∀ n ∈ ls, 0 ≤ n) (hr : ∀ r ∈ rs, ∀ n ∈ r, 0 ≤ n) : Txt.split (text ls rs) "\n" = lines ls rs ++ [("" : Str)] := by
  refine closed_split fun x hx => ?_
  rcases List.mem_cons.mp hx with rfl | hx
  · exact line_free hl (loops_free (by decide))
  · obtain ⟨j, hj⟩ := List.mem_iff_getElem?.mp hx
    rw [rowLines_at] at hj
    obtain ⟨r, h1, rfl⟩ := Option.map_eq_some_iff.mp hj
    exact line_free (hr r (List.mem_of_getElem? h1)) (mark_free (.inl (by decide)))
theorem nums_inj : ∀ {a b : List Int}, (∀ n ∈ a, 0 ≤ n) → (∀ n ∈ b, 0 ≤ n) → a.map num = b.map num → a = b
  | [], [], _, _, _ => rfl
  | x :: a, y :: b, ha, hb, h => by
    injection h with h1 h2
    rw [num_inj (ha x List.mem_cons_self) (hb y List.mem_cons_self) h1, nums_inj (fun n hn => ha n (List.mem_cons_of_mem _ hn)) (fun n hn => hb n (List.mem_cons_of_mem _ hn)) h2]
theorem line_inj {p q : Str} {a b : List Int} (ha : a ≠ []) (hb : b ≠ []) (hp : 32 ∉ tl p) (hq : 32 ∉ tl q) (a0 : ∀ n ∈ a, 0 ≤ n) (b0 : ∀ n ∈ b, 0 ≤ n) (h : line p a = line q b) : a = b := by
  have e := congrArg (fun z => Txt.split z " ") h
  simp only [line_split ha hp a0, line_split hb hq b0] at e
  injection e with _ e
  exact nums_inj a0 b0 e
theorem rows_inj : ∀ {rs qs : List (List Int)} {i : Nat}, (∀ r ∈ rs, r ≠ [] ∧ ∀ n ∈ r, 0 ≤ n) → (∀ r ∈ qs, r ≠ [] ∧ ∀ n ∈ r, 0 ≤ n) → rowLines i rs = rowLines i qs → rs = qs
  | [], [], _, _, _, _ => rfl
  | [], _ :: _, _, _, _, h => by cases h
  | _ :: _, [], _, _, _, h => by cases h
  | r :: rs, q :: qs, i, hr, hq, h => by
    injection h with h1 h2
    have m32 : 32 ∉ tl (mark i) := mark_free (.inl (by decide))
    rw [line_inj (hr r List.mem_cons_self).1 (hq q List.mem_cons_self).1 m32 m32 (hr r List.mem_cons_self).2 (hq q List.mem_cons_self).2 h1,
      rows_inj (fun x hx => hr x (List.mem_cons_of_mem _ hx)) (fun x hx => hq x (List.mem_cons_of_mem _ hx)) h2]
/-- texts of unlike tables are unlike -/
theorem text_inj {ls ms : List Int} {rs qs : List (List Int)} (hl : ls ≠ [] ∧ ∀ n ∈ ls, 0 ≤ n) (hm : ms ≠ [] ∧ ∀ n ∈ ms, 0 ≤ n) (hr : ∀ r ∈ rs, r ≠ [] ∧ ∀ n ∈ r, 0 ≤ n) (hq : ∀ r ∈ qs, r ≠ [] ∧ ∀ n ∈ r, 0 ≤ n) (h : text ls rs = text ms qs) : ls = ms ∧ rs = qs := by
  have e := congrArg (fun z => Txt.split z "\n") h
  simp only [text_split hl.2 (fun r h => (hr r h).2), text_split hm.2 (fun r h => (hq r h).2)] at e
  have e2 := List.append_cancel_right e
  injection e2 with e3 e4
  exact ⟨line_inj hl.1 hm.1 (loops_free (by decide)) (loops_free (by decide)) hl.2 hm.2 e3, rows_inj hr hq e4⟩
theorem log_lt {i : Int} (h : 0 ≤ i) (h9 : i < 10 ^ 9) : i.natAbs.log2 < 1920 := by
  by_cases c : i.natAbs = 0
  · rw [c]
    decide
  · rw [Nat.log2_lt c]
    refine Nat.lt_of_lt_of_le (show i.natAbs < 2 ^ 30 by omega) (Nat.pow_le_pow_right (by decide) (by decide))
theorem joinL_len {s : List Nat} {k : Nat} : ∀ {ps : List (List Nat)}, (∀ p ∈ ps, p.length ≤ k) → (joinL s ps).length ≤ ps.length * (k + s.length)
  | [], _ => Nat.zero_le _
  | [p], h => by
    have := h p (List.mem_singleton.mpr rfl)
    show p.length ≤ 1 * (k + s.length)
    omega
  | p :: q :: r, h => by
    have h1 := h p List.mem_cons_self
    have h2 := joinL_len (s := s) (ps := q :: r) fun x hx => h x (List.mem_cons_of_mem _ hx)
    rw [joinL_cons (by simp), List.length_append, List.length_append]
    show _ ≤ ((q :: r).length + 1) * (k + s.length)
    rw [Nat.add_mul]
    omega
theorem blanks_len {ns : List Int} (h : ∀ n ∈ ns, 0 ≤ n ∧ n < 10 ^ 9) : (blanks ns).length ≤ ns.length * 10 := by
  unfold blanks
  rw [len_tl, join_eq, tl_join, tl_sp]
  have := joinL_len (s := [32]) (k := 9) (ps := (ns.map num).map tl) fun p hp => by
    obtain ⟨x, hx, rfl⟩ := List.mem_map.mp hp
    obtain ⟨n, hn, rfl⟩ := List.mem_map.mp hx
    rw [← len_tl]
    exact (num_len (h n hn).1 (h n hn).2).2
  simpa using this
theorem app_len (x y : Str) : (x ++ y).length = x.length + y.length := by
  rw [len_tl, len_tl, len_tl, tl_append, List.length_append]
theorem sum_len {ns : List Int} (h : ∀ n ∈ ns, 0 ≤ n ∧ n < 10 ^ 9) : ((ns.map num).map (·.length)).sum ≤ ns.length * 9 := by
  induction ns with
  | nil => exact Nat.zero_le _
  | cons x r ih =>
    have h1 := (num_len (h x List.mem_cons_self).1 (h x List.mem_cons_self).2).2
    have h2 := ih fun n hn => h n (List.mem_cons_of_mem _ hn)
    simp only [List.map_cons, List.sum_cons, List.length_cons]
    omega
theorem joinL_snoc {s a : List Nat} : ∀ {ps : List (List Nat)}, ps ≠ [] → joinL s (ps ++ [a]) = joinL s ps ++ (s ++ a)
  | [], h => absurd rfl h
  | [p], _ => rfl
  | p :: q :: r, _ => by
    rw [joinL_cons (a := p) (r := q :: r) (by simp), List.cons_append, joinL_cons (by simp), joinL_snoc (by simp)]
    simp only [List.append_assoc]
theorem blanks_snoc {ns : List Int} {n : Int} (h : ns ≠ []) : blanks (ns ++ [n]) = (blanks ns ++ (" " : Str)) ++ num n := by
  refine ext_tl ?_
  unfold blanks
  rw [tl_append, tl_append, join_eq, join_eq, tl_join, tl_join, tl_sp, List.map_append, List.map_append]
  show joinL [32] ((ns.map num).map tl ++ [tl (num n)]) = _
  rw [joinL_snoc (by simpa using h), List.append_assoc]
theorem blanks_one (n : Int) : blanks [n] = num n := by
  refine ext_tl ?_
  unfold blanks
  rw [join_eq, tl_join]
  rfl
theorem blanks_nil : blanks [] = ("" : Str) := by
  refine ext_tl ?_
  unfold blanks
  rw [join_eq, tl_join]
  rfl
theorem head_text (ls : List Int) : ((Str.empty ++ ("loops " : Str)) ++ blanks ls) ++ ("\n" : Str) = text ls [] := by
  refine ext_tl ?_
  unfold text lines line closed
  simp only [tl_append, rowLines, closed, tl_em, List.append_nil]
  rw [show tl ("loops " : Str) = tl ("loops" : Str) ++ tl (" " : Str) by decide +kernel, show tl Str.empty = [] by rfl, List.nil_append]
theorem row_text (ls : List Int) (rs : List (List Int)) (r : List Int) : text ls rs ++ ((((Str.empty ++ Str.ofString (toString ((rs.length : Int) + 1))) ++ (": " : Str)) ++ blanks r) ++ ("\n" : Str)) = text ls (rs ++ [r]) := by
  rw [text_snoc]
  refine ext_tl ?_
  unfold line mark num
  simp only [tl_append]
  rw [show tl (": " : Str) = tl (":" : Str) ++ tl (" " : Str) by decide +kernel, show tl Str.empty = [] by rfl, List.nil_append]
  simp only [List.append_assoc]
theorem head_text2 (ls : List Int) : (("loops " : Str) ++ blanks ls) ++ ("\n" : Str) = text ls [] := by
  rw [← head_text]
  refine ext_tl ?_
  simp only [tl_append]
  rw [show tl Str.empty = [] by rfl, List.nil_append]
theorem row_text2 (ls : List Int) (rs : List (List Int)) (r : List Int) : (((text ls rs ++ Str.ofString (toString ((rs.length : Int) + 1))) ++ (": " : Str)) ++ blanks r) ++ ("\n" : Str) = text ls (rs ++ [r]) := by
  rw [← row_text]
  refine ext_tl ?_
  simp only [tl_append]
  rw [show tl Str.empty = [] by rfl, List.nil_append]
  simp only [List.append_assoc]
theorem text_len (ls : List Int) : ∀ (n : Nat) (rs : List (List Int)), rs.length = n → n ≤ 60 → ls.length ≤ 8 → (∀ x ∈ ls, 0 ≤ x ∧ x < 10 ^ 9) → (∀ r ∈ rs, r.length ≤ 60 ∧ ∀ x ∈ r, 0 ≤ x ∧ x < 10 ^ 9) → (text ls rs).length ≤ 100 + 650 * n
  | 0, rs, h, _, h8, hl, _ => by
    have e : rs = [] := List.eq_nil_of_length_eq_zero h
    subst e
    rw [← head_text, app_len, app_len, app_len]
    have := blanks_len hl
    have e1 : (Str.empty : Str).length = 0 := rfl
    have e2 : ("loops " : Str).length = 6 := by decide +kernel
    have e3 : ("\n" : Str).length = 1 := by decide +kernel
    omega
  | n + 1, rs, h, h60, h8, hl, hr => by
    obtain ⟨qs, r, rfl⟩ : ∃ qs r, rs = qs ++ [r] := ⟨rs.dropLast, rs.getLast (by intro e; rw [e] at h; cases h), (List.dropLast_concat_getLast _).symm⟩
    rw [List.length_append] at h
    have hq : qs.length = n := by
      have : [r].length = 1 := rfl
      omega
    have ih := text_len ls n qs hq (by omega) h8 hl fun x hx => hr x (List.mem_append_left _ hx)
    have hrr := hr r (List.mem_append_right _ (List.mem_singleton.mpr rfl))
    have hb := blanks_len hrr.2
    rw [← row_text, app_len, app_len, app_len, app_len, app_len]
    have hn := (num_len (i := (qs.length : Int) + 1) (by omega) (by omega)).2
    have hn' : (Str.ofString (toString ((qs.length : Int) + 1))).length ≤ 9 := hn
    have e1 : (Str.empty : Str).length = 0 := rfl
    have e2 : (": " : Str).length = 2 := by decide +kernel
    have e3 : ("\n" : Str).length = 1 := by decide +kernel
    omega
end TxM

set_option Elab.async false
set_option linter.all false
set_option maxRecDepth 100000
set_option maxHeartbeats 4000000
namespace My
open PySem PySem.Spec PyProof.Rows L2
def topS (i : Nat) : Stmt := PySem.Challenge.pw_loopstore_k87_whole_texts_of_tables.main.body.getD i (.Pass ⟨0, 0, 0, 0⟩)
abbrev s_is_integer : Stmt := topS 9
theorem sc_is_integer : FnScope ["thing"] ["thing"] (defScope s_is_integer) := ⟨rfl, rfl, rfl, by decide +kernel, rfl, by decide +kernel, by decide +kernel⟩
abbrev s_is_number : Stmt := topS 10
theorem sc_is_number : FnScope ["thing", "least", "most"] ["thing", "least", "most"] (defScope s_is_number) := ⟨rfl, rfl, rfl, by decide +kernel, rfl, by decide +kernel, by decide +kernel⟩
abbrev s_are_numbers : Stmt := topS 11
theorem sc_are_numbers : FnScope ["things", "least", "most", "thing"] ["things", "least", "most"] (defScope s_are_numbers) := ⟨rfl, rfl, rfl, by decide +kernel, rfl, by decide +kernel, by decide +kernel⟩
abbrev s_is_loops : Stmt := topS 12
theorem sc_is_loops : FnScope ["thing"] ["thing"] (defScope s_is_loops) := ⟨rfl, rfl, rfl, by decide +kernel, rfl, by decide +kernel, by decide +kernel⟩
abbrev s_is_row : Stmt := topS 13
theorem sc_is_row : FnScope ["loops", "thing"] ["loops", "thing"] (defScope s_is_row) := ⟨rfl, rfl, rfl, by decide +kernel, rfl, by decide +kernel, by decide +kernel⟩
abbrev s_row_sum : Stmt := topS 15
theorem sc_row_sum : FnScope ["loops", "row", "loop"] ["loops", "row"] (defScope s_row_sum) := ⟨rfl, rfl, rfl, by decide +kernel, rfl, by decide +kernel, by decide +kernel⟩
abbrev s_with_blanks : Stmt := topS 20
theorem sc_with_blanks : FnScope ["numbers", "number"] ["numbers"] (defScope s_with_blanks) := ⟨rfl, rfl, rfl, by decide +kernel, rfl, by decide +kernel, by decide +kernel⟩
abbrev s_table_text : Stmt := topS 21
theorem sc_table_text : FnScope ["table", "found", "at", "row"] ["table"] (defScope s_table_text) := ⟨rfl, rfl, rfl, by decide +kernel, rfl, by decide +kernel, by decide +kernel⟩
abbrev s_are_signs : Stmt := topS 22
theorem sc_are_signs : FnScope ["text", "signs", "sign"] ["text", "signs"] (defScope s_are_signs) := ⟨rfl, rfl, rfl, by decide +kernel, rfl, by decide +kernel, by decide +kernel⟩
abbrev s_is_numeral : Stmt := topS 23
theorem sc_is_numeral : FnScope ["word"] ["word"] (defScope s_is_numeral) := ⟨rfl, rfl, rfl, by decide +kernel, rfl, by decide +kernel, by decide +kernel⟩
abbrev s_numbers_of : Stmt := topS 24
theorem sc_numbers_of : FnScope ["words", "word"] ["words"] (defScope s_numbers_of) := ⟨rfl, rfl, rfl, by decide +kernel, rfl, by decide +kernel, by decide +kernel⟩
abbrev s_lines_of : Stmt := topS 25
theorem sc_lines_of : FnScope ["text", "parts"] ["text"] (defScope s_lines_of) := ⟨rfl, rfl, rfl, by decide +kernel, rfl, by decide +kernel, by decide +kernel⟩
abbrev s_numbers_behind : Stmt := topS 26
theorem sc_numbers_behind : FnScope ["head", "line", "words"] ["head", "line"] (defScope s_numbers_behind) := ⟨rfl, rfl, rfl, by decide +kernel, rfl, by decide +kernel, by decide +kernel⟩
abbrev s_read_table : Stmt := topS 27
theorem sc_read_table : FnScope ["text", "closed_lines", "rest", "found", "at", "line", "numbers"] ["text"] (defScope s_read_table) := ⟨rfl, rfl, rfl, by decide +kernel, rfl, by decide +kernel, by decide +kernel⟩
abbrev s__law_tape : Stmt := topS 29
theorem sc__law_tape : FnScope ["script"] ["script"] (defScope s__law_tape) := ⟨rfl, rfl, rfl, by decide +kernel, rfl, by decide +kernel, by decide +kernel⟩
abbrev s__law_pick : Stmt := topS 30
theorem sc__law_pick : FnScope ["tape", "size", "digit", "cell", "mixed"] ["tape", "size"] (defScope s__law_pick) := ⟨rfl, rfl, rfl, by decide +kernel, rfl, by decide +kernel, by decide +kernel⟩
abbrev s__law_loops : Stmt := topS 31
theorem sc__law_loops : FnScope ["tape", "most", "found", "k"] ["tape", "most"] (defScope s__law_loops) := ⟨rfl, rfl, rfl, by decide +kernel, rfl, by decide +kernel, by decide +kernel⟩
abbrev s__law_row : Stmt := topS 32
theorem sc__law_row : FnScope ["tape", "loops", "wait", "row", "left", "turn", "fitting", "k"] ["tape", "loops", "wait"] (defScope s__law_row) := ⟨rfl, rfl, rfl, by decide +kernel, rfl, by decide +kernel, by decide +kernel⟩
abbrev s__law_spaced : Stmt := topS 33
theorem sc__law_spaced : FnScope ["numbers", "found", "k"] ["numbers"] (defScope s__law_spaced) := ⟨rfl, rfl, rfl, by decide +kernel, rfl, by decide +kernel, by decide +kernel⟩
abbrev s__law_text : Stmt := topS 34
theorem sc__law_text : FnScope ["loops", "rows", "found", "at"] ["loops", "rows"] (defScope s__law_text) := ⟨rfl, rfl, rfl, by decide +kernel, rfl, by decide +kernel, by decide +kernel⟩
abbrev s__law_is_int : Stmt := topS 35
theorem sc__law_is_int : FnScope ["thing"] ["thing"] (defScope s__law_is_int) := ⟨rfl, rfl, rfl, by decide +kernel, rfl, by decide +kernel, by decide +kernel⟩
abbrev s__law_are_ints : Stmt := topS 36
theorem sc__law_are_ints : FnScope ["thing", "due", "item"] ["thing", "due"] (defScope s__law_are_ints) := ⟨rfl, rfl, rfl, by decide +kernel, rfl, by decide +kernel, by decide +kernel⟩
abbrev s__law_is_table : Stmt := topS 37
theorem sc__law_is_table : FnScope ["table", "loops", "rows", "at"] ["table", "loops", "rows"] (defScope s__law_is_table) := ⟨rfl, rfl, rfl, by decide +kernel, rfl, by decide +kernel, by decide +kernel⟩
abbrev s__law_other : Stmt := topS 38
theorem sc__law_other : FnScope ["tape", "loops", "rows", "at", "found", "lengths", "unused", "k", "row"] ["tape", "loops", "rows"] (defScope s__law_other) := ⟨rfl, rfl, rfl, by decide +kernel, rfl, by decide +kernel, by decide +kernel⟩
abbrev s_law : Stmt := topS 39
theorem sc_law : FnScope ["script", "tape", "bound", "loops", "rows", "more_loops", "more_rows", "table", "more", "same", "turn", "text", "more_text", "back", "more_back", "wait"] ["script"] (defScope s_law) := ⟨rfl, rfl, rfl, by decide +kernel, rfl, by decide +kernel, by decide +kernel⟩
abbrev s_Table___init__ : Stmt := inClass (topS 16) 0
theorem sc_Table___init__ : FnScope ["self", "loops", "rows", "at", "row"] ["self", "loops", "rows"] (defScope s_Table___init__) := ⟨rfl, rfl, rfl, by decide +kernel, rfl, by decide +kernel, by decide +kernel⟩
abbrev s_Table___eq__ : Stmt := inClass (topS 16) 1
theorem sc_Table___eq__ : FnScope ["self", "other"] ["self", "other"] (defScope s_Table___eq__) := ⟨rfl, rfl, rfl, by decide +kernel, rfl, by decide +kernel, by decide +kernel⟩
structure Tx (K : PySem.W.Frag) (mg : Str → Option Value) where
  a_is_integer : Addr
  d_is_integer : FuncData
  F_is_integer : Fun K "is_integer" "is_integer" s_is_integer a_is_integer d_is_integer
  b_is_integer : Binds K d_is_integer ["thing"] []
  g_is_integer : mg "is_integer" = some (.ref a_is_integer)
  a_is_number : Addr
  d_is_number : FuncData
  F_is_number : Fun K "is_number" "is_number" s_is_number a_is_number d_is_number
  b_is_number : Binds K d_is_number ["thing", "least", "most"] []
  g_is_number : mg "is_number" = some (.ref a_is_number)
  a_are_numbers : Addr
  d_are_numbers : FuncData
  F_are_numbers : Fun K "are_numbers" "are_numbers" s_are_numbers a_are_numbers d_are_numbers
  b_are_numbers : Binds K d_are_numbers ["things", "least", "most"] []
  g_are_numbers : mg "are_numbers" = some (.ref a_are_numbers)
  a_is_loops : Addr
  d_is_loops : FuncData
  F_is_loops : Fun K "is_loops" "is_loops" s_is_loops a_is_loops d_is_loops
  b_is_loops : Binds K d_is_loops ["thing"] []
  g_is_loops : mg "is_loops" = some (.ref a_is_loops)
  a_is_row : Addr
  d_is_row : FuncData
  F_is_row : Fun K "is_row" "is_row" s_is_row a_is_row d_is_row
  b_is_row : Binds K d_is_row ["loops", "thing"] []
  g_is_row : mg "is_row" = some (.ref a_is_row)
  a_row_sum : Addr
  d_row_sum : FuncData
  F_row_sum : Fun K "row_sum" "row_sum" s_row_sum a_row_sum d_row_sum
  b_row_sum : Binds K d_row_sum ["loops", "row"] []
  g_row_sum : mg "row_sum" = some (.ref a_row_sum)
  a_with_blanks : Addr
  d_with_blanks : FuncData
  F_with_blanks : Fun K "with_blanks" "with_blanks" s_with_blanks a_with_blanks d_with_blanks
  b_with_blanks : Binds K d_with_blanks ["numbers"] []
  g_with_blanks : mg "with_blanks" = some (.ref a_with_blanks)
  a_table_text : Addr
  d_table_text : FuncData
  F_table_text : Fun K "table_text" "table_text" s_table_text a_table_text d_table_text
  b_table_text : Binds K d_table_text ["table"] []
  g_table_text : mg "table_text" = some (.ref a_table_text)
  a_are_signs : Addr
  d_are_signs : FuncData
  F_are_signs : Fun K "are_signs" "are_signs" s_are_signs a_are_signs d_are_signs
  b_are_signs : Binds K d_are_signs ["text", "signs"] []
  g_are_signs : mg "are_signs" = some (.ref a_are_signs)
  a_is_numeral : Addr
  d_is_numeral : FuncData
  F_is_numeral : Fun K "is_numeral" "is_numeral" s_is_numeral a_is_numeral d_is_numeral
  b_is_numeral : Binds K d_is_numeral ["word"] []
  g_is_numeral : mg "is_numeral" = some (.ref a_is_numeral)
  a_numbers_of : Addr
  d_numbers_of : FuncData
  F_numbers_of : Fun K "numbers_of" "numbers_of" s_numbers_of a_numbers_of d_numbers_of
  b_numbers_of : Binds K d_numbers_of ["words"] []
  g_numbers_of : mg "numbers_of" = some (.ref a_numbers_of)
  a_lines_of : Addr
  d_lines_of : FuncData
  F_lines_of : Fun K "lines_of" "lines_of" s_lines_of a_lines_of d_lines_of
  b_lines_of : Binds K d_lines_of ["text"] []
  g_lines_of : mg "lines_of" = some (.ref a_lines_of)
  a_numbers_behind : Addr
  d_numbers_behind : FuncData
  F_numbers_behind : Fun K "numbers_behind" "numbers_behind" s_numbers_behind a_numbers_behind d_numbers_behind
  b_numbers_behind : Binds K d_numbers_behind ["head", "line"] []
  g_numbers_behind : mg "numbers_behind" = some (.ref a_numbers_behind)
  a_read_table : Addr
  d_read_table : FuncData
  F_read_table : Fun K "read_table" "read_table" s_read_table a_read_table d_read_table
  b_read_table : Binds K d_read_table ["text"] []
  g_read_table : mg "read_table" = some (.ref a_read_table)
  a__law_tape : Addr
  d__law_tape : FuncData
  F__law_tape : Fun K "_law_tape" "_law_tape" s__law_tape a__law_tape d__law_tape
  b__law_tape : Binds K d__law_tape ["script"] []
  g__law_tape : mg "_law_tape" = some (.ref a__law_tape)
  a__law_pick : Addr
  d__law_pick : FuncData
  F__law_pick : Fun K "_law_pick" "_law_pick" s__law_pick a__law_pick d__law_pick
  b__law_pick : Binds K d__law_pick ["tape", "size"] []
  g__law_pick : mg "_law_pick" = some (.ref a__law_pick)
  a__law_loops : Addr
  d__law_loops : FuncData
  F__law_loops : Fun K "_law_loops" "_law_loops" s__law_loops a__law_loops d__law_loops
  b__law_loops : Binds K d__law_loops ["tape", "most"] []
  g__law_loops : mg "_law_loops" = some (.ref a__law_loops)
  a__law_row : Addr
  d__law_row : FuncData
  F__law_row : Fun K "_law_row" "_law_row" s__law_row a__law_row d__law_row
  b__law_row : Binds K d__law_row ["tape", "loops", "wait"] []
  g__law_row : mg "_law_row" = some (.ref a__law_row)
  a__law_spaced : Addr
  d__law_spaced : FuncData
  F__law_spaced : Fun K "_law_spaced" "_law_spaced" s__law_spaced a__law_spaced d__law_spaced
  b__law_spaced : Binds K d__law_spaced ["numbers"] []
  g__law_spaced : mg "_law_spaced" = some (.ref a__law_spaced)
  a__law_text : Addr
  d__law_text : FuncData
  F__law_text : Fun K "_law_text" "_law_text" s__law_text a__law_text d__law_text
  b__law_text : Binds K d__law_text ["loops", "rows"] []
  g__law_text : mg "_law_text" = some (.ref a__law_text)
  a__law_is_int : Addr
  d__law_is_int : FuncData
  F__law_is_int : Fun K "_law_is_int" "_law_is_int" s__law_is_int a__law_is_int d__law_is_int
  b__law_is_int : Binds K d__law_is_int ["thing"] []
  g__law_is_int : mg "_law_is_int" = some (.ref a__law_is_int)
  a__law_are_ints : Addr
  d__law_are_ints : FuncData
  F__law_are_ints : Fun K "_law_are_ints" "_law_are_ints" s__law_are_ints a__law_are_ints d__law_are_ints
  b__law_are_ints : Binds K d__law_are_ints ["thing", "due"] []
  g__law_are_ints : mg "_law_are_ints" = some (.ref a__law_are_ints)
  a__law_is_table : Addr
  d__law_is_table : FuncData
  F__law_is_table : Fun K "_law_is_table" "_law_is_table" s__law_is_table a__law_is_table d__law_is_table
  b__law_is_table : Binds K d__law_is_table ["table", "loops", "rows"] []
  g__law_is_table : mg "_law_is_table" = some (.ref a__law_is_table)
  a__law_other : Addr
  d__law_other : FuncData
  F__law_other : Fun K "_law_other" "_law_other" s__law_other a__law_other d__law_other
  b__law_other : Binds K d__law_other ["tape", "loops", "rows"] []
  g__law_other : mg "_law_other" = some (.ref a__law_other)
  a_law : Addr
  d_law : FuncData
  F_law : Fun K "law" "law" s_law a_law d_law
  b_law : Binds K d_law ["script"] []
  g_law : mg "law" = some (.ref a_law)
  m_all : mg "all" = none
  m_bool : mg "bool" = none
  m_enumerate : mg "enumerate" = none
  m_int : mg "int" = none
  m_isinstance : mg "isinstance" = none
  m_len : mg "len" = none
  m_list : mg "list" = none
  m_range : mg "range" = none
  m_str : mg "str" = none
  m_sum : mg "sum" = none
  m_tuple : mg "tuple" = none
  t_FIGURES : Tok
  g_FIGURES : mg "FIGURES" = some (.str "0123456789" t_FIGURES)
  t_MOST_BOUND : Tok
  g_MOST_BOUND : mg "MOST_BOUND" = some (.int 60 t_MOST_BOUND)
  t_MOST_FIGURES : Tok
  g_MOST_FIGURES : mg "MOST_FIGURES" = some (.int 9 t_MOST_FIGURES)
  t_MOST_ITEMS : Tok
  g_MOST_ITEMS : mg "MOST_ITEMS" = some (.int 60 t_MOST_ITEMS)
  t_MOST_LENGTH : Tok
  g_MOST_LENGTH : mg "MOST_LENGTH" = some (.int 40 t_MOST_LENGTH)
  t_MOST_LOOPS : Tok
  g_MOST_LOOPS : mg "MOST_LOOPS" = some (.int 8 t_MOST_LOOPS)
  c_Table : Addr
  g_Table : mg "Table" = some (.ref c_Table)
  a_Table___init__ : Addr
  d_Table___init__ : FuncData
  F_Table___init__ : Fun K "__init__" "Table.__init__" s_Table___init__ a_Table___init__ d_Table___init__
  b_Table___init__ : Binds K d_Table___init__ ["self", "loops", "rows"] []
  mk_Table : Mk K c_Table a_Table___init__
  a_Table___eq__ : Addr
  d_Table___eq__ : FuncData
  F_Table___eq__ : Fun K "__eq__" "Table.__eq__" s_Table___eq__ a_Table___eq__ d_Table___eq__
  b_Table___eq__ : Binds K d_Table___eq__ ["self", "other"] []
  me_Table___eq__ : Meth K c_Table "__eq__" a_Table___eq__
  cl_Table : Cls K c_Table
  n_Table_loops : NoAttr K c_Table "loops"
  n_Table_rows : NoAttr K c_Table "rows"
  n_Table_bound : NoAttr K c_Table "bound"
  in_Table : RE8.InsC K c_Table
section
variable {P : Program} {w : World} {K : PySem.W.Frag} {mg : Str → Option Value} {base : Heap}
def spTape (K : PySem.W.Frag) : Sp := fun vs H Q _ => ∃ (a : Addr) (ns : List Int), vs = [.ref a] ∧ SqL K H a (ns.map V.int) ∧ ∀ t s H', H t = none → H s = none → Same H H' → Tape H' t s → Q (.ref t) H'
theorem ok__law_tape (T : Tx K mg) : FnOk P w K mg base CX0 1 T.a__law_tape T.d__law_tape ["script"] (spTape K) := by
  refine T.F__law_tape.ok sc__law_tape (fun vs H Q E h => ?_) (fun cdv A outer s H vs Q E hr h => ?_)
  · obtain ⟨a, ns, rfl, _⟩ := h
    rfl
  · obtain ⟨a, ns, rfl, hS, q⟩ := h
    refine ⟨_, ((pss_one (ps_ret (pe_lst (pa_cons (pe_callTy call_list_of (by rfl) T.m_list (by decide +kernel) (pa_cons (pv 0) pa_nil)) (pa_cons pe_int (pa_cons pe_int (pa_cons pe_int (pa_cons pe_int pa_nil))))))))), ?_⟩
    refine ⟨.ref a, rfl, a, _, rfl, .inl hS, fun l nl => ?_⟩
    refine ⟨by show 5 ≤ sizeLine; decide, fun t nt => ?_⟩
    have nlt : l ≠ t := fun e => by
      rw [← e, upd_same] at nt
      cases nt
    have s1 : Same H (upd H l (.lst (ns.map V.int))) := same_upd nl
    refine q t l _ (Same.free s1 nt) nl (s1.trans (same_upd nt)) ⟨ns, 0, 0, 1, 0, nlt, upd_same, ?_, by decide⟩
    rw [upd_ne nlt, upd_same]
def spPick (K : PySem.W.Frag) : Sp := fun vs H Q _ => ∃ (t s : Addr) (n : Int), vs = [.ref t, .int n] ∧ (0 < n ∧ n < 2 ^ 60) ∧ Tape H t s ∧ ∀ r H', 0 ≤ r → r < n → Moved t H H' → Tape H' t s → Q (.int r) H'
theorem fm_of {a b : Int} (h : 0 < b) : 0 ≤ a.fmod b ∧ a.fmod b < b := by
  rw [Int.fmod_eq_emod_of_nonneg a (Int.le_of_lt h)]
  exact ⟨Int.emod_nonneg a (by omega), Int.emod_lt_of_pos a h⟩
theorem ok__law_pick (T : Tx K mg) : FnOk P w K mg base CX0 1 T.a__law_pick T.d__law_pick ["tape", "size"] (spPick K) := by
  refine T.F__law_pick.ok sc__law_pick (fun vs H Q E h => ?_) (fun cdv A outer s H vs Q E hr h => ?_)
  · obtain ⟨t, l, n, rfl, _⟩ := h
    rfl
  · obtain ⟨t, l, n, rfl, ⟨hn, hn2⟩, ⟨ns, pos, rest, mx, ct, hlt, ht, hl, hp⟩, q⟩ := h
    have wd : ∀ i : Int, CDivW i n := fun i => wide_div hn (b := 60) (by omega) (by decide) (by decide)
    refine ⟨_, ((pss_cons (ps_if (pt_cmpR op_gt (pe_ix ix_list (pv 0) pe_int (fun _ _ => rfl)) pe_int (nomark _)) (pss_cons (ps_set (i := 2) sc__law_pick.nd rfl (.inl rfl) (pe_op op_modN (pe_callTy call_int1 (by rfl) T.m_int (by decide +kernel) (pa_cons (pe_ix ix_list (pv 0) pe_int (fun _ _ => rfl)) pa_nil)) (pv 1)))
  (pss_cons (ps_asg (pe_op op_fdivW (pe_ix ix_list (pv 0) pe_int (fun _ _ => rfl)) (pv 1)) (pg_sub (pv 0) pe_int set_list))
  (pss_one (ps_ret (pv 2))))) pss_nil)
  (pss_cons (ps_asg (pe_op op_add (pe_ix ix_list (pv 0) pe_int (fun _ _ => rfl)) pe_int) (pg_sub (pv 0) pe_int set_list))
  (pss_cons (ps_set (i := 3) sc__law_pick.nd rfl (.inl rfl) pe_int)
  (Evl.pss_cut (ps_if (pt_cmpR op_lt (pe_ix ix_list (pv 0) pe_int (fun _ _ => rfl)) (pe_callB call_len_seq (by rfl) T.m_len PySem.boot_len (pa_cons (pe_ix ix_list (pv 0) pe_int (fun _ _ => rfl)) pa_nil)) (nomark _)) (pss_cons (ps_set (i := 3) sc__law_pick.nd rfl (.inl rfl) (pe_ix ix_list (pe_ix ix_list (pv 0) pe_int (fun _ _ => rfl)) (pe_ix ix_list (pv 0) pe_int (fun _ _ => rfl)) (fun _ _ => rfl)))
  (pss_one (ps_asg (pe_op op_add (pe_ix ix_list (pv 0) pe_int (fun _ _ => rfl)) pe_int) (pg_sub (pv 0) pe_int set_list)))) pss_nil)
  (pss_cons (ps_if (pt_cmpR op_ge (pv 3) (pe_op op_pow pe_int pe_int) (nomark _)) (pss_cons (ps_asg (pe_op op_fdivW (pv 3) (pv 1)) (pg_sub (pv 0) pe_int set_list))
  (pss_one (ps_ret (pe_op op_modN (pe_callTy call_int1 (by rfl) T.m_int (by decide +kernel) (pa_cons (pv 3) pa_nil)) (pv 1))))) pss_nil)
  (pss_cons (ps_set (i := 4) sc__law_pick.nd rfl (.inl rfl) (pe_op op_modN (pe_callTy call_int1 (by rfl) T.m_int (by decide +kernel) (pa_cons (pe_op op_add (pe_op op_add (pe_op op_mul (pe_ix ix_list (pv 0) pe_int (fun _ _ => rfl)) pe_int) (pe_op op_modN (pe_callTy call_int1 (by rfl) T.m_int (by decide +kernel) (pa_cons (pv 3) pa_nil)) pe_int)) (pe_op op_mul (pe_ix ix_list (pv 0) pe_int (fun _ _ => rfl)) pe_int)) pa_nil)) pe_int))
  (pss_cons (ps_set (i := 4) sc__law_pick.nd rfl (.inl rfl) (pe_op op_modN (pe_callTy call_int1 (by rfl) T.m_int (by decide +kernel) (pa_cons (pe_op op_mul (pv 4) (pe_op op_add (pe_op op_fdivW (pv 4) pe_int) pe_int)) pa_nil)) pe_int))
  (pss_cons (ps_asg (pv 4) (pg_sub (pv 0) pe_int set_list))
  (pss_one (ps_ret (pe_op op_modN (pe_callTy call_int1 (by rfl) T.m_int (by decide +kernel) (pa_cons (pe_op op_fdivW (pv 4) pe_int) pa_nil)) (pv 1))))))))))))), ?_⟩
    -- tape[2] > 1
    refine ⟨.ref t, rfl, t, _, 2, _, rfl, rfl, SqL.of ht, atI_nat (j := 2) rfl, _, _, rfl, rfl, _, rfl, ite2 (fun h1 => ?_) (fun h1 => ?_)⟩
    · -- digit
      refine ⟨.ref t, rfl, t, _, 2, _, rfl, rfl, SqL.of ht, atI_nat (j := 2) rfl, .inl ⟨_, rfl, ?_⟩⟩
      refine ⟨.int n, rfl, _, _, rfl, rfl, by omega, ?_⟩
      -- tape[2] = tape[2] // size
      refine ⟨.ref t, rfl, t, _, 2, _, rfl, rfl, SqL.of ht, atI_nat (j := 2) rfl, .int n, rfl, _, _, rfl, rfl, wd _, ?_⟩
      refine ⟨.ref t, rfl, t, _, 2, 2, rfl, rfl, ht, rfl, ?_⟩
      -- return digit
      refine ⟨_, rfl, ?_⟩
      refine q _ _ (fm_of hn).1 (fm_of hn).2 Moved.upd ⟨ns, pos, _, mx, ct, hlt, upd_same, ?_, hp⟩
      rw [upd_ne hlt]
      exact hl
    · -- tape[4] = tape[4] + 1
      refine ⟨.ref t, rfl, t, _, 4, _, rfl, rfl, SqL.of ht, atI_nat (j := 4) rfl, _, _, rfl, rfl, ?_⟩
      refine ⟨.ref t, rfl, t, _, 4, 4, rfl, rfl, ht, rfl, ?_⟩
      -- cell = 0; the first cut
      refine ⟨fun σ' H1 => ∃ (cell p2 : Int) (σ3 σ4 : Option V), σ' = [some (.ref t), some (.int n), σ3, some (.int cell), σ4] ∧ 0 ≤ p2 ∧ H1 t = some (.lst [.ref l, .int p2, .int rest, .int mx, .int (ct + 1)]) ∧ H1 l = some (.lst (ns.map V.int)) ∧ Moved t H H1, ?_, fun σ' H1 hm => ?_⟩
      · have hl1 : (upd H t (.lst [.ref l, .int pos, .int rest, .int mx, .int (ct + 1)])) l = some (.lst (ns.map V.int)) := by
          rw [upd_ne hlt]
          exact hl
        refine ⟨.ref t, rfl, t, _, 1, _, rfl, rfl, SqL.of upd_same, atI_nat (j := 1) rfl, .ref t, rfl, t, _, 0, _, rfl, rfl, SqL.of upd_same, atI_nat (j := 0) rfl, l, _, rfl, .inl (SqL.of hl1), _, _, rfl, rfl, _, rfl, ite2 (fun h2 => ?_) (fun h2 => ?_)⟩
        · have h3 : pos < ((ns.map V.int).length : Int) := of_decide_eq_true h2
          obtain ⟨j, rfl⟩ : ∃ j : Nat, pos = (j : Int) := ⟨pos.toNat, by omega⟩
          have hj : j < ns.length := by
            rw [List.length_map] at h3
            omega
          have gj : (ns.map V.int)[j]? = some (.int ns[j]) := by
            rw [List.getElem?_map, List.getElem?_eq_getElem hj]
            rfl
          -- cell = tape[0][tape[1]]
          refine ⟨.ref t, rfl, t, _, 0, _, rfl, rfl, SqL.of upd_same, atI_nat (j := 0) rfl, .ref t, rfl, t, _, 1, _, rfl, rfl, SqL.of upd_same, atI_nat (j := 1) rfl, l, _, _, _, rfl, rfl, SqL.of hl1, atI_nat gj, ?_⟩
          -- tape[1] = tape[1] + 1
          refine ⟨.ref t, rfl, t, _, 1, _, rfl, rfl, SqL.of upd_same, atI_nat (j := 1) rfl, _, _, rfl, rfl, ?_⟩
          refine ⟨.ref t, rfl, t, _, 1, 1, rfl, rfl, upd_same, rfl, ?_⟩
          rw [upd_upd]
          exact ⟨_, _, _, _, rfl, by omega, upd_same, (by rw [upd_ne hlt]; exact hl), Moved.upd⟩
        · exact ⟨_, _, _, _, rfl, hp, upd_same, hl1, Moved.upd⟩
      · obtain ⟨cell, p2, σ3, σ4, rfl, hp2, ht1, hl1, mv⟩ := hm
        -- cell >= 10 ** 18
        refine ⟨.int cell, rfl, 10, 18, rfl, rfl, ⟨by decide, by decide, by decide⟩, _, _, rfl, rfl, _, rfl, ite2 (fun h2 => ?_) (fun h2 => ?_)⟩
        · refine ⟨.int cell, rfl, .int n, rfl, _, _, rfl, rfl, wd _, .ref t, rfl, t, _, 2, 2, rfl, rfl, ht1, rfl, ?_⟩
          refine ⟨.int cell, rfl, .inl ⟨_, rfl, .int n, rfl, _, _, rfl, rfl, by omega, ?_⟩⟩
          refine q _ _ (fm_of hn).1 (fm_of hn).2 (mv.trans Moved.upd) ⟨ns, p2, _, mx, _, hlt, upd_same, ?_, hp2⟩
          rw [upd_ne hlt]
          exact hl1
        · -- mixed = ..
          refine ⟨.ref t, rfl, t, _, 3, _, rfl, rfl, SqL.of ht1, atI_nat (j := 3) rfl, _, _, rfl, rfl, .inr ⟨by decide, by decide⟩, ?_⟩
          refine ⟨.int cell, rfl, .inl ⟨_, rfl, _, _, rfl, rfl, (by show (2147483629 : Int) ≠ 0; decide), _, _, rfl, rfl, ?_⟩⟩
          refine ⟨.ref t, rfl, t, _, 4, _, rfl, rfl, SqL.of ht1, atI_nat (j := 4) rfl, _, _, rfl, rfl, .inr ⟨by decide, by decide⟩, _, _, rfl, rfl, ?_⟩
          refine .inl ⟨_, rfl, _, _, rfl, rfl, (by show (2147483647 : Int) ≠ 0; decide), ?_⟩
          have bm := fm_of (a := mx * 48271 + cell.fmod 2147483629 + (ct + 1) * 69621) (b := 2147483647) (by decide)
          -- mixed = int(mixed * ..) % ..
          refine ⟨_, rfl, _, rfl, _, _, rfl, rfl, ⟨by decide, by decide⟩, _, _, rfl, rfl, _, _, rfl, rfl, .inl ⟨Int.lt_of_lt_of_le (by decide) bm.1, Int.lt_trans bm.2 (by decide)⟩, .inl ⟨_, rfl, _, _, rfl, rfl, (by show (2147483399 : Int) ≠ 0; decide), ?_⟩⟩
          -- tape[3] = mixed
          refine ⟨_, rfl, .ref t, rfl, t, _, 3, 3, rfl, rfl, ht1, rfl, ?_⟩
          refine ⟨_, rfl, _, _, rfl, rfl, ⟨by decide, by decide⟩, .inl ⟨_, rfl, .int n, rfl, _, _, rfl, rfl, by omega, ?_⟩⟩
          refine q _ _ (fm_of hn).1 (fm_of hn).2 (mv.trans Moved.upd) ⟨ns, p2, _, _, _, hlt, upd_same, ?_, hp2⟩
          rw [upd_ne hlt]
          exact hl1
end

section
variable {P : Program} {w : World} {K : PySem.W.Frag} {mg : Str → Option Value} {base : Heap}
def spIsInt (K : PySem.W.Frag) : Sp := fun vs H Q _ => ∃ i : Int, vs = [.int i] ∧ Q (.bl true) H
theorem ok_is_integer (T : Tx K mg) : FnOk P w K mg base CX0 1 T.a_is_integer T.d_is_integer ["thing"] (spIsInt K) := by
  refine T.F_is_integer.ok sc_is_integer (fun vs H Q E h => ?_) (fun cdv A outer s H vs Q E hr h => ?_)
  · obtain ⟨i, rfl, _⟩ := h
    rfl
  · obtain ⟨i, rfl, q⟩ := h
    refine ⟨_, ((pss_one (ps_ret (pe_and (pe_callB call_isi (by rfl) T.m_isinstance (by decide +kernel) (pa_cons (pv 0) (pa_cons (pe_bltn (v := .ty "int") (by rfl) T.m_int (by decide +kernel) rfl) pa_nil))) (pe_one (pe_not (pe_callB call_isi (by rfl) T.m_isinstance (by decide +kernel) (pa_cons (pv 0) (pa_cons (pe_bltn (v := .ty "bool") (by rfl) T.m_bool (by decide +kernel) rfl) pa_nil))))))))), ?_⟩
    refine ⟨.int i, rfl, .int i, .ty "int", _, _, true, rfl, .ty _, .base (.int i), kit_ty (by decide +kernel), true, rfl, iteT ?_⟩
    refine ⟨.int i, rfl, .int i, .ty "bool", _, _, false, rfl, .ty _, .base (.int i), kit_ty (by decide +kernel), false, rfl, ?_⟩
    exact q
def spIsNum (K : PySem.W.Frag) : Sp := fun vs H Q _ => ∃ i a b : Int, vs = [.int i, .int a, .int b] ∧ Q (.bl (decide (a ≤ i) && decide (i ≤ b))) H
theorem ok_is_number (T : Tx K mg) : FnOk P w K mg base CX0 2 T.a_is_number T.d_is_number ["thing", "least", "most"] (spIsNum K) := by
  refine T.F_is_number.ok sc_is_number (fun vs H Q E h => ?_) (fun cdv A outer s H vs Q E hr h => ?_)
  · obtain ⟨i, a, b, rfl, _⟩ := h
    rfl
  · obtain ⟨i, a, b, rfl, q⟩ := h
    refine ⟨_, ((pss_one (ps_ret (pe_and (pe_call (ok_is_integer T) (hr.mono (by decide)) (by rfl) T.g_is_integer T.F_is_integer.kp T.b_is_integer .nil pass0 (pa_cons (pv 0) pa_nil)) (pe_one (pe_chain op_le op_le (pv 1) (pv 0) (pv 2))))))), ?_⟩
    refine ⟨.int i, rfl, i, rfl, true, rfl, iteT ?_⟩
    refine ⟨.int a, rfl, .int i, rfl, a, i, rfl, rfl, _, rfl, ?_⟩
    by_cases h : a ≤ i
    · rw [decide_eq_true h] at q ⊢
      refine iteT ⟨.int b, rfl, i, b, rfl, rfl, ?_⟩
      exact q
    · rw [decide_eq_false h] at q ⊢
      exact iteF q
def spAreNums (K : PySem.W.Frag) : Sp := fun vs H Q _ => ∃ (a : Addr) (ns : List Int) (lo hi : Int), vs = [.ref a, .int lo, .int hi] ∧ SqT K H a (ns.map V.int) ∧ ns.length ≤ 1000 ∧
  ∀ H', Same H H' → Q (.bl (ns.all fun n => decide (lo ≤ n) && decide (n ≤ hi))) H'
theorem ok_are_numbers (T : Tx K mg) : FnOk P w K mg base CX0 3 T.a_are_numbers T.d_are_numbers ["things", "least", "most"] (spAreNums K) := by
  refine T.F_are_numbers.ok sc_are_numbers (fun vs H Q E h => ?_) (fun cdv A outer s H vs Q E hr h => ?_)
  · obtain ⟨a, ns, lo, hi, rfl, _⟩ := h
    rfl
  · obtain ⟨a, ns, lo, hi, rfl, hT, hlen, q⟩ := h
    refine ⟨_, ((pss_one (ps_ret (pe_callB (cr_all rfl) (by rfl) T.m_all (by decide +kernel) (pa_cons (pe_lc (own := [("thing", 3)]) (g := (gName 3)) (tt := tYes) rfl sc_are_numbers.nd (pi_tup (pv 0)) (blkOk_by (own := [("thing", 3)]) (N := ["things", "least", "most", "thing"]) (sc := defScope s_are_numbers) (by decide +kernel)) (fun _ _ _ _ _ => pg_name (i := 3) sc_are_numbers.nd rfl (.inl rfl)) (fun _ _ _ _ _ => pts_nil) (fun _ _ _ _ _ => (pe_call (ok_is_number T) (hr.mono (by decide)) (by rfl) T.g_is_number T.F_is_number.kp T.b_is_number .nil pass0 (pa_cons (pv 3) (pa_cons (pv 1) (pa_cons (pv 2) pa_nil)))))) pa_nil))))), ?_⟩
    refine ⟨.ref a, rfl, a, rfl, ⟨_, hT⟩, fun D hD => lc_tup (K := K) (a := a) (xs := ns.map V.int)
      (fun i H' => Same H H' ∧ H D = none ∧ H' D = some (.lst (((ns.take i).map fun n => decide (lo ≤ n) && decide (n ≤ hi)).map V.bl)))
      ⟨same_upd hD, hD, upd_same⟩ (fun i H' _ p => sT p.1 hT) (fun i x H' hx p => ?_) (fun H' p => ?_)⟩
    · obtain ⟨sm, nD, eD⟩ := p
      rw [List.getElem?_map] at hx
      obtain ⟨n, hn, rfl⟩ := Option.map_eq_some_iff.mp hx
      refine ⟨rfl, ?_⟩
      refine ⟨.int n, rfl, .int lo, rfl, .int hi, rfl, n, lo, hi, rfl, ?_⟩
      have hi' : i < ns.length := (List.getElem?_eq_some_iff.mp hn).1
      refine ⟨_, eD, ?_, ?_⟩
      · rw [List.length_map, List.length_map, List.length_take]
        exact small1000 (by omega)
      · refine ⟨fun b o e => ?_, nD, ?_⟩
        · rw [upd_ne (ne_of_none e nD)]
          exact sm b o e
        · rw [upd_same, List.take_add_one, hn, List.map_append, List.map_append]
          rfl
    · obtain ⟨sm, nD, eD⟩ := p
      rw [List.length_map, List.take_of_length_le (Nat.le_refl _)] at eD
      refine ⟨D, _, rfl, SqL.of eD, ?_⟩
      have e2 : ((ns.map fun n => decide (lo ≤ n) && decide (n ≤ hi)).all id) = ns.all fun n => decide (lo ≤ n) && decide (n ≤ hi) := by
        rw [List.all_map]
        rfl
      rw [e2]
      exact q H' sm
end

section
variable {P : Program} {w : World} {K : PySem.W.Frag} {mg : Str → Option Value} {base : Heap}
theorem good_all {ns : List Int} (g : Rch.Good ns) : (ns.all fun n => decide (1 ≤ n) && decide (n ≤ 40)) = true := by
  rw [List.all_eq_true]
  intro n hn
  have := g.2.2 n hn
  rw [Bool.and_eq_true]
  exact ⟨decide_eq_true this.1, decide_eq_true this.2⟩
def spIsLoops (K : PySem.W.Frag) : Sp := fun vs H Q _ => ∃ (a : Addr) (ns : List Int), vs = [.ref a] ∧ SqT K H a (ns.map V.int) ∧ Rch.Good ns ∧ ∀ H', Same H H' → Q (.bl true) H'
theorem ok_is_loops (T : Tx K mg) : FnOk P w K mg base CX0 4 T.a_is_loops T.d_is_loops ["thing"] (spIsLoops K) := by
  refine T.F_is_loops.ok sc_is_loops (fun vs H Q E h => ?_) (fun cdv A outer s H vs Q E hr h => ?_)
  · obtain ⟨a, ns, rfl, _⟩ := h
    rfl
  · obtain ⟨a, ns, rfl, hT, g, q⟩ := h
    refine ⟨_, ((pss_one (ps_ret (pe_and (pe_callB call_isi (by rfl) T.m_isinstance (by decide +kernel) (pa_cons (pv 0) (pa_cons (pe_bltn (v := .ty "tuple") (by rfl) T.m_tuple (by decide +kernel) rfl) pa_nil))) (pe_and (pe_chain op_le op_le pe_int (pe_callB call_len_seq (by rfl) T.m_len PySem.boot_len (pa_cons (pv 0) pa_nil)) (pe_glob (v := .int 8) rfl T.g_MOST_LOOPS ⟨_, rfl⟩)) (pe_one (pe_call (ok_are_numbers T) (hr.mono (by decide)) (by rfl) T.g_are_numbers T.F_are_numbers.kp T.b_are_numbers .nil pass0 (pa_cons (pv 0) (pa_cons pe_int (pa_cons (pe_glob (v := .int 40) rfl T.g_MOST_LENGTH ⟨_, rfl⟩) pa_nil)))))))))), ?_⟩
    refine ⟨.ref a, rfl, .ref a, .ty "tuple", _, _, true, rfl, .ty _, tyTup hT, kit_ty (by decide +kernel), true, rfl, iteT ?_⟩
    have g1 := g.1
    have g2 := g.2.1
    refine ⟨.ref a, rfl, a, _, rfl, .inr hT, 1, _, rfl, rfl, true, ?_, iteT ⟨_, 8, rfl, rfl, true, ?_, iteT ?_⟩⟩
    · show V.bl (decide ((1 : Int) ≤ ((ns.map V.int).length : Int))) = V.bl true
      rw [List.length_map, decide_eq_true (by omega)]
    · show V.bl (decide (((ns.map V.int).length : Int) ≤ (8 : Int))) = V.bl true
      rw [List.length_map, decide_eq_true (by omega)]
    · refine ⟨.ref a, rfl, a, ns, 1, 40, rfl, hT, by omega, fun H' sm => ?_⟩
      have e := good_all g
      rw [e]
      exact q H' sm
end

/-! ### tables -/
theorem kRL : ¬ (("rows" : Str) = "loops") := by decide +kernel
theorem kBL : ¬ (("bound" : Str) = "loops") := by decide +kernel
theorem kBR : ¬ (("bound" : Str) = "rows") := by decide +kernel
theorem kLR : ¬ (("loops" : Str) = "rows") := by decide +kernel
theorem kLB : ¬ (("loops" : Str) = "bound") := by decide +kernel
theorem kRB : ¬ (("rows" : Str) = "bound") := by decide +kernel
def tflds (a b : Addr) (n : Int) : List (Str × V) := putF "bound" (.int n) (putF "rows" (.ref b) (putF "loops" (.ref a) []))
theorem tf_loops (a b : Addr) (n : Int) : (tflds a b n).lookup ("loops" : Str) = some (.ref a) := by
  unfold tflds
  rw [lookup_putF, if_neg kLB, lookup_putF, if_neg kLR, lookup_putF, if_pos rfl]
theorem tf_rows (a b : Addr) (n : Int) : (tflds a b n).lookup ("rows" : Str) = some (.ref b) := by
  unfold tflds
  rw [lookup_putF, if_neg kRB, lookup_putF, if_pos rfl]
theorem tf_bound (a b : Addr) (n : Int) : (tflds a b n).lookup ("bound" : Str) = some (.int n) := by
  unfold tflds
  rw [lookup_putF, if_pos rfl]
theorem putF_len (f : Str) (v : V) : ∀ fs : List (Str × V), (putF f v fs).length ≤ fs.length + 1
  | [] => Nat.le_refl _
  | (g, u) :: fs => by
    unfold putF
    split
    · simp
    · have := putF_len f v fs
      simp only [List.length_cons]
      omega
/-- a table stands at p -/
structure TabAt (K : PySem.W.Frag) (C : Addr) (H : Hp) (p : Addr) (ls : List Int) (rs : List (List Int)) : Prop where
  ob : ∃ dx a b ps, H p = some (.ins C dx (tflds a b (rs.length : Int))) ∧ SqT K H a (ls.map V.int) ∧ SqT K H b (ps.map V.ref) ∧ Tups fI H ps rs
theorem TabAt.same {K : PySem.W.Frag} {C : Addr} {H H' : Hp} {p : Addr} {ls : List Int} {rs : List (List Int)} (h : TabAt K C H p ls rs) (e : Same H H') : TabAt K C H' p ls rs := by
  obtain ⟨dx, a, b, ps, h1, h2, h3, h4⟩ := h.ob
  exact ⟨dx, a, b, ps, e _ _ h1, sT e h2, sT e h3, h4.same e⟩
theorem Tups.at {α : Type} {f : α → List V} {H : Hp} {ps : List Addr} {xs : List α} (h : Tups f H ps xs) : ∀ {i : Nat} {x : α}, xs[i]? = some x → ∃ p, (ps.map V.ref)[i]? = some (.ref p) ∧ H p = some (.tup (f x)) := by
  induction h with
  | nil =>
    intro i x h
    simp at h
  | cons a _ ih =>
    intro i x h
    cases i with
    | zero =>
      simp at h
      subst h
      exact ⟨_, rfl, a⟩
    | succ i =>
      simp only [List.map_cons, List.getElem?_cons_succ] at h ⊢
      exact ih h
section
variable {P : Program} {w : World} {K : PySem.W.Frag} {mg : Str → Option Value} {base : Heap}
def spIsRow (K : PySem.W.Frag) : Sp := fun vs H Q _ => ∃ (a r : Addr) (ls row : List Int), vs = [.ref a, .ref r] ∧ SqT K H a (ls.map V.int) ∧ SqT K H r (row.map V.int) ∧ Tb.InR ls row ∧ row.length ≤ 60 ∧ ∀ H', Same H H' → Q (.bl true) H'
theorem ok_is_row (T : Tx K mg) : FnOk P w K mg base CX0 4 T.a_is_row T.d_is_row ["loops", "thing"] (spIsRow K) := by
  refine T.F_is_row.ok sc_is_row (fun vs H Q E h => ?_) (fun cdv A outer s H vs Q E hr h => ?_)
  · obtain ⟨a, r, ls, row, rfl, _⟩ := h
    rfl
  · obtain ⟨a, r, ls, row, rfl, hA, hR, hin, hlen, q⟩ := h
    refine ⟨_, ((pss_one (ps_ret (pe_and (pe_callB call_isi (by rfl) T.m_isinstance (by decide +kernel) (pa_cons (pv 1) (pa_cons (pe_bltn (v := .ty "tuple") (by rfl) T.m_tuple (by decide +kernel) rfl) pa_nil))) (pe_and (pe_cmpR op_le (pe_callB call_len_seq (by rfl) T.m_len PySem.boot_len (pa_cons (pv 1) pa_nil)) (pe_glob (v := .int 60) rfl T.g_MOST_ITEMS ⟨_, rfl⟩) (nomark _)) (pe_one (pe_call (ok_are_numbers T) (hr.mono (by decide)) (by rfl) T.g_are_numbers T.F_are_numbers.kp T.b_are_numbers .nil pass0 (pa_cons (pv 1) (pa_cons pe_int (pa_cons (pe_op op_sub (pe_callB call_len_seq (by rfl) T.m_len PySem.boot_len (pa_cons (pv 0) pa_nil)) pe_int) pa_nil)))))))))), ?_⟩
    refine ⟨.ref r, rfl, .ref r, .ty "tuple", _, _, true, rfl, .ty _, tyTup hR, kit_ty (by decide +kernel), true, rfl, iteT ?_⟩
    refine ⟨.ref r, rfl, r, _, rfl, .inr hR, _, 60, rfl, rfl, true, ?_, iteT ?_⟩
    · show V.bl (decide (((row.map V.int).length : Int) ≤ (60 : Int))) = V.bl true
      rw [List.length_map, decide_eq_true (by omega)]
    · refine ⟨.ref r, rfl, .ref a, rfl, a, _, rfl, .inr hA, _, _, rfl, rfl, r, row, 0, (((ls.map V.int).length : Nat) : Int) - 1, rfl, hR, by omega, fun H' sm => ?_⟩
      have e : (row.all fun n => decide ((0 : Int) ≤ n) && decide (n ≤ (((ls.map V.int).length : Nat) : Int) - 1)) = true := by
        rw [List.all_eq_true]
        intro n hn
        have := hin n hn
        rw [List.length_map, Bool.and_eq_true]
        exact ⟨decide_eq_true this.1, decide_eq_true (by omega)⟩
      rw [e]
      exact q H' sm
def spRowSum (K : PySem.W.Frag) : Sp := fun vs H Q _ => ∃ (a r : Addr) (ls row : List Int), vs = [.ref a, .ref r] ∧ SqT K H a (ls.map V.int) ∧ SqT K H r (row.map V.int) ∧ Tb.InR ls row ∧ row.length ≤ 1000 ∧ ∀ H', Same H H' → Q (.int (Tb.rsum ls row)) H'
theorem ok_row_sum (T : Tx K mg) : FnOk P w K mg base CX0 1 T.a_row_sum T.d_row_sum ["loops", "row"] (spRowSum K) := by
  refine T.F_row_sum.ok sc_row_sum (fun vs H Q E h => ?_) (fun cdv A outer s H vs Q E hr h => ?_)
  · obtain ⟨a, r, ls, row, rfl, _⟩ := h
    rfl
  · obtain ⟨a, r, ls, row, rfl, hA, hR, hin, hlen, q⟩ := h
    refine ⟨_, ((pss_one (ps_ret (pe_callB (cr_sum rfl) (by rfl) T.m_sum (by decide +kernel) (pa_cons (pe_lc (own := [("loop", 2)]) (g := (gName 2)) (tt := tYes) rfl sc_row_sum.nd (pi_tup (pv 1)) (blkOk_by (own := [("loop", 2)]) (N := ["loops", "row", "loop"]) (sc := defScope s_row_sum) (by decide +kernel)) (fun _ _ _ _ _ => pg_name (i := 2) sc_row_sum.nd rfl (.inl rfl)) (fun _ _ _ _ _ => pts_nil) (fun _ _ _ _ _ => (pe_ix (ixTK (K := K) (by rfl)) (pv 0) (pv 2) (fun _ _ => rfl)))) pa_nil))))), ?_⟩
    refine ⟨.ref r, rfl, r, rfl, ⟨_, hR⟩, fun D hD => lc_tup (K := K) (a := r) (xs := row.map V.int)
      (fun i H' => Same H H' ∧ H' D = some (.lst (((row.take i).map (Tb.len1 ls)).map V.int)))
      ⟨same_upd hD, upd_same⟩ (fun i H' _ p => sT p.1 hR) (fun i x H' hx p => ?_) (fun H' p => ?_)⟩
    · obtain ⟨sm, eD⟩ := p
      rw [List.getElem?_map] at hx
      obtain ⟨n, hn, rfl⟩ := Option.map_eq_some_iff.mp hx
      have hk := hin n (List.mem_of_getElem? hn)
      have hi' : i < row.length := (List.getElem?_eq_some_iff.mp hn).1
      refine ⟨rfl, ?_⟩
      refine ⟨.ref a, rfl, .int n, rfl, a, _, _, .int (Tb.len1 ls n), rfl, rfl, sT sm hA, atI_of hk.1 ?_, ?_⟩
      · rw [List.getElem?_map, Tb.len_at hk.1 hk.2]
        rfl
      · refine ⟨_, eD, ?_, fun b o e => ?_, ?_⟩
        · rw [List.length_map, List.length_map, List.length_take]
          exact small1000 (by omega)
        · rw [upd_ne (ne_of_none e hD)]
          exact sm b o e
        · rw [upd_same, take_snoc hn, List.map_append, List.map_append]
          rfl
    · obtain ⟨sm, eD⟩ := p
      rw [List.length_map, List.take_of_length_le (Nat.le_refl _)] at eD
      exact ⟨D, _, rfl, SqL.of eD, q H' sm⟩
def spTInit (K : PySem.W.Frag) (C : Addr) : Sp := fun vs H Q _ => ∃ (p dx a b : Addr) (ls : List Int) (ps : List Addr) (rs : List (List Int)), vs = [.ref p, .ref a, .ref b] ∧ H p = some (.ins C dx []) ∧ SqT K H a (ls.map V.int) ∧ SqT K H b (ps.map V.ref) ∧ Tups fI H ps rs ∧ Tb.Right ls rs ∧
  ∀ H', (∀ c o, c ≠ p → H c = some o → H' c = some o) → H' p = some (.ins C dx (tflds a b (rs.length : Int))) → Q .non H'
theorem ok_Table___init__ (T : Tx K mg) : FnOk P w K mg base CX0 5 T.a_Table___init__ T.d_Table___init__ ["self", "loops", "rows"] (spTInit K T.c_Table) := by
  refine T.F_Table___init__.ok sc_Table___init__ (fun vs H Q E h => ?_) (fun cdv A outer s H vs Q E hr h => ?_)
  · obtain ⟨p, dx, a, b, ls, ps, rs, rfl, _⟩ := h
    rfl
  · obtain ⟨p, dx, a, b, ls, ps, rs, rfl, hp, hA, hB, tu, R, q⟩ := h
    have el := tu.length
    have r1 := R.2.1
    have r2 := R.2.2.1
    refine ⟨_, ((pss_cons (ps_if (pt_not (pt_val (pe_call (ok_is_loops T) (hr.mono (by decide)) (by rfl) T.g_is_loops T.F_is_loops.kp T.b_is_loops .nil pass0 (pa_cons (pv 1) pa_nil)))) (pss_one ps_never) pss_nil)
  (pss_cons (ps_if (PW.pt (pw_or (pt_not (pt_val (pe_callB call_isi (by rfl) T.m_isinstance (by decide +kernel) (pa_cons (pv 2) (pa_cons (pe_bltn (v := .ty "tuple") (by rfl) T.m_tuple (by decide +kernel) rfl) pa_nil))))) (pw_or1 (pt_not (pt_chain op_le op_le pe_int (pe_callB call_len_seq (by rfl) T.m_len PySem.boot_len (pa_cons (pv 2) pa_nil)) (pe_glob (v := .int 60) rfl T.g_MOST_BOUND ⟨_, rfl⟩)))))) (pss_one ps_never) pss_nil)
  (pss_cons (ps_for PassesOwn.never rfl (RR.pi_enumT (by rfl) T.m_enumerate (pa_cons (pv 2) pa_nil)) (pg_tup rfl (pgs_cons (pg_name (i := 3) sc_Table___init__.nd rfl (.inl rfl)) (pgs_cons (pg_name (i := 4) sc_Table___init__.nd rfl (.inl rfl)) pgs_nil)))
   (pss_one (ps_if (PW.pt (pw_or (pt_not (pt_val (pe_call (ok_is_row T) (hr.mono (by decide)) (by rfl) T.g_is_row T.F_is_row.kp T.b_is_row .nil pass0 (pa_cons (pv 1) (pa_cons (pv 4) pa_nil))))) (pw_or1 (pt_cmpR op_ne (pe_call (ok_row_sum T) (hr.mono (by decide)) (by rfl) T.g_row_sum T.F_row_sum.kp T.b_row_sum .nil pass0 (pa_cons (pv 1) (pa_cons (pv 4) pa_nil))) (pe_op op_add (pv 3) pe_int) (nomark _))))) (pss_one ps_never) pss_nil)))
  (pss_cons (ps_fld (pv 0) (pv 1) rfl)
  (pss_cons (ps_fld (pv 0) (pv 2) rfl)
  (pss_one (ps_fld (pv 0) (pe_callB call_len_seq (by rfl) T.m_len PySem.boot_len (pa_cons (pv 2) pa_nil)) rfl)))))))), ?_⟩
    refine ⟨.ref a, rfl, a, ls, rfl, hA, R.1, fun H1 s1 => ⟨true, rfl, iteF ?_⟩⟩
    have hB1 := sT s1 hB
    refine ⟨.ref b, rfl, .ref b, .ty "tuple", _, _, true, rfl, .ty _, tyTup hB1, kit_ty (by decide +kernel), true, rfl, iteF ?_⟩
    refine ⟨.ref b, rfl, b, _, rfl, .inr hB1, 1, _, rfl, rfl, true, ?_, iteT ⟨_, 60, rfl, rfl, true, ?_, iteF ?_⟩⟩
    · show V.bl (decide ((1 : Int) ≤ ((ps.map V.ref).length : Int))) = V.bl true
      rw [List.length_map, decide_eq_true (by omega)]
    · show V.bl (decide (((ps.map V.ref).length : Int) ≤ (60 : Int))) = V.bl true
      rw [List.length_map, decide_eq_true (by omega)]
    · refine ⟨.ref b, rfl, b, _, rfl, hB1, RR.for_enumT (K := K) (xs := ps.map V.ref)
        (fun i σ H' => ∃ y3 y4, σ = [some (.ref p), some (.ref a), some (.ref b), y3, y4] ∧ Same H H')
        ⟨_, _, rfl, s1⟩ (fun i σ H' _ h => ?_) (fun i x X σ H' hx h nX => ?_) (fun σ H' h => ?_)⟩
      · obtain ⟨_, _, _, sm⟩ := h
        exact sT sm hB
      · obtain ⟨y3, y4, rfl, sm⟩ := h
        obtain ⟨r, row, rfl, hrow, er⟩ := tu.get hx
        obtain ⟨hin, hl60, hsum⟩ := R.2.2.2 i row hrow
        have sX := same_upd (o := .tup [.int (i : Nat), .ref r]) nX
        have sm2 := sm.trans sX
        refine ⟨X, _, rfl, SqT.of upd_same, rfl, _, [_], rfl, _, [], rfl, rfl, ?_⟩
        refine ⟨.ref a, rfl, .ref r, rfl, a, r, ls, row, rfl, sT sm2 hA, SqT.of (sm2 _ _ er), hin, hl60, fun H2 s2 => ⟨true, rfl, iteF ?_⟩⟩
        have sm3 := sm2.trans s2
        refine ⟨.ref a, rfl, .ref r, rfl, a, r, ls, row, rfl, sT sm3 hA, SqT.of (sm3 _ _ er), hin, by omega, fun H3 s3 => ?_⟩
        refine ⟨_, rfl, _, _, rfl, rfl, rfl, false, ne_no hsum, iteF ?_⟩
        exact ⟨_, _, rfl, sm3.trans s3⟩
      · obtain ⟨y3, y4, rfl, sm⟩ := h
        have hp1 := sm _ _ hp
        have hab : ∀ {X : Hp} {c : Addr} {xs : List V} {o : HO} {fs : List (Str × V)}, X p = some (.ins T.c_Table dx fs) → SqT K X c xs → SqT K (upd X p o) c xs := fun {X c xs o fs} h1 h2 => by
          rcases h2 with (h2 | ⟨z, h2⟩) | h2
          · exact .inl (.inl (by rw [upd_ne (fun e => by rw [e, h1] at h2; cases h2)]; exact h2))
          · exact .inl (.inr ⟨z, by rw [upd_ne (fun e => by rw [e, h1] at h2; cases h2)]; exact h2⟩)
          · exact .inr h2
        refine ⟨.ref a, rfl, .ref p, rfl, p, T.c_Table, dx, [], rfl, hp1, T.cl_Table, T.n_Table_loops, by show 0 < 1000; decide, ?_⟩
        refine ⟨.ref b, rfl, .ref p, rfl, p, T.c_Table, dx, _, rfl, upd_same, T.cl_Table, T.n_Table_rows, by show 1 < 1000; decide, ?_⟩
        have hB3 := hab upd_same (hab hp1 (sT sm hB) (o := .ins T.c_Table dx (putF "loops" (.ref a) []))) (o := .ins T.c_Table dx (putF "rows" (.ref b) (putF "loops" (.ref a) [])))
        refine ⟨.ref b, rfl, b, _, rfl, .inr hB3, .ref p, rfl, p, T.c_Table, dx, _, rfl, upd_same, T.cl_Table, T.n_Table_bound, Nat.lt_of_le_of_lt (putF_len _ _ _) (by show 2 < 1000; decide), ?_⟩
        refine q _ (fun c o n e => ?_) ?_
        · rw [upd_ne n, upd_ne n, upd_ne n]
          exact sm _ _ e
        · rw [upd_same, List.length_map, el]
          rfl
end

/-! ### texts of tables, written -/
section
variable {P : Program} {w : World} {K : PySem.W.Frag} {mg : Str → Option Value} {base : Heap}
def spBlanks (K : PySem.W.Frag) : Sp := fun vs H Q _ => ∃ (a : Addr) (ns : List Int), vs = [.ref a] ∧ SqT K H a (ns.map V.int) ∧ (∀ n ∈ ns, 0 ≤ n ∧ n < 10 ^ 9) ∧ ns.length ≤ 1000 ∧ ∀ H', Same H H' → Q (.str (TxM.blanks ns)) H'
theorem ok_with_blanks (T : Tx K mg) : FnOk P w K mg base CX0 2 T.a_with_blanks T.d_with_blanks ["numbers"] (spBlanks K) := by
  refine T.F_with_blanks.ok sc_with_blanks (fun vs H Q E h => ?_) (fun cdv A outer s H vs Q E hr h => ?_)
  · obtain ⟨a, ns, rfl, _⟩ := h
    rfl
  · obtain ⟨a, ns, rfl, hT, hb, hl, q⟩ := h
    refine ⟨_, ((pss_one (ps_ret (pe_join pe_str (pe_lc (own := [("number", 1)]) (g := (gName 1)) (tt := tYes) rfl sc_with_blanks.nd (pi_tup (pv 0)) (blkOk_by (own := [("number", 1)]) (N := ["numbers", "number"]) (sc := defScope s_with_blanks) (by decide +kernel)) (fun _ _ _ _ _ => pg_name (i := 1) sc_with_blanks.nd rfl (.inl rfl)) (fun _ _ _ _ _ => pts_nil) (fun _ _ _ _ _ => (pe_callTy call_str_int (by rfl) T.m_str (by decide +kernel) (pa_cons (pv 1) pa_nil)))))))), ?_⟩
    refine ⟨⟨_, rfl⟩, .ref a, rfl, a, rfl, ⟨_, hT⟩, fun D hD => lc_tup (K := K) (a := a) (xs := ns.map V.int)
      (fun i H' => Same H H' ∧ H' D = some (.lst (((ns.take i).map TxM.num).map V.str)))
      ⟨same_upd hD, upd_same⟩ (fun i H' _ p => sT p.1 hT) (fun i x H' hx p => ?_) (fun H' p => ?_)⟩
    · obtain ⟨sm, eD⟩ := p
      rw [List.getElem?_map] at hx
      obtain ⟨n, hn, rfl⟩ := Option.map_eq_some_iff.mp hx
      have bn := hb n (List.mem_of_getElem? hn)
      have hi := (List.getElem?_eq_some_iff.mp hn).1
      refine ⟨rfl, .int n, rfl, n, rfl, TxM.log_lt bn.1 bn.2, _, eD, by rw [List.length_map, List.length_map, List.length_take]; exact small1000 (by omega), same_put sm hD, ?_⟩
      rw [upd_same, take_snoc hn, List.map_append, List.map_append]
      rfl
    · obtain ⟨sm, eD⟩ := p
      rw [List.length_map, List.take_length] at eD
      refine ⟨_, D, ns.map TxM.num, rfl, rfl, .inl (SqL.of eD), ?_, q H' sm⟩
      have h1 := TxM.sum_len hb
      have h2 : (Str.ofString " ").length = 1 := by decide +kernel
      rw [List.length_map, h2]
      omega
theorem nums_of {ls : List Int} (g : Rch.Good ls) : ∀ n ∈ ls, 0 ≤ n ∧ n < 10 ^ 9 := fun n hn => by
  have := g.2.2 n hn
  omega
theorem nums_row {ls row : List Int} (g : Rch.Good ls) (h : Tb.InR ls row) : ∀ n ∈ row, 0 ≤ n ∧ n < 10 ^ 9 := fun n hn => by
  have := h n hn
  have := g.2.1
  omega
theorem text_size {ls : List Int} {rs : List (List Int)} (R : Tb.Right ls rs) (n : Nat) : (TxM.text ls (rs.take n)).length ≤ 40000 := by
  have h60 := R.2.2.1
  have := TxM.text_len ls (rs.take n).length (rs.take n) rfl (by rw [List.length_take]; omega) R.1.2.1 (nums_of R.1) fun r hr => by
    obtain ⟨i, hi⟩ := List.mem_iff_getElem?.mp (List.mem_of_mem_take hr)
    obtain ⟨h1, h2, _⟩ := R.2.2.2 i r hi
    exact ⟨h2, nums_row R.1 h1⟩
  rw [List.length_take] at this
  omega
def spTText (K : PySem.W.Frag) (C : Addr) : Sp := fun vs H Q _ => ∃ (p : Addr) (ls : List Int) (rs : List (List Int)), vs = [.ref p] ∧ TabAt K C H p ls rs ∧ Tb.Right ls rs ∧ ∀ H', Same H H' → Q (.str (TxM.text ls rs)) H'
theorem ok_table_text (T : Tx K mg) : FnOk P w K mg base CX0 3 T.a_table_text T.d_table_text ["table"] (spTText K T.c_Table) := by
  refine T.F_table_text.ok sc_table_text (fun vs H Q E h => ?_) (fun cdv A outer s H vs Q E hr h => ?_)
  · obtain ⟨p, ls, rs, rfl, _⟩ := h
    rfl
  · obtain ⟨p, ls, rs, rfl, tab, R, q⟩ := h
    refine ⟨_, ((pss_cons (ps_set (i := 1) sc_table_text.nd rfl (.inl rfl) (pe_joined (.cons pe_str (.cons (pe_fmt (pe_call (ok_with_blanks T) (hr.mono (by decide)) (by rfl) T.g_with_blanks T.F_with_blanks.kp T.b_with_blanks .nil pass0 (pa_cons (pe_fld (pv 0) rfl) pa_nil))) (.cons pe_str .nil)))))
  (pss_cons (ps_for PassesOwn.never rfl (RR.pi_enumT (by rfl) T.m_enumerate (pa_cons (pe_fld (pv 0) rfl) pa_nil)) (pg_tup rfl (pgs_cons (pg_name (i := 2) sc_table_text.nd rfl (.inl rfl)) (pgs_cons (pg_name (i := 3) sc_table_text.nd rfl (.inl rfl)) pgs_nil)))
   (pss_one (ps_aug (i := 1) sc_table_text.nd rfl (.inl rfl) (pe_joined (.cons (pe_fmt (pe_op op_add (pv 2) pe_int)) (.cons pe_str (.cons (pe_fmt (pe_call (ok_with_blanks T) (hr.mono (by decide)) (by rfl) T.g_with_blanks T.F_with_blanks.kp T.b_with_blanks .nil pass0 (pa_cons (pv 3) pa_nil))) (.cons pe_str .nil))))) iop_add_str)))
  (pss_one (ps_ret (pv 1)))))), ?_⟩
    obtain ⟨dx, la, ra, ps, ep, hL, hR, tu⟩ := tab.ob
    have h60 := R.2.2.1
    have hbl := TxM.blanks_len (nums_of R.1)
    have l8 := R.1.2.1
    have z0 : (Str.empty : Str).length = 0 := rfl
    have z1 : (Str.ofString "loops ").length = 6 := by decide +kernel
    have z2 : (Str.ofString "\n").length = 1 := by decide +kernel
    have z3 : (Str.ofString ": ").length = 2 := by decide +kernel
    have szl : sizeLine = 16777216 := sizeLine_eq
    refine ⟨_, rfl, by rw [TxM.app_len, z0, z1, szl]; decide, .ref p, rfl, p, T.c_Table, dx, _, _, rfl, ep, T.cl_Table, T.n_Table_loops, tf_loops _ _ _, la, ls, rfl, hL, nums_of R.1, by omega, fun H1 s1 => .inl ⟨_, rfl, by rw [szl]; omega, _, rfl, by rw [TxM.app_len, TxM.app_len, z0, z1, szl]; omega, _, rfl, by rw [TxM.app_len, TxM.app_len, TxM.app_len, z0, z1, z2, szl]; omega, ?_⟩⟩
    rw [show Str.empty ++ Str.ofString "loops " ++ TxM.blanks ls ++ Str.ofString "\n" = TxM.text ls [] from TxM.head_text ls]
    refine ⟨.ref p, rfl, p, T.c_Table, dx, _, _, rfl, s1 _ _ ep, T.cl_Table, T.n_Table_rows, tf_rows _ _ _, ra, _, rfl, sT s1 hR, RR.for_enumT (K := K) (xs := ps.map V.ref)
      (fun i σ H' => ∃ y2 y3, σ = [some (.ref p), some (.str (TxM.text ls (rs.take i))), y2, y3] ∧ Same H H')
      ⟨_, _, rfl, s1⟩ (fun i σ H' _ h => ?_) (fun i x X σ H' hx h nX => ?_) (fun σ H' h => ?_)⟩
    · obtain ⟨_, _, _, sm⟩ := h
      exact sT sm hR
    · obtain ⟨y2, y3, rfl, sm⟩ := h
      obtain ⟨r, row, rfl, hrow, er⟩ := tu.get hx
      obtain ⟨hin, hl60, hsum⟩ := R.2.2.2 i row hrow
      have hi := (List.getElem?_eq_some_iff.mp hrow).1
      have sX := same_upd (o := .tup [.int (i : Nat), .ref r]) nX
      have sm2 := sm.trans sX
      have nr := nums_row R.1 hin
      have hb := TxM.blanks_len nr
      have hz := text_size R i
      have hn := (TxM.num_len (i := (i : Int) + 1) (by omega) (by omega)).2
      have hn' : (Str.ofString (toString ((i : Int) + 1))).length ≤ 9 := hn
      refine ⟨X, _, rfl, SqT.of upd_same, rfl, _, [_], rfl, _, [], rfl, rfl, ?_⟩
      refine ⟨_, rfl, _, rfl, _, _, rfl, rfl, .inr ⟨_, rfl, TxM.log_lt (by omega) (by omega), _, rfl, by rw [TxM.app_len, z0, szl]; omega, _, rfl, by rw [TxM.app_len, TxM.app_len, z0, z3, szl]; omega, .ref r, rfl, r, row, rfl, SqT.of (sm2 _ _ er), nr, by omega, fun H2 s2 => .inl ⟨_, rfl, by rw [szl]; omega, _, rfl, by rw [TxM.app_len, TxM.app_len, TxM.app_len, z0, z3, szl]; omega, _, rfl, by rw [TxM.app_len, TxM.app_len, TxM.app_len, TxM.app_len, z0, z2, z3, szl]; omega, _, _, rfl, rfl, by rw [TxM.app_len, TxM.app_len, TxM.app_len, TxM.app_len, z0, z2, z3, szl]; omega, ?_⟩⟩⟩
      refine ⟨some (.int (i : Nat)), some (.ref r), ?_, sm2.trans s2⟩
      have el : (rs.take i).length = i := by rw [List.length_take]; omega
      have e := TxM.row_text ls (rs.take i) row
      rw [el] at e
      rw [take_snoc hrow, ← e]
      rfl
    · obtain ⟨y2, y3, rfl, sm⟩ := h
      have el : (rs.take (ps.map V.ref).length) = rs := by
        rw [List.length_map, tu.length]
        exact List.take_length
      rw [el]
      exact ⟨_, rfl, q H' sm⟩
end

/-! ### texts of tables, read -/
section
variable {P : Program} {w : World} {K : PySem.W.Frag} {mg : Str → Option Value} {base : Heap}
theorem none_back {H H' : Hp} {p : Addr} (s : Same H H') (n : H' p = none) : H p = none := by
  cases h : H p with
  | none => rfl
  | some o => rw [s _ _ h] at n; cases n
theorem cut_last {xs : List Str} {e : Str} : cutV ((xs ++ [e]).map V.str) none (some (-1)) = xs.map V.str := by
  unfold cutV
  have h2 : HT.sIx ((xs ++ [e]).map V.str).length ((xs ++ [e]).map V.str).length (some (-1)) = xs.length := by
    show (if (-1 : Int) < 0 then ((-1 : Int) + (((xs ++ [e]).map V.str).length : Int)).toNat else min (-1 : Int).toNat ((xs ++ [e]).map V.str).length) = xs.length
    rw [if_pos (by decide), List.length_map, List.length_append]
    show ((-1 : Int) + ((xs.length + 1 : Nat) : Int)).toNat = xs.length
    omega
  rw [h2, HT.sIx_none, List.drop_zero, Nat.sub_zero, List.map_append]
  have e1 : xs.length = (xs.map V.str).length := by rw [List.length_map]
  rw [e1, List.take_left]
theorem cut_tail {x : Str} {xs : List Str} : cutV ((x :: xs).map V.str) (some 1) none = xs.map V.str := by
  unfold cutV
  have h1 : HT.sIx ((x :: xs).map V.str).length 0 (some 1) = 1 := by
    show (if (1 : Int) < 0 then ((1 : Int) + (((x :: xs).map V.str).length : Int)).toNat else min (1 : Int).toNat ((x :: xs).map V.str).length) = 1
    rw [if_neg (by decide), List.length_map, List.length_cons]
    show min 1 (xs.length + 1) = 1
    omega
  rw [h1]
  show (xs.map V.str).take (((x :: xs).map V.str).length - 1) = _
  rw [List.length_map, List.length_cons, Nat.add_sub_cancel]
  exact List.take_of_length_le (by rw [List.length_map]; omega)
def spSigns (K : PySem.W.Frag) : Sp := fun vs H Q _ => ∃ x y : Str, vs = [.str x, .str y] ∧ (∀ c ∈ TL.tl x, c ∈ TL.tl y) ∧ x.length ≤ 1000 ∧ ∀ H', Same H H' → Q (.bl true) H'
theorem ok_are_signs (T : Tx K mg) : FnOk P w K mg base CX0 1 T.a_are_signs T.d_are_signs ["text", "signs"] (spSigns K) := by
  refine T.F_are_signs.ok sc_are_signs (fun vs H Q E h => ?_) (fun cdv A outer s H vs Q E hr h => ?_)
  · obtain ⟨x, y, rfl, _⟩ := h
    rfl
  · obtain ⟨x, y, rfl, hx, hl, q⟩ := h
    refine ⟨_, ((pss_one (ps_ret (pe_callB (cr_all rfl) (by rfl) T.m_all (by decide +kernel) (pa_cons (pe_lc (own := [("sign", 2)]) (g := (gName 2)) (tt := tYes) rfl sc_are_signs.nd (pi_str (pv 0)) (blkOk_by (own := [("sign", 2)]) (N := ["text", "signs", "sign"]) (sc := defScope s_are_signs) (by decide +kernel)) (fun _ _ _ _ _ => pg_name (i := 2) sc_are_signs.nd rfl (.inl rfl)) (fun _ _ _ _ _ => pts_nil) (fun _ _ _ _ _ => (pe_cmpR op_inS (pv 2) (pv 1) (by rfl)))) pa_nil))))), ?_⟩
    refine ⟨.str x, rfl, x, rfl, fun D hD => lc_it (walk_str (z := x)) (fun i H' => Same H H' ∧ H' D = some (.lst ((List.replicate i true).map V.bl)))
      ⟨same_upd hD, upd_same⟩ (fun _ _ _ _ => trivial) (fun i v H1 H2 hi p y => ?_) (fun H' p => ?_)⟩
    · obtain ⟨sm, eD⟩ := p
      obtain ⟨rfl, c, hc, rfl⟩ := y
      have hm : c ∈ y.cps.toList := hx c (Array.mem_toList_iff.mpr (Array.mem_of_getElem? hc))
      have hi' : i < x.length := hi
      refine ⟨rfl, .str ⟨#[c]⟩, rfl, .str y, rfl, c, y, rfl, rfl, ?_⟩
      rw [decide_eq_true hm]
      refine ⟨_, eD, by rw [List.length_map, List.length_replicate]; exact small1000 (by omega), same_put sm hD, ?_⟩
      rw [upd_same, List.replicate_succ', List.map_append]
      rfl
    · obtain ⟨sm, eD⟩ := p
      refine ⟨D, _, rfl, SqL.of eD, ?_⟩
      rw [show (List.replicate x.cps.size true).all id = true from List.all_eq_true.mpr fun b hb => (List.mem_replicate.mp hb).2]
      exact q H' sm
def spNumeral (K : PySem.W.Frag) : Sp := fun vs H Q _ => ∃ n : Int, vs = [.str (TxM.num n)] ∧ 0 ≤ n ∧ n < 10 ^ 9 ∧ ∀ H', Same H H' → Q (.bl true) H'
theorem ok_is_numeral (T : Tx K mg) : FnOk P w K mg base CX0 2 T.a_is_numeral T.d_is_numeral ["word"] (spNumeral K) := by
  refine T.F_is_numeral.ok sc_is_numeral (fun vs H Q E h => ?_) (fun cdv A outer s H vs Q E hr h => ?_)
  · obtain ⟨n, rfl, _⟩ := h
    rfl
  · obtain ⟨n, rfl, n0, n9, q⟩ := h
    refine ⟨_, ((pss_cons (ps_if (PW.pt (pw_or (pt_not (pt_chain op_le op_le pe_int (pe_callB call_len_str (by rfl) T.m_len PySem.boot_len (pa_cons (pv 0) pa_nil)) (pe_glob (v := .int 9) rfl T.g_MOST_FIGURES ⟨_, rfl⟩))) (pw_or1 (pt_not (pt_val (pe_call (ok_are_signs T) (hr.mono (by decide)) (by rfl) T.g_are_signs T.F_are_signs.kp T.b_are_signs .nil pass0 (pa_cons (pv 0) (pa_cons (pe_glob (v := .str "0123456789") rfl T.g_FIGURES ⟨_, rfl⟩) pa_nil)))))))) (pss_one (ps_ret pe_bl)) pss_nil)
  (pss_one (ps_ret (pe_or (pe_cmpR op_eq (pv 0) pe_str (nomark _)) (pe_one (pe_cmpR op_ne (pe_ix ix_str (pv 0) pe_int (fun _ _ => rfl)) pe_str (nomark _)))))))), ?_⟩
    obtain ⟨l1, l9⟩ := TxM.num_len n0 n9
    have szl : sizeLine = 16777216 := sizeLine_eq
    refine ⟨.str (TxM.num n), rfl, TxM.num n, rfl, by rw [szl]; omega, _, _, rfl, rfl, true, congrArg V.bl (decide_eq_true (by omega)), iteT ?_⟩
    refine ⟨_, _, rfl, rfl, true, congrArg V.bl (decide_eq_true (by omega)), iteF ?_⟩
    refine ⟨.str (TxM.num n), rfl, TxM.num n, "0123456789", rfl, fun c hc => ?_, by omega, fun H1 s1 => ⟨true, rfl, iteF ?_⟩⟩
    · rw [TxM.tl_num' n0] at hc
      have := TL.numL_digits n.toNat c hc
      rw [show TL.tl ("0123456789" : Str) = [48, 49, 50, 51, 52, 53, 54, 55, 56, 57] by decide +kernel]
      simp only [List.mem_cons, List.not_mem_nil, or_false]
      omega
    by_cases e : TxM.num n = "0"
    · refine ⟨.str (TxM.num n), rfl, rfl, true, congrArg V.bl (decide_eq_true (congrArg V.str e)), iteT ?_⟩
      exact q H1 s1
    · refine ⟨.str (TxM.num n), rfl, rfl, false, congrArg V.bl (decide_eq_false fun z => e (V.str.inj z)), iteF ?_⟩
      obtain ⟨c, hc⟩ : ∃ c, (TL.numL n.toNat)[0]? = some c := by
        cases h : TL.numL n.toNat with
        | nil => exact absurd h (TL.numL_ne _)
        | cons c r => exact ⟨c, rfl⟩
      have hc48 : c ≠ 48 := fun z => by
        subst z
        have := TxM.numL_head n.toNat hc
        have h0 : n = 0 := by omega
        subst h0
        exact e (by decide +kernel)
      have hat : atI (TxM.num n).cps.toList 0 = some c := by
        have : (TL.tl (TxM.num n))[0]? = some c := by rw [TxM.tl_num' n0]; exact hc
        exact atI_nat (j := 0) this
      refine ⟨.str (TxM.num n), rfl, TxM.num n, 0, c, rfl, rfl, by rw [szl]; omega, hat, rfl, ?_⟩
      rw [decide_eq_false (fun z => hc48 (by
        have h1 := congrArg TL.tl (V.str.inj z)
        rw [show TL.tl ("0" : Str) = [48] by decide +kernel] at h1
        injection h1))]
      exact q H1 s1
def spNumsOf (K : PySem.W.Frag) : Sp := fun vs H Q _ => ∃ (a : Addr) (ns : List Int), vs = [.ref a] ∧ H a = some (.lst ((ns.map TxM.num).map V.str)) ∧ (∀ n ∈ ns, 0 ≤ n ∧ n < 10 ^ 9) ∧ ns.length ≤ 1000 ∧ ∀ p H', H p = none → Same H H' → H' p = some (.tup (ns.map V.int)) → Q (.ref p) H'
theorem ok_numbers_of (T : Tx K mg) : FnOk P w K mg base CX0 3 T.a_numbers_of T.d_numbers_of ["words"] (spNumsOf K) := by
  refine T.F_numbers_of.ok sc_numbers_of (fun vs H Q E h => ?_) (fun cdv A outer s H vs Q E hr h => ?_)
  · obtain ⟨a, ns, rfl, _⟩ := h
    rfl
  · obtain ⟨a, ns, rfl, hS, hb, hl, q⟩ := h
    refine ⟨_, ((pss_cons (ps_if (pt_not (pt_val (pe_callB (cr_all rfl) (by rfl) T.m_all (by decide +kernel) (pa_cons (pe_lc (own := [("word", 1)]) (g := (gName 1)) (tt := tYes) rfl sc_numbers_of.nd (pi_list (pv 0)) (blkOk_by (own := [("word", 1)]) (N := ["words", "word"]) (sc := defScope s_numbers_of) (by decide +kernel)) (fun _ _ _ _ _ => pg_name (i := 1) sc_numbers_of.nd rfl (.inl rfl)) (fun _ _ _ _ _ => pts_nil) (fun _ _ _ _ _ => (pe_call (ok_is_numeral T) (hr.mono (by decide)) (by rfl) T.g_is_numeral T.F_is_numeral.kp T.b_is_numeral .nil pass0 (pa_cons (pv 1) pa_nil)))) pa_nil)))) (pss_one (ps_ret pe_non)) pss_nil)
  (pss_one (ps_ret (pe_callTy call_tuple_of (by rfl) T.m_tuple (by decide +kernel) (pa_cons (pe_lc (own := [("word", 1)]) (g := (gName 1)) (tt := tYes) rfl sc_numbers_of.nd (pi_list (pv 0)) (blkOk_by (own := [("word", 1)]) (N := ["words", "word"]) (sc := defScope s_numbers_of) (by decide +kernel)) (fun _ _ _ _ _ => pg_name (i := 1) sc_numbers_of.nd rfl (.inl rfl)) (fun _ _ _ _ _ => pts_nil) (fun _ _ _ _ _ => (pe_callTy call_int_str (by rfl) T.m_int (by decide +kernel) (pa_cons (pv 1) pa_nil)))) pa_nil)))))), ?_⟩
    have hat : ∀ {i : Nat} {v : V}, ((ns.map TxM.num).map V.str)[i]? = some v → ∃ n, ns[i]? = some n ∧ v = .str (TxM.num n) ∧ (0 ≤ n ∧ n < 10 ^ 9) ∧ i < ns.length := fun {i v} h => by
      rw [List.getElem?_map, List.getElem?_map] at h
      obtain ⟨x, h1, rfl⟩ := Option.map_eq_some_iff.mp h
      obtain ⟨n, h2, rfl⟩ := Option.map_eq_some_iff.mp h1
      exact ⟨n, h2, rfl, hb n (List.mem_of_getElem? h2), (List.getElem?_eq_some_iff.mp h2).1⟩
    refine ⟨.ref a, rfl, a, rfl, ⟨_, SqL.of hS⟩, fun D hD => lc_list (K := K) (a := a) (xs := (ns.map TxM.num).map V.str)
      (fun i H' => Same H H' ∧ H' D = some (.lst ((List.replicate i true).map V.bl)))
      ⟨same_upd hD, upd_same⟩ (fun i H' _ p => SqL.of (p.1 _ _ hS)) (fun i v H' hv p => ?_) (fun H' p => ?_)⟩
    · obtain ⟨sm, eD⟩ := p
      obtain ⟨n, hn, rfl, bn, hi⟩ := hat hv
      refine ⟨rfl, .str (TxM.num n), rfl, n, rfl, bn.1, bn.2, fun H2 s2 => ⟨_, s2 _ _ eD, by rw [List.length_map, List.length_replicate]; exact small1000 (by omega), same_put (sm.trans s2) hD, ?_⟩⟩
      rw [upd_same, List.replicate_succ', List.map_append]
      rfl
    · obtain ⟨sm, eD⟩ := p
      refine ⟨D, _, rfl, SqL.of eD, true, congrArg V.bl (List.all_eq_true.mpr fun b hb => (List.mem_replicate.mp hb).2), iteF ?_⟩
      refine ⟨.ref a, rfl, a, rfl, ⟨_, SqL.of (sm _ _ hS)⟩, fun E hE => lc_list (K := K) (a := a) (xs := (ns.map TxM.num).map V.str)
        (fun i H2 => Same H' H2 ∧ H2 E = some (.lst ((ns.take i).map V.int)))
        ⟨same_upd hE, upd_same⟩ (fun i H2 _ p => SqL.of (p.1 _ _ (sm _ _ hS))) (fun i v H2 hv p => ?_) (fun H2 p => ?_)⟩
      · obtain ⟨sm2, eE⟩ := p
        obtain ⟨n, hn, rfl, bn, hi⟩ := hat hv
        refine ⟨rfl, .str (TxM.num n), rfl, TxM.num n, n, rfl, TxM.num_text bn.1 bn.2, by have := (TxM.num_len bn.1 bn.2).2; omega, _, eE, by rw [List.length_map, List.length_take]; exact small1000 (by omega), same_put sm2 hE, ?_⟩
        rw [upd_same, take_snoc hn, List.map_append]
        rfl
      · obtain ⟨sm2, eE⟩ := p
        rw [List.length_map, List.length_map, List.take_length] at eE
        have s12 := sm.trans sm2
        exact ⟨E, _, rfl, .inl ⟨SqL.of eE, fun p np => q p _ (none_back s12 np) (s12.trans (same_upd np)) upd_same⟩⟩
def spLinesOf (K : PySem.W.Frag) : Sp := fun vs H Q _ => ∃ (ls : List Int) (rs : List (List Int)), vs = [.str (TxM.text ls rs)] ∧ (∀ n ∈ ls, 0 ≤ n) ∧ (∀ r ∈ rs, ∀ n ∈ r, 0 ≤ n) ∧ rs.length ≤ 60 ∧ (TxM.text ls rs).length ≤ 100000 ∧
  ∀ p L H', Same H H' → H' L = some (.lst ((TxM.lines ls rs).map V.str)) → H' p = some (.tup [.ref L, .str ""]) → Q (.ref p) H'
theorem ok_lines_of (T : Tx K mg) : FnOk P w K mg base CX0 2 T.a_lines_of T.d_lines_of ["text"] (spLinesOf K) := by
  refine T.F_lines_of.ok sc_lines_of (fun vs H Q E h => ?_) (fun cdv A outer s H vs Q E hr h => ?_)
  · obtain ⟨ls, rs, rfl, _⟩ := h
    rfl
  · obtain ⟨ls, rs, rfl, h1, h2, h60, hz, q⟩ := h
    refine ⟨_, ((pss_cons (ps_if (pt_not (pt_val (pe_callB call_isi (by rfl) T.m_isinstance (by decide +kernel) (pa_cons (pv 0) (pa_cons (pe_bltn (v := .ty "str") (by rfl) T.m_str (by decide +kernel) rfl) pa_nil))))) (pss_one ps_never) pss_nil)
  (pss_cons (ps_set (i := 1) sc_lines_of.nd rfl (.inl rfl) (pe_split (pv 0) pe_str))
  (pss_one (ps_ret (pe_tup (pa_cons (pe_slice sl_list (pv 1) po_none (po_some (pe_un un_neg pe_int))) (pa_cons (pe_ix ix_list (pv 1) (pe_un un_neg pe_int) (fun _ _ => rfl)) pa_nil)))))))), ?_⟩
    have szl : sizeLine = 16777216 := sizeLine_eq
    refine ⟨.str (TxM.text ls rs), rfl, .str (TxM.text ls rs), .ty "str", _, _, true, rfl, .ty _, (show TyX K H (.str (TxM.text ls rs)) (.type "str") from (RO9.Od.str (K := K) (H := H) _).ty), kit_ty (by decide +kernel), true, rfl, iteF ?_⟩
    refine ⟨.str (TxM.text ls rs), rfl, ⟨_, rfl⟩, _, _, rfl, rfl, by decide +kernel, by rw [szl]; omega, fun D nD => ?_⟩
    rw [TxM.text_split h1 h2]
    have sD := same_upd (o := .lst ((TxM.lines ls rs ++ [("" : Str)]).map V.str)) nD
    have eD : upd H D (.lst ((TxM.lines ls rs ++ [("" : Str)]).map V.str)) D = some (.lst ((TxM.lines ls rs ++ [("" : Str)]).map V.str)) := upd_same
    generalize upd H D (.lst ((TxM.lines ls rs ++ [("" : Str)]).map V.str)) = H1 at *
    refine ⟨.ref D, rfl, 1, rfl, -1, rfl, D, _, rfl, SqL.of eD, fun L nL => ?_⟩
    rw [cut_last]
    have sL := same_upd (o := .lst ((TxM.lines ls rs).map V.str)) nL
    have eL : upd H1 L (.lst ((TxM.lines ls rs).map V.str)) L = some (.lst ((TxM.lines ls rs).map V.str)) := upd_same
    generalize upd H1 L (.lst ((TxM.lines ls rs).map V.str)) = H2 at *
    refine ⟨.ref D, rfl, 1, rfl, D, _, -1, .str "", rfl, rfl, SqL.of (sL _ _ eD), by rw [List.map_append]; exact atI_last _ _, by show 2 ≤ sizeLine; decide, fun p np => ?_⟩
    exact q p L _ ((sD.trans sL).trans (same_upd np)) (same_upd np _ _ eL) upd_same
def spBehind (K : PySem.W.Frag) : Sp := fun vs H Q _ => ∃ (head : Str) (ns : List Int), vs = [.str head, .str (TxM.line head ns)] ∧ 32 ∉ TL.tl head ∧ ns ≠ [] ∧ (∀ n ∈ ns, 0 ≤ n ∧ n < 10 ^ 9) ∧ ns.length ≤ 100 ∧ head.length ≤ 100 ∧
  ∀ p H', Same H H' → H' p = some (.tup (ns.map V.int)) → Q (.ref p) H'
theorem ok_numbers_behind (T : Tx K mg) : FnOk P w K mg base CX0 4 T.a_numbers_behind T.d_numbers_behind ["head", "line"] (spBehind K) := by
  refine T.F_numbers_behind.ok sc_numbers_behind (fun vs H Q E h => ?_) (fun cdv A outer s H vs Q E hr h => ?_)
  · obtain ⟨head, ns, rfl, _⟩ := h
    rfl
  · obtain ⟨head, ns, rfl, hh, hne, hb, hl, hz, q⟩ := h
    refine ⟨_, ((pss_cons (ps_set (i := 2) sc_numbers_behind.nd rfl (.inl rfl) (pe_split (pv 1) pe_str))
  (pss_cons (ps_if (PW.pt (pw_or (pt_cmpR op_ne (pe_ix ix_list (pv 2) pe_int (fun _ _ => rfl)) (pv 0) (nomark _)) (pw_or1 (pt_cmpR op_eq (pe_callB call_len_seq (by rfl) T.m_len PySem.boot_len (pa_cons (pv 2) pa_nil)) pe_int (nomark _))))) (pss_one (ps_ret pe_non)) pss_nil)
  (pss_one (ps_ret (pe_call (ok_numbers_of T) (hr.mono (by decide)) (by rfl) T.g_numbers_of T.F_numbers_of.kp T.b_numbers_of .nil pass0 (pa_cons (pe_slice sl_list (pv 2) (po_some pe_int) po_none) pa_nil))))))), ?_⟩
    have szl : sizeLine = 16777216 := sizeLine_eq
    have hbl := TxM.blanks_len hb
    refine ⟨.str (TxM.line head ns), rfl, ⟨_, rfl⟩, _, _, rfl, rfl, by decide +kernel, ?_, fun D nD => ?_⟩
    · unfold TxM.line
      have e1 : (Str.ofString " ").length = 1 := by decide +kernel
      rw [TxM.app_len, TxM.app_len, e1, szl]
      omega
    rw [TxM.line_split hne hh fun n hn => (hb n hn).1]
    have sD := same_upd (o := .lst ((head :: ns.map TxM.num).map V.str)) nD
    have eD : upd H D (.lst ((head :: ns.map TxM.num).map V.str)) D = some (.lst ((head :: ns.map TxM.num).map V.str)) := upd_same
    generalize upd H D (.lst ((head :: ns.map TxM.num).map V.str)) = H1 at *
    have hlen : ns.length ≠ 0 := fun z => hne (List.eq_nil_of_length_eq_zero z)
    refine ⟨.ref D, rfl, D, _, 0, .str head, rfl, rfl, SqL.of eD, atI_nat (j := 0) rfl, .str head, rfl, rfl, false, by rw [decide_eq_true rfl]; rfl, iteF ?_⟩
    refine ⟨.ref D, rfl, D, _, rfl, .inl (SqL.of eD), rfl, false, congrArg V.bl (decide_eq_false fun z => ?_), iteF ?_⟩
    · have := V.int.inj z
      rw [List.length_map, List.length_cons, List.length_map] at this
      omega
    refine ⟨.ref D, rfl, 1, rfl, D, _, rfl, SqL.of eD, fun L nL => ?_⟩
    rw [cut_tail]
    have sL := same_upd (o := .lst ((ns.map TxM.num).map V.str)) nL
    have eL : upd H1 L (.lst ((ns.map TxM.num).map V.str)) L = some (.lst ((ns.map TxM.num).map V.str)) := upd_same
    generalize upd H1 L (.lst ((ns.map TxM.num).map V.str)) = H2 at *
    exact ⟨L, ns, rfl, eL, hb, by omega, fun p H3 np s3 ep => q p H3 ((sD.trans sL).trans s3) ep⟩
end

/-! ### a table of its text -/
section
variable {P : Program} {w : World} {K : PySem.W.Frag} {mg : Str → Option Value} {base : Heap}
theorem rows_full {ls : List Int} {rs : List (List Int)} (R : Tb.Right ls rs) : ∀ r ∈ rs, r ≠ [] := fun r hr e => by
  obtain ⟨i, hi⟩ := List.mem_iff_getElem?.mp hr
  obtain ⟨_, _, h⟩ := R.2.2.2 i r hi
  subst e
  have : Tb.rsum ls [] = 0 := rfl
  omega
theorem loops_full {ls : List Int} {rs : List (List Int)} (R : Tb.Right ls rs) : ls ≠ [] := fun e => by
  have := R.1.1
  subst e
  exact absurd this (by decide)
/-- the numbers of the lines of a table's text -/
def allNums (ls : List Int) (rs : List (List Int)) : List (List Int) := ls :: rs
def headOf : Nat → Str
  | 0 => "loops"
  | i + 1 => TxM.mark i
theorem lines_at {ls : List Int} {rs : List (List Int)} {i : Nat} {z : Str} (h : (TxM.lines ls rs)[i]? = some z) : ∃ ns, (allNums ls rs)[i]? = some ns ∧ z = TxM.line (headOf i) ns := by
  cases i with
  | zero =>
    cases h
    exact ⟨ls, rfl, rfl⟩
  | succ i =>
    have h : (TxM.rowLines 0 rs)[i]? = some z := h
    rw [TxM.rowLines_at, Nat.zero_add] at h
    obtain ⟨r, hr, rfl⟩ := Option.map_eq_some_iff.mp h
    exact ⟨r, hr, rfl⟩
theorem cut_tailV {x : V} {xs : List V} : cutV (x :: xs) (some 1) none = xs := by
  unfold cutV
  have h1 : HT.sIx (x :: xs).length 0 (some 1) = 1 := by
    show (if (1 : Int) < 0 then ((1 : Int) + ((x :: xs).length : Int)).toNat else min (1 : Int).toNat (x :: xs).length) = 1
    rw [if_neg (by decide), List.length_cons]
    show min 1 (xs.length + 1) = 1
    omega
  rw [h1]
  show xs.take ((x :: xs).length - 1) = _
  rw [List.length_cons, Nat.add_sub_cancel]
  exact List.take_of_length_le (Nat.le_refl _)
theorem head_str (i : Nat) : (Str.empty ++ Str.ofString (toString ((i : Int) + 1))) ++ Str.ofString ":" = headOf (i + 1) := by
  refine TL.ext_tl ?_
  show _ = TL.tl (TxM.num ((i : Int) + 1) ++ ":")
  simp only [TL.tl_append]
  rw [show TL.tl Str.empty = [] by rfl, List.nil_append]
  rfl
theorem head_free (i : Nat) : 32 ∉ TL.tl (headOf i) := by
  cases i with
  | zero => exact TxM.loops_free (by decide)
  | succ i => exact TxM.mark_free (.inl (by decide))
theorem head_len {i : Nat} (h : i ≤ 60) : (headOf i).length ≤ 100 := by
  cases i with
  | zero =>
    show ("loops" : Str).length ≤ 100
    decide +kernel
  | succ i =>
    show (TxM.num ((i : Int) + 1) ++ ":").length ≤ 100
    have := (TxM.num_len (i := (i : Int) + 1) (by omega) (by omega)).2
    have e1 : (":" : Str).length = 1 := by decide +kernel
    rw [TxM.app_len, e1]
    omega
def spReadT (K : PySem.W.Frag) (C : Addr) : Sp := fun vs H Q _ => ∃ (ls : List Int) (rs : List (List Int)), vs = [.str (TxM.text ls rs)] ∧ Tb.Right ls rs ∧ ∀ x H', Same H H' → TabAt K C H' x ls rs → Q (.ref x) H'
theorem ok_read_table (T : Tx K mg) : FnOk P w K mg base CX0 7 T.a_read_table T.d_read_table ["text"] (spReadT K T.c_Table) := by
  refine T.F_read_table.ok sc_read_table (fun vs H Q E h => ?_) (fun cdv A outer s H vs Q E hr h => ?_)
  · obtain ⟨ls, rs, rfl, _⟩ := h
    rfl
  · obtain ⟨ls, rs, rfl, R, q⟩ := h
    refine ⟨_, ((pss_cons (ps_asg (pe_call (ok_lines_of T) (hr.mono (by decide)) (by rfl) T.g_lines_of T.F_lines_of.kp T.b_lines_of .nil pass0 (pa_cons (pv 0) pa_nil)) (pg_tup rfl (pgs_cons (pg_name (i := 1) sc_read_table.nd rfl (.inl rfl)) (pgs_cons (pg_name (i := 2) sc_read_table.nd rfl (.inl rfl)) pgs_nil))))
  (pss_cons (ps_set (i := 3) sc_read_table.nd rfl (.inl rfl) (pe_lst pa_nil))
  (pss_cons (ps_for PassesOwn.never rfl (pi_enum (by rfl) T.m_enumerate (pa_cons (pv 1) pa_nil)) (pg_tup rfl (pgs_cons (pg_name (i := 4) sc_read_table.nd rfl (.inl rfl)) (pgs_cons (pg_name (i := 5) sc_read_table.nd rfl (.inl rfl)) pgs_nil)))
   (pss_cons (ps_set (i := 6) sc_read_table.nd rfl (.inl rfl) (pe_call (ok_numbers_behind T) (hr.mono (by decide)) (by rfl) T.g_numbers_behind T.F_numbers_behind.kp T.b_numbers_behind .nil pass0 (pa_cons (pe_ifExp (pt_cmpR op_eq (pv 4) pe_int (nomark _)) pe_str (pe_joined (.cons (pe_fmt (pv 4)) (.cons pe_str .nil)))) (pa_cons (pv 5) pa_nil))))
  (pss_cons (ps_if (pt_cmpR op_isN (pv 6) pe_non (nomark _)) (pss_one ps_never) pss_nil)
  (pss_one (ps_expr (pe_bm PySem.F.plainAttrs_list PySem.F.slot_list_append PySem.F.type_list_append mt_append (pv 3) (pa_cons (pv 6) pa_nil)))))))
  (pss_cons (ps_if (PW.pt (pw_or (pt_truth (pv 2) (by intro _; rfl)) (pw_or1 (pt_cmpR op_lt (pe_callB call_len_seq (by rfl) T.m_len PySem.boot_len (pa_cons (pv 3) pa_nil)) pe_int (nomark _))))) (pss_one ps_never) pss_nil)
  (pss_one (ps_ret (pe_make T.mk_Table (ok_Table___init__ T) (hr.mono (by decide)) (by rfl) T.g_Table T.b_Table___init__ .nil pass0 (pa_cons (pe_ix ix_list (pv 3) pe_int (fun _ _ => rfl)) (pa_cons (pe_callTy call_tuple_of (by rfl) T.m_tuple (by decide +kernel) (pa_cons (pe_slice sl_list (pv 3) (po_some pe_int) po_none) pa_nil)) pa_nil)))))))))), ?_⟩
    have h60 := R.2.2.1
    have nl := nums_of R.1
    have nr : ∀ r ∈ rs, ∀ n ∈ r, 0 ≤ n ∧ n < 10 ^ 9 := fun r hr => by
      obtain ⟨i, hi⟩ := List.mem_iff_getElem?.mp hr
      exact nums_row R.1 (R.2.2.2 i r hi).1
    have l60 : ∀ r ∈ rs, r.length ≤ 60 := fun r hr => by
      obtain ⟨i, hi⟩ := List.mem_iff_getElem?.mp hr
      exact (R.2.2.2 i r hi).2.1
    have htz : (TxM.text ls rs).length ≤ 100000 := by
      have := text_size R rs.length
      rw [List.take_length] at this
      omega
    refine ⟨.str (TxM.text ls rs), rfl, ls, rs, rfl, fun n hn => (nl n hn).1, fun r hr n hn => (nr r hr n hn).1, h60, htz, fun p L H1 s1 eL ep => ?_⟩
    refine ⟨p, _, rfl, SqT.of ep, rfl, _, [_], rfl, _, [], rfl, rfl, ?_⟩
    refine ⟨Nat.zero_le _, fun F nF => ?_⟩
    have sF := same_upd (o := .lst []) nF
    have eF : upd H1 F (.lst []) F = some (.lst []) := upd_same
    generalize upd H1 F (.lst []) = H2 at *
    have szl : sizeLine = 16777216 := sizeLine_eq
    have zl : (TxM.lines ls rs).length = rs.length + 1 := by
      show (TxM.rowLines 0 rs).length + 1 = _
      rw [TxM.rowLines_len]
    have eL2 := sF _ _ eL
    refine ⟨.ref L, rfl, L, _, rfl, SqL.of eL2, for_it (walk_enum (K := K) (a := L) (xs := (TxM.lines ls rs).map V.str))
      (fun i σ H' => ∃ (y4 y5 y6 : Option V) (ps : List Addr), σ = [some (.str (TxM.text ls rs)), some (.ref L), some (.str ""), some (.ref F), y4, y5, y6] ∧ Same H1 H' ∧ H' F = some (.lst (ps.map V.ref)) ∧ Tups fI H' ps ((allNums ls rs).take i))
      ⟨_, _, _, [], rfl, sF, eF, .nil⟩ (fun i σ H' _ h => ?_) (fun i v σ H' H'' hi h y => ?_) (fun σ H' h => ?_)⟩
    · obtain ⟨_, _, _, _, _, sm, _⟩ := h
      exact SqL.of (sm _ _ eL)
    · obtain ⟨y4, y5, y6, ps, rfl, sm, eF', tu⟩ := h
      obtain ⟨X, a, b, rfl, nX, rfl, ha, hb⟩ := y
      cases Option.some.inj ha
      have hb : ((TxM.lines ls rs).map V.str)[i]? = some b := hb
      rw [List.getElem?_map] at hb
      obtain ⟨z, hz, rfl⟩ := Option.map_eq_some_iff.mp hb
      obtain ⟨ns, hns, rfl⟩ := lines_at hz
      have hi60 : i ≤ 60 := by
        rw [List.length_map, zl] at hi
        omega
      have bns : (ns ≠ [] ∧ ns.length ≤ 100) ∧ ∀ n ∈ ns, 0 ≤ n ∧ n < 10 ^ 9 := by
        cases i with
        | zero =>
          cases hns
          exact ⟨⟨loops_full R, by have := R.1.2.1; omega⟩, nl⟩
        | succ i =>
          have hm := List.mem_of_getElem? (show rs[i]? = some ns from hns)
          exact ⟨⟨rows_full R ns hm, by have := l60 ns hm; omega⟩, nr ns hm⟩
      have sX := same_upd (o := .tup [.int (i : Nat), .str (TxM.line (headOf i) ns)]) nX
      have smX := sm.trans sX
      have eFX := sX _ _ eF'
      refine ⟨X, _, rfl, SqT.of upd_same, rfl, _, [_], rfl, _, [], rfl, rfl, ?_⟩
      have el : ((allNums ls rs).take i).length = i := by
        have := (List.getElem?_eq_some_iff.mp hns).1
        rw [List.length_take]
        omega
      have zp : ps.length = i := by rw [tu.length, el]
      generalize hX : upd H' X (.tup [.int (i : Nat), .str (TxM.line (headOf i) ns)]) = H3 at *
      cases i with
      | zero =>
        refine ⟨.int 0, rfl, rfl, true, congrArg V.bl (decide_eq_true rfl), iteT ⟨_, rfl, _, ns, rfl, head_free 0, bns.1.1, bns.2, bns.1.2, head_len (i := 0) (by decide), fun p' H4 s4 ep' => ?_⟩⟩
        refine ⟨.ref p', rfl, rfl, false, congrArg V.bl (decide_eq_false fun z => by cases z), iteF ?_⟩
        have sm4 := smX.trans s4
        refine ⟨.ref F, rfl, .inl ⟨rfl, _, SqL.of (s4 _ _ eFX)⟩, .ref p', rfl, F, _, .ref p', rfl, rfl, s4 _ _ eFX, by rw [List.length_map]; exact small2000 (by omega), ?_⟩
        refine ⟨_, _, _, ps ++ [p'], rfl, fun b' o e => ?_, by rw [upd_same, List.map_append]; rfl, ?_⟩
        · rw [upd_ne (ne_of_none e nF)]
          exact sm4 _ _ e
        · rw [take_snoc hns]
          exact ((tu.same (sX.trans s4)).snoc (x := ns) ep').put (s4 _ _ eFX)
      | succ i =>
        refine ⟨.int ((i + 1 : Nat) : Int), rfl, rfl, false, congrArg V.bl (decide_eq_false fun z => by have := V.int.inj z; omega), iteF ⟨_, rfl, .inr ⟨_, rfl, TxM.log_lt (by omega) (by omega), _, rfl, ?_, _, rfl, ?_, _, rfl, headOf (i + 1), ns, ?_, head_free _, bns.1.1, bns.2, bns.1.2, head_len (by omega), fun p' H4 s4 ep' => ?_⟩⟩⟩
        · have h9 := (TxM.num_len (i := (i : Int) + 1) (by omega) (by omega)).2
          show (Str.empty ++ TxM.num ((i : Int) + 1)).length ≤ sizeLine
          rw [TxM.app_len, szl, show (Str.empty : Str).length = 0 from rfl]
          omega
        · have h9 := (TxM.num_len (i := (i : Int) + 1) (by omega) (by omega)).2
          show ((Str.empty ++ TxM.num ((i : Int) + 1)) ++ Str.ofString ":").length ≤ sizeLine
          rw [TxM.app_len, TxM.app_len, szl, show (Str.empty : Str).length = 0 from rfl, show (Str.ofString ":").length = 1 by decide +kernel]
          omega
        · exact congrArg (fun z => [V.str z, V.str (TxM.line (headOf (i + 1)) ns)]) (head_str i)
        refine ⟨.ref p', rfl, rfl, false, congrArg V.bl (decide_eq_false fun z => by cases z), iteF ?_⟩
        have sm4 := smX.trans s4
        refine ⟨.ref F, rfl, .inl ⟨rfl, _, SqL.of (s4 _ _ eFX)⟩, .ref p', rfl, F, _, .ref p', rfl, rfl, s4 _ _ eFX, by rw [List.length_map]; exact small2000 (by omega), ?_⟩
        refine ⟨_, _, _, ps ++ [p'], rfl, fun b' o e => ?_, by rw [upd_same, List.map_append]; rfl, ?_⟩
        · rw [upd_ne (ne_of_none e nF)]
          exact sm4 _ _ e
        · rw [take_snoc hns]
          exact ((tu.same (sX.trans s4)).snoc (x := ns) ep').put (s4 _ _ eFX)
    · obtain ⟨y4, y5, y6, ps, rfl, sm, eF', tu⟩ := h
      rw [show (allNums ls rs).take ((TxM.lines ls rs).map V.str).length = ls :: rs by
        rw [List.length_map, zl]
        exact List.take_of_length_le (Nat.le_refl _)] at tu
      have zp := tu.length
      cases tu with
      | @cons a0 _ ps' _ e0 tu =>
      refine ⟨.str "", rfl, false, ⟨by rw [szl]; decide +kernel, by decide +kernel⟩, iteF ?_⟩
      refine ⟨.ref F, rfl, F, _, rfl, .inl (SqL.of eF'), _, _, rfl, rfl, false, congrArg V.bl (decide_eq_false (by
        rw [List.length_map, zp]
        show ¬ ((rs.length + 1 : Nat) : Int) < 2
        have := R.2.1
        omega)), iteF ?_⟩
      refine ⟨.ref F, rfl, F, _, 0, .ref a0, rfl, rfl, SqL.of eF', atI_nat (j := 0) rfl, .ref F, rfl, 1, rfl, F, _, rfl, SqL.of eF', fun S nS => ?_⟩
      rw [show cutV ((a0 :: ps').map V.ref) (some 1) none = ps'.map V.ref from cut_tailV]
      have sS := same_upd (o := .lst (ps'.map V.ref)) nS
      refine ⟨S, _, rfl, .inl ⟨SqL.of upd_same, fun B nB => ?_⟩⟩
      have sB := same_upd (o := .tup (ps'.map V.ref)) nB
      have sSB := sS.trans sB
      have eB : upd (upd H' S (.lst (ps'.map V.ref))) B (.tup (ps'.map V.ref)) B = some (.tup (ps'.map V.ref)) := upd_same
      generalize upd (upd H' S (.lst (ps'.map V.ref))) B (.tup (ps'.map V.ref)) = H5 at *
      have e05 := sSB _ _ e0
      have tu5 := tu.same sSB
      refine fun x dx nx ndx nex => ?_
      have sx : Same H5 (upd (upd H5 dx (.own x)) x (.ins T.c_Table dx [])) := fun b o e => by
        rw [upd_ne (ne_of_none e nx), upd_ne (ne_of_none e ndx)]
        exact e
      refine ⟨x, dx, a0, B, ls, ps', rs, rfl, upd_same, SqT.of (sx _ _ e05), SqT.of (sx _ _ eB), tu5.same sx, R, fun H6 kp6 ep6 => ⟨rfl, ?_⟩⟩
      have s6 : Same H5 H6 := fun b o e => kp6 b o (ne_of_none e nx) (sx b o e)
      exact q x H6 (s1.trans ((sm.trans sSB).trans s6)) ⟨dx, a0, B, ps', ep6, SqT.of (s6 _ _ e05), SqT.of (s6 _ _ eB), tu5.same s6⟩
end

/-! ### drawn loops and rows, written by the law -/
theorem iteB {b : Bool} {A B : Prop} (h1 : b = true → A) (h2 : b = false → B) : if b = true then A else B := by
  cases b with
  | true => exact iteT (h1 rfl)
  | false => exact iteF (h2 rfl)
theorem good_set {ns : List Int} {j : Nat} {x : Int} (g : Rch.Good ns) (h1 : 1 ≤ x) (h2 : x ≤ 40) : Rch.Good (ns.set j x) := ⟨by rw [List.length_set]; exact g.1, by rw [List.length_set]; exact g.2.1, fun n hn => by
  rcases List.mem_or_eq_of_mem_set hn with hn | hn
  · exact g.2.2 n hn
  · rw [hn]
    exact ⟨h1, h2⟩⟩
theorem first_of {ls : List Int} {x : Int} (h : x ∈ ls) : ∃ j : Nat, ls[j]? = some x ∧ ∀ m, m < j → ls[m]? ≠ some x := by
  induction ls with
  | nil => exact absurd h (by simp)
  | cons y r ih =>
    by_cases e : y = x
    · exact ⟨0, by rw [e]; rfl, fun m hm => absurd hm (Nat.not_lt_zero _)⟩
    · have hr : x ∈ r := by
        rcases List.mem_cons.mp h with z | z
        · exact absurd z.symm e
        · exact z
      obtain ⟨j, h1, h2⟩ := ih hr
      refine ⟨j + 1, by rw [List.getElem?_cons_succ]; exact h1, fun m hm => ?_⟩
      cases m with
      | zero =>
        intro z
        exact e (Option.some.inj z)
      | succ m =>
        rw [List.getElem?_cons_succ]
        exact h2 m (by omega)
section
variable {P : Program} {w : World} {K : PySem.W.Frag} {mg : Str → Option Value} {base : Heap}
def spLoops2 (K : PySem.W.Frag) : Sp := fun vs H Q _ => ∃ (t s : Addr) (m : Int), vs = [.ref t, .int m] ∧ (1 ≤ m ∧ m ≤ 8) ∧ Tape H t s ∧
  ∀ a (ls : List Int) H', Rch.Good ls → (1 : Int) ∈ ls → a ≠ t → H a = none → Moved t H H' → Tape H' t s → Frz H' a (ls.map V.int) → Q (.ref a) H'
theorem ok__law_loops (T : Tx K mg) : FnOk P w K mg base CX0 2 T.a__law_loops T.d__law_loops ["tape", "most"] (spLoops2 K) := by
  refine T.F__law_loops.ok sc__law_loops (fun vs H Q E h => ?_) (fun cdv A outer s H vs Q E hr h => ?_)
  · obtain ⟨t, sc, m, rfl, _⟩ := h
    rfl
  · obtain ⟨t, sc, m, rfl, hm, tp, q⟩ := h
    refine ⟨_, ((pss_cons (ps_setLc (i := 2) (own := [("k", 3)]) (g := (gName 3)) (tt := tYes) rfl sc__law_loops.nd rfl rfl (sw_true rfl rfl rfl (by decide +kernel)) (pi_range1 (by rfl) T.m_range (pa_cons (pe_op op_add pe_int (pe_call (ok__law_pick T) (hr.mono (by decide)) (by rfl) T.g__law_pick T.F__law_pick.kp T.b__law_pick .nil pass0 (pa_cons (pv 0) (pa_cons (pv 1) pa_nil)))) pa_nil)) (blkOk_by (own := [("k", 3)]) (N := ["tape", "most", "found", "k"]) (sc := defScope s__law_loops) (by decide +kernel)) (fun _ _ _ _ _ => pg_name (i := 3) sc__law_loops.nd rfl (.inl rfl)) (fun _ _ _ _ _ => pts_nil) (fun _ _ _ _ _ => (pe_op op_add pe_int (pe_call (ok__law_pick T) (hr.mono (by decide)) (by rfl) T.g__law_pick T.F__law_pick.kp T.b__law_pick .nil pass0 (pa_cons (pv 0) (pa_cons (pe_ix (ixLK (K := K) (by rfl)) (pe_lst (pa_cons pe_int (pa_cons pe_int (pa_cons pe_int pa_nil)))) (pe_call (ok__law_pick T) (hr.mono (by decide)) (by rfl) T.g__law_pick T.F__law_pick.kp T.b__law_pick .nil pass0 (pa_cons (pv 0) (pa_cons pe_int pa_nil))) (fun _ _ => rfl)) pa_nil))))))
  (pss_cons (ps_asg pe_int (pg_sub (pv 2) (pe_call (ok__law_pick T) (hr.mono (by decide)) (by rfl) T.g__law_pick T.F__law_pick.kp T.b__law_pick .nil pass0 (pa_cons (pv 0) (pa_cons (pe_callB call_len_seq (by rfl) T.m_len PySem.boot_len (pa_cons (pv 2) pa_nil)) pa_nil))) set_list))
  (pss_one (ps_ret (pe_callTy call_tupleF (by rfl) T.m_tuple (by decide +kernel) (pa_cons (pv 2) pa_nil))))))), ?_⟩
    refine ⟨.ref t, rfl, .int m, rfl, t, sc, m, rfl, ⟨by omega, by omega⟩, tp, fun d H1 hd0 hd1 mv1 tp1 => ?_⟩
    refine ⟨1, d, rfl, rfl, ?_⟩
    refine ⟨_, rfl, by show -(2 ^ 62) ≤ 1 + d; omega, by show 1 + d < 2 ^ 62; omega, fun D hD => lc_range (lo := 0) (n := (1 + d).toNat)
      (fun i H' => ∃ ls : List Int, H' D = some (.lst (ls.map V.int)) ∧ ls.length = i ∧ (∀ l ∈ ls, 1 ≤ l ∧ l ≤ 40) ∧ (∀ b o, b ≠ t → b ≠ D → H b = some o → H' b = some o) ∧ Tape H' t sc)
      ⟨[], upd_same, rfl, fun _ h => by simp at h, fun b o n1 n2 e => by rw [upd_ne n2]; exact mv1 b o n1 e, tp1.keep (same_upd hD)⟩ (fun i H' hi h => ?_) (fun H' h => ?_)⟩
    · obtain ⟨ls, eD, el, hl, kp, tp'⟩ := h
      have hDt : D ≠ t := tp1.ne hD
      refine ⟨rfl, ?_⟩
      have hDs : D ≠ sc := tp1.ne2 hD
      refine ⟨.ref t, rfl, by show 3 ≤ sizeLine; decide, fun W nW => ?_⟩
      have sW := same_upd (o := .lst [V.int 4, .int 9, .int 40]) nW
      have tpW := tp'.keep sW
      have Wt : W ≠ t := tp'.ne nW
      refine ⟨.ref t, rfl, t, sc, 3, rfl, ⟨by decide, by decide⟩, tpW, fun r Hr r0 r1 mvr tpr => ?_⟩
      have eWr := mvr _ _ Wt (upd_same (H := H') (a := W) (o := .lst [V.int 4, .int 9, .int 40]))
      obtain ⟨lg, hlg, hv⟩ : ∃ lg : Int, (1 ≤ lg ∧ lg ≤ 40) ∧ ([V.int 4, .int 9, .int 40] : List V)[r.toNat]? = some (.int lg) := by
        have z : r = 0 ∨ r = 1 ∨ r = 2 := by omega
        rcases z with rfl | rfl | rfl
        · exact ⟨4, by decide, rfl⟩
        · exact ⟨9, by decide, rfl⟩
        · exact ⟨40, by decide, rfl⟩
      refine ⟨W, _, r, .int lg, rfl, rfl, SqL.of eWr, atI_of r0 hv, t, sc, lg, rfl, ⟨by omega, by omega⟩, tpr, fun x H2 hx0 hx1 mv2' tp2 => ?_⟩
      have mv2 : Moved t H' H2 := ((Moved.same sW).trans mvr).trans mv2'
      have eD2 := mv2 D _ hDt eD
      refine ⟨1, x, rfl, rfl, _, eD2, by rw [List.length_map]; exact small1000 (by omega), ls ++ [1 + x], by rw [upd_same, List.map_append]; rfl, by rw [List.length_append, el]; rfl, fun l hm' => ?_, fun b o n1 n2 e => ?_, tp2.but hDt (tp1.ne2 hD)⟩
      · rcases List.mem_append.mp hm' with hm' | hm'
        · exact hl l hm'
        · rw [List.mem_singleton.mp hm']
          exact ⟨by omega, by omega⟩
      · rw [upd_ne n2]
        exact mv2 b o n1 (kp b o n1 n2 e)
    · obtain ⟨ls, eD, el, hl, kp, tp'⟩ := h
      have hDt : D ≠ t := tp1.ne hD
      have hDs : D ≠ sc := tp1.ne2 hD
      have g : Rch.Good ls := ⟨by omega, by omega, hl⟩
      refine ⟨.ref D, rfl, .ref t, rfl, .ref D, rfl, D, _, rfl, .inl (SqL.of eD), t, sc, 1 + d, by rw [List.length_map, el, show (((1 + d).toNat : Nat) : Int) = 1 + d by omega]; rfl, ⟨by omega, by omega⟩, tp', fun j H3 hj0 hj1 mv3 tp3 => ?_⟩
      have eD3 := mv3 D _ hDt eD
      refine ⟨D, _, j, j.toNat, rfl, rfl, eD3, by rw [List.length_map]; exact ixN_nat hj0 (by omega), ?_⟩
      refine ⟨.ref D, rfl, D, _, rfl, SqL.of upd_same, fun p H5 np s5 fz ot => ?_⟩
      have tp4 := tp3.but (o := .lst ((ls.map V.int).set j.toNat (V.int 1))) hDt hDs
      have hpt : p ≠ t := tp4.ne np
      have hpD : p ≠ D := fun e => by
        rw [e, upd_same] at np
        cases np
      have np3 : H3 p = none := by
        rw [upd_ne hpD] at np
        exact np
      have hHp : H p = none := by
        cases z : H p with
        | none => rfl
        | some o =>
          rw [mv3 p o hpt (kp p o hpt hpD z)] at np3
          cases np3
      refine q p (ls.set j.toNat 1) H5 (good_set g (by decide) (by decide)) (List.mem_set (by omega) _) hpt hHp (fun b o n1 e => ?_) (tp4.keep s5) (by rw [List.map_set]; exact fz)
      have nD : b ≠ D := ne_of_none (mv1 b o n1 e) hD
      refine s5 _ _ ?_
      rw [upd_ne nD]
      exact mv3 b o n1 (kp b o n1 nD e)
def spRow (K : PySem.W.Frag) : Sp := fun vs H Q _ => ∃ (t s a : Addr) (ls : List Int) (wt : Int), vs = [.ref t, .ref a, .int wt] ∧ Tape H t s ∧ Frz H a (ls.map V.int) ∧ Rch.Good ls ∧ (1 : Int) ∈ ls ∧ 0 ≤ wt ∧ wt ≤ 60 ∧
  ∀ r (row : List Int) H', Tb.InR ls row → Tb.rsum ls row = wt → r ≠ t → H r = none → Moved t H H' → Tape H' t s → H' r = some (.tup (row.map V.int)) → Q (.ref r) H'
theorem ok__law_row (T : Tx K mg) : FnOk P w K mg base CX0 2 T.a__law_row T.d__law_row ["tape", "loops", "wait"] (spRow K) := by
  refine T.F__law_row.ok sc__law_row (fun vs H Q E h => ?_) (fun cdv A outer s H vs Q E hr h => ?_)
  · obtain ⟨t, sc, a, ls, wt, rfl, _⟩ := h
    rfl
  · obtain ⟨t, sc, a, ls, wt, rfl, tp, ea, g, h1s, hw0, hw60, q⟩ := h
    have g1 := g.1
    have g2 := g.2.1
    have hat : a ≠ t := ea.tape tp
    refine ⟨_, ((pss_cons (ps_set (i := 3) sc__law_row.nd rfl (.inl rfl) (pe_lst pa_nil))
  (pss_cons (ps_set (i := 4) sc__law_row.nd rfl (.inr rfl) (pv 2))
  (pss_cons (ps_for PassesOwn.never rfl (pi_range1 (by rfl) T.m_range (pa_cons (pv 2) pa_nil)) (pg_name (i := 5) sc__law_row.nd rfl (.inl rfl))
   (pss_cons (ps_setLc (i := 6) (own := [("k", 7)]) (g := (gName 7)) rfl sc__law_row.nd rfl rfl (sw_true rfl rfl rfl (by decide +kernel)) (pi_range1 (by rfl) T.m_range (pa_cons (pe_callB call_len_seq (by rfl) T.m_len PySem.boot_len (pa_cons (pv 1) pa_nil)) pa_nil)) (blkOk_by (own := [("k", 7)]) (N := ["tape", "loops", "wait", "row", "left", "turn", "fitting", "k"]) (sc := defScope s__law_row) (by decide +kernel)) (fun _ _ _ _ _ => pg_name (i := 7) sc__law_row.nd rfl (.inl rfl)) (fun _ _ _ _ _ => (pts_one (pt_cmpR op_le (pe_ix (ixTK (K := K) (by rfl)) (pv 1) (pv 7) (fun _ _ => rfl)) (pv 4) (nomark _)))) (fun _ _ _ _ _ => (pv 7)))
  (pss_one (ps_if (pt_cmpR op_gt (pv 4) pe_int (nomark _)) (pss_cons (ps_expr (pe_bm PySem.F.plainAttrs_list PySem.F.slot_list_append PySem.F.type_list_append mt_append (pv 3) (pa_cons (pe_ix ix_list (pv 6) (pe_call (ok__law_pick T) (hr.mono (by decide)) (by rfl) T.g__law_pick T.F__law_pick.kp T.b__law_pick .nil pass0 (pa_cons (pv 0) (pa_cons (pe_callB call_len_seq (by rfl) T.m_len PySem.boot_len (pa_cons (pv 6) pa_nil)) pa_nil))) (fun _ _ => rfl)) pa_nil)))
  (pss_one (ps_set (i := 4) sc__law_row.nd rfl (.inr rfl) (pe_op op_sub (pv 4) (pe_ix ix_tup (pv 1) (pe_ix ix_list (pv 3) (pe_un un_neg pe_int) (fun _ _ => rfl)) (fun _ _ => rfl)))))) pss_nil))))
  (pss_one (ps_ret (pe_callTy call_tuple_of (by rfl) T.m_tuple (by decide +kernel) (pa_cons (pv 3) pa_nil)))))))), ?_⟩
    obtain ⟨jx, hjx, hjn⟩ := first_of h1s
    have hjl : jx < ls.length := (List.getElem?_eq_some_iff.mp hjx).1
    have l1 : Tb.len1 ls (jx : Int) = 1 := by
      unfold Tb.len1
      rw [Int.toNat_natCast, List.getD_eq_getElem?_getD, hjx]
      rfl
    refine ⟨Nat.zero_le _, fun R nR => ?_⟩
    have hRt : R ≠ t := tp.ne nR
    have hRs : R ≠ sc := tp.ne2 nR
    have s1 := same_upd (o := .lst []) nR
    have tp0 := tp.keep s1
    refine ⟨.int wt, rfl, ?_⟩
    have hRa : a ≠ R := ea.ne nR
    refine ⟨.int wt, rfl, wt, rfl, by omega, by omega, for_range (lo := 0) (n := wt.toNat)
      (fun i σ H' => ∃ (y5 y6 y7 : Option V) (row : List Int) (lf : Int), σ = [some (.ref t), some (.ref a), some (.int wt), some (.ref R), some (.int lf), y5, y6, y7] ∧ H' R = some (.lst (row.map V.int)) ∧ Tb.InR ls row ∧ Tb.rsum ls row + lf = wt ∧ 0 ≤ lf ∧ (lf = 0 ∨ lf ≤ wt - (i : Int)) ∧ row.length ≤ i ∧ (∀ b o, b ≠ t → b ≠ R → H b = some o → H' b = some o) ∧ Tape H' t sc)
      ⟨_, _, _, [], wt, rfl, upd_same, fun k h => by simp at h, by simp [Tb.rsum], hw0, .inr (by omega), Nat.le_refl _, fun b o n1 n2 e => s1 _ _ e, tp0⟩ (fun i σ H' hi h => ?_) (fun σ H' h => ?_)⟩
    · obtain ⟨y5, y6, y7, row, lf, rfl, eR, hin, hs, hl0, hlw, hlen, kp, tp'⟩ := h
      have ea' := ea.of (kp a · hat hRa)
      -- fitting
      refine ⟨.ref a, rfl, a, _, rfl, .inr ea'.sq, _, rfl, by rw [List.length_map]; omega, by rw [List.length_map]; omega, fun D hD => lc_range (lo := 0) (n := ((((ls.map V.int).length : Nat) : Int)).toNat)
        (fun j H2 => ∃ ks : List Int, Same H' H2 ∧ H2 D = some (.lst (ks.map V.int)) ∧ ks.length ≤ j ∧ (1 ≤ lf → jx < j → 1 ≤ ks.length) ∧ ∀ k ∈ ks, 0 ≤ k ∧ k < (ls.length : Int) ∧ Tb.len1 ls k ≤ lf)
        ⟨[], same_upd hD, upd_same, Nat.le_refl _, fun _ z => absurd z (by omega), fun _ h => by simp at h⟩ (fun j H2 hj h => ?_) (fun H2 h => ?_)⟩
      · obtain ⟨ks, s2, eD, zk, z1, hk⟩ := h
        rw [List.length_map] at hj
        rw [Int.zero_add]
        have hj' : (j : Int) < (ls.length : Int) := by omega
        have keepIt : Tb.len1 ls (j : Int) ≤ lf → ∃ acc, H2 D = some (.lst acc) ∧ acc.length < sizeLine ∧ ∃ ks : List Int, Same H' (upd H2 D (.lst (acc ++ [V.int (j : Int)]))) ∧ (upd H2 D (.lst (acc ++ [V.int (j : Int)]))) D = some (.lst (ks.map V.int)) ∧ ks.length ≤ j + 1 ∧ (1 ≤ lf → jx < j + 1 → 1 ≤ ks.length) ∧ ∀ k ∈ ks, 0 ≤ k ∧ k < (ls.length : Int) ∧ Tb.len1 ls k ≤ lf := fun hle => by
          refine ⟨_, eD, by rw [List.length_map]; exact small1000 (by omega), ks ++ [(j : Int)], same_put s2 hD, by rw [upd_same, List.map_append]; rfl, by rw [List.length_append]; show ks.length + 1 ≤ j + 1; omega, fun _ _ => by rw [List.length_append]; show 1 ≤ ks.length + 1; omega, fun k hm => ?_⟩
          rcases List.mem_append.mp hm with hm | hm
          · exact hk k hm
          · rw [List.mem_singleton.mp hm]
            exact ⟨by omega, hj', hle⟩
        have skip : ¬ Tb.len1 ls (j : Int) ≤ lf → ∃ ks : List Int, Same H' H2 ∧ H2 D = some (.lst (ks.map V.int)) ∧ ks.length ≤ j + 1 ∧ (1 ≤ lf → jx < j + 1 → 1 ≤ ks.length) ∧ ∀ k ∈ ks, 0 ≤ k ∧ k < (ls.length : Int) ∧ Tb.len1 ls k ≤ lf := fun hgt => ⟨ks, s2, eD, by omega, fun h1 h2 => by
          rcases Nat.lt_or_ge jx j with c | c
          · exact z1 h1 c
          · have e : jx = j := by omega
            rw [← e, l1] at hgt
            exact absurd h1 hgt, hk⟩
        refine ⟨rfl, ?_⟩
        refine ⟨.ref a, rfl, .int (j : Int), rfl, a, _, _, .int (Tb.len1 ls (j : Int)), rfl, rfl, (ea'.same s2).sq, atI_of (by omega) (by rw [List.getElem?_map, Tb.len_at (by omega) hj']; rfl), .int lf, rfl, _, _, rfl, rfl, _, rfl, ite2 (fun c1 => ?_) (fun c1 => ?_)⟩
        · exact ⟨_, rfl, keepIt (of_decide_eq_true c1)⟩
        · exact skip fun z => c1 (decide_eq_true z)
      · obtain ⟨ks, s2, eD, zk, z1, hk⟩ := h
        have hDt : D ≠ t := tp'.ne hD
        have hDR : D ≠ R := fun e => by
          rw [e, eR] at hD
          cases hD
        have tp2 := tp'.keep s2
        have eR2 := s2 _ _ eR
        have kp2 : ∀ b o, b ≠ t → b ≠ R → H b = some o → H2 b = some o := fun b o n1 n2 e => s2 _ _ (kp b o n1 n2 e)
        have hiw : i < 60 := by omega
        rw [List.length_map] at zk z1
        refine ⟨.int lf, rfl, _, _, rfl, rfl, _, rfl, ite2 (fun c1 => ?_) (fun c1 => ?_)⟩
        · have lf1 : 0 < lf := of_decide_eq_true c1
          have zk1 : 1 ≤ ks.length := z1 (by omega) (by omega)
          refine ⟨.ref R, rfl, .inl ⟨rfl, _, SqL.of eR2⟩, .ref D, rfl, .ref t, rfl, .ref D, rfl, D, _, rfl, .inl (SqL.of eD), t, sc, _, rfl, ⟨?_, ?_⟩, tp2, fun j H3 hj0 hj1 mv3 tp3 => ?_⟩
          · rw [List.length_map]
            omega
          · rw [List.length_map]
            omega
          · rw [List.length_map] at hj1
            have eD3 := mv3 D _ hDt eD
            have eR3 := mv3 R _ hRt eR2
            have ea3 := (ea'.same s2).moved hat mv3
            have hjk : j.toNat < ks.length := by omega
            obtain ⟨k, hk'⟩ : ∃ k, k = ks[j.toNat] := ⟨_, rfl⟩
            have gk : (ks.map V.int)[j.toNat]? = some (.int k) := by
              rw [List.getElem?_map, List.getElem?_eq_getElem hjk, hk']
              rfl
            obtain ⟨b0, b1, b2⟩ := hk k (by rw [hk']; exact List.getElem_mem hjk)
            have bp := Tb.len_pos g b0 b1
            refine ⟨D, _, j, _, rfl, rfl, SqL.of eD3, atI_of hj0 gk, R, _, _, rfl, rfl, eR3, by rw [List.length_map]; exact small1000 (by omega), ?_⟩
            have ea4 : Frz (upd H3 R (.lst (row.map V.int ++ [V.int k]))) a (ls.map V.int) := ea3.of fun o e => by
              rw [upd_ne hRa]
              exact e
            -- left = left - loops[row[-1]]
            refine ⟨.int lf, rfl, .ref a, rfl, .ref R, rfl, 1, rfl, R, _, -1, _, rfl, rfl, SqL.of upd_same, atI_last _ _, a, _, k, .int (Tb.len1 ls k), rfl, rfl, ea4.sq, atI_of b0 (by rw [List.getElem?_map, Tb.len_at b0 b1]; rfl), _, _, rfl, rfl, ?_⟩
            refine ⟨_, _, _, row ++ [k], _, rfl, by rw [upd_same, List.map_append]; rfl, fun x hx => ?_, ?_, ?_, ?_, by rw [List.length_append]; show row.length + 1 ≤ i + 1; omega, fun b o n1 n2 e => ?_, tp3.but hRt hRs⟩
            · rcases List.mem_append.mp hx with hx | hx
              · exact hin x hx
              · rw [List.mem_singleton.mp hx]
                exact ⟨b0, b1⟩
            · rw [Tb.rsum_snoc]
              show Tb.rsum ls row + Tb.len1 ls k + (lf - Tb.len1 ls k) = wt
              omega
            · show 0 ≤ lf - Tb.len1 ls k
              omega
            · show lf - Tb.len1 ls k = 0 ∨ lf - Tb.len1 ls k ≤ wt - ((i + 1 : Nat) : Int)
              omega
            · rw [upd_ne n2]
              exact mv3 b o n1 (kp2 b o n1 n2 e)
        · have lf0 : lf = 0 := by
            have : ¬ 0 < lf := fun z => c1 (decide_eq_true z)
            omega
          exact ⟨_, _, _, row, lf, rfl, eR2, hin, hs, hl0, .inl lf0, by omega, kp2, tp2⟩
    · obtain ⟨y5, y6, y7, row, lf, rfl, eR, hin, hs, hl0, hlw, hlen, kp, tp'⟩ := h
      have lf0 : lf = 0 := by omega
      refine ⟨.ref R, rfl, R, _, rfl, .inl ⟨SqL.of eR, fun p np => ?_⟩⟩
      have hpt : p ≠ t := tp'.ne np
      have hpR : p ≠ R := fun e => by
        rw [e, eR] at np
        cases np
      have hHp : H p = none := by
        cases z : H p with
        | none => rfl
        | some o =>
          rw [kp p o hpt hpR z] at np
          cases np
      refine q p row _ hin (by omega) hpt hHp (fun b o n1 e => ?_) (tp'.keep (same_upd np)) upd_same
      rw [upd_ne (ne_of_none e hHp)]
      exact kp b o n1 (ne_of_none e nR) e
end

/-! ### the text as the law writes it -/
section
variable {P : Program} {w : World} {K : PySem.W.Frag} {mg : Str → Option Value} {base : Heap}
def spSpaced (K : PySem.W.Frag) : Sp := fun vs H Q _ => ∃ (a : Addr) (ns : List Int), vs = [.ref a] ∧ SqT K H a (ns.map V.int) ∧ (∀ n ∈ ns, 0 ≤ n ∧ n < 10 ^ 9) ∧ ns.length ≤ 1000 ∧ Q (.str (TxM.blanks ns)) H
theorem ok__law_spaced (T : Tx K mg) : FnOk P w K mg base CX0 1 T.a__law_spaced T.d__law_spaced ["numbers"] (spSpaced K) := by
  refine T.F__law_spaced.ok sc__law_spaced (fun vs H Q E h => ?_) (fun cdv A outer s H vs Q E hr h => ?_)
  · obtain ⟨a, ns, rfl, _⟩ := h
    rfl
  · obtain ⟨a, ns, rfl, hT, hb, hl, q⟩ := h
    refine ⟨_, ((pss_cons (ps_set (i := 1) sc__law_spaced.nd rfl (.inl rfl) pe_str)
  (pss_cons (ps_for PassesOwn.never rfl (pi_range1 (by rfl) T.m_range (pa_cons (pe_callB call_len_seq (by rfl) T.m_len PySem.boot_len (pa_cons (pv 0) pa_nil)) pa_nil)) (pg_name (i := 2) sc__law_spaced.nd rfl (.inl rfl))
   (Evl.pss_cut (ps_if (pt_cmpR op_gt (pv 2) pe_int (nomark _)) (pss_one (ps_set (i := 1) sc__law_spaced.nd rfl (.inl rfl) (pe_op op_add_str (pv 1) pe_str))) pss_nil)
  (pss_one (ps_set (i := 1) sc__law_spaced.nd rfl (.inl rfl) (pe_op op_add_str (pv 1) (pe_callTy call_str_int (by rfl) T.m_str (by decide +kernel) (pa_cons (pe_ix ix_tup (pv 0) (pv 2) (fun _ _ => rfl)) pa_nil)))))))
  (pss_one (ps_ret (pv 1)))))), ?_⟩
    have szl : sizeLine = 16777216 := sizeLine_eq
    refine ⟨.ref a, rfl, a, _, rfl, .inr hT, _, rfl, by rw [List.length_map]; omega, by rw [List.length_map]; omega, for_range (lo := 0) (n := ((((ns.map V.int).length : Nat) : Int)).toNat)
      (fun i σ H' => ∃ (y2 : Option V), σ = [some (.ref a), some (.str (TxM.blanks (ns.take i))), y2] ∧ H' = H)
      ⟨_, by rw [List.take_zero, TxM.blanks_nil]; rfl, rfl⟩ (fun i σ H' hi h => ?_) (fun σ H' h => ?_)⟩
    · obtain ⟨y2, rfl, rfl⟩ := h
      rw [List.length_map] at hi
      have hi' : i < ns.length := by omega
      rw [Int.zero_add]
      obtain ⟨n, hn⟩ : ∃ n, ns[i]? = some n := ⟨_, List.getElem?_eq_getElem hi'⟩
      have bn := hb n (List.mem_of_getElem? hn)
      have hz : (TxM.blanks (ns.take i)).length ≤ 10000 := by
        have := TxM.blanks_len (ns := ns.take i) fun x hx => hb x (List.mem_of_mem_take hx)
        rw [List.length_take] at this
        omega
      have l9 := (TxM.num_len bn.1 bn.2).2
      have e1 : (Str.ofString " ").length = 1 := by decide +kernel
      refine ⟨fun σ' H2 => ∃ z : Str, σ' = [some (.ref a), some (.str z), some (.int (i : Int))] ∧ H2 = H' ∧ z.length ≤ 10001 ∧ z ++ TxM.num n = TxM.blanks (ns.take (i + 1)), ?_, fun σ' H2 hm => ?_⟩
      · refine ⟨.int (i : Int), rfl, _, _, rfl, rfl, _, rfl, ite2 (fun c => ?_) (fun c => ?_)⟩
        · have i0 : 0 < (i : Int) := of_decide_eq_true c
          refine ⟨_, rfl, _, _, rfl, rfl, by rw [e1, szl]; omega, _, rfl, rfl, by rw [TxM.app_len, e1]; omega, ?_⟩
          rw [take_snoc hn, TxM.blanks_snoc (fun e => by
            have := congrArg List.length e
            rw [List.length_take] at this
            have : min i ns.length = 0 := this
            omega)]
        · have i0 : i = 0 := by
            have : ¬ 0 < (i : Int) := fun z => c (decide_eq_true z)
            omega
          refine ⟨_, rfl, rfl, by omega, ?_⟩
          rw [take_snoc hn]
          subst i0
          rw [List.take_zero, List.nil_append, TxM.blanks_one, TxM.blanks_nil]
          refine TL.ext_tl ?_
          rw [TL.tl_append, TxM.tl_em, List.nil_append]
      · obtain ⟨z, rfl, rfl, zl, ez⟩ := hm
        refine ⟨.str z, rfl, .ref a, rfl, .int (i : Int), rfl, a, _, _, .int n, rfl, rfl, hT, atI_nat (by rw [List.getElem?_map, hn]; rfl), n, rfl, TxM.log_lt bn.1 bn.2, _, _, rfl, rfl, ?_, ?_⟩
        · show z.length + (TxM.num n).length ≤ sizeLine
          rw [szl]
          omega
        · exact ⟨some (.int (i : Int)), by rw [← ez]; rfl, rfl⟩
    · obtain ⟨y2, rfl, rfl⟩ := h
      rw [List.length_map, Int.toNat_natCast, List.take_length]
      exact ⟨_, rfl, q⟩
def spLText (K : PySem.W.Frag) : Sp := fun vs H Q _ => ∃ (a b : Addr) (ls : List Int) (rs : List (List Int)) (ps : List Addr), vs = [.ref a, .ref b] ∧ SqT K H a (ls.map V.int) ∧ SqT K H b (ps.map V.ref) ∧ Tups fI H ps rs ∧ Tb.Right ls rs ∧ Q (.str (TxM.text ls rs)) H
theorem ok__law_text (T : Tx K mg) : FnOk P w K mg base CX0 2 T.a__law_text T.d__law_text ["loops", "rows"] (spLText K) := by
  refine T.F__law_text.ok sc__law_text (fun vs H Q E h => ?_) (fun cdv A outer s H vs Q E hr h => ?_)
  · obtain ⟨a, b, ls, rs, ps, rfl, _⟩ := h
    rfl
  · obtain ⟨a, b, ls, rs, ps, rfl, hL, hR, tu, R, q⟩ := h
    refine ⟨_, ((pss_cons (ps_set (i := 2) sc__law_text.nd rfl (.inl rfl) (pe_op op_add_str (pe_op op_add_str pe_str (pe_call (ok__law_spaced T) (hr.mono (by decide)) (by rfl) T.g__law_spaced T.F__law_spaced.kp T.b__law_spaced .nil pass0 (pa_cons (pv 0) pa_nil))) pe_str))
  (pss_cons (ps_for PassesOwn.never rfl (pi_range1 (by rfl) T.m_range (pa_cons (pe_callB call_len_seq (by rfl) T.m_len PySem.boot_len (pa_cons (pv 1) pa_nil)) pa_nil)) (pg_name (i := 3) sc__law_text.nd rfl (.inl rfl))
   (pss_one (ps_set (i := 2) sc__law_text.nd rfl (.inl rfl) (pe_op op_add_str (pe_op op_add_str (pe_op op_add_str (pe_op op_add_str (pv 2) (pe_callTy call_str_int (by rfl) T.m_str (by decide +kernel) (pa_cons (pe_op op_add (pv 3) pe_int) pa_nil))) pe_str) (pe_call (ok__law_spaced T) (hr.mono (by decide)) (by rfl) T.g__law_spaced T.F__law_spaced.kp T.b__law_spaced .nil pass0 (pa_cons (pe_ix ix_tup (pv 1) (pv 3) (fun _ _ => rfl)) pa_nil))) pe_str))))
  (pss_one (ps_ret (pv 2)))))), ?_⟩
    have h60 := R.2.2.1
    have hbl := TxM.blanks_len (nums_of R.1)
    have l8 := R.1.2.1
    have z1 : (Str.ofString "loops ").length = 6 := by decide +kernel
    have z2 : (Str.ofString "\n").length = 1 := by decide +kernel
    have z3 : (Str.ofString ": ").length = 2 := by decide +kernel
    have szl : sizeLine = 16777216 := sizeLine_eq
    refine ⟨.ref a, rfl, a, ls, rfl, hL, nums_of R.1, by omega, _, _, rfl, rfl, by rw [z1, szl]; omega, _, _, rfl, rfl, by rw [TxM.app_len, z1, z2, szl]; omega, ?_⟩
    rw [show (Str.ofString "loops " ++ TxM.blanks ls) ++ Str.ofString "\n" = TxM.text ls [] from TxM.head_text2 ls]
    refine ⟨.ref b, rfl, b, _, rfl, .inr hR, _, rfl, by rw [List.length_map, tu.length]; omega, by rw [List.length_map, tu.length]; omega, for_range (lo := 0) (n := ((((ps.map V.ref).length : Nat) : Int)).toNat)
      (fun i σ H' => ∃ (y3 : Option V), σ = [some (.ref a), some (.ref b), some (.str (TxM.text ls (rs.take i))), y3] ∧ H' = H)
      ⟨_, rfl, rfl⟩ (fun i σ H' hi h => ?_) (fun σ H' h => ?_)⟩
    · obtain ⟨y3, rfl, rfl⟩ := h
      rw [List.length_map, tu.length] at hi
      have hi' : i < rs.length := by omega
      rw [Int.zero_add]
      obtain ⟨row, hrow⟩ : ∃ row, rs[i]? = some row := ⟨_, List.getElem?_eq_getElem hi'⟩
      obtain ⟨r, hr', er⟩ := tu.at hrow
      obtain ⟨hin, hl60, hsum⟩ := R.2.2.2 i row hrow
      have nr := nums_row R.1 hin
      have hb := TxM.blanks_len nr
      have hz := text_size R i
      have hn := (TxM.num_len (i := (i : Int) + 1) (by omega) (by omega)).2
      have hn' : (Str.ofString (toString ((i : Int) + 1))).length ≤ 9 := hn
      refine ⟨_, rfl, .int (i : Int), rfl, _, _, rfl, rfl, _, rfl, TxM.log_lt (by omega) (by omega), _, _, rfl, rfl, by rw [szl]; omega, _, _, rfl, rfl, by rw [TxM.app_len, z3, szl]; omega, .ref b, rfl, .int (i : Int), rfl, b, _, _, .ref r, rfl, rfl, hR, atI_nat hr', r, row, rfl, SqT.of er, nr, by omega, _, _, rfl, rfl, by rw [TxM.app_len, TxM.app_len, z3, szl]; omega, _, _, rfl, rfl, by rw [TxM.app_len, TxM.app_len, TxM.app_len, z2, z3, szl]; omega, ?_⟩
      refine ⟨some (.int (i : Int)), ?_, rfl⟩
      have el : (rs.take i).length = i := by rw [List.length_take]; omega
      have e := TxM.row_text2 ls (rs.take i) row
      rw [el] at e
      rw [take_snoc hrow, ← e]
      rfl
    · obtain ⟨y3, rfl, rfl⟩ := h
      rw [List.length_map, tu.length, Int.toNat_natCast, List.take_length]
      exact ⟨_, rfl, q⟩
end

/-! ### tables are compared -/
def dTT (rs : List (List Int)) : PyData := .tuple (rs.map My.dI)
theorem eqvTA : ∀ a b : List (List Int), PyData.eqvAll (a.map My.dI) (b.map My.dI) = decide (a = b)
  | [], [] => by simp [PyData.eqvAll]
  | [], _ :: _ => by simp [PyData.eqvAll]
  | _ :: _, [] => by simp [PyData.eqvAll]
  | x :: a, y :: b => by
    rw [List.map_cons, List.map_cons, PyData.eqvAll, eqvTA a b, eqvI]
    by_cases h : x = y <;> by_cases k : a = b <;> simp [h, k]
theorem eqvTT (a b : List (List Int)) : PyData.eqv (dTT a) (dTT b) = decide (a = b) := by
  unfold dTT
  rw [PyData.eqv]
  exact eqvTA a b
theorem Shp.dTT (rs : List (List Int)) : Shp 3 (dTT rs) := .tuple Shp.dI rs
theorem dp_dTT {K : PySem.W.Frag} {H : Hp} {p : Addr} {ps : List Addr} {rs : List (List Int)} (h : SqT K H p (ps.map V.ref)) (t : Tups fI H ps rs) : Dp K H (.ref p) (dTT rs) := .tup h (dpa_dT t)
section
variable {P : Program} {w : World} {K : PySem.W.Frag} {mg : Str → Option Value} {base : Heap}
def spTEq (K : PySem.W.Frag) (C : Addr) : Sp := fun vs H Q _ => ∃ (p : Addr) (y : V) (ls : List Int) (rs : List (List Int)), vs = [.ref p, y] ∧ TabAt K C H p ls rs ∧
  ((∃ p2 ls2 rs2, y = .ref p2 ∧ TabAt K C H p2 ls2 rs2 ∧ ∀ H', Same H H' → Q (.bl (decide (ls = ls2) && decide (rs = rs2))) H') ∨ (∃ n, TyX K H y (.type n) ∧ RE8.Plain n ∧ ∀ H', Same H H' → Q (.bl false) H'))
theorem ok_Table___eq__ (T : Tx K mg) : FnOk P w K mg base CX0 1 T.a_Table___eq__ T.d_Table___eq__ ["self", "other"] (spTEq K T.c_Table) := by
  refine T.F_Table___eq__.ok sc_Table___eq__ (fun vs H Q E h => ?_) (fun cdv A outer s H vs Q E hr h => ?_)
  · obtain ⟨p, y, ls, rs, rfl, _⟩ := h
    rfl
  · obtain ⟨p, y, ls, rs, rfl, tab, h⟩ := h
    refine ⟨_, ((pss_one (ps_ret (pe_and (pe_callB call_isi (by rfl) T.m_isinstance (by decide +kernel) (pa_cons (pv 1) (pa_cons (pe_glob (v := .ref T.c_Table) rfl T.g_Table rfl) pa_nil))) (pe_and (pe_cmpR (op_eqD hr.units) (pe_fld (pv 0) rfl) (pe_fld (pv 1) rfl) (nomark _)) (pe_one (pe_cmpR (op_eqD hr.units) (pe_fld (pv 0) rfl) (pe_fld (pv 1) rfl) (nomark _)))))))), ?_⟩
    rcases h with ⟨p2, ls2, rs2, rfl, tab2, q⟩ | ⟨n, ty, pl, q⟩
    · obtain ⟨dx, a, b, ps, ep, hA, hB, tu⟩ := tab.ob
      obtain ⟨dx2, a2, b2, ps2, ep2, hA2, hB2, tu2⟩ := tab2.ob
      refine ⟨.ref p2, rfl, .ref p2, .ref T.c_Table, _, _, true, rfl, .own _, T.in_Table.tyOf T.cl_Table ep2, T.in_Table.self, true, rfl, iteT ?_⟩
      refine ⟨.ref p, rfl, p, T.c_Table, dx, _, _, rfl, ep, T.cl_Table, T.n_Table_loops, tf_loops _ _ _, .ref p2, rfl, p2, T.c_Table, dx2, _, _, rfl, ep2, T.cl_Table, T.n_Table_loops, tf_loops _ _ _, My.dI ls, My.dI ls2, dp_dI hA, dp_dI hA2, (Shp.dI _).ok (by decide), (Shp.dI _).ok (by decide), ?_⟩
      rw [eqvI]
      refine ⟨decide (ls = ls2), rfl, ?_⟩
      have q0 := q H fun _ _ e => e
      by_cases c : ls = ls2
      · rw [decide_eq_true c, Bool.true_and] at q0
        rw [decide_eq_true c]
        refine iteT ⟨.ref p, rfl, p, T.c_Table, dx, _, _, rfl, ep, T.cl_Table, T.n_Table_rows, tf_rows _ _ _, .ref p2, rfl, p2, T.c_Table, dx2, _, _, rfl, ep2, T.cl_Table, T.n_Table_rows, tf_rows _ _ _, dTT rs, dTT rs2, dp_dTT hB tu, dp_dTT hB2 tu2, (Shp.dTT _).ok (by decide), (Shp.dTT _).ok (by decide), ?_⟩
        rw [eqvTT]
        exact q0
      · rw [decide_eq_false c, Bool.false_and] at q0
        rw [decide_eq_false c]
        exact iteF q0
    · exact ⟨y, rfl, y, .ref T.c_Table, _, _, false, rfl, .own _, ty, pl.kit T.in_Table, false, rfl, iteF (q H fun _ _ e => e)⟩
end

/-! ### tables, asked by the law -/
section
variable {P : Program} {w : World} {K : PySem.W.Frag} {mg : Str → Option Value} {base : Heap}
def spLInt : Sp := fun vs H Q _ => ∃ i : Int, vs = [.int i] ∧ Q (.bl true) H
theorem ok__law_is_int (T : Tx K mg) : FnOk P w K mg base CX0 1 T.a__law_is_int T.d__law_is_int ["thing"] spLInt := by
  refine T.F__law_is_int.ok sc__law_is_int (fun vs H Q E h => ?_) (fun cdv A outer s H vs Q E hr h => ?_)
  · obtain ⟨i, rfl, _⟩ := h
    rfl
  · obtain ⟨i, rfl, q⟩ := h
    refine ⟨_, ((pss_one (ps_ret (pe_and (pe_callB call_isi (by rfl) T.m_isinstance (by decide +kernel) (pa_cons (pv 0) (pa_cons (pe_bltn (v := .ty "int") (by rfl) T.m_int (by decide +kernel) rfl) pa_nil))) (pe_one (pe_not (pe_callB call_isi (by rfl) T.m_isinstance (by decide +kernel) (pa_cons (pv 0) (pa_cons (pe_bltn (v := .ty "bool") (by rfl) T.m_bool (by decide +kernel) rfl) pa_nil))))))))), ?_⟩
    exact ⟨.int i, rfl, .int i, .ty "int", _, _, true, rfl, .ty _, .base (.int i), kit_ty (by decide +kernel), true, rfl, iteT ⟨.int i, rfl, .int i, .ty "bool", _, _, false, rfl, .ty _, .base (.int i), kit_ty (by decide +kernel), false, rfl, q⟩⟩
def spLAre (K : PySem.W.Frag) : Sp := fun vs H Q _ => ∃ (a b : Addr) (ns : List Int), vs = [.ref a, .ref b] ∧ SqT K H a (ns.map V.int) ∧ SqT K H b (ns.map V.int) ∧ ∀ H', Same H H' → Q (.bl true) H'
theorem ok__law_are_ints (T : Tx K mg) : FnOk P w K mg base CX0 2 T.a__law_are_ints T.d__law_are_ints ["thing", "due"] (spLAre K) := by
  refine T.F__law_are_ints.ok sc__law_are_ints (fun vs H Q E h => ?_) (fun cdv A outer s H vs Q E hr h => ?_)
  · obtain ⟨a, b, ns, rfl, _⟩ := h
    rfl
  · obtain ⟨a, b, ns, rfl, hA, hB, q⟩ := h
    refine ⟨_, ((pss_cons (ps_if (PW.pt (pw_or (pt_not (pt_val (pe_callB call_isi (by rfl) T.m_isinstance (by decide +kernel) (pa_cons (pv 0) (pa_cons (pe_bltn (v := .ty "tuple") (by rfl) T.m_tuple (by decide +kernel) rfl) pa_nil))))) (pw_or1 (pt_cmpR op_gt (pe_callB call_len_seq (by rfl) T.m_len PySem.boot_len (pa_cons (pe_lc (own := [("item", 2)]) (g := (gName 2)) rfl sc__law_are_ints.nd (pi_tup (pv 0)) (blkOk_by (own := [("item", 2)]) (N := ["thing", "due", "item"]) (sc := defScope s__law_are_ints) (by decide +kernel)) (fun _ _ _ _ _ => pg_name (i := 2) sc__law_are_ints.nd rfl (.inl rfl)) (fun _ _ _ _ _ => (pts_one (pt_not (pt_val (pe_call (ok__law_is_int T) (hr.mono (by decide)) (by rfl) T.g__law_is_int T.F__law_is_int.kp T.b__law_is_int .nil pass0 (pa_cons (pv 2) pa_nil)))))) (fun _ _ _ _ _ => (pv 2))) pa_nil)) pe_int (nomark _))))) (pss_one (ps_ret pe_bl)) pss_nil)
  (pss_one (ps_ret (pe_cmpR (op_eqD hr.units) (pv 0) (pv 1) (nomark _)))))), ?_⟩
    refine ⟨.ref a, rfl, .ref a, .ty "tuple", _, _, true, rfl, .ty _, tyTup hA, kit_ty (by decide +kernel), true, rfl, iteF ?_⟩
    refine ⟨.ref a, rfl, a, rfl, ⟨_, hA⟩, fun D hD => lc_tup (K := K) (a := a) (xs := ns.map V.int)
      (fun i H' => Same H H' ∧ H' D = some (.lst [])) ⟨same_upd hD, upd_same⟩ (fun i H' _ p => sT p.1 hA) (fun i x H' hx p => ?_) (fun H' p => ?_)⟩
    · obtain ⟨sm, eD⟩ := p
      rw [List.getElem?_map] at hx
      obtain ⟨n, hn, rfl⟩ := Option.map_eq_some_iff.mp hx
      exact ⟨rfl, .int n, rfl, n, rfl, true, rfl, iteF ⟨sm, eD⟩⟩
    · obtain ⟨sm, eD⟩ := p
      refine ⟨D, _, rfl, .inl (SqL.of eD), _, _, rfl, rfl, false, rfl, iteF ?_⟩
      refine ⟨.ref a, rfl, .ref b, rfl, My.dI ns, My.dI ns, dp_dI (sT sm hA), dp_dI (sT sm hB), (Shp.dI _).ok (by decide), (Shp.dI _).ok (by decide), ?_⟩
      rw [eqvI, decide_eq_true rfl]
      exact q H' sm
def spLIsT (K : PySem.W.Frag) (C : Addr) : Sp := fun vs H Q _ => ∃ (x la ra : Addr) (ls : List Int) (rs : List (List Int)) (ps : List Addr), vs = [.ref x, .ref la, .ref ra] ∧ TabAt K C H x ls rs ∧ SqT K H la (ls.map V.int) ∧ SqT K H ra (ps.map V.ref) ∧ Tups fI H ps rs ∧ rs.length ≤ 60 ∧ ∀ H', Same H H' → Q (.bl true) H'
theorem ok__law_is_table (T : Tx K mg) : FnOk P w K mg base CX0 3 T.a__law_is_table T.d__law_is_table ["table", "loops", "rows"] (spLIsT K T.c_Table) := by
  refine T.F__law_is_table.ok sc__law_is_table (fun vs H Q E h => ?_) (fun cdv A outer s H vs Q E hr h => ?_)
  · obtain ⟨x, la, ra, ls, rs, ps, rfl, _⟩ := h
    rfl
  · obtain ⟨x, la, ra, ls, rs, ps, rfl, tab, hL, hR, tu, h60, q⟩ := h
    refine ⟨_, ((pss_cons (ps_if (PW.pt (pw_or (pt_not (pt_val (pe_callB call_isi (by rfl) T.m_isinstance (by decide +kernel) (pa_cons (pv 0) (pa_cons (pe_glob (v := .ref T.c_Table) rfl T.g_Table rfl) pa_nil))))) (pw_or1 (pt_not (pt_val (pe_call (ok__law_are_ints T) (hr.mono (by decide)) (by rfl) T.g__law_are_ints T.F__law_are_ints.kp T.b__law_are_ints .nil pass0 (pa_cons (pe_fld (pv 0) rfl) (pa_cons (pv 1) pa_nil)))))))) (pss_one (ps_ret pe_bl)) pss_nil)
  (pss_cons (ps_if (PW.pt (pw_or (pt_not (pt_val (pe_call (ok__law_is_int T) (hr.mono (by decide)) (by rfl) T.g__law_is_int T.F__law_is_int.kp T.b__law_is_int .nil pass0 (pa_cons (pe_fld (pv 0) rfl) pa_nil)))) (pw_or1 (pt_cmpR op_ne (pe_fld (pv 0) rfl) (pe_callB call_len_seq (by rfl) T.m_len PySem.boot_len (pa_cons (pv 2) pa_nil)) (nomark _))))) (pss_one (ps_ret pe_bl)) pss_nil)
  (pss_cons (ps_if (PW.pt (pw_or (pt_not (pt_val (pe_callB call_isi (by rfl) T.m_isinstance (by decide +kernel) (pa_cons (RO9.pe_fldK (K := K) (by rfl) (pv 0) (by rfl)) (pa_cons (pe_bltn (v := .ty "tuple") (by rfl) T.m_tuple (by decide +kernel) rfl) pa_nil))))) (pw_or1 (pt_cmpR op_ne (pe_callB call_len_seq (by rfl) T.m_len PySem.boot_len (pa_cons (RO9.pe_fldK (K := K) (by rfl) (pv 0) (by rfl)) pa_nil)) (pe_callB call_len_seq (by rfl) T.m_len PySem.boot_len (pa_cons (pv 2) pa_nil)) (nomark _))))) (pss_one (ps_ret pe_bl)) pss_nil)
  (pss_one (ps_ret (pe_cmpR op_eq (pe_callB call_len_seq (by rfl) T.m_len PySem.boot_len (pa_cons (pe_lc (own := [("at", 3)]) (g := (gName 3)) rfl sc__law_is_table.nd (pi_range1 (by rfl) T.m_range (pa_cons (pe_callB call_len_seq (by rfl) T.m_len PySem.boot_len (pa_cons (pv 2) pa_nil)) pa_nil)) (blkOk_by (own := [("at", 3)]) (N := ["table", "loops", "rows", "at"]) (sc := defScope s__law_is_table) (by decide +kernel)) (fun _ _ _ _ _ => pg_name (i := 3) sc__law_is_table.nd rfl (.inl rfl)) (fun _ _ _ _ _ => (pts_one (pt_not (pt_val (pe_call (ok__law_are_ints T) (hr.mono (by decide)) (by rfl) T.g__law_are_ints T.F__law_are_ints.kp T.b__law_are_ints .nil pass0 (pa_cons (pe_ix (ixTK (K := K) (by rfl)) (RO9.pe_fldK (K := K) (by rfl) (pv 0) (by rfl)) (pv 3) (fun _ _ => rfl)) (pa_cons (pe_ix (ixTK (K := K) (by rfl)) (pv 2) (pv 3) (fun _ _ => rfl)) pa_nil))))))) (fun _ _ _ _ _ => (pv 3))) pa_nil)) pe_int (nomark _)))))))), ?_⟩
    obtain ⟨dx, a, b, ps2, ep, hA, hB, tu2⟩ := tab.ob
    refine ⟨.ref x, rfl, .ref x, .ref T.c_Table, _, _, true, rfl, .own _, T.in_Table.tyOf T.cl_Table ep, T.in_Table.self, true, rfl, iteF ?_⟩
    refine ⟨.ref x, rfl, x, T.c_Table, dx, _, _, rfl, ep, T.cl_Table, T.n_Table_loops, tf_loops _ _ _, .ref la, rfl, a, la, ls, rfl, hA, hL, fun H1 s1 => ⟨true, rfl, iteF ?_⟩⟩
    have ep1 := s1 _ _ ep
    refine ⟨.ref x, rfl, x, T.c_Table, dx, _, _, rfl, ep1, T.cl_Table, T.n_Table_bound, tf_bound _ _ _, _, rfl, true, rfl, iteF ?_⟩
    have e60 : ((ps.map V.ref).length : Int) = (rs.length : Int) := by rw [List.length_map, tu.length]
    have e61 : ((ps2.map V.ref).length : Int) = (rs.length : Int) := by rw [List.length_map, tu2.length]
    have neI : ∀ {m n : Int}, m = n → V.bl (!decide (V.int m = V.int n)) = V.bl false := fun {m n} e => by
      rw [decide_eq_true (congrArg V.int e)]
      rfl
    refine ⟨.ref x, rfl, x, T.c_Table, dx, _, _, rfl, ep1, T.cl_Table, T.n_Table_bound, tf_bound _ _ _, .ref ra, rfl, ra, _, rfl, .inr (sT s1 hR), rfl, false, neI e60.symm, iteF ?_⟩
    refine ⟨.ref x, rfl, x, T.c_Table, dx, _, _, rfl, ep1, T.cl_Table, T.n_Table_rows, tf_rows _ _ _, .ref b, .ty "tuple", _, _, true, rfl, .ty _, tyTup (sT s1 hB), kit_ty (by decide +kernel), true, rfl, iteF ?_⟩
    refine ⟨.ref x, rfl, x, T.c_Table, dx, _, _, rfl, ep1, T.cl_Table, T.n_Table_rows, tf_rows _ _ _, b, _, rfl, .inr (sT s1 hB), .ref ra, rfl, ra, _, rfl, .inr (sT s1 hR), rfl, false, neI (e61.trans e60.symm), iteF ?_⟩
    refine ⟨.ref ra, rfl, ra, _, rfl, .inr (sT s1 hR), _, rfl, by rw [List.length_map, tu.length]; omega, by rw [List.length_map, tu.length]; omega, fun D hD => lc_range (lo := 0) (n := ((((ps.map V.ref).length : Nat) : Int)).toNat)
      (fun i H' => Same H1 H' ∧ H' D = some (.lst [])) ⟨same_upd hD, upd_same⟩ (fun i H' hi p => ?_) (fun H' p => ?_)⟩
    · obtain ⟨sm, eD⟩ := p
      have s1m := s1.trans sm
      have hi' : i < rs.length := by
        have : i < (ps.map V.ref).length := by omega
        rw [List.length_map, tu.length] at this
        exact this
      rw [Int.zero_add]
      obtain ⟨row, hrow⟩ : ∃ row, rs[i]? = some row := ⟨_, List.getElem?_eq_getElem hi'⟩
      obtain ⟨r1, hr1, er1⟩ := tu.at hrow
      obtain ⟨r2, hr2, er2⟩ := tu2.at hrow
      exact ⟨rfl, .ref x, rfl, x, T.c_Table, dx, _, _, rfl, s1m _ _ ep, T.cl_Table, T.n_Table_rows, tf_rows _ _ _, .int (i : Int), rfl, b, _, _, .ref r2, rfl, rfl, sT s1m hB, atI_nat hr2, .ref ra, rfl, .int (i : Int), rfl, ra, _, _, .ref r1, rfl, rfl, sT s1m hR, atI_nat hr1, r2, r1, row, rfl, SqT.of (s1m _ _ er2), SqT.of (s1m _ _ er1), fun H2 s2 => ⟨true, rfl, iteF ⟨sm.trans s2, s2 _ _ eD⟩⟩⟩
    · obtain ⟨sm, eD⟩ := p
      exact ⟨D, _, rfl, .inl (SqL.of eD), rfl, q H' (s1.trans sm)⟩
end

/-! ### another table, drawn -/
theorem len1_set {ls : List Int} {k : Nat} {x j : Int} (h : j ≠ (k : Int)) (h0 : 0 ≤ j) : Tb.len1 (ls.set k x) j = Tb.len1 ls j := by
  unfold Tb.len1
  rw [List.getD_eq_getElem?_getD, List.getD_eq_getElem?_getD, List.getElem?_set_ne (by omega)]
theorem rsum_set {ls : List Int} {k : Nat} {x : Int} {r : List Int} (hr : Tb.InR ls r) (h : (k : Int) ∉ r) : Tb.rsum (ls.set k x) r = Tb.rsum ls r := by
  unfold Tb.rsum
  rw [List.map_congr_left fun j hj => len1_set (ls := ls) (k := k) (x := x) (fun e => h (e ▸ hj)) (hr j hj).1]
theorem right_set {ls : List Int} {rs : List (List Int)} (R : Tb.Right ls rs) {k : Nat} {x : Int} (h1 : 1 ≤ x) (h2 : x ≤ 40) (hk : ∀ r ∈ rs, (k : Int) ∉ r) : Tb.Right (ls.set k x) rs :=
  ⟨good_set R.1 h1 h2, R.2.1, R.2.2.1, fun i r hi => by
    obtain ⟨a, b, c⟩ := R.2.2.2 i r hi
    have hm := hk r (List.mem_of_getElem? hi)
    refine ⟨fun j hj => ⟨(a j hj).1, by rw [List.length_set]; exact (a j hj).2⟩, b, ?_⟩
    rw [rsum_set a hm]
    exact c⟩
theorem right_row {ls : List Int} {rs : List (List Int)} (R : Tb.Right ls rs) {k : Nat} {row : List Int} (hin : Tb.InR ls row) (hs : Tb.rsum ls row = (k : Int) + 1) (hk : k < rs.length) : Tb.Right ls (rs.set k row) :=
  ⟨R.1, by rw [List.length_set]; exact R.2.1, by rw [List.length_set]; exact R.2.2.1, fun i r hi => by
    by_cases e : k = i
    · subst e
      rw [List.getElem?_set_self hk] at hi
      cases hi
      have := Tb.rsum_len R.1 hin
      have := R.2.2.1
      exact ⟨hin, by omega, hs⟩
    · rw [List.getElem?_set_ne e] at hi
      exact R.2.2.2 i r hi⟩
section
variable {P : Program} {w : World} {K : PySem.W.Frag} {mg : Str → Option Value} {base : Heap}
theorem inV_ints (k : Int) : ∀ r : List Int, inV (.int k) (r.map V.int) = decide (k ∈ r)
  | [] => rfl
  | x :: r => by
    show (eqV (.int x) (.int k) || inV (.int k) (r.map V.int)) = _
    rw [inV_ints k r]
    show ((x == k) || decide (k ∈ r)) = _
    by_cases e : x = k
    · subst e
      simp
    · have e' : ¬ k = x := fun z => e z.symm
      rw [beq_false_of_ne e, Bool.false_or]
      exact decide_eq_decide.mpr ⟨fun z => List.mem_cons_of_mem _ z, fun z => (List.mem_cons.mp z).resolve_left e'⟩
theorem tups_set {α : Type} {f : α → List V} {H : Hp} {r : Addr} {x : α} (e : H r = some (.tup (f x))) : ∀ {ps : List Addr} {xs : List α}, Tups f H ps xs → ∀ {i : Nat}, Tups f H (ps.set i r) (xs.set i x)
  | _, _, .nil, _ => .nil
  | _, _, .cons h t, 0 => .cons e t
  | _, _, .cons h t, i + 1 => .cons h (tups_set e t)
def spOther (K : PySem.W.Frag) : Sp := fun vs H Q _ => ∃ (t s a b : Addr) (ls : List Int) (rs : List (List Int)) (ps : List Addr), vs = [.ref t, .ref a, .ref b] ∧ Tape H t s ∧ Frz H a (ls.map V.int) ∧ (1 : Int) ∈ ls ∧ SqT K H b (ps.map V.ref) ∧ Tups fI H ps rs ∧ Tb.Right ls rs ∧
  ∀ p la ra (ms : List Int) (qs : List (List Int)) (us : List Addr) H', Tb.Right ms qs → Moved t H H' → Tape H' t s → H' p = some (.tup [V.ref la, .ref ra]) → SqT K H' la (ms.map V.int) → SqT K H' ra (us.map V.ref) → Tups fI H' us qs → Q (.ref p) H'
theorem ok__law_other (T : Tx K mg) : FnOk P w K mg base CX0 3 T.a__law_other T.d__law_other ["tape", "loops", "rows"] (spOther K) := by
  refine T.F__law_other.ok sc__law_other (fun vs H Q E h => ?_) (fun cdv A outer s H vs Q E hr h => ?_)
  · obtain ⟨t, sc, a, b, ls, rs, ps, rfl, _⟩ := h
    rfl
  · obtain ⟨t, sc, a, b, ls, rs, ps, rfl, tp, ea, m1, hR, tu, R, q⟩ := h
    refine ⟨_, ((pss_cons (ps_set (i := 3) sc__law_other.nd rfl (.inl rfl) (pe_call (ok__law_pick T) (hr.mono (by decide)) (by rfl) T.g__law_pick T.F__law_pick.kp T.b__law_pick .nil pass0 (pa_cons (pv 0) (pa_cons (pe_callB call_len_seq (by rfl) T.m_len PySem.boot_len (pa_cons (pv 2) pa_nil)) pa_nil))))
  (pss_cons (ps_set (i := 4) sc__law_other.nd rfl (.inr rfl) (pe_callTy call_list_of (by rfl) T.m_list (by decide +kernel) (pa_cons (pv 2) pa_nil)))
  (pss_cons (ps_asg (pe_call (ok__law_row T) (hr.mono (by decide)) (by rfl) T.g__law_row T.F__law_row.kp T.b__law_row .nil pass0 (pa_cons (pv 0) (pa_cons (pv 1) (pa_cons (pe_op op_add (pv 3) pe_int) pa_nil)))) (pg_sub (pv 4) (pv 3) set_list))
  (pss_cons (ps_set (i := 5) sc__law_other.nd rfl (.inl rfl) (pe_callTy call_list_of (by rfl) T.m_list (by decide +kernel) (pa_cons (pv 1) pa_nil)))
  (pss_cons (ps_setLc (i := 6) (own := [("k", 7)]) (g := (gName 7)) rfl sc__law_other.nd rfl rfl (sw_true rfl rfl rfl (by decide +kernel)) (pi_range1 (by rfl) T.m_range (pa_cons (pe_callB call_len_seq (by rfl) T.m_len PySem.boot_len (pa_cons (pv 1) pa_nil)) pa_nil)) (blkOk_by (own := [("k", 7)]) (N := ["tape", "loops", "rows", "at", "found", "lengths", "unused", "k", "row"]) (sc := defScope s__law_other) (by decide +kernel)) (fun _ _ _ _ _ => pg_name (i := 7) sc__law_other.nd rfl (.inr rfl)) (fun _ _ _ _ _ => (pts_one (pt_cmpR op_eq (pe_callB (EX15.call_lenK (K := K) (by rfl)) (by rfl) T.m_len PySem.boot_len (pa_cons (pe_lc (own := [("row", 8)]) (g := (gName 8)) rfl sc__law_other.nd (EX15.pi_listK (K := K) (by rfl) (pv 4)) (blkOk_by (own := [("row", 8)]) (N := ["tape", "loops", "rows", "at", "found", "lengths", "unused", "k", "row"]) (sc := _) (by rfl)) (fun _ _ _ _ _ => pg_name (i := 8) sc__law_other.nd rfl (.inl rfl)) (fun _ _ _ _ _ => (pts_one (pt_cmpR (inK (K := K) (by rfl)) (pv 7) (pv 8) (by rfl)))) (fun _ _ _ _ _ => (pv 8))) pa_nil)) pe_int (nomark _)))) (fun _ _ _ _ _ => (pv 7)))
  (Evl.pss_cut (ps_if (PW.pt (pw_and (pt_cmpR op_gt (pe_callB call_len_seq (by rfl) T.m_len PySem.boot_len (pa_cons (pv 6) pa_nil)) pe_int (nomark _)) (pw_and1 (pt_cmpR op_eq (pe_call (ok__law_pick T) (hr.mono (by decide)) (by rfl) T.g__law_pick T.F__law_pick.kp T.b__law_pick .nil pass0 (pa_cons (pv 0) (pa_cons pe_int pa_nil))) pe_int (nomark _))))) (pss_one (ps_asg (pe_op op_add pe_int (pe_call (ok__law_pick T) (hr.mono (by decide)) (by rfl) T.g__law_pick T.F__law_pick.kp T.b__law_pick .nil pass0 (pa_cons (pv 0) (pa_cons pe_int pa_nil)))) (pg_sub (pv 5) (pe_ix ix_list (pv 6) (pe_call (ok__law_pick T) (hr.mono (by decide)) (by rfl) T.g__law_pick T.F__law_pick.kp T.b__law_pick .nil pass0 (pa_cons (pv 0) (pa_cons (pe_callB call_len_seq (by rfl) T.m_len PySem.boot_len (pa_cons (pv 6) pa_nil)) pa_nil))) (fun _ _ => rfl)) set_list))) pss_nil)
  (pss_one (ps_ret (pe_tup (pa_cons (pe_callTy call_tupleF (by rfl) T.m_tuple (by decide +kernel) (pa_cons (pv 5) pa_nil)) (pa_cons (pe_callTy call_tuple_of (by rfl) T.m_tuple (by decide +kernel) (pa_cons (pv 4) pa_nil)) pa_nil)))))))))))), ?_⟩
    have h60 := R.2.2.1
    have h1 := R.2.1
    have hat : a ≠ t := ea.tape tp
    refine ⟨.ref t, rfl, .ref b, rfl, b, _, rfl, .inr hR, t, sc, (rs.length : Int), by rw [List.length_map, tu.length]; rfl, ⟨by omega, by omega⟩, tp, fun k H1 k0 k1 mv1 tp1 => ?_⟩
    have ea1 := ea.moved hat mv1
    have hR1 := mv1.sq (K := K) tp hR
    have tu1 := mv1.tups tp tu
    refine ⟨.ref b, rfl, b, _, rfl, .inr hR1, fun F nF => ?_⟩
    have sF := same_upd (o := .lst (ps.map V.ref)) nF
    have eF : upd H1 F (.lst (ps.map V.ref)) F = some (.lst (ps.map V.ref)) := upd_same
    have tp2 := tp1.keep sF
    have Ft : F ≠ t := tp1.ne nF
    have Fs : F ≠ sc := tp1.ne2 nF
    have ea2 := ea1.same sF
    have tu2 := tu1.same sF
    have Fa : a ≠ F := ea1.ne nF
    have mv2 : Moved t H (upd H1 F (.lst (ps.map V.ref))) := mv1.trans (Moved.same sF)
    have nFH : H F = none := by
      cases z : H F with
      | none => rfl
      | some o =>
        rw [mv1 _ _ Ft z] at nF
        cases nF
    generalize upd H1 F (.lst (ps.map V.ref)) = H2 at *
    refine ⟨.ref t, rfl, .ref a, rfl, .int k, rfl, _, _, rfl, rfl, t, sc, a, ls, k + 1, rfl, tp2, ea2, R.1, m1, by omega, by omega, fun r row H3 hin hs hrt nr mv3 tp3 er => ?_⟩
    have eF3 := mv3 _ _ Ft eF
    refine ⟨.ref F, rfl, .int k, rfl, F, _, k, k.toNat, rfl, rfl, eF3, by rw [List.length_map, tu.length]; exact ixN_nat k0 (by omega), ?_⟩
    have hk : k.toNat < rs.length := by omega
    have R2 := right_row R hin (by rw [hs]; omega) hk
    have ea3 := ea2.moved hat mv3
    have tu3 := mv3.tups tp2 tu2
    have kp4 : ∀ b o, b ≠ t → H b = some o → (upd H3 F (.lst ((ps.map V.ref).set k.toNat (.ref r)))) b = some o := fun b o n e => by
      rw [upd_ne (ne_of_none e nFH)]
      exact mv3 _ _ n (mv2 _ _ n e)
    have tp4 := tp3.but (o := .lst ((ps.map V.ref).set k.toNat (.ref r))) Ft Fs
    have ea4 : Frz (upd H3 F (.lst ((ps.map V.ref).set k.toNat (.ref r)))) a (ls.map V.int) := ea3.of fun o e => by
      rw [upd_ne Fa]
      exact e
    have eF4 : upd H3 F (.lst ((ps.map V.ref).set k.toNat (.ref r))) F = some (.lst ((ps.set k.toNat r).map V.ref)) := by
      rw [upd_same, List.map_set]
    have tu4 : Tups fI (upd H3 F (.lst ((ps.map V.ref).set k.toNat (.ref r)))) (ps.set k.toNat r) (rs.set k.toNat row) := (tups_set er tu3).put eF3
    generalize upd H3 F (.lst ((ps.map V.ref).set k.toNat (.ref r))) = H4 at *
    obtain ⟨us, hus⟩ : ∃ us, us = ps.set k.toNat r := ⟨_, rfl⟩
    obtain ⟨qs, hqs⟩ : ∃ qs, qs = rs.set k.toNat row := ⟨_, rfl⟩
    rw [← hus, ← hqs] at tu4
    rw [← hqs] at R2
    rw [← hus] at eF4
    have g1 := R.1.1
    have g2 := R.1.2.1
    have q60 := R2.2.2.1
    refine ⟨.ref a, rfl, a, _, rfl, .inr ea4.sq, fun L nL => ?_⟩
    have sL := same_upd (o := .lst (ls.map V.int)) nL
    have eL : upd H4 L (.lst (ls.map V.int)) L = some (.lst (ls.map V.int)) := upd_same
    have tp5 := tp4.keep sL
    have Lt : L ≠ t := tp4.ne nL
    have Ls : L ≠ sc := tp4.ne2 nL
    have LF : F ≠ L := ne_of_none eF4 nL
    have eF5 := sL _ _ eF4
    have tu5 := tu4.same sL
    have ea5 := ea4.same sL
    have La : a ≠ L := ea4.ne nL
    have kp5 : ∀ b o, b ≠ t → H b = some o → (upd H4 L (.lst (ls.map V.int))) b = some o := fun b o n e => sL _ _ (kp4 b o n e)
    have nLH : H L = none := by
      cases z : H L with
      | none => rfl
      | some o =>
        rw [kp4 _ _ Lt z] at nL
        cases nL
    generalize upd H4 L (.lst (ls.map V.int)) = H5 at *
    refine ⟨.ref a, rfl, a, _, rfl, .inr ea5.sq, _, rfl, by rw [List.length_map]; omega, by rw [List.length_map]; omega, fun U nU => lc_range (lo := 0) (n := ((((ls.map V.int).length : Nat) : Int)).toNat)
      (fun j H' => ∃ ks : List Int, Same H5 H' ∧ H' U = some (.lst (ks.map V.int)) ∧ ks.length ≤ j ∧ ∀ x ∈ ks, 0 ≤ x ∧ x < (ls.length : Int) ∧ ∀ q ∈ qs, x ∉ q)
      ⟨[], same_upd nU, upd_same, Nat.zero_le _, fun _ h => by cases h⟩ (fun j H' hj p => ?_) (fun H' p => ?_)⟩
    · obtain ⟨ks, sm, eU, zk, hks⟩ := p
      rw [List.length_map] at hj
      rw [Int.zero_add]
      refine ⟨rfl, .ref F, rfl, F, rfl, ⟨_, SqL.of (sm _ _ eF5)⟩, fun D nD => lc_list (K := K) (a := F) (xs := us.map V.ref)
        (fun m H'' => Same H' H'' ∧ ∃ acc : List V, H'' D = some (.lst acc) ∧ acc.length ≤ m ∧ (acc = [] → ∀ q ∈ qs.take m, (j : Int) ∉ q))
        ⟨same_upd nD, [], upd_same, Nat.le_refl _, fun _ q hq => by rw [List.take_zero] at hq; cases hq⟩ (fun m H'' _ h => SqL.of (h.1 _ _ (sm _ _ eF5))) (fun m v H'' hv h => ?_) (fun H'' h => ?_)⟩
      · obtain ⟨s2, acc, eD, za, hacc⟩ := h
        obtain ⟨r', q', rfl, hq', er'⟩ := tu5.get hv
        have zm : m < us.length := by
          have := (List.getElem?_eq_some_iff.mp hq').1
          rw [tu5.length]
          exact this
        have zus : us.length ≤ 60 := by rw [tu5.length]; exact q60
        refine ⟨rfl, .int (j : Int), rfl, .ref r', rfl, r', _, rfl, .inr (SqT.of (s2 _ _ (sm _ _ er'))), rfl, flat_ints _, _, rfl, ?_⟩
        refine iteB (fun c => ?_) (fun c => ?_)
        · exact ⟨_, rfl, acc, eD, small1000 (by omega), same_put s2 nD, _, upd_same, by rw [List.length_append]; show acc.length + 1 ≤ m + 1; omega, fun z => by simp at z⟩
        · refine ⟨s2, acc, eD, by omega, fun z q hq => ?_⟩
          rw [take_snoc hq'] at hq
          rcases List.mem_append.mp hq with hq | hq
          · exact hacc z q hq
          · rw [List.mem_singleton.mp hq]
            have c' : inV (V.int (j : Int)) (q'.map V.int) = false := c
            rw [inV_ints] at c'
            exact of_decide_eq_false c'
      · obtain ⟨s2, acc, eD, za, hacc⟩ := h
        have eq_ : qs.take (us.map V.ref).length = qs := List.take_of_length_le (by rw [List.length_map, tu5.length]; exact Nat.le_refl _)
        rw [eq_] at hacc
        have eU2 := s2 _ _ eU
        refine ⟨D, _, rfl, .inl (SqL.of eD), rfl, _, rfl, ?_⟩
        cases acc with
        | nil =>
          refine iteT ⟨.int (j : Int), rfl, _, eU2, by rw [List.length_map]; exact small1000 (by omega), ks ++ [(j : Int)], same_put (sm.trans s2) nU, by rw [upd_same, List.map_append]; rfl, by rw [List.length_append]; show ks.length + 1 ≤ j + 1; omega, fun x hx => ?_⟩
          rcases List.mem_append.mp hx with hx | hx
          · exact hks x hx
          · rw [List.mem_singleton.mp hx]
            exact ⟨by omega, by omega, hacc rfl⟩
        | cons v r =>
          have e : decide (V.int (((v :: r).length : Nat) : Int) = V.int 0) = false := decide_eq_false fun z => by
            have := V.int.inj z
            rw [List.length_cons] at this
            omega
          rw [e]
          exact iteF ⟨ks, sm.trans s2, eU2, by omega, hks⟩
    · obtain ⟨ks, sm, eU, zk, hks⟩ := p
      rw [List.length_map] at zk
      have tp6 := tp5.keep sm
      have eF6 := sm _ _ eF5
      have eL6 := sm _ _ eL
      have tu6 := tu5.same sm
      have kp6 : ∀ b o, b ≠ t → H b = some o → H' b = some o := fun b o n e => sm _ _ (kp5 b o n e)
      have Ut : U ≠ t := tp5.ne nU
      refine ⟨fun σ' Hm => ∃ ms : List Int, σ' = [some (.ref t), some (.ref a), some (.ref b), some (.int k), some (.ref F), some (.ref L), some (.ref U), none, none] ∧ Tb.Right ms qs ∧ Hm L = some (.lst (ms.map V.int)) ∧ Hm F = some (.lst (us.map V.ref)) ∧ Tups fI Hm us qs ∧ Tape Hm t sc ∧ (∀ b o, b ≠ t → H b = some o → Hm b = some o), ?_, fun σ' Hm hm => ?_⟩
      · refine ⟨.ref U, rfl, U, _, rfl, .inl (SqL.of eU), _, _, rfl, rfl, _, rfl, ite2 (fun c => ?_) (fun c => ?_)⟩
        · have k1 : 0 < ks.length := by
            have := of_decide_eq_true c
            rw [List.length_map] at this
            omega
          refine ⟨.ref t, rfl, t, sc, 3, rfl, ⟨by decide, by decide⟩, tp6, fun x H7 _ _ mv7 tp7 => ?_⟩
          have eF7 := mv7 _ _ Ft eF6
          have eL7 := mv7 _ _ Lt eL6
          have tu7 := mv7.tups tp6 tu6
          have kp7 : ∀ b o, b ≠ t → H b = some o → H7 b = some o := fun b o n e => mv7 _ _ n (kp6 b o n e)
          by_cases cx : V.int x = V.int 0
          · refine ⟨rfl, true, congrArg V.bl (decide_eq_true cx), iteT ?_⟩
            refine ⟨.ref t, rfl, t, sc, 40, rfl, ⟨by decide, by decide⟩, tp7, fun y H8 y0 y1 mv8 tp8 => ⟨1, y, rfl, rfl, ?_⟩⟩
            have eU8 := mv8 _ _ Ut (mv7 _ _ Ut eU)
            refine ⟨.ref L, rfl, .ref U, rfl, .ref t, rfl, .ref U, rfl, U, _, rfl, .inl (SqL.of eU8), t, sc, (ks.length : Int), by rw [List.length_map]; rfl, ⟨by omega, by omega⟩, tp8, fun z H9 z0 z1 mv9 tp9 => ?_⟩
            have hz : z.toNat < ks.length := by omega
            obtain ⟨kk, hkk⟩ : ∃ kk, ks[z.toNat]? = some kk := ⟨_, List.getElem?_eq_getElem hz⟩
            obtain ⟨q0, q1, q2⟩ := hks kk (List.mem_of_getElem? hkk)
            have eU9 := mv9 _ _ Ut eU8
            have eL9 := mv9 _ _ Lt (mv8 _ _ Lt eL7)
            refine ⟨U, _, z, .int kk, rfl, rfl, SqL.of eU9, atI_of z0 (by rw [List.getElem?_map, hkk]; rfl), L, _, kk, kk.toNat, rfl, rfl, eL9, by rw [List.length_map]; exact ixN_nat q0 (by omega), ?_⟩
            refine ⟨ls.set kk.toNat (1 + y), rfl, right_set R2 (by omega) (by omega) (fun r hr => by rw [show ((kk.toNat : Nat) : Int) = kk by omega]; exact q2 r hr), by rw [upd_same, List.map_set], ?_, ?_, tp9.but Lt Ls, fun b o n e => ?_⟩
            · rw [upd_ne LF]
              exact mv9 _ _ Ft (mv8 _ _ Ft eF7)
            · exact (mv9.tups tp8 (mv8.tups tp7 tu7)).put eL9
            · rw [upd_ne (ne_of_none e nLH)]
              exact mv9 _ _ n (mv8 _ _ n (kp7 b o n e))
          · exact ⟨rfl, false, congrArg V.bl (decide_eq_false cx), iteF ⟨ls, rfl, R2, eL7, eF7, tu7, tp7, kp7⟩⟩
        · exact ⟨ls, rfl, R2, eL6, eF6, tu6, tp6, kp6⟩
      · obtain ⟨ms, rfl, R3, eLm, eFm, tum, tpm, kpm⟩ := hm
        refine ⟨.ref L, rfl, L, _, rfl, SqL.of eLm, fun l Hl nl sl fl ol => ?_⟩
        refine ⟨.ref F, rfl, F, _, rfl, .inl ⟨SqL.of (sl _ _ eFm), fun f nf => ⟨by show 2 ≤ sizeLine; decide, fun p np => ?_⟩⟩⟩
        have sf := same_upd (o := .tup (us.map V.ref)) nf
        have sp := same_upd (o := .tup [V.ref l, .ref f]) np
        have sA := (sl.trans sf).trans sp
        exact q p l f ms qs us _ R3 (fun b o n e => sA _ _ (kpm b o n e)) (tpm.keep sA) upd_same ((fl.same sf).same sp).sq (SqT.of (sp _ _ upd_same)) (tum.same sA)
end

/-! ### the law of texts of tables -/
section
variable {P : Program} {w : World} {K : PySem.W.Frag} {mg : Str → Option Value} {base : Heap}
theorem rows_nn {ls : List Int} {rs : List (List Int)} (R : Tb.Right ls rs) : ∀ r ∈ rs, ∀ n ∈ r, 0 ≤ n := fun r hr n hn => by
  obtain ⟨i, hi⟩ := List.mem_iff_getElem?.mp hr
  exact ((R.2.2.2 i r hi).1 n hn).1
theorem eqTab {C : Addr} {H : Hp} (i : RE8.InsC K C) (cl : Cls K C) {p p2 : Addr} {ls ls2 : List Int} {rs rs2 : List (List Int)} (t1 : TabAt K C H p ls rs) (t2 : TabAt K C H p2 ls2 rs2) {Q : VK} (q : ∀ H', Same H H' → Q (.bl (decide (ls = ls2) && decide (rs = rs2))) H') : RE8.rEqO K C (spTEq K C) (.ref p) (.ref p2) H Q := by
  obtain ⟨dx, _, _, _, ep, _⟩ := t1.ob
  obtain ⟨_, _, _, _, ep2, _⟩ := t2.ob
  exact ⟨p, dx, _, _, rfl, ep, i.tyOf cl ep2, RE8.first_self K C, p, .ref p2, ls, rs, rfl, t1, .inl ⟨p2, ls2, rs2, rfl, t2, fun H' s => ⟨_, rfl, q H' s⟩⟩⟩
def lawLevel : Nat := 9
def spLaw (K : PySem.W.Frag) : Sp := fun vs H Q _ => ∃ (a : Addr) (ns : List Int), vs = [.ref a] ∧ SqL K H a (ns.map V.int) ∧ ns.length ≤ 63 ∧ ∀ H', Q (.bl true) H'
theorem ok_law (T : Tx K mg) : FnOk P w K mg base CX0 9 T.a_law T.d_law ["script"] (spLaw K) := by
  refine T.F_law.ok sc_law (fun vs H Q E h => ?_) (fun cdv A outer s H vs Q E hr h => ?_)
  · obtain ⟨a, ns, rfl, _⟩ := h
    rfl
  · obtain ⟨a, ns0, rfl, hS, hlen, q⟩ := h
    refine ⟨_, ((pss_cons (ps_set (i := 1) sc_law.nd rfl (.inr rfl) (pe_call (ok__law_tape T) (hr.mono (by decide)) (by rfl) T.g__law_tape T.F__law_tape.kp T.b__law_tape .nil pass0 (pa_cons (pv 0) pa_nil)))
  (pss_cons (ps_set (i := 2) sc_law.nd rfl (.inl rfl) (pe_op op_add pe_int (pe_call (ok__law_pick T) (hr.mono (by decide)) (by rfl) T.g__law_pick T.F__law_pick.kp T.b__law_pick .nil pass0 (pa_cons (pv 1) (pa_cons (pe_ix ix_list (pe_lst (pa_cons pe_int (pa_cons pe_int (pa_cons pe_int (pa_cons pe_int (pa_cons pe_int (pa_cons pe_int pa_nil))))))) (pe_call (ok__law_pick T) (hr.mono (by decide)) (by rfl) T.g__law_pick T.F__law_pick.kp T.b__law_pick .nil pass0 (pa_cons (pv 1) (pa_cons pe_int pa_nil))) (fun _ _ => rfl)) pa_nil)))))
  (pss_cons (ps_set (i := 3) sc_law.nd rfl (.inr rfl) (pe_call (ok__law_loops T) (hr.mono (by decide)) (by rfl) T.g__law_loops T.F__law_loops.kp T.b__law_loops .nil pass0 (pa_cons (pv 1) (pa_cons pe_int pa_nil))))
  (pss_cons (ps_set (i := 4) sc_law.nd rfl (.inl rfl) (pe_callTy call_tuple_of (by rfl) T.m_tuple (by decide +kernel) (pa_cons (pe_lc (own := [("wait", 15)]) (g := (gName 15)) (tt := tYes) rfl sc_law.nd (pi_range2 (by rfl) T.m_range (pa_cons pe_int (pa_cons (pe_op op_add (pv 2) pe_int) pa_nil))) (blkOk_by (own := [("wait", 15)]) (N := ["script", "tape", "bound", "loops", "rows", "more_loops", "more_rows", "table", "more", "same", "turn", "text", "more_text", "back", "more_back", "wait"]) (sc := defScope s_law) (by decide +kernel)) (fun _ _ _ _ _ => pg_name (i := 15) sc_law.nd rfl (.inl rfl)) (fun _ _ _ _ _ => pts_nil) (fun _ _ _ _ _ => (pe_call (ok__law_row T) (hr.mono (by decide)) (by rfl) T.g__law_row T.F__law_row.kp T.b__law_row .nil pass0 (pa_cons (pv 1) (pa_cons (pv 3) (pa_cons (pv 15) pa_nil)))))) pa_nil)))
  (pss_cons (ps_asg (pe_call (ok__law_other T) (hr.mono (by decide)) (by rfl) T.g__law_other T.F__law_other.kp T.b__law_other .nil pass0 (pa_cons (pv 1) (pa_cons (pv 3) (pa_cons (pv 4) pa_nil)))) (pg_tup rfl (pgs_cons (pg_name (i := 5) sc_law.nd rfl (.inl rfl)) (pgs_cons (pg_name (i := 6) sc_law.nd rfl (.inl rfl)) pgs_nil))))
  (pss_cons (ps_set (i := 7) sc_law.nd rfl (.inl rfl) (pe_make T.mk_Table (ok_Table___init__ T) (hr.mono (by decide)) (by rfl) T.g_Table T.b_Table___init__ .nil pass0 (pa_cons (pv 3) (pa_cons (pv 4) pa_nil))))
  (pss_cons (ps_set (i := 8) sc_law.nd rfl (.inl rfl) (pe_make T.mk_Table (ok_Table___init__ T) (hr.mono (by decide)) (by rfl) T.g_Table T.b_Table___init__ .nil pass0 (pa_cons (pv 5) (pa_cons (pv 6) pa_nil))))
  (Evl.pss_cut (ps_set (i := 9) sc_law.nd rfl (.inl rfl) (pe_and (pe_cmpR (op_eqD hr.units) (pv 3) (pv 5) (nomark _)) (pe_one (pe_cmpR (op_eqD hr.units) (pv 4) (pv 6) (nomark _)))))
  (pss_cons (ps_for PassesOwn.never rfl (pi_range1 (by rfl) T.m_range (pa_cons pe_int pa_nil)) (pg_name (i := 10) sc_law.nd rfl (.inl rfl))
   (pss_cons (ps_set (i := 11) sc_law.nd rfl (.inl rfl) (pe_call (ok_table_text T) (hr.mono (by decide)) (by rfl) T.g_table_text T.F_table_text.kp T.b_table_text .nil pass0 (pa_cons (pv 7) pa_nil)))
  (pss_cons (ps_set (i := 12) sc_law.nd rfl (.inl rfl) (pe_call (ok_table_text T) (hr.mono (by decide)) (by rfl) T.g_table_text T.F_table_text.kp T.b_table_text .nil pass0 (pa_cons (pv 8) pa_nil)))
  (pss_cons (ps_if (PW.pt (pw_or (pt_not (pt_val (pe_callB call_isi (by rfl) T.m_isinstance (by decide +kernel) (pa_cons (pv 11) (pa_cons (pe_bltn (v := .ty "str") (by rfl) T.m_str (by decide +kernel) rfl) pa_nil))))) (pw_or1 (pt_cmpR op_ne (pv 11) (pe_call (ok__law_text T) (hr.mono (by decide)) (by rfl) T.g__law_text T.F__law_text.kp T.b__law_text .nil pass0 (pa_cons (pv 3) (pa_cons (pv 4) pa_nil))) (nomark _))))) (pss_one (ps_ret pe_bl)) pss_nil)
  (pss_cons (ps_if (PW.pt (pw_or (pt_not (pt_val (pe_callB call_isi (by rfl) T.m_isinstance (by decide +kernel) (pa_cons (pv 12) (pa_cons (pe_bltn (v := .ty "str") (by rfl) T.m_str (by decide +kernel) rfl) pa_nil))))) (pw_or1 (pt_cmpR op_ne (pv 12) (pe_call (ok__law_text T) (hr.mono (by decide)) (by rfl) T.g__law_text T.F__law_text.kp T.b__law_text .nil pass0 (pa_cons (pv 5) (pa_cons (pv 6) pa_nil))) (nomark _))))) (pss_one (ps_ret pe_bl)) pss_nil)
  (pss_cons (ps_if (pt_cmpR op_ne (pe_cmpR op_eq (pv 11) (pv 12) (nomark _)) (pv 9) (nomark _)) (pss_one (ps_ret pe_bl)) pss_nil)
  (pss_cons (ps_set (i := 13) sc_law.nd rfl (.inl rfl) (pe_call (ok_read_table T) (hr.mono (by decide)) (by rfl) T.g_read_table T.F_read_table.kp T.b_read_table .nil pass0 (pa_cons (pv 11) pa_nil)))
  (pss_cons (ps_set (i := 14) sc_law.nd rfl (.inl rfl) (pe_call (ok_read_table T) (hr.mono (by decide)) (by rfl) T.g_read_table T.F_read_table.kp T.b_read_table .nil pass0 (pa_cons (pv 12) pa_nil)))
  (pss_cons (ps_if (PW.pt (pw_or (pt_not (pt_val (pe_call (ok__law_is_table T) (hr.mono (by decide)) (by rfl) T.g__law_is_table T.F__law_is_table.kp T.b__law_is_table .nil pass0 (pa_cons (pv 13) (pa_cons (pv 3) (pa_cons (pv 4) pa_nil)))))) (pw_or1 (pt_not (pt_val (pe_call (ok__law_is_table T) (hr.mono (by decide)) (by rfl) T.g__law_is_table T.F__law_is_table.kp T.b__law_is_table .nil pass0 (pa_cons (pv 14) (pa_cons (pv 5) (pa_cons (pv 6) pa_nil))))))))) (pss_one (ps_ret pe_bl)) pss_nil)
  (pss_cons (ps_if (PW.pt (pw_or (pt_not (pt_cmpR (RE8.op_eqO (sp := spTEq K T.c_Table) (ok_Table___eq__ T) T.me_Table___eq__.at_ T.me_Table___eq__.fn T.b_Table___eq__ (hr.mono (by decide))) (pv 13) (pv 7) (nomark _))) (pw_or (pt_not (pt_cmpR (RE8.op_eqO (sp := spTEq K T.c_Table) (ok_Table___eq__ T) T.me_Table___eq__.at_ T.me_Table___eq__.fn T.b_Table___eq__ (hr.mono (by decide))) (pv 14) (pv 8) (nomark _))) (pw_or1 (pt_cmpR op_ne (pe_cmpR (RE8.op_eqO (sp := spTEq K T.c_Table) (ok_Table___eq__ T) T.me_Table___eq__.at_ T.me_Table___eq__.fn T.b_Table___eq__ (hr.mono (by decide))) (pv 13) (pv 8) (nomark _)) (pv 9) (nomark _)))))) (pss_one (ps_ret pe_bl)) pss_nil)
  (pss_one (ps_if (PW.pt (pw_or (pt_cmpR op_ne (pe_call (ok_table_text T) (hr.mono (by decide)) (by rfl) T.g_table_text T.F_table_text.kp T.b_table_text .nil pass0 (pa_cons (pv 13) pa_nil)) (pv 11) (nomark _)) (pw_or1 (pt_cmpR op_ne (pe_call (ok_table_text T) (hr.mono (by decide)) (by rfl) T.g_table_text T.F_table_text.kp T.b_table_text .nil pass0 (pa_cons (pv 14) pa_nil)) (pv 12) (nomark _))))) (pss_one (ps_ret pe_bl)) pss_nil))))))))))))
  (pss_one (ps_ret (pe_and (pe_call (ok__law_is_table T) (hr.mono (by decide)) (by rfl) T.g__law_is_table T.F__law_is_table.kp T.b__law_is_table .nil pass0 (pa_cons (pv 7) (pa_cons (pv 3) (pa_cons (pv 4) pa_nil)))) (pe_one (pe_call (ok__law_is_table T) (hr.mono (by decide)) (by rfl) T.g__law_is_table T.F__law_is_table.kp T.b__law_is_table .nil pass0 (pa_cons (pv 8) (pa_cons (pv 5) (pa_cons (pv 6) pa_nil)))))))))))))))))), ?_⟩
    refine ⟨.ref a, rfl, a, ns0, rfl, hS, fun t sc H1 nt ns' sm tp => ?_⟩
    refine ⟨.ref t, rfl, by show 6 ≤ sizeLine; decide, fun W nW => ?_⟩
    have sW := same_upd (o := .lst [V.int 6, .int 6, .int 6, .int 20, .int 20, .int 60]) nW
    have eW : upd H1 W (.lst [V.int 6, .int 6, .int 6, .int 20, .int 20, .int 60]) W = some (.lst [V.int 6, .int 6, .int 6, .int 20, .int 20, .int 60]) := upd_same
    have tpW := tp.keep sW
    have Wt : W ≠ t := tp.ne nW
    refine ⟨.ref t, rfl, t, sc, 6, rfl, ⟨by decide, by decide⟩, tpW, fun r H3 r0 r1 mv3 tp3 => ?_⟩
    have eW3 := mv3 _ _ Wt eW
    obtain ⟨m, hm, hv⟩ : ∃ m : Int, (1 ≤ m ∧ m ≤ 60) ∧ ([V.int 6, .int 6, .int 6, .int 20, .int 20, .int 60] : List V)[r.toNat]? = some (.int m) := by
      have z : r = 0 ∨ r = 1 ∨ r = 2 ∨ r = 3 ∨ r = 4 ∨ r = 5 := by omega
      rcases z with rfl | rfl | rfl | rfl | rfl | rfl
      · exact ⟨6, by decide, rfl⟩
      · exact ⟨6, by decide, rfl⟩
      · exact ⟨6, by decide, rfl⟩
      · exact ⟨20, by decide, rfl⟩
      · exact ⟨20, by decide, rfl⟩
      · exact ⟨60, by decide, rfl⟩
    refine ⟨W, _, r, .int m, rfl, rfl, SqL.of eW3, atI_of r0 hv, t, sc, m, rfl, ⟨by omega, by omega⟩, tp3, fun d H4 d0 d1 mv4 tp4 => ⟨1, d, rfl, rfl, ?_⟩⟩
    refine ⟨.ref t, rfl, t, sc, 8, rfl, ⟨by decide, by decide⟩, tp4, fun la ls H5 g h1s hat nla mv5 tp5 ea => ?_⟩
    have hb1 : 1 ≤ (1 + d) := by omega
    have hb60 : (1 + d) ≤ 60 := by omega
    refine ⟨.int (1 + d), rfl, _, _, rfl, rfl, 1, (1 + d) + 1, rfl, ⟨by omega, by omega, by omega, by omega⟩, fun D hD => lc_range (lo := 1) (n := ((1 + d) + 1 - 1).toNat)
      (fun i H' => ∃ (ps : List Addr) (rs : List (List Int)), H' D = some (.lst (ps.map V.ref)) ∧ Tups fI H' ps rs ∧ rs.length = i ∧ (∀ (j : Nat) (r : List Int), rs[j]? = some r → Tb.InR ls r ∧ Tb.rsum ls r = (j : Int) + 1) ∧ (∀ b o, b ≠ t → b ≠ D → H5 b = some o → H' b = some o) ∧ Tape H' t sc)
      ⟨[], [], upd_same, .nil, rfl, fun j r h => by simp at h, fun b o n1 n2 e => by rw [upd_ne n2]; exact e, tp5.keep (same_upd hD)⟩ (fun i H' hi h => ?_) (fun H' h => ?_)⟩
    · obtain ⟨ps, rs, eD, tu, el, hrs, kp, tp'⟩ := h
      have hDt : D ≠ t := tp5.ne hD
      have hDs : D ≠ sc := tp5.ne2 hD
      have hDa : la ≠ D := ea.ne hD
      refine ⟨rfl, ?_⟩
      refine ⟨.ref t, rfl, .ref la, rfl, _, rfl, t, sc, la, ls, 1 + (i : Int), rfl, tp', ea.of (kp la · hat hDa), g, h1s, by omega, by omega, fun r row H2 hin hs hrt nr mv2 tp2 er => ?_⟩
      have eD2 := mv2 D _ hDt eD
      refine ⟨_, eD2, by rw [List.length_map, tu.length]; exact small1000 (by omega), ps ++ [r], rs ++ [row], by rw [upd_same, List.map_append]; rfl, ?_, by rw [List.length_append, el]; rfl, fun j x hx => ?_, fun b o n1 n2 e => ?_, tp2.but hDt hDs⟩
      · exact (((tu.keep fun b ys e => mv2 b _ (fun z => by
          obtain ⟨_, _, _, _, _, _, e2, _⟩ := tp'
          rw [z, e2] at e
          cases e) e)).snoc er).put eD2
      · rcases Nat.lt_or_ge j rs.length with hj | hj
        · rw [List.getElem?_append_left hj] at hx
          exact hrs j x hx
        · rw [List.getElem?_append_right hj] at hx
          have hj0 : j - rs.length = 0 := by
            have := (List.getElem?_eq_some_iff.mp hx).1
            simp at this
            omega
          rw [hj0] at hx
          simp at hx
          subst hx
          exact ⟨hin, by omega⟩
      · rw [upd_ne n2]
        exact mv2 b o n1 (kp b o n1 n2 e)
    · obtain ⟨ps, rs, eD, tu, el, hrs, kp, tp'⟩ := h
      have el' : (rs.length : Int) = 1 + d := by omega
      refine ⟨D, _, rfl, .inl ⟨SqL.of eD, fun ra np => ?_⟩⟩
      have hpt : ra ≠ t := tp'.ne np
      have hpD : ra ≠ D := fun e => by
        rw [e, eD] at np
        cases np
      have hHp : H5 ra = none := by
        cases z : H5 ra with
        | none => rfl
        | some o =>
          rw [kp ra o hpt hpD z] at np
          cases np
      have R : Tb.Right ls rs := ⟨g, by omega, by omega, fun i r hr' => by
        obtain ⟨x, y⟩ := hrs i r hr'
        have := Tb.rsum_len g x
        have := (List.getElem?_eq_some_iff.mp hr').1
        exact ⟨x, by omega, y⟩⟩
      have mv6 : Moved t H5 (upd H' ra (.tup (ps.map V.ref))) := fun b o n1 e => by
        rw [upd_ne (ne_of_none e hHp)]
        exact kp b o n1 (ne_of_none e hD) e
      have tp6 := tp'.keep (same_upd (o := .tup (ps.map V.ref)) np)
      have era : upd H' ra (.tup (ps.map V.ref)) ra = some (.tup (ps.map V.ref)) := upd_same
      have tu6 : Tups fI (upd H' ra (.tup (ps.map V.ref))) ps rs := tu.new np
      have ea6 := ea.moved hat mv6
      generalize upd H' ra (.tup (ps.map V.ref)) = H6 at *
      refine ⟨.ref t, rfl, .ref la, rfl, .ref ra, rfl, t, sc, la, ra, ls, rs, ps, rfl, tp6, ea6, h1s, SqT.of era, tu6, R, fun p lb rb ms qs us H7 R2 mv7 tp7 ep hLb hRb tub => ?_⟩
      have hLa := mv7.sq (K := K) tp6 ea6.sq
      have hRa := mv7.sq (K := K) tp6 (SqT.of era)
      have tua := mv7.tups tp6 tu6
      refine ⟨p, _, rfl, SqT.of ep, rfl, _, [_], rfl, _, [], rfl, rfl, ?_⟩
      refine ⟨.ref la, rfl, .ref ra, rfl, fun x dx nx8 ndx8 nex8 => ?_⟩
      have sx8 : Same H7 (upd (upd H7 dx (.own x)) x (.ins T.c_Table dx [])) := fun b o e => by
        rw [upd_ne (ne_of_none e nx8), upd_ne (ne_of_none e ndx8)]
        exact e
      refine ⟨x, dx, la, ra, ls, ps, rs, rfl, upd_same, sT sx8 hLa, sT sx8 hRa, tua.same sx8, R, fun H8 kp8 ep8 => ⟨rfl, ?_⟩⟩
      have s8 : Same H7 H8 := fun b o e => kp8 b o (ne_of_none e nx8) (sx8 b o e)
      have tabA : TabAt K T.c_Table H8 x ls rs := ⟨dx, la, ra, ps, ep8, sT s8 hLa, sT s8 hRa, tua.same s8⟩
      have hLb8 := sT s8 hLb
      have hRb8 := sT s8 hRb
      have tub8 := tub.same s8
      refine ⟨.ref lb, rfl, .ref rb, rfl, fun y dy nx9 ndx9 nex9 => ?_⟩
      have sx9 : Same H8 (upd (upd H8 dy (.own y)) y (.ins T.c_Table dy [])) := fun b o e => by
        rw [upd_ne (ne_of_none e nx9), upd_ne (ne_of_none e ndx9)]
        exact e
      refine ⟨y, dy, lb, rb, ms, us, qs, rfl, upd_same, sT sx9 hLb8, sT sx9 hRb8, tub8.same sx9, R2, fun H9 kp9 ep9 => ⟨rfl, ?_⟩⟩
      have s9 : Same H8 H9 := fun b o e => kp9 b o (ne_of_none e nx9) (sx9 b o e)
      have tabB : TabAt K T.c_Table H9 y ms qs := ⟨dy, lb, rb, us, ep9, sT s9 hLb8, sT s9 hRb8, tub8.same s9⟩
      have tabA9 := tabA.same s9
      have s79 := s8.trans s9
      have hL9 := sT s79 hLa
      have hR9 := sT s79 hRa
      have tu9 := tua.same s79
      have hLb9 := sT s9 hLb8
      have hRb9 := sT s9 hRb8
      have tub9 := tub8.same s9
      have te : decide (V.str (TxM.text ls rs) = V.str (TxM.text ms qs)) = (decide (ls = ms) && decide (rs = qs)) := by
        by_cases c : ls = ms ∧ rs = qs
        · obtain ⟨rfl, rfl⟩ := c
          rw [decide_eq_true rfl, decide_eq_true rfl, decide_eq_true rfl]
          rfl
        · rw [decide_eq_false fun z => c (TxM.text_inj ⟨loops_full R, fun n hn => (nums_of R.1 n hn).1⟩ ⟨loops_full R2, fun n hn => (nums_of R2.1 n hn).1⟩ (fun r hr => ⟨rows_full R r hr, fun n hn => rows_nn R r hr n hn⟩) (fun r hr => ⟨rows_full R2 r hr, fun n hn => rows_nn R2 r hr n hn⟩) (V.str.inj z))]
          by_cases c1 : ls = ms
          · rw [decide_eq_true c1, decide_eq_false fun z => c ⟨c1, z⟩]
            rfl
          · rw [decide_eq_false c1]
            rfl
      refine ⟨fun σ' Hm => σ' = [some (.ref a), some (.ref t), some (.int (1 + d)), some (.ref la), some (.ref ra), some (.ref lb), some (.ref rb), some (.ref x), some (.ref y), some (.bl (decide (ls = ms) && decide (rs = qs))), none, none, none, none, none, none] ∧ Hm = H9, ?_, fun σ' Hm hm => ?_⟩
      · refine ⟨.ref la, rfl, .ref lb, rfl, My.dI ls, My.dI ms, dp_dI hL9, dp_dI hLb9, (Shp.dI _).ok (by decide), (Shp.dI _).ok (by decide), ?_⟩
        rw [eqvI]
        refine ⟨decide (ls = ms), rfl, ?_⟩
        by_cases c : ls = ms
        · rw [decide_eq_true c]
          refine iteT ⟨.ref ra, rfl, .ref rb, rfl, dTT rs, dTT qs, dp_dTT hR9 tu9, dp_dTT hRb9 tub9, (Shp.dTT _).ok (by decide), (Shp.dTT _).ok (by decide), ?_⟩
          rw [eqvTT]
          exact ⟨by rw [Bool.true_and]; rfl, rfl⟩
        · rw [decide_eq_false c]
          exact iteF ⟨by rw [Bool.false_and]; rfl, rfl⟩
      obtain ⟨rfl, rfl⟩ := hm
      refine ⟨2, rfl, by decide, by decide, for_range (lo := 0) (n := (2 : Int).toNat)
        (fun i σ H' => ∃ (y10 y11 y12 y13 y14 : Option V), σ = [some (.ref a), some (.ref t), some (.int (1 + d)), some (.ref la), some (.ref ra), some (.ref lb), some (.ref rb), some (.ref x), some (.ref y), some (.bl (decide (ls = ms) && decide (rs = qs))), y10, y11, y12, y13, y14, none] ∧ Same Hm H')
        ⟨_, _, _, _, _, rfl, Same.refl _⟩ (fun i σ H' hi h => ?_) (fun σ H' h => ?_)⟩
      · obtain ⟨y10, y11, y12, y13, y14, rfl, sm'⟩ := h
        refine ⟨.ref x, rfl, x, ls, rs, rfl, tabA9.same sm', R, fun Ha sa => ?_⟩
        have sa9 := sm'.trans sa
        refine ⟨.ref y, rfl, y, ms, qs, rfl, tabB.same sa9, R2, fun Hb sb => ?_⟩
        have sb9 := sa9.trans sb
        have neSelf : ∀ v : V, V.bl (!decide (v = v)) = V.bl false := fun v => by rw [decide_eq_true rfl]; rfl
        have tyS : ∀ (z : Str) (H : Hp), TyX K H (.str z) (.type "str") := fun z H => (RO9.Od.str (K := K) (H := H) z).ty
        refine ⟨.str (TxM.text ls rs), rfl, .str (TxM.text ls rs), .ty "str", _, _, true, rfl, .ty _, tyS _ _, kit_ty (by decide +kernel), true, rfl, iteF ?_⟩
        refine ⟨.str (TxM.text ls rs), rfl, .ref la, rfl, .ref ra, rfl, la, ra, ls, rs, ps, rfl, sT sb9 hL9, sT sb9 hR9, tu9.same sb9, R, ?_⟩
        refine ⟨rfl, false, neSelf _, iteF ?_⟩
        refine ⟨.str (TxM.text ms qs), rfl, .str (TxM.text ms qs), .ty "str", _, _, true, rfl, .ty _, tyS _ _, kit_ty (by decide +kernel), true, rfl, iteF ?_⟩
        refine ⟨.str (TxM.text ms qs), rfl, .ref lb, rfl, .ref rb, rfl, lb, rb, ms, qs, us, rfl, sT sb9 hLb9, sT sb9 hRb9, tub9.same sb9, R2, ?_⟩
        refine ⟨rfl, false, neSelf _, iteF ?_⟩
        refine ⟨.str (TxM.text ls rs), rfl, .str (TxM.text ms qs), rfl, rfl, .bl (decide (ls = ms) && decide (rs = qs)), rfl, rfl, false, by rw [te]; exact neSelf _, iteF ?_⟩
        refine ⟨.str (TxM.text ls rs), rfl, ls, rs, rfl, R, fun x2 Hc sc2 tabC => ?_⟩
        refine ⟨.str (TxM.text ms qs), rfl, ms, qs, rfl, R2, fun y2 Hd sd tabD => ?_⟩
        have sd9 := (sb9.trans sc2).trans sd
        refine ⟨.ref x2, rfl, .ref la, rfl, .ref ra, rfl, x2, la, ra, ls, rs, ps, rfl, tabC.same sd, sT sd9 hL9, sT sd9 hR9, tu9.same sd9, R.2.2.1, fun He se => ⟨true, rfl, iteF ?_⟩⟩
        have se9 := sd9.trans se
        refine ⟨.ref y2, rfl, .ref lb, rfl, .ref rb, rfl, y2, lb, rb, ms, qs, us, rfl, tabD.same se, sT se9 hLb9, sT se9 hRb9, tub9.same se9, R2.2.2.1, fun Hf sf => ⟨true, rfl, iteF ?_⟩⟩
        have sf9 := se9.trans sf
        have tabC2 := tabC.same ((sd.trans se).trans sf)
        have tabD2 := tabD.same (se.trans sf)
        refine ⟨.ref x2, rfl, .ref x, rfl, eqTab T.in_Table T.cl_Table tabC2 (tabA9.same sf9) fun Hg sg => ?_⟩
        rw [decide_eq_true rfl, decide_eq_true rfl]
        refine ⟨true, rfl, iteF ?_⟩
        refine ⟨.ref y2, rfl, .ref y, rfl, eqTab T.in_Table T.cl_Table (tabD2.same sg) (tabB.same (sf9.trans sg)) fun Hh sh => ?_⟩
        rw [decide_eq_true rfl, decide_eq_true rfl]
        refine ⟨true, rfl, iteF ?_⟩
        have sh9 := (sf9.trans sg).trans sh
        refine ⟨.ref x2, rfl, .ref y, rfl, eqTab T.in_Table T.cl_Table (tabC2.same (sg.trans sh)) (tabB.same sh9) fun Hi si => ?_⟩
        refine ⟨.bl (decide (ls = ms) && decide (rs = qs)), rfl, rfl, false, neSelf _, iteF ?_⟩
        refine ⟨.ref x2, rfl, x2, ls, rs, rfl, tabC2.same ((sg.trans sh).trans si), R, fun Hj sj => ⟨.str (TxM.text ls rs), rfl, rfl, false, neSelf _, iteF ?_⟩⟩
        refine ⟨.ref y2, rfl, y2, ms, qs, rfl, tabD2.same (((sg.trans sh).trans si).trans sj), R2, fun Hk sk => ⟨.str (TxM.text ms qs), rfl, rfl, false, neSelf _, iteF ?_⟩⟩
        exact ⟨_, _, _, _, _, rfl, ((sh9.trans si).trans sj).trans sk⟩
      · obtain ⟨y10, y11, y12, y13, y14, rfl, sm'⟩ := h
        refine ⟨.ref x, rfl, .ref la, rfl, .ref ra, rfl, x, la, ra, ls, rs, ps, rfl, tabA9.same sm', sT sm' hL9, sT sm' hR9, tu9.same sm', R.2.2.1, fun Ha sa => ⟨true, rfl, iteT ?_⟩⟩
        have sb := sm'.trans sa
        exact ⟨.ref y, rfl, .ref lb, rfl, .ref rb, rfl, y, lb, rb, ms, qs, us, rfl, tabB.same sb, sT sb hLb9, sT sb hRb9, tub9.same sb, R2.2.2.1, fun Hb sb' => q Hb⟩
end

/-! ### the end -/
theorem fin_mk {l : PySem.W.OpenLaw} {w : World} {K : PySem.W.Frag} {h : Heap} {mg : Str → Option Value} {fa f_law : Addr} (KX : K.In h) (G : h.Ns mainGlobals mg) (hmg : mg "law" = some (.ref fa)) {an : Option Addr} {kV dc pm cd ct : Value}
    (hT : ∃ T : Tx K mg, T.a_law = f_law ∧ T.d_law = PySem.W.fnOf "law" "law" (defArgs s_law) (defBody s_law) (defScope s_law) .none kV dc pm an cd ct) :
    ∃ fd : FuncData, (∀ (s : Shared) (v : Value), BindsTo s fd ⟨[v], []⟩ [("script", v)]) ∧ ∀ base : Heap, K.In base → base.Ns mainGlobals mg → FnOk l.prog w K mg base CX0 lawLevel fa fd ["script"] (spLaw K) := by
  obtain ⟨T, ea, ed⟩ := hT
  have e := hmg.symm.trans T.g_law
  cases e
  exact ⟨T.d_law, fun s v => by rw [ed]; exact .of_eq rfl, fun base _ _ => ok_law T⟩

theorem all_mk {w : World} {K : PySem.W.Frag} {h : Heap} {mg : Str → Option Value} (X : K.In h) (G : h.Ns mainGlobals mg)
    {f_is_integer : Addr} {od_is_integer an_is_integer : Option Addr} {sl_is_integer : Array (Option Value)} {oc_is_integer kV_is_integer dc_is_integer pm_is_integer cd_is_integer ct_is_integer : Value}
    {f_is_number : Addr} {od_is_number an_is_number : Option Addr} {sl_is_number : Array (Option Value)} {oc_is_number kV_is_number dc_is_number pm_is_number cd_is_number ct_is_number : Value}
    {f_are_numbers : Addr} {od_are_numbers an_are_numbers : Option Addr} {sl_are_numbers : Array (Option Value)} {oc_are_numbers kV_are_numbers dc_are_numbers pm_are_numbers cd_are_numbers ct_are_numbers : Value}
    {f_is_loops : Addr} {od_is_loops an_is_loops : Option Addr} {sl_is_loops : Array (Option Value)} {oc_is_loops kV_is_loops dc_is_loops pm_is_loops cd_is_loops ct_is_loops : Value}
    {f_is_row : Addr} {od_is_row an_is_row : Option Addr} {sl_is_row : Array (Option Value)} {oc_is_row kV_is_row dc_is_row pm_is_row cd_is_row ct_is_row : Value}
    {f_row_sum : Addr} {od_row_sum an_row_sum : Option Addr} {sl_row_sum : Array (Option Value)} {oc_row_sum kV_row_sum dc_row_sum pm_row_sum cd_row_sum ct_row_sum : Value}
    {f_with_blanks : Addr} {od_with_blanks an_with_blanks : Option Addr} {sl_with_blanks : Array (Option Value)} {oc_with_blanks kV_with_blanks dc_with_blanks pm_with_blanks cd_with_blanks ct_with_blanks : Value}
    {f_table_text : Addr} {od_table_text an_table_text : Option Addr} {sl_table_text : Array (Option Value)} {oc_table_text kV_table_text dc_table_text pm_table_text cd_table_text ct_table_text : Value}
    {f_are_signs : Addr} {od_are_signs an_are_signs : Option Addr} {sl_are_signs : Array (Option Value)} {oc_are_signs kV_are_signs dc_are_signs pm_are_signs cd_are_signs ct_are_signs : Value}
    {f_is_numeral : Addr} {od_is_numeral an_is_numeral : Option Addr} {sl_is_numeral : Array (Option Value)} {oc_is_numeral kV_is_numeral dc_is_numeral pm_is_numeral cd_is_numeral ct_is_numeral : Value}
    {f_numbers_of : Addr} {od_numbers_of an_numbers_of : Option Addr} {sl_numbers_of : Array (Option Value)} {oc_numbers_of kV_numbers_of dc_numbers_of pm_numbers_of cd_numbers_of ct_numbers_of : Value}
    {f_lines_of : Addr} {od_lines_of an_lines_of : Option Addr} {sl_lines_of : Array (Option Value)} {oc_lines_of kV_lines_of dc_lines_of pm_lines_of cd_lines_of ct_lines_of : Value}
    {f_numbers_behind : Addr} {od_numbers_behind an_numbers_behind : Option Addr} {sl_numbers_behind : Array (Option Value)} {oc_numbers_behind kV_numbers_behind dc_numbers_behind pm_numbers_behind cd_numbers_behind ct_numbers_behind : Value}
    {f_read_table : Addr} {od_read_table an_read_table : Option Addr} {sl_read_table : Array (Option Value)} {oc_read_table kV_read_table dc_read_table pm_read_table cd_read_table ct_read_table : Value}
    {f__law_tape : Addr} {od__law_tape an__law_tape : Option Addr} {sl__law_tape : Array (Option Value)} {oc__law_tape kV__law_tape dc__law_tape pm__law_tape cd__law_tape ct__law_tape : Value}
    {f__law_pick : Addr} {od__law_pick an__law_pick : Option Addr} {sl__law_pick : Array (Option Value)} {oc__law_pick kV__law_pick dc__law_pick pm__law_pick cd__law_pick ct__law_pick : Value}
    {f__law_loops : Addr} {od__law_loops an__law_loops : Option Addr} {sl__law_loops : Array (Option Value)} {oc__law_loops kV__law_loops dc__law_loops pm__law_loops cd__law_loops ct__law_loops : Value}
    {f__law_row : Addr} {od__law_row an__law_row : Option Addr} {sl__law_row : Array (Option Value)} {oc__law_row kV__law_row dc__law_row pm__law_row cd__law_row ct__law_row : Value}
    {f__law_spaced : Addr} {od__law_spaced an__law_spaced : Option Addr} {sl__law_spaced : Array (Option Value)} {oc__law_spaced kV__law_spaced dc__law_spaced pm__law_spaced cd__law_spaced ct__law_spaced : Value}
    {f__law_text : Addr} {od__law_text an__law_text : Option Addr} {sl__law_text : Array (Option Value)} {oc__law_text kV__law_text dc__law_text pm__law_text cd__law_text ct__law_text : Value}
    {f__law_is_int : Addr} {od__law_is_int an__law_is_int : Option Addr} {sl__law_is_int : Array (Option Value)} {oc__law_is_int kV__law_is_int dc__law_is_int pm__law_is_int cd__law_is_int ct__law_is_int : Value}
    {f__law_are_ints : Addr} {od__law_are_ints an__law_are_ints : Option Addr} {sl__law_are_ints : Array (Option Value)} {oc__law_are_ints kV__law_are_ints dc__law_are_ints pm__law_are_ints cd__law_are_ints ct__law_are_ints : Value}
    {f__law_is_table : Addr} {od__law_is_table an__law_is_table : Option Addr} {sl__law_is_table : Array (Option Value)} {oc__law_is_table kV__law_is_table dc__law_is_table pm__law_is_table cd__law_is_table ct__law_is_table : Value}
    {f__law_other : Addr} {od__law_other an__law_other : Option Addr} {sl__law_other : Array (Option Value)} {oc__law_other kV__law_other dc__law_other pm__law_other cd__law_other ct__law_other : Value}
    {f_law : Addr} {od_law an_law : Option Addr} {sl_law : Array (Option Value)} {oc_law kV_law dc_law pm_law cd_law ct_law : Value}
    {f_Table___init__ : Addr} {od_Table___init__ an_Table___init__ : Option Addr} {sl_Table___init__ : Array (Option Value)} {oc_Table___init__ kV_Table___init__ dc_Table___init__ pm_Table___init__ cd_Table___init__ ct_Table___init__ : Value}
    {f_Table___eq__ : Addr} {od_Table___eq__ an_Table___eq__ : Option Addr} {sl_Table___eq__ : Array (Option Value)} {oc_Table___eq__ kV_Table___eq__ dc_Table___eq__ pm_Table___eq__ cd_Table___eq__ ct_Table___eq__ : Value}
    {t_FIGURES : Tok}
    {t_MOST_BOUND : Tok}
    {t_MOST_FIGURES : Tok}
    {t_MOST_ITEMS : Tok}
    {t_MOST_LENGTH : Tok}
    {t_MOST_LOOPS : Tok}
    {c_Table : Addr}
    (a_is_integer : PySem.W.nsIn K mainGlobals "is_integer" = some (some (.ref f_is_integer))) (l_is_integer : K.lookup f_is_integer = some ⟨oc_is_integer, od_is_integer, .func (PySem.W.fnOf "is_integer" "is_integer" (defArgs s_is_integer) (defBody s_is_integer) (defScope s_is_integer) .none kV_is_integer dc_is_integer pm_is_integer an_is_integer cd_is_integer ct_is_integer), sl_is_integer⟩) (c_is_integer : PySem.W.codeIn K cd_is_integer "is_integer" = true) (k_is_integer : PySem.W.keepIn K (.ref f_is_integer) = true)
    (a_is_number : PySem.W.nsIn K mainGlobals "is_number" = some (some (.ref f_is_number))) (l_is_number : K.lookup f_is_number = some ⟨oc_is_number, od_is_number, .func (PySem.W.fnOf "is_number" "is_number" (defArgs s_is_number) (defBody s_is_number) (defScope s_is_number) .none kV_is_number dc_is_number pm_is_number an_is_number cd_is_number ct_is_number), sl_is_number⟩) (c_is_number : PySem.W.codeIn K cd_is_number "is_number" = true) (k_is_number : PySem.W.keepIn K (.ref f_is_number) = true)
    (a_are_numbers : PySem.W.nsIn K mainGlobals "are_numbers" = some (some (.ref f_are_numbers))) (l_are_numbers : K.lookup f_are_numbers = some ⟨oc_are_numbers, od_are_numbers, .func (PySem.W.fnOf "are_numbers" "are_numbers" (defArgs s_are_numbers) (defBody s_are_numbers) (defScope s_are_numbers) .none kV_are_numbers dc_are_numbers pm_are_numbers an_are_numbers cd_are_numbers ct_are_numbers), sl_are_numbers⟩) (c_are_numbers : PySem.W.codeIn K cd_are_numbers "are_numbers" = true) (k_are_numbers : PySem.W.keepIn K (.ref f_are_numbers) = true)
    (a_is_loops : PySem.W.nsIn K mainGlobals "is_loops" = some (some (.ref f_is_loops))) (l_is_loops : K.lookup f_is_loops = some ⟨oc_is_loops, od_is_loops, .func (PySem.W.fnOf "is_loops" "is_loops" (defArgs s_is_loops) (defBody s_is_loops) (defScope s_is_loops) .none kV_is_loops dc_is_loops pm_is_loops an_is_loops cd_is_loops ct_is_loops), sl_is_loops⟩) (c_is_loops : PySem.W.codeIn K cd_is_loops "is_loops" = true) (k_is_loops : PySem.W.keepIn K (.ref f_is_loops) = true)
    (a_is_row : PySem.W.nsIn K mainGlobals "is_row" = some (some (.ref f_is_row))) (l_is_row : K.lookup f_is_row = some ⟨oc_is_row, od_is_row, .func (PySem.W.fnOf "is_row" "is_row" (defArgs s_is_row) (defBody s_is_row) (defScope s_is_row) .none kV_is_row dc_is_row pm_is_row an_is_row cd_is_row ct_is_row), sl_is_row⟩) (c_is_row : PySem.W.codeIn K cd_is_row "is_row" = true) (k_is_row : PySem.W.keepIn K (.ref f_is_row) = true)
    (a_row_sum : PySem.W.nsIn K mainGlobals "row_sum" = some (some (.ref f_row_sum))) (l_row_sum : K.lookup f_row_sum = some ⟨oc_row_sum, od_row_sum, .func (PySem.W.fnOf "row_sum" "row_sum" (defArgs s_row_sum) (defBody s_row_sum) (defScope s_row_sum) .none kV_row_sum dc_row_sum pm_row_sum an_row_sum cd_row_sum ct_row_sum), sl_row_sum⟩) (c_row_sum : PySem.W.codeIn K cd_row_sum "row_sum" = true) (k_row_sum : PySem.W.keepIn K (.ref f_row_sum) = true)
    (a_with_blanks : PySem.W.nsIn K mainGlobals "with_blanks" = some (some (.ref f_with_blanks))) (l_with_blanks : K.lookup f_with_blanks = some ⟨oc_with_blanks, od_with_blanks, .func (PySem.W.fnOf "with_blanks" "with_blanks" (defArgs s_with_blanks) (defBody s_with_blanks) (defScope s_with_blanks) .none kV_with_blanks dc_with_blanks pm_with_blanks an_with_blanks cd_with_blanks ct_with_blanks), sl_with_blanks⟩) (c_with_blanks : PySem.W.codeIn K cd_with_blanks "with_blanks" = true) (k_with_blanks : PySem.W.keepIn K (.ref f_with_blanks) = true)
    (a_table_text : PySem.W.nsIn K mainGlobals "table_text" = some (some (.ref f_table_text))) (l_table_text : K.lookup f_table_text = some ⟨oc_table_text, od_table_text, .func (PySem.W.fnOf "table_text" "table_text" (defArgs s_table_text) (defBody s_table_text) (defScope s_table_text) .none kV_table_text dc_table_text pm_table_text an_table_text cd_table_text ct_table_text), sl_table_text⟩) (c_table_text : PySem.W.codeIn K cd_table_text "table_text" = true) (k_table_text : PySem.W.keepIn K (.ref f_table_text) = true)
    (a_are_signs : PySem.W.nsIn K mainGlobals "are_signs" = some (some (.ref f_are_signs))) (l_are_signs : K.lookup f_are_signs = some ⟨oc_are_signs, od_are_signs, .func (PySem.W.fnOf "are_signs" "are_signs" (defArgs s_are_signs) (defBody s_are_signs) (defScope s_are_signs) .none kV_are_signs dc_are_signs pm_are_signs an_are_signs cd_are_signs ct_are_signs), sl_are_signs⟩) (c_are_signs : PySem.W.codeIn K cd_are_signs "are_signs" = true) (k_are_signs : PySem.W.keepIn K (.ref f_are_signs) = true)
    (a_is_numeral : PySem.W.nsIn K mainGlobals "is_numeral" = some (some (.ref f_is_numeral))) (l_is_numeral : K.lookup f_is_numeral = some ⟨oc_is_numeral, od_is_numeral, .func (PySem.W.fnOf "is_numeral" "is_numeral" (defArgs s_is_numeral) (defBody s_is_numeral) (defScope s_is_numeral) .none kV_is_numeral dc_is_numeral pm_is_numeral an_is_numeral cd_is_numeral ct_is_numeral), sl_is_numeral⟩) (c_is_numeral : PySem.W.codeIn K cd_is_numeral "is_numeral" = true) (k_is_numeral : PySem.W.keepIn K (.ref f_is_numeral) = true)
    (a_numbers_of : PySem.W.nsIn K mainGlobals "numbers_of" = some (some (.ref f_numbers_of))) (l_numbers_of : K.lookup f_numbers_of = some ⟨oc_numbers_of, od_numbers_of, .func (PySem.W.fnOf "numbers_of" "numbers_of" (defArgs s_numbers_of) (defBody s_numbers_of) (defScope s_numbers_of) .none kV_numbers_of dc_numbers_of pm_numbers_of an_numbers_of cd_numbers_of ct_numbers_of), sl_numbers_of⟩) (c_numbers_of : PySem.W.codeIn K cd_numbers_of "numbers_of" = true) (k_numbers_of : PySem.W.keepIn K (.ref f_numbers_of) = true)
    (a_lines_of : PySem.W.nsIn K mainGlobals "lines_of" = some (some (.ref f_lines_of))) (l_lines_of : K.lookup f_lines_of = some ⟨oc_lines_of, od_lines_of, .func (PySem.W.fnOf "lines_of" "lines_of" (defArgs s_lines_of) (defBody s_lines_of) (defScope s_lines_of) .none kV_lines_of dc_lines_of pm_lines_of an_lines_of cd_lines_of ct_lines_of), sl_lines_of⟩) (c_lines_of : PySem.W.codeIn K cd_lines_of "lines_of" = true) (k_lines_of : PySem.W.keepIn K (.ref f_lines_of) = true)
    (a_numbers_behind : PySem.W.nsIn K mainGlobals "numbers_behind" = some (some (.ref f_numbers_behind))) (l_numbers_behind : K.lookup f_numbers_behind = some ⟨oc_numbers_behind, od_numbers_behind, .func (PySem.W.fnOf "numbers_behind" "numbers_behind" (defArgs s_numbers_behind) (defBody s_numbers_behind) (defScope s_numbers_behind) .none kV_numbers_behind dc_numbers_behind pm_numbers_behind an_numbers_behind cd_numbers_behind ct_numbers_behind), sl_numbers_behind⟩) (c_numbers_behind : PySem.W.codeIn K cd_numbers_behind "numbers_behind" = true) (k_numbers_behind : PySem.W.keepIn K (.ref f_numbers_behind) = true)
    (a_read_table : PySem.W.nsIn K mainGlobals "read_table" = some (some (.ref f_read_table))) (l_read_table : K.lookup f_read_table = some ⟨oc_read_table, od_read_table, .func (PySem.W.fnOf "read_table" "read_table" (defArgs s_read_table) (defBody s_read_table) (defScope s_read_table) .none kV_read_table dc_read_table pm_read_table an_read_table cd_read_table ct_read_table), sl_read_table⟩) (c_read_table : PySem.W.codeIn K cd_read_table "read_table" = true) (k_read_table : PySem.W.keepIn K (.ref f_read_table) = true)
    (a__law_tape : PySem.W.nsIn K mainGlobals "_law_tape" = some (some (.ref f__law_tape))) (l__law_tape : K.lookup f__law_tape = some ⟨oc__law_tape, od__law_tape, .func (PySem.W.fnOf "_law_tape" "_law_tape" (defArgs s__law_tape) (defBody s__law_tape) (defScope s__law_tape) .none kV__law_tape dc__law_tape pm__law_tape an__law_tape cd__law_tape ct__law_tape), sl__law_tape⟩) (c__law_tape : PySem.W.codeIn K cd__law_tape "_law_tape" = true) (k__law_tape : PySem.W.keepIn K (.ref f__law_tape) = true)
    (a__law_pick : PySem.W.nsIn K mainGlobals "_law_pick" = some (some (.ref f__law_pick))) (l__law_pick : K.lookup f__law_pick = some ⟨oc__law_pick, od__law_pick, .func (PySem.W.fnOf "_law_pick" "_law_pick" (defArgs s__law_pick) (defBody s__law_pick) (defScope s__law_pick) .none kV__law_pick dc__law_pick pm__law_pick an__law_pick cd__law_pick ct__law_pick), sl__law_pick⟩) (c__law_pick : PySem.W.codeIn K cd__law_pick "_law_pick" = true) (k__law_pick : PySem.W.keepIn K (.ref f__law_pick) = true)
    (a__law_loops : PySem.W.nsIn K mainGlobals "_law_loops" = some (some (.ref f__law_loops))) (l__law_loops : K.lookup f__law_loops = some ⟨oc__law_loops, od__law_loops, .func (PySem.W.fnOf "_law_loops" "_law_loops" (defArgs s__law_loops) (defBody s__law_loops) (defScope s__law_loops) .none kV__law_loops dc__law_loops pm__law_loops an__law_loops cd__law_loops ct__law_loops), sl__law_loops⟩) (c__law_loops : PySem.W.codeIn K cd__law_loops "_law_loops" = true) (k__law_loops : PySem.W.keepIn K (.ref f__law_loops) = true)
    (a__law_row : PySem.W.nsIn K mainGlobals "_law_row" = some (some (.ref f__law_row))) (l__law_row : K.lookup f__law_row = some ⟨oc__law_row, od__law_row, .func (PySem.W.fnOf "_law_row" "_law_row" (defArgs s__law_row) (defBody s__law_row) (defScope s__law_row) .none kV__law_row dc__law_row pm__law_row an__law_row cd__law_row ct__law_row), sl__law_row⟩) (c__law_row : PySem.W.codeIn K cd__law_row "_law_row" = true) (k__law_row : PySem.W.keepIn K (.ref f__law_row) = true)
    (a__law_spaced : PySem.W.nsIn K mainGlobals "_law_spaced" = some (some (.ref f__law_spaced))) (l__law_spaced : K.lookup f__law_spaced = some ⟨oc__law_spaced, od__law_spaced, .func (PySem.W.fnOf "_law_spaced" "_law_spaced" (defArgs s__law_spaced) (defBody s__law_spaced) (defScope s__law_spaced) .none kV__law_spaced dc__law_spaced pm__law_spaced an__law_spaced cd__law_spaced ct__law_spaced), sl__law_spaced⟩) (c__law_spaced : PySem.W.codeIn K cd__law_spaced "_law_spaced" = true) (k__law_spaced : PySem.W.keepIn K (.ref f__law_spaced) = true)
    (a__law_text : PySem.W.nsIn K mainGlobals "_law_text" = some (some (.ref f__law_text))) (l__law_text : K.lookup f__law_text = some ⟨oc__law_text, od__law_text, .func (PySem.W.fnOf "_law_text" "_law_text" (defArgs s__law_text) (defBody s__law_text) (defScope s__law_text) .none kV__law_text dc__law_text pm__law_text an__law_text cd__law_text ct__law_text), sl__law_text⟩) (c__law_text : PySem.W.codeIn K cd__law_text "_law_text" = true) (k__law_text : PySem.W.keepIn K (.ref f__law_text) = true)
    (a__law_is_int : PySem.W.nsIn K mainGlobals "_law_is_int" = some (some (.ref f__law_is_int))) (l__law_is_int : K.lookup f__law_is_int = some ⟨oc__law_is_int, od__law_is_int, .func (PySem.W.fnOf "_law_is_int" "_law_is_int" (defArgs s__law_is_int) (defBody s__law_is_int) (defScope s__law_is_int) .none kV__law_is_int dc__law_is_int pm__law_is_int an__law_is_int cd__law_is_int ct__law_is_int), sl__law_is_int⟩) (c__law_is_int : PySem.W.codeIn K cd__law_is_int "_law_is_int" = true) (k__law_is_int : PySem.W.keepIn K (.ref f__law_is_int) = true)
    (a__law_are_ints : PySem.W.nsIn K mainGlobals "_law_are_ints" = some (some (.ref f__law_are_ints))) (l__law_are_ints : K.lookup f__law_are_ints = some ⟨oc__law_are_ints, od__law_are_ints, .func (PySem.W.fnOf "_law_are_ints" "_law_are_ints" (defArgs s__law_are_ints) (defBody s__law_are_ints) (defScope s__law_are_ints) .none kV__law_are_ints dc__law_are_ints pm__law_are_ints an__law_are_ints cd__law_are_ints ct__law_are_ints), sl__law_are_ints⟩) (c__law_are_ints : PySem.W.codeIn K cd__law_are_ints "_law_are_ints" = true) (k__law_are_ints : PySem.W.keepIn K (.ref f__law_are_ints) = true)
    (a__law_is_table : PySem.W.nsIn K mainGlobals "_law_is_table" = some (some (.ref f__law_is_table))) (l__law_is_table : K.lookup f__law_is_table = some ⟨oc__law_is_table, od__law_is_table, .func (PySem.W.fnOf "_law_is_table" "_law_is_table" (defArgs s__law_is_table) (defBody s__law_is_table) (defScope s__law_is_table) .none kV__law_is_table dc__law_is_table pm__law_is_table an__law_is_table cd__law_is_table ct__law_is_table), sl__law_is_table⟩) (c__law_is_table : PySem.W.codeIn K cd__law_is_table "_law_is_table" = true) (k__law_is_table : PySem.W.keepIn K (.ref f__law_is_table) = true)
    (a__law_other : PySem.W.nsIn K mainGlobals "_law_other" = some (some (.ref f__law_other))) (l__law_other : K.lookup f__law_other = some ⟨oc__law_other, od__law_other, .func (PySem.W.fnOf "_law_other" "_law_other" (defArgs s__law_other) (defBody s__law_other) (defScope s__law_other) .none kV__law_other dc__law_other pm__law_other an__law_other cd__law_other ct__law_other), sl__law_other⟩) (c__law_other : PySem.W.codeIn K cd__law_other "_law_other" = true) (k__law_other : PySem.W.keepIn K (.ref f__law_other) = true)
    (a_law : PySem.W.nsIn K mainGlobals "law" = some (some (.ref f_law))) (l_law : K.lookup f_law = some ⟨oc_law, od_law, .func (PySem.W.fnOf "law" "law" (defArgs s_law) (defBody s_law) (defScope s_law) .none kV_law dc_law pm_law an_law cd_law ct_law), sl_law⟩) (c_law : PySem.W.codeIn K cd_law "law" = true) (k_law : PySem.W.keepIn K (.ref f_law) = true)
    (a_Table___init__ : PySem.W.findIn K (.ref c_Table) "__init__" = some (some (.ref f_Table___init__))) (i_Table___init__ : PySem.W.isFn K (.ref f_Table___init__) = true) (l_Table___init__ : K.lookup f_Table___init__ = some ⟨oc_Table___init__, od_Table___init__, .func (PySem.W.fnOf "__init__" "Table.__init__" (defArgs s_Table___init__) (defBody s_Table___init__) (defScope s_Table___init__) .none kV_Table___init__ dc_Table___init__ pm_Table___init__ an_Table___init__ cd_Table___init__ ct_Table___init__), sl_Table___init__⟩) (c_Table___init__ : PySem.W.codeIn K cd_Table___init__ "Table.__init__" = true) (k_Table___init__ : PySem.W.keepIn K (.ref f_Table___init__) = true)
    (a_Table___eq__ : PySem.W.findIn K (.ref c_Table) "__eq__" = some (some (.ref f_Table___eq__))) (i_Table___eq__ : PySem.W.isFn K (.ref f_Table___eq__) = true) (l_Table___eq__ : K.lookup f_Table___eq__ = some ⟨oc_Table___eq__, od_Table___eq__, .func (PySem.W.fnOf "__eq__" "Table.__eq__" (defArgs s_Table___eq__) (defBody s_Table___eq__) (defScope s_Table___eq__) .none kV_Table___eq__ dc_Table___eq__ pm_Table___eq__ an_Table___eq__ cd_Table___eq__ ct_Table___eq__), sl_Table___eq__⟩) (c_Table___eq__ : PySem.W.codeIn K cd_Table___eq__ "Table.__eq__" = true) (k_Table___eq__ : PySem.W.keepIn K (.ref f_Table___eq__) = true)
    (z_all : PySem.W.nsIn K mainGlobals "all" = some none)
    (z_bool : PySem.W.nsIn K mainGlobals "bool" = some none)
    (z_enumerate : PySem.W.nsIn K mainGlobals "enumerate" = some none)
    (z_int : PySem.W.nsIn K mainGlobals "int" = some none)
    (z_isinstance : PySem.W.nsIn K mainGlobals "isinstance" = some none)
    (z_len : PySem.W.nsIn K mainGlobals "len" = some none)
    (z_list : PySem.W.nsIn K mainGlobals "list" = some none)
    (z_range : PySem.W.nsIn K mainGlobals "range" = some none)
    (z_str : PySem.W.nsIn K mainGlobals "str" = some none)
    (z_sum : PySem.W.nsIn K mainGlobals "sum" = some none)
    (z_tuple : PySem.W.nsIn K mainGlobals "tuple" = some none)
    (y_FIGURES : PySem.W.nsIn K mainGlobals "FIGURES" = some (some (.str "0123456789" t_FIGURES)))
    (y_MOST_BOUND : PySem.W.nsIn K mainGlobals "MOST_BOUND" = some (some (.int 60 t_MOST_BOUND)))
    (y_MOST_FIGURES : PySem.W.nsIn K mainGlobals "MOST_FIGURES" = some (some (.int 9 t_MOST_FIGURES)))
    (y_MOST_ITEMS : PySem.W.nsIn K mainGlobals "MOST_ITEMS" = some (some (.int 60 t_MOST_ITEMS)))
    (y_MOST_LENGTH : PySem.W.nsIn K mainGlobals "MOST_LENGTH" = some (some (.int 40 t_MOST_LENGTH)))
    (y_MOST_LOOPS : PySem.W.nsIn K mainGlobals "MOST_LOOPS" = some (some (.int 8 t_MOST_LOOPS)))
    (y_Table : PySem.W.nsIn K mainGlobals "Table" = some (some (.ref c_Table)))
    (pg_Table : PySem.W.plainGet K c_Table Str.empty = true) (hd_Table : PySem.W.hasDictIn K c_Table = true) (po_Table : PySem.W.plainOver K c_Table = true) (sa_Table : PySem.W.findIn K (.ref c_Table) "__setattr__" = some (some (.builtin "object.__setattr__"))) (mk_Table : PySem.W.makesIn K c_Table = true) (kc_Table : PySem.W.keepIn K (.ref c_Table) = true)
    (n_Table_loops : PySem.W.findIn K (.ref c_Table) "loops" = some none)
    (n_Table_rows : PySem.W.findIn K (.ref c_Table) "rows" = some none)
    (n_Table_bound : PySem.W.findIn K (.ref c_Table) "bound" = some none)
    (wa_Table : PySem.W.findIn K (.ref c_Table) "__class__" = some (some (.builtin "object.__class__"))) (wn_Table : PySem.W.specialIn K (.builtin "object.__class__") "__get__" = some (some (.builtin "getset_descriptor.__get__"))) (wt_Table : PySem.W.takesIn K (.builtin "object.__class__") = some true) (wm_Table : PySem.W.mroIn K c_Table (.type "object") = some true) (we_Table : PySem.W.findIn K (.ref c_Table) "__ne__" = some (some (.builtin "object.__ne__"))) (wi_Table : PySem.W.isClsIn K c_Table = true) (wy_Table : PySem.W.typeIn K (.ref c_Table) = some (.type "type"))
    : ∃ T : Tx K mg, T.a_law = f_law ∧ T.d_law = PySem.W.fnOf "law" "law" (defArgs s_law) (defBody s_law) (defScope s_law) .none kV_law dc_law pm_law an_law cd_law ct_law :=
  ⟨{ a_is_integer := f_is_integer, d_is_integer := _, F_is_integer := fun_mk (st := s_is_integer) l_is_integer c_is_integer k_is_integer, b_is_integer := (fun_mk (st := s_is_integer) l_is_integer c_is_integer k_is_integer).binds (ps := ["thing"]) (fun _ _ _ _ _ _ us hl => match us, hl with | [_], _ => rfl), g_is_integer := PySem.W.mg_of X G a_is_integer,
     a_is_number := f_is_number, d_is_number := _, F_is_number := fun_mk (st := s_is_number) l_is_number c_is_number k_is_number, b_is_number := (fun_mk (st := s_is_number) l_is_number c_is_number k_is_number).binds (ps := ["thing", "least", "most"]) (fun _ _ _ _ _ _ us hl => match us, hl with | [_, _, _], _ => rfl), g_is_number := PySem.W.mg_of X G a_is_number,
     a_are_numbers := f_are_numbers, d_are_numbers := _, F_are_numbers := fun_mk (st := s_are_numbers) l_are_numbers c_are_numbers k_are_numbers, b_are_numbers := (fun_mk (st := s_are_numbers) l_are_numbers c_are_numbers k_are_numbers).binds (ps := ["things", "least", "most"]) (fun _ _ _ _ _ _ us hl => match us, hl with | [_, _, _], _ => rfl), g_are_numbers := PySem.W.mg_of X G a_are_numbers,
     a_is_loops := f_is_loops, d_is_loops := _, F_is_loops := fun_mk (st := s_is_loops) l_is_loops c_is_loops k_is_loops, b_is_loops := (fun_mk (st := s_is_loops) l_is_loops c_is_loops k_is_loops).binds (ps := ["thing"]) (fun _ _ _ _ _ _ us hl => match us, hl with | [_], _ => rfl), g_is_loops := PySem.W.mg_of X G a_is_loops,
     a_is_row := f_is_row, d_is_row := _, F_is_row := fun_mk (st := s_is_row) l_is_row c_is_row k_is_row, b_is_row := (fun_mk (st := s_is_row) l_is_row c_is_row k_is_row).binds (ps := ["loops", "thing"]) (fun _ _ _ _ _ _ us hl => match us, hl with | [_, _], _ => rfl), g_is_row := PySem.W.mg_of X G a_is_row,
     a_row_sum := f_row_sum, d_row_sum := _, F_row_sum := fun_mk (st := s_row_sum) l_row_sum c_row_sum k_row_sum, b_row_sum := (fun_mk (st := s_row_sum) l_row_sum c_row_sum k_row_sum).binds (ps := ["loops", "row"]) (fun _ _ _ _ _ _ us hl => match us, hl with | [_, _], _ => rfl), g_row_sum := PySem.W.mg_of X G a_row_sum,
     a_with_blanks := f_with_blanks, d_with_blanks := _, F_with_blanks := fun_mk (st := s_with_blanks) l_with_blanks c_with_blanks k_with_blanks, b_with_blanks := (fun_mk (st := s_with_blanks) l_with_blanks c_with_blanks k_with_blanks).binds (ps := ["numbers"]) (fun _ _ _ _ _ _ us hl => match us, hl with | [_], _ => rfl), g_with_blanks := PySem.W.mg_of X G a_with_blanks,
     a_table_text := f_table_text, d_table_text := _, F_table_text := fun_mk (st := s_table_text) l_table_text c_table_text k_table_text, b_table_text := (fun_mk (st := s_table_text) l_table_text c_table_text k_table_text).binds (ps := ["table"]) (fun _ _ _ _ _ _ us hl => match us, hl with | [_], _ => rfl), g_table_text := PySem.W.mg_of X G a_table_text,
     a_are_signs := f_are_signs, d_are_signs := _, F_are_signs := fun_mk (st := s_are_signs) l_are_signs c_are_signs k_are_signs, b_are_signs := (fun_mk (st := s_are_signs) l_are_signs c_are_signs k_are_signs).binds (ps := ["text", "signs"]) (fun _ _ _ _ _ _ us hl => match us, hl with | [_, _], _ => rfl), g_are_signs := PySem.W.mg_of X G a_are_signs,
     a_is_numeral := f_is_numeral, d_is_numeral := _, F_is_numeral := fun_mk (st := s_is_numeral) l_is_numeral c_is_numeral k_is_numeral, b_is_numeral := (fun_mk (st := s_is_numeral) l_is_numeral c_is_numeral k_is_numeral).binds (ps := ["word"]) (fun _ _ _ _ _ _ us hl => match us, hl with | [_], _ => rfl), g_is_numeral := PySem.W.mg_of X G a_is_numeral,
     a_numbers_of := f_numbers_of, d_numbers_of := _, F_numbers_of := fun_mk (st := s_numbers_of) l_numbers_of c_numbers_of k_numbers_of, b_numbers_of := (fun_mk (st := s_numbers_of) l_numbers_of c_numbers_of k_numbers_of).binds (ps := ["words"]) (fun _ _ _ _ _ _ us hl => match us, hl with | [_], _ => rfl), g_numbers_of := PySem.W.mg_of X G a_numbers_of,
     a_lines_of := f_lines_of, d_lines_of := _, F_lines_of := fun_mk (st := s_lines_of) l_lines_of c_lines_of k_lines_of, b_lines_of := (fun_mk (st := s_lines_of) l_lines_of c_lines_of k_lines_of).binds (ps := ["text"]) (fun _ _ _ _ _ _ us hl => match us, hl with | [_], _ => rfl), g_lines_of := PySem.W.mg_of X G a_lines_of,
     a_numbers_behind := f_numbers_behind, d_numbers_behind := _, F_numbers_behind := fun_mk (st := s_numbers_behind) l_numbers_behind c_numbers_behind k_numbers_behind, b_numbers_behind := (fun_mk (st := s_numbers_behind) l_numbers_behind c_numbers_behind k_numbers_behind).binds (ps := ["head", "line"]) (fun _ _ _ _ _ _ us hl => match us, hl with | [_, _], _ => rfl), g_numbers_behind := PySem.W.mg_of X G a_numbers_behind,
     a_read_table := f_read_table, d_read_table := _, F_read_table := fun_mk (st := s_read_table) l_read_table c_read_table k_read_table, b_read_table := (fun_mk (st := s_read_table) l_read_table c_read_table k_read_table).binds (ps := ["text"]) (fun _ _ _ _ _ _ us hl => match us, hl with | [_], _ => rfl), g_read_table := PySem.W.mg_of X G a_read_table,
     a__law_tape := f__law_tape, d__law_tape := _, F__law_tape := fun_mk (st := s__law_tape) l__law_tape c__law_tape k__law_tape, b__law_tape := (fun_mk (st := s__law_tape) l__law_tape c__law_tape k__law_tape).binds (ps := ["script"]) (fun _ _ _ _ _ _ us hl => match us, hl with | [_], _ => rfl), g__law_tape := PySem.W.mg_of X G a__law_tape,
     a__law_pick := f__law_pick, d__law_pick := _, F__law_pick := fun_mk (st := s__law_pick) l__law_pick c__law_pick k__law_pick, b__law_pick := (fun_mk (st := s__law_pick) l__law_pick c__law_pick k__law_pick).binds (ps := ["tape", "size"]) (fun _ _ _ _ _ _ us hl => match us, hl with | [_, _], _ => rfl), g__law_pick := PySem.W.mg_of X G a__law_pick,
     a__law_loops := f__law_loops, d__law_loops := _, F__law_loops := fun_mk (st := s__law_loops) l__law_loops c__law_loops k__law_loops, b__law_loops := (fun_mk (st := s__law_loops) l__law_loops c__law_loops k__law_loops).binds (ps := ["tape", "most"]) (fun _ _ _ _ _ _ us hl => match us, hl with | [_, _], _ => rfl), g__law_loops := PySem.W.mg_of X G a__law_loops,
     a__law_row := f__law_row, d__law_row := _, F__law_row := fun_mk (st := s__law_row) l__law_row c__law_row k__law_row, b__law_row := (fun_mk (st := s__law_row) l__law_row c__law_row k__law_row).binds (ps := ["tape", "loops", "wait"]) (fun _ _ _ _ _ _ us hl => match us, hl with | [_, _, _], _ => rfl), g__law_row := PySem.W.mg_of X G a__law_row,
     a__law_spaced := f__law_spaced, d__law_spaced := _, F__law_spaced := fun_mk (st := s__law_spaced) l__law_spaced c__law_spaced k__law_spaced, b__law_spaced := (fun_mk (st := s__law_spaced) l__law_spaced c__law_spaced k__law_spaced).binds (ps := ["numbers"]) (fun _ _ _ _ _ _ us hl => match us, hl with | [_], _ => rfl), g__law_spaced := PySem.W.mg_of X G a__law_spaced,
     a__law_text := f__law_text, d__law_text := _, F__law_text := fun_mk (st := s__law_text) l__law_text c__law_text k__law_text, b__law_text := (fun_mk (st := s__law_text) l__law_text c__law_text k__law_text).binds (ps := ["loops", "rows"]) (fun _ _ _ _ _ _ us hl => match us, hl with | [_, _], _ => rfl), g__law_text := PySem.W.mg_of X G a__law_text,
     a__law_is_int := f__law_is_int, d__law_is_int := _, F__law_is_int := fun_mk (st := s__law_is_int) l__law_is_int c__law_is_int k__law_is_int, b__law_is_int := (fun_mk (st := s__law_is_int) l__law_is_int c__law_is_int k__law_is_int).binds (ps := ["thing"]) (fun _ _ _ _ _ _ us hl => match us, hl with | [_], _ => rfl), g__law_is_int := PySem.W.mg_of X G a__law_is_int,
     a__law_are_ints := f__law_are_ints, d__law_are_ints := _, F__law_are_ints := fun_mk (st := s__law_are_ints) l__law_are_ints c__law_are_ints k__law_are_ints, b__law_are_ints := (fun_mk (st := s__law_are_ints) l__law_are_ints c__law_are_ints k__law_are_ints).binds (ps := ["thing", "due"]) (fun _ _ _ _ _ _ us hl => match us, hl with | [_, _], _ => rfl), g__law_are_ints := PySem.W.mg_of X G a__law_are_ints,
     a__law_is_table := f__law_is_table, d__law_is_table := _, F__law_is_table := fun_mk (st := s__law_is_table) l__law_is_table c__law_is_table k__law_is_table, b__law_is_table := (fun_mk (st := s__law_is_table) l__law_is_table c__law_is_table k__law_is_table).binds (ps := ["table", "loops", "rows"]) (fun _ _ _ _ _ _ us hl => match us, hl with | [_, _, _], _ => rfl), g__law_is_table := PySem.W.mg_of X G a__law_is_table,
     a__law_other := f__law_other, d__law_other := _, F__law_other := fun_mk (st := s__law_other) l__law_other c__law_other k__law_other, b__law_other := (fun_mk (st := s__law_other) l__law_other c__law_other k__law_other).binds (ps := ["tape", "loops", "rows"]) (fun _ _ _ _ _ _ us hl => match us, hl with | [_, _, _], _ => rfl), g__law_other := PySem.W.mg_of X G a__law_other,
     a_law := f_law, d_law := _, F_law := fun_mk (st := s_law) l_law c_law k_law, b_law := (fun_mk (st := s_law) l_law c_law k_law).binds (ps := ["script"]) (fun _ _ _ _ _ _ us hl => match us, hl with | [_], _ => rfl), g_law := PySem.W.mg_of X G a_law,
     m_all := PySem.W.mg_none_of X G z_all,
     m_bool := PySem.W.mg_none_of X G z_bool,
     m_enumerate := PySem.W.mg_none_of X G z_enumerate,
     m_int := PySem.W.mg_none_of X G z_int,
     m_isinstance := PySem.W.mg_none_of X G z_isinstance,
     m_len := PySem.W.mg_none_of X G z_len,
     m_list := PySem.W.mg_none_of X G z_list,
     m_range := PySem.W.mg_none_of X G z_range,
     m_str := PySem.W.mg_none_of X G z_str,
     m_sum := PySem.W.mg_none_of X G z_sum,
     m_tuple := PySem.W.mg_none_of X G z_tuple,
     t_FIGURES := t_FIGURES, g_FIGURES := PySem.W.mg_of X G y_FIGURES,
     t_MOST_BOUND := t_MOST_BOUND, g_MOST_BOUND := PySem.W.mg_of X G y_MOST_BOUND,
     t_MOST_FIGURES := t_MOST_FIGURES, g_MOST_FIGURES := PySem.W.mg_of X G y_MOST_FIGURES,
     t_MOST_ITEMS := t_MOST_ITEMS, g_MOST_ITEMS := PySem.W.mg_of X G y_MOST_ITEMS,
     t_MOST_LENGTH := t_MOST_LENGTH, g_MOST_LENGTH := PySem.W.mg_of X G y_MOST_LENGTH,
     t_MOST_LOOPS := t_MOST_LOOPS, g_MOST_LOOPS := PySem.W.mg_of X G y_MOST_LOOPS,
     c_Table := c_Table, g_Table := PySem.W.mg_of X G y_Table,
     a_Table___init__ := f_Table___init__, d_Table___init__ := _, F_Table___init__ := fun_mk (st := s_Table___init__) l_Table___init__ c_Table___init__ k_Table___init__, b_Table___init__ := (fun_mk (st := s_Table___init__) l_Table___init__ c_Table___init__ k_Table___init__).binds (ps := ["self", "loops", "rows"]) (fun _ _ _ _ _ _ us hl => match us, hl with | [_, _, _], _ => rfl),
     mk_Table := ⟨mk_Table, a_Table___init__, i_Table___init__, kc_Table⟩,
     a_Table___eq__ := f_Table___eq__, d_Table___eq__ := _, F_Table___eq__ := fun_mk (st := s_Table___eq__) l_Table___eq__ c_Table___eq__ k_Table___eq__, b_Table___eq__ := (fun_mk (st := s_Table___eq__) l_Table___eq__ c_Table___eq__ k_Table___eq__).binds (ps := ["self", "other"]) (fun _ _ _ _ _ _ us hl => match us, hl with | [_, _], _ => rfl),
     me_Table___eq__ := ⟨a_Table___eq__, i_Table___eq__, k_Table___eq__⟩,
     cl_Table := ⟨pg_Table, hd_Table, po_Table, sa_Table⟩,
     n_Table_loops := n_Table_loops,
     n_Table_rows := n_Table_rows,
     n_Table_bound := n_Table_bound,
     in_Table := ⟨wa_Table, wn_Table, wt_Table, wm_Table, we_Table, wi_Table, wy_Table⟩ }, rfl, rfl⟩
end My
open PySem PySem.W PyProof.Rows
set_option maxHeartbeats 0 in
theorem PySem.Challenge.cw_loopstore_k87_whole_texts_of_tables_holds : PySem.Challenge.rw_loopstore_k87_whole_texts_of_tables.Holds := by
  w_on; o_law; k_headL; (case hw => w_witness2)
  k_fill
  refine L2.walk_of (l := PySem.Challenge.rw_loopstore_k87_whole_texts_of_tables) (n := 63) (k := My.lawLevel) (x := "script") (CX := fun _ => L2.CX0) (sp := fun w => My.spLaw _) rfl (by decide) rfl ⟨rfl, by decide, by decide⟩ (fun w h Y => PySem.W.kIn_of Y) ?F (fun _ _ a ns hl _ hS => ⟨a, ns, rfl, hS, hl, fun _ => rfl⟩) (fun _ _ _ _ _ h => h)
  case F =>
    intro w mg fa h KX G hmg
    refine' My.fin_mk KX G hmg (My.all_mk (w := w) KX G ?a_is_integer ?l_is_integer ?c_is_integer ?k_is_integer ?a_is_number ?l_is_number ?c_is_number ?k_is_number ?a_are_numbers ?l_are_numbers ?c_are_numbers ?k_are_numbers ?a_is_loops ?l_is_loops ?c_is_loops ?k_is_loops ?a_is_row ?l_is_row ?c_is_row ?k_is_row ?a_row_sum ?l_row_sum ?c_row_sum ?k_row_sum ?a_with_blanks ?l_with_blanks ?c_with_blanks ?k_with_blanks ?a_table_text ?l_table_text ?c_table_text ?k_table_text ?a_are_signs ?l_are_signs ?c_are_signs ?k_are_signs ?a_is_numeral ?l_is_numeral ?c_is_numeral ?k_is_numeral ?a_numbers_of ?l_numbers_of ?c_numbers_of ?k_numbers_of ?a_lines_of ?l_lines_of ?c_lines_of ?k_lines_of ?a_numbers_behind ?l_numbers_behind ?c_numbers_behind ?k_numbers_behind ?a_read_table ?l_read_table ?c_read_table ?k_read_table ?a__law_tape ?l__law_tape ?c__law_tape ?k__law_tape ?a__law_pick ?l__law_pick ?c__law_pick ?k__law_pick ?a__law_loops ?l__law_loops ?c__law_loops ?k__law_loops ?a__law_row ?l__law_row ?c__law_row ?k__law_row ?a__law_spaced ?l__law_spaced ?c__law_spaced ?k__law_spaced ?a__law_text ?l__law_text ?c__law_text ?k__law_text ?a__law_is_int ?l__law_is_int ?c__law_is_int ?k__law_is_int ?a__law_are_ints ?l__law_are_ints ?c__law_are_ints ?k__law_are_ints ?a__law_is_table ?l__law_is_table ?c__law_is_table ?k__law_is_table ?a__law_other ?l__law_other ?c__law_other ?k__law_other ?a_law ?l_law ?c_law ?k_law ?a_Table___init__ ?i_Table___init__ ?l_Table___init__ ?c_Table___init__ ?k_Table___init__ ?a_Table___eq__ ?i_Table___eq__ ?l_Table___eq__ ?c_Table___eq__ ?k_Table___eq__ ?z_all ?z_bool ?z_enumerate ?z_int ?z_isinstance ?z_len ?z_list ?z_range ?z_str ?z_sum ?z_tuple ?y_FIGURES ?y_MOST_BOUND ?y_MOST_FIGURES ?y_MOST_ITEMS ?y_MOST_LENGTH ?y_MOST_LOOPS ?y_Table ?pg_Table ?hd_Table ?po_Table ?sa_Table ?mk_Table ?kc_Table ?n_Table_loops ?n_Table_rows ?n_Table_bound ?wa_Table ?wn_Table ?wt_Table ?wm_Table ?we_Table ?wi_Table ?wy_Table)
    (case y_Table => k_is); (case a_is_integer => k_is); (case l_is_integer => k_is); (case c_is_integer => k_is); (case k_is_integer => k_is); (case a_is_number => k_is); (case l_is_number => k_is); (case c_is_number => k_is); (case k_is_number => k_is); (case a_are_numbers => k_is); (case l_are_numbers => k_is); (case c_are_numbers => k_is); (case k_are_numbers => k_is); (case a_is_loops => k_is); (case l_is_loops => k_is); (case c_is_loops => k_is); (case k_is_loops => k_is); (case a_is_row => k_is); (case l_is_row => k_is); (case c_is_row => k_is); (case k_is_row => k_is); (case a_row_sum => k_is); (case l_row_sum => k_is); (case c_row_sum => k_is); (case k_row_sum => k_is); (case a_with_blanks => k_is); (case l_with_blanks => k_is); (case c_with_blanks => k_is); (case k_with_blanks => k_is); (case a_table_text => k_is); (case l_table_text => k_is); (case c_table_text => k_is); (case k_table_text => k_is); (case a_are_signs => k_is); (case l_are_signs => k_is); (case c_are_signs => k_is); (case k_are_signs => k_is); (case a_is_numeral => k_is); (case l_is_numeral => k_is); (case c_is_numeral => k_is); (case k_is_numeral => k_is); (case a_numbers_of => k_is); (case l_numbers_of => k_is); (case c_numbers_of => k_is); (case k_numbers_of => k_is); (case a_lines_of => k_is); (case l_lines_of => k_is); (case c_lines_of => k_is); (case k_lines_of => k_is); (case a_numbers_behind => k_is); (case l_numbers_behind => k_is); (case c_numbers_behind => k_is); (case k_numbers_behind => k_is); (case a_read_table => k_is); (case l_read_table => k_is); (case c_read_table => k_is); (case k_read_table => k_is); (case a__law_tape => k_is); (case l__law_tape => k_is); (case c__law_tape => k_is); (case k__law_tape => k_is); (case a__law_pick => k_is); (case l__law_pick => k_is); (case c__law_pick => k_is); (case k__law_pick => k_is); (case a__law_loops => k_is); (case l__law_loops => k_is); (case c__law_loops => k_is); (case k__law_loops => k_is); (case a__law_row => k_is); (case l__law_row => k_is); (case c__law_row => k_is); (case k__law_row => k_is); (case a__law_spaced => k_is); (case l__law_spaced => k_is); (case c__law_spaced => k_is); (case k__law_spaced => k_is); (case a__law_text => k_is); (case l__law_text => k_is); (case c__law_text => k_is); (case k__law_text => k_is); (case a__law_is_int => k_is); (case l__law_is_int => k_is); (case c__law_is_int => k_is); (case k__law_is_int => k_is); (case a__law_are_ints => k_is); (case l__law_are_ints => k_is); (case c__law_are_ints => k_is); (case k__law_are_ints => k_is); (case a__law_is_table => k_is); (case l__law_is_table => k_is); (case c__law_is_table => k_is); (case k__law_is_table => k_is); (case a__law_other => k_is); (case l__law_other => k_is); (case c__law_other => k_is); (case k__law_other => k_is); (case a_law => k_is); (case l_law => k_is); (case c_law => k_is); (case k_law => k_is); (case a_Table___init__ => k_is); (case i_Table___init__ => k_is); (case l_Table___init__ => k_is); (case c_Table___init__ => k_is); (case k_Table___init__ => k_is); (case a_Table___eq__ => k_is); (case i_Table___eq__ => k_is); (case l_Table___eq__ => k_is); (case c_Table___eq__ => k_is); (case k_Table___eq__ => k_is); (case z_all => k_is); (case z_bool => k_is); (case z_enumerate => k_is); (case z_int => k_is); (case z_isinstance => k_is); (case z_len => k_is); (case z_list => k_is); (case z_range => k_is); (case z_str => k_is); (case z_sum => k_is); (case z_tuple => k_is); (case y_FIGURES => k_is); (case y_MOST_BOUND => k_is); (case y_MOST_FIGURES => k_is); (case y_MOST_ITEMS => k_is); (case y_MOST_LENGTH => k_is); (case y_MOST_LOOPS => k_is); (case pg_Table => k_is); (case hd_Table => k_is); (case po_Table => k_is); (case sa_Table => k_is); (case mk_Table => k_is); (case kc_Table => k_is); (case n_Table_loops => k_is); (case n_Table_rows => k_is); (case n_Table_bound => k_is); (case wa_Table => k_is); (case wn_Table => k_is); (case wt_Table => k_is); (case wm_Table => k_is); (case we_Table => k_is); (case wi_Table => k_is); (case wy_Table => k_is)

