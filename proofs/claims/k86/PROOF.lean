import PyProof.Rows.All
import Wide.All
import OpenK.AllK
import Wide.FinOn
import HandS.List
import HandS.Codes
import HandS.Comp
import HandS.Iter
import HandS.Ends
import HandS.Text
import HandS.Words
import HandS.WordsList
import HandS.Wide
import HandS.IsInst
import HandS.FStr
import PyProof.FString3
import PyProof.Rows.StrIntSpec
import HandS.Walk
import HandS.Exc
import HandS.ExcOwn
import HandS.ExcIs
import HandS.WordsExc
import HandS.StrMore
import HandS.Defaults
import HandS.MakeKwOnly
import PyProof.ReprRoads
import PyProof.ReprLen
import HandS.Flow
import HandS.Star
import HandS.Conv
import HandS.Deep
import HandS.Dict
import PySem.Challenge.RW_sipstack_k86_records_of_any_row
set_option Elab.async false
set_option linter.all false
set_option maxRecDepth 100000
namespace Sip
open PySem PySem.Spec PyProof.Rows L2

/-! a slice of step one in a list, laid over by another list; its end may lie behind the list's end -/
theorem clamp {a c n : Nat} (h1 : a ≤ c) (h2 : a ≤ n) :
    sliceBounds (some (a : Int)) (some (c : Int)) none n = ((a : Int), ((min c n : Nat) : Int), 1) := by
  have n1 : ¬ ((a : Int) < 0) := by omega
  have n2 : ¬ ((c : Int) < 0) := by omega
  simp only [sliceBounds, Option.getD_none, n1, n2, if_false, show (1 : Int) > 0 from by decide, if_true]
  refine Prod.ext ?_ (Prod.ext ?_ rfl)
  · show max 0 (min (a : Int) (n : Int)) = (a : Int)
    omega
  · show max 0 (min (c : Int) (n : Int)) = ((min c n : Nat) : Int)
    omega

section
variable {pr : Program} {wd : World} {ar : Around} {er : Value → Shared → Prop} {s : Shared}
set_option maxHeartbeats 4000000 in
theorem put_slice {l b z : Addr} {old new : Array Value} {m m2 a c : Nat} {vl vu : Value} {Q : Unit → Shared → Prop}
    (eo : s.heap.get? l = some { cls := .type "list", data := .seq old m })
    (en : s.heap.get? b = some { cls := .type "list", data := .seq new m2 }) (ne : l ≠ b)
    (hz : s.heap.IsSliceOf z vl vu .none) (pl : IsPart vl (some (a : Int))) (pu : IsPart vu (some (c : Int)))
    (ac : a ≤ c) (an : a ≤ old.size) (fit : old.size + new.size ≤ sizeLine)
    (k : Q () { s with heap := s.heap.update l (Obj.mapSeq fun t => t.extract 0 a ++ new ++ t.extract (min c old.size) t.size) }) :
    wpAny (model pr wd) ar (setItem (.ref l) (.ref z) (.ref b)) Q er s := by
  by_cases hc : c ≤ old.size
  · rw [Nat.min_eq_left hc] at k
    exact setItem_slice eo en ne hz pl pu ac hc fit k
  · have lo : s.heap.IsList l old := PySem.IsL.isList eo
    have ln : s.heap.IsList b new := PySem.IsL.isList en
    obtain ⟨oz, gz, cz, dz⟩ := id hz
    have tz : s.TypeIs (.ref z) "slice" := ⟨oz, gz, cz⟩
    have apart : Builtin.List.listSameRef (.ref l) (.ref b) = false := by
      unfold Builtin.List.listSameRef; exact beq_eq_false_iff_ne.mpr ne
    have zz : ((fun t : Array Value => t.extract 0 a ++ new ++ t.extract (min c old.size) t.size) old).size ≤ sizeLine + 1 := by
      simp only [Array.size_append, Array.size_extract]; omega
    have bd := clamp ac an
    have mx : (max (a : Int) ((min c old.size : Nat) : Int)).toNat = min c old.size := by omega
    unfold setItem
    try (with_reducible refine wpAny_holding ?_)
    try refine wpAny_bind (wpAny_pure ?_)
    refine wpAny_bind (wpAny_sequenceKey lo.typeIs (by decide) (wpAny_bind ?_))
    refine wpAny_callSpecial?_slot (name := Str.ofString "__setitem__") lo.typeIs slot_list_setitem ?_
    refine wpAny_call_entry slot_list_setitem lo.typeIs entry_list_setitem ?_ (args_list_setitem _ _ _)
    show wpAny _ _ (Builtin.List.listSubscript? (.ref z) >>= _) _ _ s
    refine wpAny_bind ?_
    unfold Builtin.List.listSubscript?
    refine wpAny_bind (wpAny_specialOf tz slice_no_index ?_)
    simp only [Option.isNone_none, if_true]
    refine wpAny_pure ?_
    show wpAny _ _ (typeOf (.ref z) >>= _) _ _ s
    refine wpAny_bind (wpAny_typeOf tz ?_)
    first
      | rw [if_neg (by decide)]
      | refine PySem.W.KFB.if_not (by decide) ?_
    rw [listSliceParts_eq]
    refine wpAny_bind (wpAny_bind (wpAny_field gz dz (x := .none) rfl (wpAny_bind (wpAny_listPart .none ?_))))
    rw [if_neg (show ¬ ((rawPart none == rawInt 0) = true) from Bool.false_ne_true)]
    refine wpAny_bind (wpAny_field gz dz (x := vl) rfl (wpAny_bind (wpAny_listPart pl ?_)))
    refine wpAny_bind (wpAny_field gz dz (x := vu) rfl (wpAny_bind (wpAny_listPart pu (wpAny_pure ?_))))
    first
      | simp only [apart, Bool.false_eq_true, if_false]
      | refine PySem.W.KFB.if_not apart ?_
    refine wpAny_bind ?_
    unfold Builtin.List.listAllItems
    refine wpAny_bind (wpAny_typeOf ln.typeIs ?_)
    first
      | refine PySem.W.KFB.if_so (by decide) ?_
      | rw [if_pos (by decide)]
    unfold Builtin.List.listItems
    refine wpAny_bind (wpAny_seqItems en rfl (wpAny_pure (wpAny_bind (wpAny_bind (wpAny_seqItems eo rfl (wpAny_pure ?_))))))
    have si := (sliceIndices_raw (some (a : Int)) (some (c : Int)) none old.size (by simp)).trans (congrArg (pure : Int × Int × Int → Sem (Int × Int × Int)) bd)
    refine wpAny_bind (wpAny_of_eq si ?_)
    show wpAny _ _ (if ((1 : Int) == 1) = true then _ else _) _ _ s
    rw [if_pos (by decide)]
    refine wpAny_bind (wpAny_rule ?_)
    first
      | simp only [notLongL fit, Bool.false_eq_true, if_false]
      | refine PySem.W.KFB.if_not (notLongL fit) ?_
    try refine wpAny_bind (wpAny_pure ?_)
    show wpAny _ _ (updateSeq l (fun t => t.extract 0 ((a : Int)).toNat ++ new ++ t.extract (max (a : Int) ((min c old.size : Nat) : Int)).toNat t.size) >>= _) _ _ s
    rw [mx, Int.toNat_natCast]
    refine wpAny_bind (wpAny_updateSeq (hz := Nat.le_trans (Nat.le_add_right _ _) fit) (_hz' := zz) eo rfl (wpAny_bind (wpAny_letGo ?_)))
    first
      | exact wpAny_bind (wpAny_pure (wpAny_pure ⟨.none, rfl, wpAny_pure k⟩))
      | exact wpAny_pure ⟨.none, rfl, wpAny_pure k⟩
end

section
variable {X : Cx}
theorem splice (xs ys : List Value) (a c : Nat) : xs.toArray.extract 0 a ++ ys.toArray ++ xs.toArray.extract (min c xs.toArray.size) xs.toArray.size = (xs.take a ++ ys ++ xs.drop c).toArray := by
  rw [splice_eq]
  congr 1
  by_cases h : c ≤ xs.length
  · rw [List.size_toArray, Nat.min_eq_left h]
  · rw [List.size_toArray, Nat.min_eq_right (by omega), List.drop_length, List.drop_of_length_le (by omega)]

/-- o[lo:hi] = v, both given, v another list -/
def gCut (to : TE) (tl th : TO) : TG := fun v σ H Q => to σ H fun o H1 => tl σ H1 fun lo H2 => th σ H2 fun hi H3 =>
  ∃ p q xs ys a c, o = .ref p ∧ v = .ref q ∧ lo = some a ∧ hi = some c ∧ H3 p = some (.lst xs) ∧ H3 q = some (.lst ys) ∧ p ≠ q ∧
    0 ≤ a ∧ a ≤ c ∧ a ≤ xs.length ∧ xs.length + ys.length ≤ sizeLine ∧ Q σ (upd H3 p (.lst (xs.take a.toNat ++ ys ++ xs.drop c.toNat)))

theorem pg_cut {o : Expr} {lo hi : Option Expr} {to : TE} {tl th : TO} {p2 pos : Pos} (ho : PE X o to) (hl : PO X lo tl) (hh : PO X hi th)
    (ha : ∀ v, assign (.Subscript o (.Slice lo hi none p2) pos) X.env v = (do
      let ov ← holding [v] (eval o X.env)
      let iv ← holding [v, ov] (eval (.Slice lo hi none p2) X.env)
      standAt pos
      holding [v, ov, iv] (setItem ov iv v)
      release [iv, v, ov] []) := by intro _; rfl) : PG X (.Subscript o (.Slice lo hi none p2) pos) (gCut to tl th) := by
  refine ⟨fun pins s σ H v u Q I r h => ?_⟩
  rw [ha]
  refine wpAny_bind (wpAny_holding (thn (ho.run pins s σ H _ I h) fun ov s1 ⟨x, H1, I1, r1, q1⟩ => wpAny_bind (wpAny_holding ?_)))
  refine wpAny_Slice (thn (hl.run pins s1 σ H1 _ I1 q1) fun wl s2 ⟨l, H2, I2, pl, q2⟩ => ?_)
  refine thn (hh.run pins s2 σ H2 _ I2 q2) fun wu s3 ⟨uu, H3, I3, pu, q3⟩ => ?_
  rw [evalPart_none]
  refine wpAny_pure ?_
  obtain ⟨p, q, xs, ys, a, c, rfl, rfl, rfl, rfl, hp, hq, pq, a0, ac, ax, fit, fin⟩ := q3
  cases r1
  cases r
  have I4 : Inv X pins σ H3 { s3 with heap := s3.heap.push { cls := .type "slice", data := .fields #[wl, wu, .none] } } := I3.kept (t' := s3.toks) fun b ob e => Heap.get?_push_of_some _ e
  refine wpAny_bind (wpAny_standAt (wpAny_bind (wpAny_holding ?_)))
  obtain ⟨z1, us1, n1, rv1, _, e1⟩ := I4.lstM hp
  obtain ⟨z2, us2, n2, rv2, _, e2⟩ := I4.lstM hq
  obtain ⟨a', rfl⟩ := Int.eq_ofNat_of_zero_le a0
  obtain ⟨c', rfl⟩ := Int.eq_ofNat_of_zero_le (Int.le_trans a0 ac)
  simp only [Int.toNat_natCast] at fin
  have L1 := rv1.length
  have L2' := rv2.length
  refine put_slice (a := a') (c := c') e1 e2 pq (Heap.IsSliceOf.new ..) pl pu (by omega) (by rw [List.size_toArray]; omega) (by rw [List.size_toArray, List.size_toArray]; omega) ?_
  refine wpAny_release ⟨σ, _, ?_, fin⟩
  refine I4.lset (its' := us1.take a' ++ us2 ++ us1.drop c') (t' := s3.toks) hp e1 (splice us1 us2 a' c') (Vals.append (Vals.append (rv1.take _) rv2) (rv1.drop _)) ?_
  rw [List.length_append, List.length_append, List.length_take, List.length_drop]
  omega
end
end Sip
namespace Sip
open PySem PySem.Spec PyProof.Rows L2

/-- a def of the text: where it stands, how it is called -/
structure Df (K : PySem.W.Frag) (mg : Str → Option Value) (x : Str) (st : Stmt) (ps : List Str) (f : Addr) (fd : FuncData) : Prop where
  F : Fun K x x st f fd
  b : Binds K fd ps []
  g : mg x = some (.ref f)

/-! heaps: all that was tracked stands, but at the places ps -/
def Kp (ps : List Addr) (H H' : Hp) : Prop := ∀ b o, b ∉ ps → H b = some o → H' b = some o
theorem Kp.refl (ps : List Addr) (H : Hp) : Kp ps H H := fun _ _ _ h => h
theorem Kp.trans {ps : List Addr} {H H1 H2 : Hp} (a : Kp ps H H1) (b : Kp ps H1 H2) : Kp ps H H2 := fun c o n h => b c o n (a c o n h)
theorem Kp.wide {ps qs : List Addr} {H H1 : Hp} (a : Kp ps H H1) (h : ∀ x ∈ ps, x ∈ qs) : Kp qs H H1 := fun c o n e => a c o (fun z => n (h c z)) e
theorem Kp.same {H H1 : Hp} (a : Kp [] H H1) : Same H H1 := fun c o e => a c o (fun h => nomatch h) e
theorem Kp.of {ps : List Addr} {H H1 : Hp} (a : Same H H1) : Kp ps H H1 := fun c o _ e => a c o e
theorem Kp.at {ps : List Addr} {H : Hp} {p : Addr} {o : HO} (h : p ∈ ps) : Kp ps H (upd H p o) := fun b x n e => by
  have hb : b ≠ p := fun z => n (by rw [z]; exact h)
  rw [upd_ne hb]; exact e
theorem Kp.new {ps : List Addr} {H : Hp} {p : Addr} {o : HO} (h : H p = none) : Kp ps H (upd H p o) := fun b x n e => by
  rw [upd_ne (ne_of_none e h)]; exact e
/-- a place that was new at H is written later -/
theorem Kp.put {ps : List Addr} {H H1 : Hp} {p : Addr} {o : HO} (k : Kp ps H H1) (h : H p = none) : Kp ps H (upd H1 p o) := fun b x n e => by
  rw [upd_ne (ne_of_none e h)]; exact k b x n e
theorem Kp.seq {ps : List Addr} {K : PySem.W.Frag} {H H1 : Hp} {a : Addr} {xs : List V} (k : Kp ps H H1) (n : a ∉ ps) (h : SqL K H a xs) : SqL K H1 a xs := by
  rcases h with (h | ⟨o, h⟩) | h
  · exact .inl (.inl (k _ _ n h))
  · exact .inl (.inr ⟨o, k _ _ n h⟩)
  · exact .inr h
theorem Kp.free {H H1 : Hp} {ps : List Addr} (k : Kp ps H H1) {q : Addr} (n : q ∉ ps) (h : H1 q = none) : H q = none := by
  cases e : H q with
  | none => rfl
  | some o => rw [k q o n e] at h; cases h
theorem sq_new {K : PySem.W.Frag} {H : Hp} {p : Addr} {xs : List V} : SqL K (upd H p (.lst xs)) p xs := .inl (.inl upd_same)
theorem sq_at {K : PySem.W.Frag} {H : Hp} {p : Addr} {xs : List V} (h : H p = some (.lst xs)) : SqL K H p xs := .inl (.inl h)
theorem upd_upd {H : Hp} {p : Addr} {a b : HO} : upd (upd H p a) p b = upd H p b := by
  funext x
  by_cases h : x = p
  · subst h; rw [upd_same, upd_same]
  · rw [upd_ne h, upd_ne h, upd_ne h]

/-! the law's own draws: a pool is a list of three ints -/
def PoolO (n : Int) (o : HO) : Prop := ∃ d c x : Int, o = .lst [.int d, .int c, .int x] ∧ 0 ≤ d ∧ 0 ≤ c ∧ c ≤ n
theorem PoolO.up {n m : Int} {o : HO} (h : PoolO n o) (l : n ≤ m) : PoolO m o := by
  obtain ⟨d, c, x, e, h1, h2, h3⟩ := h
  exact ⟨d, c, x, e, h1, h2, by omega⟩
def spTake : Sp := fun vs H Q _ => ∃ (p : Addr) (n wide : Int) (o : HO), vs = [.ref p, .int wide] ∧ H p = some o ∧ PoolO n o ∧ n ≤ 1000000000 ∧ 0 < wide ∧ wide < 1073741824 ∧
  ∀ (r : Int) (o' : HO), 0 ≤ r → r < wide → PoolO (n + 1) o' → Q (.int r) (upd H p o')
def spPool (K : PySem.W.Frag) : Sp := fun vs H Q _ => ∃ (a : Addr) (ns : List Int) (i : Int), vs = [.ref a, .int i] ∧ SqL K H a (ns.map V.int) ∧ ns.length ≤ 63 ∧ 0 ≤ i ∧ i ≤ 1000 ∧
  ∀ (p : Addr) (o : HO), H p = none → PoolO (1000 * i) o → Q (.ref p) (upd H p o)

/-! lists of ints -/
theorem atI_int {ms : List Int} {i : Int} (h0 : 0 ≤ i) (h1 : i < ms.length) : ∃ m, m ∈ ms ∧ atI (ms.map V.int) i = some (.int m) ∧ ms[i.toNat]? = some m := by
  obtain ⟨j, rfl⟩ := Int.eq_ofNat_of_zero_le h0
  have hj : j < ms.length := by omega
  refine ⟨ms[j], List.getElem_mem hj, atI_nat ?_, by rw [Int.toNat_natCast, List.getElem?_eq_getElem hj]⟩
  rw [List.getElem?_map, List.getElem?_eq_getElem hj]; rfl
theorem atI_intV {ms : List Int} {i : Int} (h0 : 0 ≤ i) (h1 : i < ms.length) : atI (ms.map V.int) i = some (.int (ms.getD i.toNat 0)) := by
  obtain ⟨m, _, e, g⟩ := atI_int h0 h1
  rw [e, List.getD_eq_getElem?_getD, g]; rfl
theorem dp_ints {K : PySem.W.Frag} {H : Hp} : ∀ ns : List Int, DpAll K H (ns.map V.int) (ns.map PyData.int)
  | [] => .nil
  | n :: r => .cons (.int n) (dp_ints r)
theorem dp_lst {K : PySem.W.Frag} {H : Hp} {a : Addr} {ns : List Int} (h : SqL K H a (ns.map V.int)) : Dp K H (.ref a) (.list (ns.map PyData.int)) := .lst h (dp_ints ns)
section
variable {X : Cx}
/-- == and != of two lists of ints -/
def rEqI (K : PySem.W.Frag) : R2 := fun x y H Q => ∃ (a b : Addr) (ns ms : List Int), x = .ref a ∧ y = .ref b ∧ SqL K H a (ns.map V.int) ∧ SqL K H b (ms.map V.int) ∧ Q (.bl (decide (ns = ms))) H
def rNeI (K : PySem.W.Frag) : R2 := fun x y H Q => ∃ (a b : Addr) (ns ms : List Int), x = .ref a ∧ y = .ref b ∧ SqL K H a (ns.map V.int) ∧ SqL K H b (ms.map V.int) ∧ Q (.bl (!decide (ns = ms))) H
theorem op_eqI (hu : X.A.units + 64 < cLine) : OpR X (compareOp .Eq) (rEqI X.K) := by
  intro pins s σ H x y v u Q I rx ry h
  obtain ⟨a, b, ns, ms, rfl, rfl, ha, hb, q⟩ := h
  cases rx; cases ry
  obtain ⟨us, rv, hl, _⟩ := I.list ha
  obtain ⟨ws, rw', hl', _⟩ := I.list hb
  exact PySem.W.eq_intsK hl.isList rv.ints hl'.isList rw'.ints hu ⟨.bl (decide (ns = ms)), H, I, rfl, q⟩
theorem op_neI (hu : X.A.units + 64 < cLine) : OpR X (compareOp .NotEq) (rNeI X.K) := by
  intro pins s σ H x y v u Q I rx ry h
  obtain ⟨a, b, ns, ms, rfl, rfl, ha, hb, q⟩ := h
  cases rx; cases ry
  obtain ⟨us, rv, hl, _⟩ := I.list ha
  obtain ⟨ws, rw', hl', _⟩ := I.list hb
  exact PySem.W.ne_intsK hl.isList rv.ints hl'.isList rw'.ints hu ⟨.bl (!decide (ns = ms)), H, I, rfl, q⟩
end
/-! a row laid over another one -/
def laidF (r : List Int) (n : Nat) (d : List Int) : List Int :=
  if d = [] then r else (r ++ List.replicate (n - r.length) 0).take n ++ d ++ (r ++ List.replicate (n - r.length) 0).drop (n + d.length)
theorem laidF_nil (r : List Int) (n : Nat) : laidF r n [] = r := if_pos rfl
theorem laidF_cons {r : List Int} {n : Nat} {d : List Int} (h : d ≠ []) : laidF r n d = (r ++ List.replicate (n - r.length) 0).take n ++ d ++ (r ++ List.replicate (n - r.length) 0).drop (n + d.length) := if_neg h
theorem laidF_length {r : List Int} {n : Nat} {d : List Int} (h : d ≠ []) : (laidF r n d).length = max r.length (n + d.length) := by
  rw [laidF_cons h, List.length_append, List.length_append, List.length_take, List.length_drop, List.length_append, List.length_replicate]
  omega
theorem pad_get (r : List Int) (m i : Nat) : (r ++ List.replicate m 0)[i]?.getD 0 = r.getD i 0 := by
  rw [List.getD_eq_getElem?_getD]
  by_cases h : i < r.length
  · rw [List.getElem?_append_left h]
  · rw [List.getElem?_append_right (by omega), List.getElem?_eq_none (l := r) (by omega)]
    by_cases h2 : i - r.length < m
    · rw [List.getElem?_replicate, if_pos h2]; rfl
    · rw [List.getElem?_eq_none (by rw [List.length_replicate]; omega)]
theorem laidF_getD {r : List Int} {n : Nat} {d : List Int} (h : d ≠ []) (i : Nat) : (laidF r n d)[i]?.getD 0 = if n ≤ i ∧ i < n + d.length then d.getD (i - n) 0 else r.getD i 0 := by
  have lt : ((r ++ List.replicate (n - r.length) 0).take n).length = n := by
    rw [List.length_take, List.length_append, List.length_replicate]; omega
  rw [laidF_cons h, List.append_assoc]
  by_cases h1 : i < n
  · rw [if_neg (by omega), List.getElem?_append_left (by rw [lt]; exact h1), List.getElem?_take_of_lt h1]
    exact pad_get r _ i
  · rw [List.getElem?_append_right (by rw [lt]; omega), lt]
    by_cases h2 : i < n + d.length
    · rw [if_pos ⟨by omega, h2⟩, List.getElem?_append_left (by omega), List.getD_eq_getElem?_getD]
    · rw [if_neg (by omega), List.getElem?_append_right (by omega), List.getElem?_drop, ← pad_get r (n - r.length) i]
      congr 2
      omega
theorem laidF_get {r : List Int} {n : Nat} {d : List Int} {i : Nat} (h : d ≠ []) (hi : i < (laidF r n d).length) : (laidF r n d)[i]? = some (if n ≤ i ∧ i < n + d.length then d.getD (i - n) 0 else r.getD i 0) := by
  rw [← laidF_getD h i, List.getElem?_eq_getElem hi]; rfl
theorem ext_getD {xs ys : List Int} (hl : xs.length = ys.length) (h : ∀ i, i < xs.length → xs[i]?.getD 0 = ys[i]?.getD 0) : xs = ys := by
  apply List.ext_getElem hl
  intro i h1 h2
  have := h i h1
  rw [List.getElem?_eq_getElem h1, List.getElem?_eq_getElem h2] at this
  exact this
/-- laid over once more: the same -/
theorem laidF_twice (r : List Int) (n : Nat) (d : List Int) : laidF (laidF r n d) n d = laidF r n d := by
  by_cases h : d = []
  · subst h; rw [laidF_nil, laidF_nil]
  · have l1 := laidF_length (r := r) (n := n) h
    have l2 := laidF_length (r := laidF r n d) (n := n) h
    refine ext_getD (by omega) fun i hi => ?_
    rw [laidF_getD h, laidF_getD h]
    split
    · rfl
    · next c => rw [List.getD_eq_getElem?_getD, laidF_getD h, if_neg c]
theorem flat_rep (m : Nat) (v : V) : (List.replicate m [v]).flatten = List.replicate m v := by
  induction m with
  | zero => rfl
  | succ m ih => rw [List.replicate_succ, List.flatten_cons, ih, List.replicate_succ]; rfl
theorem all_true (n : Nat) : (List.replicate n true).all id = true := by
  rw [List.all_eq_true]
  intro x hx
  exact (List.mem_replicate.mp hx).2
def spBytes : Sp := fun vs H Q _ => ∃ (p : Addr) (n : Int) (o : HO), vs = [.ref p] ∧ H p = some o ∧ PoolO n o ∧ n ≤ 900000000 ∧
  ∀ (H' : Hp) (q : Addr) (bs : List Int) (o' : HO), H q = none → H' q = some (.lst (bs.map V.int)) → H' p = some o' → PoolO (n + 1000) o' → Kp [p] H H' → bs.length ≤ 400 → (∀ b ∈ bs, 0 ≤ b ∧ b ≤ 255) → Q (.ref q) H'
def spLaid (K : PySem.W.Frag) : Sp := fun vs H Q _ => ∃ (a b : Addr) (r : List Int) (n : Nat) (d : List Int), vs = [.ref a, .int n, .ref b] ∧ SqL K H a (r.map V.int) ∧ H b = some (.lst (d.map V.int)) ∧ r.length ≤ 10000 ∧ n ≤ 4400 ∧ d.length ≤ 4400 ∧
  ∀ (H' : Hp) (q : Addr), H q = none → H' q = some (.lst ((laidF r n d).map V.int)) → Same H H' → Q (.ref q) H'
def spDue (K : PySem.W.Frag) : Sp := fun vs H Q _ => ∃ (a b : Addr) (r : List Int) (n : Nat) (d : List Int), vs = [.ref a, .int n, .ref b] ∧ SqL K H a (r.map V.int) ∧ SqL K H b (d.map V.int) ∧ r.length ≤ 10000 ∧ n ≤ 4400 ∧ d.length ≤ 4400 ∧
  ∀ (H' : Hp) (q : Addr), H q = none → H' q = some (.lst ((laidF r n d).map V.int)) → Same H H' → Q (.ref q) H'
def spFits (K : PySem.W.Frag) : Sp := fun vs H Q _ => ∃ (a b : Addr) (xs ys : List Int), vs = [.ref a, .ref b] ∧ H a = some (.lst (xs.map V.int)) ∧ SqL K H b (ys.map V.int) ∧ xs.length ≤ 100000 ∧
  ∀ H' : Hp, Same H H' → Q (.bl (decide (xs = ys))) H'
def spLaw (K : PySem.W.Frag) : Sp := fun vs H Q _ => ∃ (a : Addr) (ns : List Int), vs = [.ref a] ∧ SqL K H a (ns.map V.int) ∧ ns.length ≤ 63 ∧ ∀ H' : Hp, Q (.bl true) H'
theorem step_same {H H1 H2 : Hp} {p : Addr} (s : Same H H1) (n : H p = none) (k : Kp [p] H1 H2) : Same H H2 := fun b o e =>
  k b o (fun z => ne_of_none e n (List.mem_singleton.mp z)) (s b o e)
theorem put_same {H H1 : Hp} {p : Addr} {o : HO} (s : Same H H1) (n : H p = none) : Same H (upd H1 p o) := fun b x e => by
  rw [upd_ne (ne_of_none e n)]; exact s b x e
theorem ixN_zero {n : Nat} (h : 0 < n) : ixN n 0 = some 0 := by
  unfold ixN
  rw [if_pos (by decide), if_pos (by omega)]; rfl
theorem laidF_le {r d : List Int} {n m : Nat} (h : r.length ≤ m ∧ n + d.length ≤ m) : (laidF r n d).length ≤ m := by
  by_cases e : d = []
  · subst e; rw [laidF_nil]; exact h.1
  · rw [laidF_length e]; omega
end Sip
namespace Sip
open PySem PySem.Spec PyProof.Rows L2 PySem.Builtin PySem.Builtin.Str PySem.Builtin.Int PySem.Builtin.Float

def figs : List Nat := [48, 49, 50, 51, 52, 53, 54, 55, 56, 57, 97, 98, 99, 100, 101, 102]
/-- two figures of sixteen -/
def two (n : Nat) : Str := ⟨#[figs.getD (n / 16) 0, figs.getD (n % 16) 0]⟩
def hexSpec : FormatSpec := { fill := 48, align := 61, width := some 2, type := some 120 }
theorem hex_parse : parseFormatSpec (Str.ofString "02x").cps.toList "int" 62 = .ok hexSpec := by kernel_rfl
theorem hex_ascii : (((Str.ofString "02x").cps.toList.drop 1).any (· ≥ 128) || ((Str.ofString "02x").cps.getD 0 0 ≥ 128 && !([60, 62, 61, 94] : List Nat).contains ((Str.ofString "02x").cps.getD 1 0))) = false := by decide +kernel
theorem hex_some : ((Str.ofString "02x").length == 0) = false := by decide +kernel
theorem hex_ex : ∃ F : Int → Str, (∀ (a : Int) (t u : Tok), Gives («int.__format__» ⟨[.int a t, .str (Str.ofString "02x") u], []⟩) (.str (F a))) ∧ ∀ b : Fin 256, F (b.val : Int) = two b.val := by
  apply Exists.intro
  apply And.intro
  · intro a t u prog w A R s hq
    unfold «int.__format__»
    simp only [selfAndOne, noKeywords, Int.intOfSelf, asInt?, asStr?, List.isEmpty_nil, if_true, pure_bind, bind_pure, bind_assoc, hex_some, hex_ascii, Bool.false_eq_true, if_false,
      show (Value.str (Str.ofString "02x") u == Value.none) = false from rfl]
    refine wpAny_bind (wpAny_typeNameOf (T := "str") (typeIs_str _ _ _) (by decide) fun _ => wpAny_bind (wpAny_typeNameOfCut_int ?_))
    simp only [hex_parse]
    refine PySem.W.KFB.if_so (by decide +kernel) ?_
    show wpAny _ _ (retStr _) _ _ _
    unfold retStr
    exact wpAny_bind (wpAny_mkStr (wpAny_pure hq.2) hq.1)
  · decide +kernel
end Sip
namespace Sip
open PySem PySem.Spec PyProof.Rows L2 TL

section
variable {X : Cx}
/-- f'{b:02x}' of a byte -/
def tHex (te : TE) : TE := fun σ H Q => te σ H fun x H1 => ∃ b : Nat, b < 256 ∧ x = .int b ∧ Q (.str (two b)) H1
theorem pe_hex {e : Expr} {te : TE} {k : Nat} {p1 p2 p3 p4 : Pos} (he : PE X e te) :
    PE X (.JoinedStr [.FormattedValue e (-1) (some (.JoinedStr [.Constant (.str (Str.ofString "02x")) k p1] p2)) p3] p4) (tHex te) := by
  have hs : PE X (.JoinedStr [.Constant (.str (Str.ofString "02x")) k p1] p2) (tC (.str (Str.ofString "02x"))) := pe_joined1 pe_str
  obtain ⟨F, g1, g2⟩ := hex_ex
  refine ⟨fun pins s σ H Q I h => wpAny_JoinedStr_one (wpAny_FormattedValue_spec (thn (he.run pins s σ H _ I h) fun v s1 ⟨x, H1, I1, r1, q1⟩ => ?_))⟩
  obtain ⟨b, hb, rfl, q⟩ := q1
  obtain ⟨t, rfl⟩ := r1
  refine thn (hs.run pins s1 σ H1 (fun y H2 => y = .str (Str.ofString "02x") ∧ H2 = H1) I1 ⟨rfl, rfl⟩) fun u s2 ⟨y, H2, I2, r2, ey, eH⟩ => ?_
  subst ey eH
  obtain ⟨t2, rfl⟩ := r2
  have e2 : F (b : Int) = two b := g2 ⟨b, hb⟩
  refine ⟨_, _, rfl, wpAny_formatField_spec (x := F (b : Int)) hex_some (fun s' => typeIs_int s' _ _) PySem.F.slot_int_format PySem.F.entry_int_format PySem.F.args_int_format_2 (fun u => g1 b t u) ?_ (by rw [sizeLine_eq]; decide +kernel) (by rw [e2, sizeLine_eq]; show (2 : Nat) ≤ _; decide)⟩
  rw [e2]
  exact ⟨.str (two b), H2, (I2.tok _).tok _, ⟨_, rfl⟩, q⟩
end

/-! the text of a row, as codes -/
def twoL (b : Int) : List Nat := [figs.getD (b.toNat / 16) 0, figs.getD (b.toNat % 16) 0]
def txL (bs : List Int) : List Nat := bs.flatMap twoL
def tx (bs : List Int) : Str := ⟨(txL bs).toArray⟩
def Bytes (bs : List Int) : Prop := ∀ b ∈ bs, 0 ≤ b ∧ b ≤ 255
theorem txL_length : ∀ bs : List Int, (txL bs).length = 2 * bs.length
  | [] => rfl
  | b :: r => by
    show (twoL b ++ txL r).length = 2 * (r.length + 1)
    rw [List.length_append, txL_length r]
    show 2 + 2 * r.length = _
    omega
theorem tx_length (bs : List Int) : (tx bs).length = 2 * bs.length := by
  show (txL bs).toArray.size = _
  rw [List.size_toArray, txL_length]
theorem txL_append (a b : List Int) : txL (a ++ b) = txL a ++ txL b := List.flatMap_append
theorem tx_append (a b : List Int) : tx (a ++ b) = tx a ++ tx b := ext_toList (by
  show (txL (a ++ b)).toArray.toList = ((txL a).toArray ++ (txL b).toArray).toList
  rw [Array.toList_append, txL_append])
/-- a figure's worth -/
def wor (c : Nat) : Nat := figs.idxOf c
theorem wor_figs : ∀ j : Fin 16, wor (figs.getD j.val 0) = j.val := by decide
theorem twoL_back {b : Int} (h : 0 ≤ b ∧ b ≤ 255) : ∃ i j : Nat, i < 16 ∧ j < 16 ∧ twoL b = [figs.getD i 0, figs.getD j 0] ∧ b = 16 * (i : Int) + j :=
  ⟨b.toNat / 16, b.toNat % 16, by omega, by omega, rfl, by omega⟩
theorem figs_inj {i j : Nat} (hi : i < 16) (hj : j < 16) (e : figs.getD i 0 = figs.getD j 0) : i = j := by
  have a : wor (figs.getD i 0) = i := wor_figs ⟨i, hi⟩
  have b : wor (figs.getD j 0) = j := wor_figs ⟨j, hj⟩
  exact a.symm.trans ((congrArg wor e).trans b)
theorem txL_inj : ∀ {a b : List Int}, Bytes a → Bytes b → txL a = txL b → a = b
  | [], [], _, _, _ => rfl
  | [], y :: r, _, _, e => by cases e
  | x :: r, [], _, _, e => by cases e
  | x :: r, y :: q, ha, hb, e => by
    obtain ⟨i, j, hi, hj, e1, e2⟩ := twoL_back (ha x (List.mem_cons_self ..))
    obtain ⟨m, n, hm, hn, e3, e4⟩ := twoL_back (hb y (List.mem_cons_self ..))
    have e5 : twoL x ++ txL r = twoL y ++ txL q := e
    rw [e1, e3] at e5
    have e6 := List.cons.inj e5
    have e7 := List.cons.inj e6.2
    have k1 := figs_inj hi hm e6.1
    have k2 := figs_inj hj hn e7.1
    have k3 := txL_inj (fun z hz => ha z (List.mem_cons_of_mem _ hz)) (fun z hz => hb z (List.mem_cons_of_mem _ hz)) e7.2
    rw [e2, e4, k1, k2, k3]
theorem tx_inj {a b : List Int} (ha : Bytes a) (hb : Bytes b) (e : tx a = tx b) : a = b := txL_inj ha hb (by
  have := congrArg (fun s : Str => s.cps.toList) e
  exact this)
theorem tx_eq {a b : List Int} (ha : Bytes a) (hb : Bytes b) : decide (V.str (tx a) = V.str (tx b)) = decide (a = b) := by
  by_cases h : a = b
  · subst h; rw [decide_eq_true rfl, decide_eq_true rfl]
  · rw [decide_eq_false h, decide_eq_false]
    intro z
    exact h (tx_inj ha hb (V.str.inj z))
/-- joined from its parts -/
theorem join_two : ∀ bs : List Int, Str.join (Str.ofString "") (bs.map fun b => two b.toNat) = tx bs := fun bs => ext_toList (by
  show tl (Str.join (Str.ofString "") _) = txL bs
  rw [tl_join]
  have e0 : tl (Str.ofString "") = [] := by decide +kernel
  rw [e0, List.map_map]
  induction bs with
  | nil => rfl
  | cons b r ih =>
    cases r with
    | nil => show twoL b = twoL b ++ []; rw [List.append_nil]
    | cons c q =>
      show twoL b ++ ([] ++ joinL [] ((c :: q).map _)) = twoL b ++ txL (c :: q)
      rw [List.nil_append, ih])
/-- its signs by place -/
theorem txL_get : ∀ {bs : List Int} {i : Nat} {b : Int}, bs[i]? = some b → (txL bs)[2 * i]? = some (figs.getD (b.toNat / 16) 0) ∧ (txL bs)[2 * i + 1]? = some (figs.getD (b.toNat % 16) 0)
  | [], _, _, h => by simp at h
  | x :: r, 0, b, h => by
    have e : x = b := Option.some.inj h
    subst e
    exact ⟨rfl, rfl⟩
  | x :: r, i + 1, b, h => txL_get (bs := r) (i := i) (b := b) h
theorem tx_at {bs : List Int} {i : Nat} {b : Int} (h : bs[i]? = some b) : atI (tx bs).cps.toList ((2 * i : Nat) : Int) = some (figs.getD (b.toNat / 16) 0) ∧ atI (tx bs).cps.toList ((2 * i + 1 : Nat) : Int) = some (figs.getD (b.toNat % 16) 0) :=
  ⟨atI_nat (txL_get h).1, atI_nat (txL_get h).2⟩
def FIG : Str := Str.ofString "0123456789abcdef"
theorem fig_find : ∀ j : Fin 16, Txt.find FIG ⟨#[figs.getD j.val 0]⟩ = (j.val : Int) := by decide +kernel
theorem fig_at {j : Nat} (h : j < 16) : atI FIG.cps.toList (j : Int) = some (figs.getD j 0) := by
  have e : FIG.cps.toList = figs := by decide +kernel
  rw [e]
  refine atI_nat ?_
  rw [List.getD_eq_getElem?_getD, List.getElem?_eq_getElem (show j < figs.length from h)]; rfl
/-! slices of lists of ints -/
theorem cut_map (bs : List Int) (lo hi : Option Int) : ∃ cs : List Int, cutV (bs.map V.int) lo hi = cs.map V.int ∧ cs.length ≤ bs.length ∧ ∀ x ∈ cs, x ∈ bs := by
  refine ⟨(bs.drop (HT.sIx bs.length 0 lo)).take (HT.sIx bs.length bs.length hi - HT.sIx bs.length 0 lo), ?_, ?_, ?_⟩
  · unfold cutV
    rw [List.length_map, List.map_take, List.map_drop]
  · rw [List.length_take, List.length_drop]; omega
  · intro x hx
    exact List.mem_of_mem_drop (List.mem_of_mem_take hx)
theorem size_two (n : Nat) : Builtin.Range.rangeSize 0 ((2 * n : Nat) : Int) 2 = (n : Int) := by
  unfold Builtin.Range.rangeSize
  rw [if_pos (by decide)]
  split <;> omega
theorem range_two (n : Nat) (h : n ≤ 1000000) : RgC 0 ((2 * n : Nat) : Int) 2 n := by
  refine ⟨by decide, by decide, ?_, size_two n⟩
  have f : ∀ x : Int, 0 ≤ x → x ≤ 3000000 → Builtin.Range.rangeFitsLong x = true := fun x h0 h1 => by
    unfold Builtin.Range.rangeFitsLong
    rw [Bool.and_eq_true, decide_eq_true_eq, decide_eq_true_eq]
    omega
  unfold Builtin.Range.small
  rw [size_two, f 0 (by decide) (by decide), f ((2 * n : Nat) : Int) (by omega) (by omega), f 2 (by decide) (by decide), f (n : Int) (by omega) (by omega)]
  simp only [Bool.true_and, show (2 : Int) > 0 from by decide, if_true, Bool.or_eq_true, beq_iff_eq]
  exact .inr (f _ (by omega) (by omega))
end Sip
namespace Sip
open PySem PySem.Spec PyProof.Rows L2 TL
def spWorth : Sp := fun vs H Q _ => ∃ j : Nat, j < 16 ∧ vs = [.str ⟨#[figs.getD j 0]⟩] ∧ Q (.int j) H
def spRead : Sp := fun vs H Q _ => ∃ bs : List Int, vs = [.str (tx bs)] ∧ Bytes bs ∧ bs.length ≤ 8000 ∧ ∀ (H' : Hp) (p : Addr), H p = none → H' p = some (.lst (bs.map V.int)) → Same H H' → Q (.ref p) H'
def spTxt (K : PySem.W.Frag) : Sp := fun vs H Q _ => ∃ (a : Addr) (bs : List Int), vs = [.ref a] ∧ SqL K H a (bs.map V.int) ∧ Bytes bs ∧ bs.length ≤ 8000 ∧ ∀ H' : Hp, Same H H' → Q (.str (tx bs)) H'
theorem get_int {xs : List Int} {i : Nat} {x : V} (h : (xs.map V.int)[i]? = some x) : ∃ hi : i < xs.length, x = .int xs[i] := by
  have hi : i < xs.length := by
    have := (List.getElem?_eq_some_iff.mp h).1
    rwa [List.length_map] at this
  refine ⟨hi, ?_⟩
  rw [List.getElem?_map, List.getElem?_eq_getElem hi] at h
  exact (Option.some.inj h).symm
theorem sum_two : ∀ bs : List Int, ((bs.map fun b => two b.toNat).map (·.length)).sum = 2 * bs.length
  | [] => rfl
  | b :: r => by
    show 2 + ((r.map fun b => two b.toNat).map (·.length)).sum = 2 * (r.length + 1)
    rw [sum_two r]; omega
theorem fit_two (bs : List Int) (h : bs.length ≤ 8000) : ((bs.map fun b => two b.toNat).map (·.length)).sum + (bs.map fun b => two b.toNat).length * (Str.ofString "").length ≤ 16777216 := by
  rw [sum_two, show (Str.ofString "").length = 0 by decide +kernel]; omega
end Sip
namespace Sip
open PySem PySem.Spec PyProof.Rows L2 TL
def spAsked : Sp := fun vs H Q _ => ∃ (a : Addr) (bs : List Int), vs = [.ref a] ∧ H a = some (.lst (bs.map V.int)) ∧ Bytes bs ∧ bs.length ≤ 4000 ∧ ∀ H' : Hp, Same H H' → Q (.bl true) H'
end Sip
/-! a list comprehension whose element may raise: what is raised leaves the comprehension -/
namespace Sip
open PySem PySem.Spec PyProof.Rows L2

theorem note_same {e : Value} {a b : Env} (h : a.frame = b.frame) : noteFrame e a = noteFrame e b := by
  unfold noteFrame PySem.frameOf
  rw [h]

/-- a comprehension's end, either way -/
def endX (M : Model) (A : Around) (E : Value → Shared → Prop) (Q : Value → Shared → Prop) (acc : Value) (ce : Env) (r : Result) (s' : Shared) : Prop :=
  ∃ m, s'.heap.Ns ce.locals m ∧ ∀ h', Heap.SameBut ce.locals s'.heap h' → match r with
    | .ok _ => Q acc { s' with heap := h' }
    | .error x => wpAny M A (passOn "comprehension.variables-let-go" x ce : Sem Value) (fun _ _ => False) E { s' with heap := h' }

theorem comp_run {M : Model} {A : Around} {E : Value → Shared → Prop} {s : Shared} {env : Env} {e : Expr} {scope : Scope} {pos : Pos} {na fi : Sem Value} {g : Comprehension} {gs : List Comprehension} {cl : List (Str × Addr)} {Q : Value → Shared → Prop}
    (hg : clausesOf e = g :: gs) (hs : ∀ x, foldedSetIterable g.iter env x = pure x) (hcl : closureFor scope env = pure cl) (hk : scope.kind = .function)
    (hn : ∀ x ∈ scope.names, x.2 = .local → scope.names.lookup x.1 = some .local)
    (h : wpAny M A fi (fun x s1 => wpAny M A (pyIter x) (fun it s2 => wpAny M A na (fun acc s3 => wpAny M A (newFunctionEnv scope env.globals cl [] env.qual none .none (some env)) (fun ce s4 =>
      codeAny M A (.compStart e 0 it acc { ce with scope := relabel scope env }) (endX M A E Q acc { ce with scope := relabel scope env }) s4) E s3) E s2) E s1) E s) :
    wpAny M A (comprehension e scope env pos na false fi none) Q E s := by
  unfold comprehension
  rw [hcl, hg]
  refine wpAny_bind (wpAny_mono h (fun x s1 h1 => ?_) fun _ _ z => z)
  refine wpAny_bind (wpAny_standAt (wpAny_bind (wpAny_of_eq (hs x) ?_)))
  refine wpAny_bind (wpAny_holding (wpAny_mono h1 (fun it s2 h2 => ?_) fun _ _ z => z))
  refine wpAny_standIf (wpAny_bind (wpAny_mono h2 (fun acc s3 h3 => ?_) fun _ _ z => z))
  refine wpAny_bind (wpAny_pure (wpAny_bind (wpAny_mono h3 (fun ce s4 h4 => ?_) fun _ _ z => z)))
  dsimp only
  have vs : ∀ x ∈ (scope.names.filter fun x => (x.2 == .local || x.2 == .cell) && x.1 != (".0" : Str)).reverse, x.2 = .local → Env.kindOf { ce with scope := relabel scope env } x.1 = some .local :=
    fun x hx hl => lookup_relabel_local (hn x (List.mem_filter.mp (List.mem_reverse.mp hx)).1 hl)
  refine wpAny_holding (wpAny_bind (wpAny_attempt (wpAny_holding (wpAny_run (codeAny_mono h4 fun r s' hr => ?_)))))
  obtain ⟨m, nm, hr⟩ := hr
  cases r with
  | ok f => exact wpAny_bind (wpAny_holding (wpAny_comp_letGo (cenv := { ce with scope := relabel scope env }) hk _ s' m vs nm fun h' _ _ sb => wpAny_pure (hr h' sb)))
  | error x => exact wpAny_bind (wpAny_holding (wpAny_comp_letGo (cenv := { ce with scope := relabel scope env }) hk _ s' m vs nm fun h' _ _ sb => wpAny_mono (hr h' sb) (fun _ _ f => f.elim) fun _ _ z => z))

theorem frames_to {h h' B B' : Heap} : ∀ {l : List Env}, h.FunFrames B l → (∀ b ∈ frs l, ∀ o, h.get? b = some o → h'.get? b = some o) → (∀ b ∈ frs l, B'.get? b = none) → h'.FunFrames B' l
  | [], _, _, _ => trivial
  | v :: l, f, k, n => by
    obtain ⟨f1, ⟨L, o, f2, f3, f4, f5⟩, f6⟩ := f
    have up : ∀ b ∈ frs l, b ∈ frs (v :: l) := fun b hb => by
      obtain ⟨x, hx, q⟩ := List.mem_filterMap.mp hb
      exact List.mem_filterMap.mpr ⟨x, List.mem_cons_of_mem _ hx, q⟩
    have hL : L ∈ frs (v :: l) := List.mem_filterMap.mpr ⟨v, List.mem_cons_self, f2⟩
    exact ⟨f1, ⟨L, o, f2, n L hL, k L hL o f4, f5⟩, frames_to f6 (fun b hb => k b (up b hb)) fun b hb => n b (up b hb)⟩

section
variable {X : Cx} {pins : List (Addr × Obj)} {σ : L2.St} {H3 : Hp} {s3 : Shared}
set_option maxHeartbeats 1000000 in
theorem comp_out {scope : Scope} {ce : Env} {fp : List Addr} {W : WX} {E : XK} {pb : List (Addr × Obj)} {σb : L2.St} {Hb : Hp} {sb s' : Shared} {u acc : Value} {Q : Value → Shared → Prop}
    (I3 : Inv X pins σ H3 s3) (hst : X.stack = X.env :: X.outer) (hfr : X.env.frame = some X.env.locals) (tk : Takes X W) (hfp : ∀ b ∈ fp, FpOk X pins H3 b)
    (cf : ce.frame = X.env.frame) (cL : ce.locals = s3.heap.objs.size) (Ib : Inv (X.blk s3 H3 scope ce fp) pb σb Hb sb) (hE : ∀ cls d H', E cls d H' → W cls d σ H')
    (c : CX X.prog X.w X.stack Hb sb E u s') :
    notedBy (model X.prog X.w) X.A ce (fun e s'' => endX (model X.prog X.w) X.A X.xe Q acc ce (.error e) s'') u s' := by
  obtain ⟨a, B, H', cls, d, rfl, fl, hok, ub, na, os, ag, hw⟩ := c
  have hA : X.A.frames = some (X.env :: X.outer) := by rw [I3.ok.frames, hst]
  have Bu : Un (frs X.stack) fp H3 Hb s3.heap sb.heap := Ib.base
  have HbC : Hb ce.locals = none := Ib.free
  obtain ⟨m, ⟨oC, es, ep, eC, dC, rC⟩, _⟩ := Ib.loc
  have eC : sb.heap.get? ce.locals = some oC := eC
  have nC : ce.locals ∉ frs X.stack := fun z => by
    rcases List.mem_cons.mp (I3.stkSub _ z) with z | z
    · have := I3.lt
      rw [← z, cL] at this
      exact absurd this (Nat.lt_irrefl _)
    · exact I3.nofs (Nat.le_of_eq cL.symm) z
  have BC : B.get? ce.locals = some oC := ub.keep _ _ eC HbC nC
  have H'C : H' ce.locals = none := ub.free _ _ eC HbC
  have ffl : ∀ b ∈ frs X.stack, ∃ o, s'.heap.get? b = some o ∧ ∀ vs, o.data ≠ .fields vs := fun b hb => (fl.2.2.1.mem hb).2
  show wpAny _ _ (noteFrame (.ref a) ce) _ _ s'
  rw [note_same cf]
  have fl2 := fl
  rw [hst] at fl2
  refine HandSPX.looks_onZ Zc.steady hA hfr fl2 fun h1 hh up1 => ?_
  obtain ⟨st1, en1, ff1, tr1⟩ := hh
  refine ⟨m, ⟨oC, es, ep, st1 _ _ BC, dC, rC⟩, fun h' sbut => ?_⟩
  -- the ground without the comprehension's own names
  obtain ⟨B', b1, b2⟩ := restrict B fun b => !decide (b = ce.locals)
  have Bto : ∀ b o, B.get? b = some o → b ≠ ce.locals → B'.get? b = some o := fun b o e n => by
    rw [b1 b (by simp [n])]; exact e
  have Bof : ∀ b o, B'.get? b = some o → B.get? b = some o ∧ b ≠ ce.locals := fun b o e => by
    by_cases n : b = ce.locals
    · rw [b2 b (by simp [n])] at e; cases e
    · rw [b1 b (by simp [n])] at e; exact ⟨e, n⟩
  have Bno : ∀ b, B.get? b = none → B'.get? b = none ∧ b ≠ ce.locals := fun b e => by
    have n : b ≠ ce.locals := fun z => by rw [z, BC] at e; cases e
    exact ⟨by rw [b1 b (by simp [n])]; exact e, n⟩
  have st2 : B'.StaysIn h' := fun b o e => by
    obtain ⟨e1, n⟩ := Bof b o e
    rw [sbut.2 b n]; exact st1 b o e1
  have ff2 : h'.FunFrames B' (X.env :: X.outer) := frames_to ff1 (fun b hb o e => by
    rw [sbut.2 b (Bno b (ff1.mem hb).1).2]; exact e) fun b hb => (Bno b (ff1.mem hb).1).1
  have tr2 : HandSPX.TracedZ h' B' a (Zc cls d) (rawInt X.env.locals) := by
    obtain ⟨oe, vs, T, oT, ts, t1, t2, t3, t4, t5, t6, t7, t8, t9⟩ := tr1
    exact ⟨oe, vs, T, oT, ts, by rw [sbut.2 a (Bno a en1).2]; exact t1, t2, t3, t4, (Bno T t5).1, t6, by rw [sbut.2 T (Bno T t5).2]; exact t7, t8, t9⟩
  show wpAny _ _ (passOn "comprehension.variables-let-go" (.ref a) ce : Sem Value) _ _ _
  obtain ⟨oe, vs, T, oT, ts, t1, t2, t3, t4, t5, t6, t7, t8, t9⟩ := id tr2
  unfold PySem.passOn
  refine wpAny_bind (wpAny_field t1 t3 t4 ?_)
  rw [if_neg (show ¬ ((Value.ref T == Value.none) = true) from by simp)]
  try refine wpAny_bind (wpAny_pure ?_)
  refine wpAny_bind (HandSPX.setFlight_anyZ (s := { s' with heap := h' }) st2 ff2 tr2 fun h2 k1 k2 k3 k4 => wpAny_throw (tk _ _ ?_))
  rw [cf, hfr] at k3
  -- the state without it
  obtain ⟨G, g1, g2⟩ := restrict h2 fun b => (B'.get? b).isSome || decide (b ∈ frs X.stack)
  have gB : ∀ b o, B'.get? b = some o → G.get? b = some o := fun b o e => by
    rw [g1 b (by simp [e])]; exact k1 b o e
  have gF : ∀ b ∈ frs X.stack, G.get? b = h2.get? b := fun b hb => g1 b (by simp [hb])
  have og : ∀ b o, G.get? b = some o → h2.get? b = some o ∧ ((B'.get? b).isSome = true ∨ b ∈ frs X.stack) := fun b o e => by
    cases q : ((B'.get? b).isSome || decide (b ∈ frs X.stack)) with
    | false => rw [g2 b q] at e; cases e
    | true => rw [g1 b q] at e; exact ⟨e, by simpa [Bool.or_eq_true] using q⟩
  -- a frame's object through all of it
  have fr : ∀ b ∈ frs X.stack, ∀ o, s'.heap.get? b = some o → ∃ sl, h2.get? b = some { o with slots := sl } := fun b hb o e => by
    obtain ⟨o2, e2, nf⟩ := ffl b hb
    rw [e] at e2; cases e2
    obtain ⟨sl1, e3⟩ := up1 b o e nf
    have nb : b ≠ ce.locals := fun z => nC (z ▸ hb)
    rw [← sbut.2 b nb] at e3
    obtain ⟨sl2, e4⟩ := k4 b _ e3 nf
    exact ⟨sl2, e4⟩
  have lt3 : ∀ b o, s3.heap.get? b = some o → b ≠ ce.locals := fun b o e z => by
    have := Heap.lt_size e
    rw [z, cL] at this
    exact absurd this (Nat.lt_irrefl _)
  have U : Un (frs X.stack) fp H3 H' s3.heap G := by
    refine ⟨fun b o e n hb hx => ?_, fun b o e n hb hx => ?_, fun b o e n hx => ?_, fun b o e hx => ?_, fun b xs e => ub.tups b xs (Bu.tups b xs e), fun b o v e => ub.frzs b o v (Bu.frzs b o v e), fun b ps e => ?_⟩
    · exact gB b o (Bto b o (ub.keep b o (Bu.keep b o e n hb hx) (Bu.free b o e n hx) hb) (lt3 b o e))
    · obtain ⟨sl, e1⟩ := Bu.slot b o e n hb hx
      obtain ⟨sl1, e2⟩ := ub.slot b _ e1 hb
      obtain ⟨sl2, e3⟩ := fr b hb _ e2
      exact ⟨sl2, by rw [gF b hb]; exact e3⟩
    · obtain ⟨o1, e1⟩ := Bu.there b o e hx
      exact ub.free b o1 e1 (Bu.free b o e n hx)
    · obtain ⟨o1, e1⟩ := Bu.there b o e hx
      by_cases hb : b ∈ frs X.stack
      · obtain ⟨sl1, e2⟩ := ub.slot b _ e1 hb
        obtain ⟨sl2, e3⟩ := fr b hb _ e2
        exact ⟨_, by rw [gF b hb]; exact e3⟩
      · obtain ⟨o2, e2⟩ := ub.there b o1 e1 hb
        exact ⟨o2, gB b o2 (Bto b o2 e2 (lt3 b o e))⟩
    · obtain ⟨m1, e1⟩ := Bu.tbls b ps e
      obtain ⟨m2, e2⟩ := ub.tbls b _ e1
      exact ⟨m1 ++ m2, by rw [e2]; simp⟩
  have hokG : HOk X.prog X.w H' G := fun b o q => (hok b o q).stay (fun c v hc r => gB c v (Bto c v r fun z => by
    rcases hc with hc | hc
    · rw [← hc, z, H'C] at q; cases q
    · rw [z, H'C] at hc; cases hc)) (fun _ r => r) fun _ _ r => r
  have IX : Inv X pins σ H' { s3 with heap := G, gens := s'.gens, drawn := s'.drawn, toks := s'.toks } :=
    I3.call (ch := fp) U hokG ag fun b hb => ⟨(hfp b hb).2.2.2.1, (hfp b hb).2.1, (hfp b hb).2.2.2.2.1, (hfp b hb).2.2.2.2.2⟩
  refine ⟨a, B', _, pins, σ, H', cls, d, rfl, IX, fun b o e hb => ?_, Heap.UpToSlots.of_keeps fun b o e => (og b o e).1, .inr (.inr ⟨k1, (Bno a en1).1, by rw [hst]; exact k2, k3⟩), na, os.trans Ib.os, ag, hE _ _ _ hw⟩
  obtain ⟨e1, w1⟩ := og b o e
  rcases w1 with w1 | w1
  · obtain ⟨o2, q2⟩ := Option.isSome_iff_exists.mp w1
    have := k1 b o2 q2
    rw [e1] at this; cases this
    exact q2
  · exact absurd w1 hb
end

/-- another wish about what is raised -/
abbrev withX (X : Cx) (xe : Value → Shared → Prop) : Cx := { X with xe := xe }
theorem swapX {X : Cx} {pins : List (Addr × Obj)} {σ : L2.St} {H : Hp} {s : Shared} (xe : Value → Shared → Prop) (I : Inv X pins σ H s) : Inv (withX X xe) pins σ H s :=
  ⟨⟨I.ok.mod, I.ok.kind, I.ok.glob, I.ok.blt, I.ok.above, I.ok.inj, I.ok.has, I.ok.cab, I.ok.hd, I.ok.frames, I.ok.stk, I.ok.exf, I.ok.bs, I.ok.bsz, I.ok.noex, I.ok.exfs, I.ok.funs, I.ok.frf⟩,
    I.os, I.bare, I.base, I.loc, I.cell, I.free, I.freeC, I.pin, I.hok, I.len⟩
theorem unswapX {X : Cx} {pins : List (Addr × Obj)} {σ : L2.St} {H : Hp} {s : Shared} {xe : Value → Shared → Prop} (I : Inv (withX X xe) pins σ H s) : Inv X pins σ H s :=
  ⟨⟨I.ok.mod, I.ok.kind, I.ok.glob, I.ok.blt, I.ok.above, I.ok.inj, I.ok.has, I.ok.cab, I.ok.hd, I.ok.frames, I.ok.stk, I.ok.exf, I.ok.bs, I.ok.bsz, I.ok.noex, I.ok.exfs, I.ok.funs, I.ok.frf⟩,
    I.os, I.bare, I.base, I.loc, I.cell, I.free, I.freeC, I.pin, I.hok, I.len⟩
section
variable {X : Cx}
/-- [elt for target in iter], where elt may raise: W tells what is then wanted -/
def tLcX (wi : TI) (g : TG) (te : XK → TE) (vs : List Nat) (W : WX) : TE := fun σ H Q => tLc wi g tYes (te fun cls d H' => W cls d σ H') vs σ H Q
set_option maxHeartbeats 2000000 in
theorem pe_lcX {elt tg iter : Expr} {scope : Scope} {own : List (Str × Nat)} {pos : Pos} {wi : TI} {g : TG} {te : XK → TE} {W : WX} (hc : X.calm = true) (hst : X.stack = X.env :: X.outer) (hfr : X.env.frame = some X.env.locals) (tk : Takes X W) (hN : X.N.Nodup)
    (hi : PI X tg iter wi) (ok : BlkOk X.N X.env.scope scope own)
    (hg : ∀ (s : Shared) (H : Hp) (C : Addr) (cl : List (Str × Addr)) (fp : List Addr), PG (X.blk s H scope (compEnvC scope cl C X.env) fp) tg g)
    (he : ∀ (s : Shared) (H : Hp) (C : Addr) (cl : List (Str × Addr)) (fp : List Addr) (xe : Value → Shared → Prop) (E : XK), Passes (CX X.prog X.w) (withX (X.blk s H scope (compEnvC scope cl C X.env) fp) xe) E →
      PE (withX (X.blk s H scope (compEnvC scope cl C X.env) fp) xe) elt (te E))
    (hs : ∀ x, foldedSetIterable iter X.env x = pure x := by intro _; rfl) : PE X (.ListComp elt [⟨tg, iter, [], 0⟩] scope pos) (tLcX wi g te (own.map (·.2)) W) := by
  refine ⟨fun pins s σ H Q I h => ?_⟩
  have h : tLc wi g tYes (te fun cls d H' => W cls d σ H') (own.map (·.2)) σ H Q := h
  generalize hE : (fun cls d H' => W cls d σ H' : XK) = E at h
  have hEW : ∀ cls d H', E cls d H' → W cls d σ H' := fun cls d H' q => by rw [← hE] at q; exact q
  rw [eval_ListComp]
  have cells : ∀ y ∈ scope.names, y.2 = .free → ∃ c, X.env.cells.lookup y.1 = some c := fun y hy e => (ok.free y hy e).elim (fun k => I.ok.has _ (.inl k)) fun k => I.ok.has _ (.inr k)
  refine comp_run rfl hs (closure_ok cells) ok.kind (fun y hy e => by rw [ok.uniq y hy, e]) (thn (hi.run pins s σ H _ I h) fun xv s1 hx => ?_)
  refine thn hx fun itv s2 h2 => ?_
  obtain ⟨it, fp, tn, J, H2, rfl, I2, T, st2, f2, q⟩ := h2
  refine wpAny_newObj_type (newEnv_comp ?_) (by show 0 ≤ sizeLine; decide)
  generalize eD : s2.heap.objs.size = D
  have nD : H2 D = none := I2.hok.fresh (Nat.le_of_eq eD)
  obtain ⟨Wi, ⟨m0, w0⟩, turn⟩ := q D nD
  generalize es3 : ({ s2 with heap := s2.heap.push { cls := .type "list", data := .seq ([] : List Value).toArray } } : Shared) = s3
  have p3 : s3.heap = s2.heap.push { cls := .type "list", data := .seq ([] : List Value).toArray } := by rw [← es3]
  have I3 : Inv X pins σ (upd H2 D (.lst [])) s3 := by
    subst es3
    refine I2.laid (t' := s2.toks) (fun b o e => Heap.get?_push_of_some _ e) (Nat.le_of_eq eD) ⟨Nat.zero_le _, [], 0, .nil, ?_⟩
    subst eD
    exact Heap.get?_push_size _ rfl
  have f3 : ∀ b ∈ fp, FpOk X pins (upd H2 D (.lst [])) b ∧ b < s3.heap.objs.size := fun b hb => by
    obtain ⟨o, e, _⟩ := T.obj _ _ st2 b hb
    have lt := Heap.lt_size e
    refine ⟨⟨?_, (f2 b hb).2⟩, by rw [p3, Heap.size_push]; exact Nat.lt_succ_of_lt lt⟩
    rw [upd_ne (by rw [← eD]; exact Nat.ne_of_lt lt)]
    exact (f2 b hb).1
  have st3 : tn 0 s3.heap := T.keep _ _ _ st2 fun b _ o e => by rw [p3]; exact Heap.get?_push_of_some _ e
  have I4 := block_start I3 ok hN f3
  generalize ecl : cellsFrom (s3.heap.objs.size + 1) scope.names (cloFrom X.env.cells scope.names []) = cl at I4 ⊢
  have pg := hg s3 (upd H2 D (.lst [])) s3.heap.objs.size cl fp
  have pe := he s3 (upd H2 D (.lst [])) s3.heap.objs.size cl fp
  have nf : ∀ b ∈ fp, (upd H2 D (.lst [])) b = none := fun b hb => (f3 b hb).1.1
  show codeAny _ _ (.compStart (.ListComp elt [⟨tg, iter, [], 0⟩] scope pos) 0 (.ref it) (.ref D) (compEnvC scope cl s3.heap.objs.size X.env)) (endX (model X.prog X.w) X.A X.xe (EP X pins σ Q) (.ref D) (compEnvC scope cl s3.heap.objs.size X.env)) { s3 with heap := pushCells (s3.heap.push { cls := .type "dict", data := .dict #[] }) scope.names }
  generalize ece : compEnvC scope cl s3.heap.objs.size X.env = ce at I4 pg pe ⊢
  have cL : ce.locals = s3.heap.objs.size := by subst ece; rfl
  have cF : ce.frame = X.env.frame := by subst ece; rfl
  generalize eH3 : upd H2 D (.lst []) = H3 at I3 I4 pg pe w0 nf f3
  generalize es4 : ({ s3 with heap := pushCells (s3.heap.push { cls := .type "dict", data := .dict #[] }) scope.names } : Shared) = s4 at I4 ⊢
  have st4 : tn 0 s4.heap := T.keep _ _ _ st3 fun b _ o e => by rw [← es4]; exact pushCells_keeps _ _ _ _ (Heap.get?_push_of_some _ e)
  generalize eY : X.blk s3 H3 scope ce fp = Y at I4 pg pe
  have Yi : ∀ {σ' : L2.St} {H' : Hp} {s' : Shared}, Inv Y [] σ' H' s' → (∀ b ∈ fp, H' b = none) → ∀ b ∈ fp, FpOk Y [] H' b := fun {σ' H' s'} I' hn b hb => by
    subst eY
    exact ⟨hn b hb, (I'.ok.exf b hb).1, I'.ok.exfs b hb, .inl hb, fun x c e => (I'.ok.exf b hb).2 x c e, fun p hp => absurd (show p ∈ ([] : List (Addr × Obj)) ++ [] from hp) (by simp)⟩
  -- what is raised in the block
  have out : ∀ {pb : List (Addr × Obj)} {σb : L2.St} {Hb : Hp} {sb s' : Shared} {u : Value}, Inv Y pb σb Hb sb → CX X.prog X.w X.stack Hb sb E u s' →
      notedBy (model X.prog X.w) X.A ce (fun e s'' => endX (model X.prog X.w) X.A X.xe (EP X pins σ Q) (.ref D) ce (.error e) s'') u s' := fun {pb σb Hb sb s' u} Ib c => by
    subst eY
    exact comp_out I3 hst hfr tk (fun b hb => (f3 b hb).1) cF cL Ib hEW c
  have Yp : Y.prog = X.prog ∧ Y.w = X.w ∧ Y.K = X.K ∧ Y.A = X.A ∧ Y.env = ce ∧ Y.stack = X.stack ∧ Y.xe = (fun _ _ => False) := by subst eY; exact ⟨rfl, rfl, rfl, rfl, rfl, rfl, rfl⟩
  have back : ∀ {H5 : Hp} {s6 : Shared}, Inv Y [] (wipe σ (own.map (·.2))) H5 s6 → Inv X pins σ H5 s6 ∧ H5 s3.heap.objs.size = none ∧ ∃ m, s6.heap.Ns ce.locals m := fun {H5 s6} I6 => by
    subst eY
    refine ⟨I3.call' (ch := fp) I6.os I6.base I6.hok I6.bare fun b hb => ?_, ?_, ?_⟩
    · obtain ⟨⟨_, z1, _, z3, z4, z5⟩, _⟩ := f3 b hb
      exact ⟨z3, z1, z4, z5⟩
    · have z : H5 ce.locals = none := I6.free
      rw [cL] at z; exact z
    · obtain ⟨m, hn, _⟩ := I6.loc
      exact ⟨m, hn⟩
  subst eY
  have loop : codeAny (model X.prog X.w) X.A (.compLoop (.ListComp elt [⟨tg, iter, [], 0⟩] scope pos) 0 (.ref it) (.ref D) ce) (endX (model X.prog X.w) X.A X.xe (EP X pins σ Q) (.ref D) ce) s4 := by
    refine compLoop_any (fun n s' => ∃ i H', Inv (X.blk s3 H3 scope ce fp) [] (wipe σ (own.map (·.2))) H' s' ∧ tn i s'.heap ∧ (∀ b ∈ fp, H' b = none) ∧ Wi i n H') (fun n s5 hI => ?_) m0 ⟨0, H3, I4, st4, nf, w0⟩
    obtain ⟨i, H5, I5, st5, n5, w5⟩ := hI
    rcases turn i n H5 w5 with ⟨stop, qq⟩ | ⟨go, Nx, hNx, step⟩
    · refine thnF (T.done (X.blk s3 H3 scope ce fp) rfl rfl rfl hc i [] s5 _ H5 (fun _ _ => False) I5 (Yi I5 n5) st5 stop) fun r s6 ⟨hr, I6⟩ => ?_
      subst hr
      obtain ⟨I7, nC, m, hn⟩ := back I6
      refine ⟨m, hn, fun h' sb => ?_⟩
      obtain ⟨c0, c1, c2, c3, c4, c5⟩ := I3.fpOk (Nat.le_refl _) nC
      rw [cL] at sb
      exact ⟨.ref D, H5, I7.turned (t' := s6.toks) (fun b o hb e => (sb.2 b hb).trans e) c0 c1 c3 c4 c5, rfl, qq⟩
    · refine thnF (T.item (X.blk s3 H3 scope ce fp) rfl rfl rfl hc i [] s5 _ H5 (fun _ _ => False) I5 (Yi I5 n5) st5 go) fun r s6 ⟨u, hr, h6⟩ => ?_
      subst hr
      refine thnF h6 fun _ s7 ⟨x, H7, I7, r7, y7, st7, n7⟩ => ?_
      have I7p := I7.pinned (Yi I7 n7) (T.obj _ _ st7)
      refine thnF (pg.run _ s7 _ H7 x u _ I7p r7 (step x H7 y7)) fun _ s8 ⟨σ8, H8, I8, w8, q8⟩ => wpAny_tests_nil ?_
      have q9 : te E σ8 H8 fun y H4 => ∃ acc, H4 D = some (.lst acc) ∧ acc.length < sizeLine ∧ Nx (upd H4 D (.lst (acc ++ [y]))) := q8
      rw [if_pos rfl]
      have pe1 := pe (fun u s' => ∃ pb σb Hb sb, Inv (X.blk s3 H3 scope ce fp) pb σb Hb sb ∧ CX X.prog X.w X.stack Hb sb E u s') E (fun pb σb Hb sb e s' Ib c => ⟨pb, σb, Hb, sb, unswapX Ib, c⟩)
      refine wpAny_mono (pe1.run _ s8 σ8 H8 _ (swapX _ I8) q9) (fun z s10 hz => ?_) (fun e s' hx => ?_)
      · obtain ⟨yv, H10, I10, r10, acc, d10, z10, nx⟩ := hz
        refine app_ok (X := X.blk s3 H3 scope ce fp) (unswapX I10) d10 z10 r10 fun s11 I11 => ?_
        obtain ⟨m', hm, w'⟩ := hNx _ nx
        have pin : ∀ b ∈ fp, ∀ o, s7.heap.get? b = some o → s11.heap.get? b = some o ∧ (upd H10 D (.lst (acc ++ [yv]))) b = none := fun b hb o e => by
          have z := I11.pin (b, o) (List.mem_append_right _ (List.mem_append_right _ (mem_pinsAt hb e)))
          exact ⟨z.1, z.2.1⟩
        refine ⟨m', hm, i + 1, _, (I11.unpinned (pins := [])).weak (by rw [← w8, wipe_length]) (fun j v e => ?_), T.keep _ _ _ st7 fun b hb o e => (pin b hb o e).1, fun b hb => ?_, w'⟩
        · rw [← w8] at e
          exact (wipe_some e).1
        · obtain ⟨o, e, _⟩ := T.obj _ _ st7 b hb
          exact (pin b hb o e).2
      · obtain ⟨pb, σb, Hb, sb, Ib, c⟩ := hx
        exact out Ib c
  exact codeAny_compStart_list loop (T.self X.A 0 _ _ _ st4 loop)
end
end Sip
namespace Sip
open PySem PySem.Spec PyProof.Rows L2 TL

section
variable {X : Cx}
/-- X(), X an own error class without an __init__ of its own -/
theorem pmk_own0 {C : Addr} {bmB : List Value} {B newId initId : String} {x : Str} {p pos : Pos} (F : ExcBaseFacts B newId initId bmB) (q : PySem.W.excIn X.K C bmB newId = true) (gC : X.mg x = some (.ref C)) (kC : PySem.W.keepIn X.K (.ref C) = true)
    (r : Raises X (.ref C)) (hg : Gl X x) (hdb : (x == ("__debug__" : Str)) = false := by decide) : PMk X (.Call (.Name x p) [] [] pos) (fun _ H Q => Q (.ref C) none H) := by
  intro pins s σ H Q I h
  refine wpAny_Call_Name_kw (ld_glob I hg gC (PySem.W.callWith_K0 I.kIn kC ?_) hdb)
  obtain ⟨bm, N, nm, qn, bs, hdct, sn, sub, ab, col, dd, k0, k1, k2, k3, k5, mN, hC, hN, hni, T⟩ := exc_obj I.kIn q
  exact wpAny_call_exc_subT (rest := []) F T hC hN hni (fun h' e hm => mk_of I hm r h (I.hok.gone hm.new)) (Nat.zero_le _)
/-- isinstance(e, c), e the caught error, whose class is to be shown -/
def rIsX (K : PySem.W.Frag) (D : Addr) (cls : Value) (d : Option Addr) (a : Addr) : List V → Hp → VK → Prop := fun xs H Q => cls = .ref D ∧ d = none ∧ rIsE K D a xs H Q
theorem call_isX {a D : Addr} {oe : Obj} {cls : Value} {d : Option Addr} {pn : List (Addr × Obj)} (C : ExcC X.K D) (hz : Zc cls d oe) (hf : ∃ vs, oe.data = .fields vs) : CallR (X.suite a ((a, oe) :: pn)) (.builtin "isinstance") (rIsX X.K D cls d a) := by
  intro pins s σ H xs us Q I r h
  obtain ⟨rfl, rfl, h⟩ := h
  exact call_isE C hz hf pins s σ H xs us Q I r h
end
/-- what the text's error classes are: C the one that is raised, S the one above it -/
structure Errs (K : PySem.W.Frag) (mg : Str → Option Value) (C S : Addr) : Prop where
  gP : mg "NoRow" = some (.ref C)
  gS : mg "SipError" = some (.ref S)
  xP : PySem.W.excIn K C [.type "ValueError", .type "Exception", .type "BaseException", .type "object"] "ValueError.__new__" = true
  kP : PySem.W.keepIn K (.ref C) = true
  bP : PySem.W.subIn K (.ref C) (.type "BaseException") = some true
  tP : PySem.W.typeIn K (.ref C) = some (.type "type")
  te : PySem.W.exmOne K (.ref C) (.ref C) = some true
  i1 : PySem.W.kitOne K (.ref C) (.ref S) = some true
  i2 : PySem.W.kitOne K (.ref C) (.type "ValueError") = some true
  ec : ExcC K C

/-! texts of plain signs -/
def Asc (z : Str) : Prop := ∀ c ∈ z.cps.toList, c < 128
theorem asc_append {a b : Str} (ha : Asc a) (hb : Asc b) : Asc (a ++ b) := fun c hc => by
  have e : (a ++ b).cps.toList = a.cps.toList ++ b.cps.toList := tl_append a b
  rw [e] at hc
  exact (List.mem_append.mp hc).elim (ha c) (hb c)
theorem asc_cut {z : Str} (h : Asc z) (lo hi : Option Int) : Asc (cutS z lo hi) := fun c hc => by
  have e : (cutS z lo hi).cps.toList = (z.cps.toList.drop (HT.sIx z.length 0 lo)).take (HT.sIx z.length z.length hi - HT.sIx z.length 0 lo) := rfl
  rw [e] at hc
  exact h c (List.mem_of_mem_drop (List.mem_of_mem_take hc))
theorem up_small : ∀ c : Fin 128, up1 c.val < 128 := by decide +kernel
theorem asc_upper {z : Str} (h : Asc z) : Asc (Txt.upper z) ∧ (Txt.upper z).length = z.length := by
  rw [upper_ascii h]
  refine ⟨fun c hc => ?_, ?_⟩
  · have e : (z.cps.map up1).toList = z.cps.toList.map up1 := Array.toList_map ..
    have hc : c ∈ (z.cps.map up1).toList := hc
    rw [e] at hc
    obtain ⟨b, hb, rfl⟩ := List.mem_map.mp hc
    exact up_small ⟨b, h b hb⟩
  · show (z.cps.map up1).size = z.cps.size
    exact Array.size_map ..
theorem len_append (a b : Str) : (a ++ b).length = a.length + b.length := strLen_append ..
theorem asc_one {c : Nat} (h : c < 128) : Asc ⟨#[c]⟩ := fun x hx => by
  have : x ∈ [c] := hx
  rw [List.mem_singleton.mp this]; exact h

/-! which texts are read, and to what -/
theorem find_fig : ∀ c : Fin 128, Txt.find FIG ⟨#[c.val]⟩ = if c.val ∈ figs then (wor c.val : Int) else -1 := by decide +kernel
theorem index_fig : ∀ c : Fin 128, c.val ∈ figs → Txt.index0 FIG ⟨#[c.val]⟩ = some (wor c.val) := by decide +kernel
def okT (cs : List Nat) : Prop := cs.length % 2 = 0 ∧ ∀ c ∈ cs, c ∈ figs
def rd (cs : List Nat) (i : Nat) : Int := 16 * (wor (cs.getD (2 * i) 0) : Int) + (wor (cs.getD (2 * i + 1) 0) : Int)
def rdL (cs : List Nat) : List Int := (List.range (cs.length / 2)).map (rd cs)
theorem rdL_length (cs : List Nat) : (rdL cs).length = cs.length / 2 := by
  unfold rdL; rw [List.length_map, List.length_range]
theorem rdL_get {cs : List Nat} {i : Nat} (h : i < cs.length / 2) : (rdL cs)[i]? = some (rd cs i) := by
  unfold rdL; rw [List.getElem?_map, List.getElem?_range h]; rfl
theorem get_at {cs : List Nat} {i : Nat} (h : i < cs.length) : atI cs (i : Int) = some (cs.getD i 0) ∧ cs.getD i 0 ∈ cs := by
  have e : cs.getD i 0 = cs[i] := by rw [List.getD_eq_getElem?_getD, List.getElem?_eq_getElem h]; rfl
  rw [e]
  exact ⟨atI_nat (List.getElem?_eq_getElem h), List.getElem_mem h⟩
theorem len_codes (z : Str) : z.length = z.cps.toList.length := by
  show z.cps.size = _
  exact (Array.length_toList ..).symm
def spWorthX (C : Addr) : Sp := fun vs H Q E => ∃ c : Nat, c < 128 ∧ vs = [.str ⟨#[c]⟩] ∧ (c ∈ figs → Q (.int (wor c : Nat)) H) ∧ (c ∉ figs → E (.ref C) none H)
def spReadX (C : Addr) : Sp := fun vs H Q E => ∃ z : Str, vs = [.str z] ∧ Asc z ∧ z.length ≤ 1000 ∧
  (okT z.cps.toList → ∀ (H' : Hp) (p : Addr), H p = none → H' p = some (.lst ((rdL z.cps.toList).map V.int)) → Same H H' → Q (.ref p) H') ∧ (¬ okT z.cps.toList → ∀ H' : Hp, Same H H' → E (.ref C) none H')
def spDueT : Sp := fun vs H Q _ => ∃ z : Str, vs = [.str z] ∧ Asc z ∧ z.length ≤ 1000 ∧
  (okT z.cps.toList → ∀ (H' : Hp) (p : Addr), H p = none → H' p = some (.lst ((rdL z.cps.toList).map V.int)) → Same H H' → Q (.ref p) H') ∧ (¬ okT z.cps.toList → ∀ H' : Hp, Same H H' → Q .non H')
/-- a text drawn from a pool -/
def spDraw : Sp := fun vs H Q _ => ∃ (p : Addr) (n : Int) (o : HO), vs = [.ref p] ∧ H p = some o ∧ PoolO n o ∧ n ≤ 900000000 ∧
  ∀ (H' : Hp) (z : Str) (o' : HO), H' p = some o' → PoolO (n + 100) o' → Kp [p] H H' → Asc z → z.length ≤ 60 → Q (.str z) H'
def spSign : Sp := fun vs H Q _ => ∃ (p : Addr) (n : Int) (o : HO), vs = [.ref p] ∧ H p = some o ∧ PoolO n o ∧ n ≤ 999999000 ∧
  ∀ (c : Nat) (o' : HO), c < 128 → PoolO (n + 1) o' → Q (.str ⟨#[c]⟩) (upd H p o')
def spSpoilt : Sp := fun vs H Q _ => ∃ (p : Addr) (n : Int) (o : HO) (z : Str), vs = [.ref p, .str z] ∧ H p = some o ∧ PoolO n o ∧ n ≤ 999990000 ∧ Asc z ∧ z.length ≤ 100 ∧
  ∀ (y : Str) (o' : HO), Asc y → y.length ≤ z.length + 1 → PoolO (n + 3) o' → Q (.str y) (upd H p o')
def spAskedT : Sp := fun vs H Q _ => ∃ z : Str, vs = [.str z] ∧ Asc z ∧ z.length ≤ 1000 ∧ ∀ H' : Hp, Same H H' → Q (.bl true) H'
def SIGNS : Str := Str.ofString " !\"#$&'()*+,-./0123456789:;<=>?@ABCDEFGHIJKLMNOPQRSTUVWXYZ[\\]^_`abcdefghijklmnopqrstuvwxyz{|}~"
theorem signs_asc : SIGNS.cps.toList.length = 94 ∧ ∀ c ∈ SIGNS.cps.toList, c < 128 := by decide +kernel
def GIF : Str := Str.ofString "fedcba9876543210"
theorem gif_asc : GIF.cps.toList.length = 16 ∧ ∀ c ∈ GIF.cps.toList, c < 128 := by decide +kernel
theorem fig_asc : FIG.cps.toList.length = 16 ∧ ∀ c ∈ FIG.cps.toList, c < 128 := by decide +kernel
theorem str_at {z : Str} {n : Nat} (hz : z.cps.toList.length = n ∧ ∀ c ∈ z.cps.toList, c < 128) {r : Int} (r0 : 0 ≤ r) (r1 : r < n) : ∃ c, c < 128 ∧ atI z.cps.toList r = some c := by
  obtain ⟨j, rfl⟩ := Int.eq_ofNat_of_zero_le r0
  obtain ⟨e, m⟩ := get_at (cs := z.cps.toList) (i := j) (by rw [hz.1]; omega)
  exact ⟨_, hz.2 _ m, e⟩
end Sip
namespace Sip
open PySem PySem.Spec PyProof.Rows L2 TL
theorem cut_codes (z : Str) (lo hi : Option Int) : (cutS z lo hi).length = ((z.cps.toList.drop (HT.sIx z.length 0 lo)).take (HT.sIx z.length z.length hi - HT.sIx z.length 0 lo)).length := by
  rw [len_codes]; rfl
theorem cut_len1 (z : Str) {k : Nat} (h : k ≤ z.length) : (cutS z none (some (k : Int))).length = k := by
  have lc := len_codes z
  rw [cut_codes, HT.sIx_none, HT.sIx_nat, List.length_take, List.length_drop]; omega
theorem cut_len2 (z : Str) {k : Nat} (h : k ≤ z.length) : (cutS z (some (k : Int)) none).length = z.length - k := by
  have lc := len_codes z
  rw [cut_codes, HT.sIx_none, HT.sIx_nat, List.length_take, List.length_drop]; omega
theorem cut_len3 (z : Str) {k : Nat} (h : k ≤ z.length) : (cutS z (some ((k : Nat) + 1 : Int)) none).length ≤ z.length - k := by
  have lc := len_codes z
  rw [show ((k : Nat) + 1 : Int) = ((k + 1 : Nat) : Int) by omega, cut_codes, HT.sIx_none, HT.sIx_nat, List.length_take, List.length_drop]; omega
end Sip
namespace Sip
open PySem PySem.Spec PyProof.Rows L2 TL
theorem all_figs {cs : List Nat} : ((cs.map fun c => decide (c ∈ figs)).all id) = true ↔ ∀ c ∈ cs, c ∈ figs := by
  rw [List.all_eq_true]
  constructor
  · intro h c hc
    exact of_decide_eq_true (h _ (List.mem_map.mpr ⟨c, hc, rfl⟩))
  · intro h x hx
    obtain ⟨c, hc, rfl⟩ := List.mem_map.mp hx
    exact decide_eq_true (h c hc)
end Sip
namespace Sip
open PySem PySem.Spec PyProof.Rows L2 TL
theorem asc_nil : Asc (Str.ofString "") := fun c hc => by
  have e : (Str.ofString "").cps.toList = [] := by decide +kernel
  rw [e] at hc; cases hc
end Sip
namespace Sip
open PySem PySem.Spec PyProof.Rows L2 TL
theorem kit_own {K : PySem.W.Frag} {C S : Addr} (h1 : PySem.W.isClsIn K S = true) (h2 : PySem.W.typeIn K (.ref S) = some (.type "type")) (h3 : PySem.W.subIn K (.ref C) (.ref S) = some true) : PySem.W.kitOne K (.ref C) (.ref S) = some true := by
  have a : ((PySem.W.clsIn K S).isSome && PySem.W.typeIn K (.ref S) == some (.type "type")) = true := by
    have h1' : (PySem.W.clsIn K S).isSome = true := h1
    rw [h1', h2]; rfl
  unfold PySem.W.kitOne PySem.W.kitCls
  split
  · rfl
  · exact (if_pos a).trans h3
theorem kit_bltn {K : PySem.W.Frag} {C : Addr} {T : String} (h1 : PySem.W.kitMeta T = true) (h3 : PySem.W.subIn K (.ref C) (.type T) = some true) : PySem.W.kitOne K (.ref C) (.type T) = some true := by
  unfold PySem.W.kitOne PySem.W.kitCls
  split
  · rfl
  · exact (if_pos h1).trans h3
end Sip
namespace Sip
open PySem PySem.Spec PyProof.Rows L2 TL

/-- a def of the text, whatever its defaults -/
structure FunA (K : PySem.W.Frag) (x qual : Str) (st : Stmt) (f : Addr) (fd : FuncData) : Prop where
  ex : ∃ (oc : Value) (od : Option Addr) (dV kV doc pm : Value) (an : Option Addr) (cdv ct : Value) (osl : Array (Option Value)),
    fd = PySem.W.fnOf x qual (defArgs st) (defBody st) (defScope st) dV kV doc pm an cdv ct ∧ K.lookup f = some ⟨oc, od, .func fd, osl⟩ ∧ PySem.W.codeIn K cdv qual = true
  kp : PySem.W.keepIn K (.ref f) = true
section
variable {P : Program} {w : World} {K : PySem.W.Frag} {mg : Str → Option Value} {base : Heap} {x qual : Str} {st : Stmt} {f : Addr} {fd : FuncData} {N ps : List Str} {k : Nat} {sp : Sp}
theorem FunA.ok (F : FunA K x qual st f fd) (S : FnScope N ps (defScope st)) (len : ∀ vs H Q E, sp vs H Q E → vs.length = ps.length)
    (hb : ∀ (cdv : Value) (A : Around) (outer : List Env) (s : Shared) (H : Hp) (vs : List V) (Q : VK) (E : XK), Room k (A.deeper (envOfC qual (defScope st) s.heap.objs.size f cdv)) → sp vs H Q E →
      ∃ t, PSs (cxOf CX0 P w K mg base N qual (defScope st) f cdv A outer s H E).nox (defBody st) t ∧ t { nx := fun _ H' => Q .non H', rt := Q } (start N vs) H) : FnOk P w K mg base CX0 (k + 1) f fd ps sp := by
  obtain ⟨oc, od, dV, kV, doc, pm, an, cdv, ct, osl, rfl, lk, hcd⟩ := F.ex
  refine fn_of lk hcd S len fun A outer s H vs Q E hr hsp => ?_
  obtain ⟨t, h, q⟩ := hb cdv A outer s H vs Q E hr hsp
  exact ⟨t, h.nox, q⟩
theorem FunA.okX (F : FunA K x qual st f fd) (S : FnScope N ps (defScope st)) (len : ∀ vs H Q E, sp vs H Q E → vs.length = ps.length)
    (hb : ∀ (cdv : Value) (A : Around) (outer : List Env) (s : Shared) (H : Hp) (vs : List V) (Q : VK) (E : XK), Room k (A.deeper (envOfC qual (defScope st) s.heap.objs.size f cdv)) → sp vs H Q E →
      ∃ t, PSs (cxOf (L2.CX P w) P w K mg base N qual (defScope st) f cdv A outer s H E) (defBody st) t ∧ t { nx := fun _ H' => Q .non H', rt := Q } (start N vs) H) : FnOk P w K mg base (L2.CX P w) (k + 1) f fd ps sp := by
  obtain ⟨oc, od, dV, kV, doc, pm, an, cdv, ct, osl, rfl, lk, hcd⟩ := F.ex
  exact fn_of lk hcd S len fun A outer s H vs Q E hr hsp => hb cdv A outer s H vs Q E hr hsp
end
/-- o.m(e, .., k = v, ..) -/
def tMethN (C : Addr) (m : Str) (n j : Nat) (sp : Sp) (gV : List V → List V → List V) (E : XK) (ta : TE) (t tk : TA) : TE := fun σ H Q => ta σ H fun x H1 =>
  ∃ a dx fs, x = .ref a ∧ H1 a = some (.ins C dx fs) ∧ fs.lookup m = none ∧ t σ H1 fun vs H2 => tk σ H2 fun zs H3 => vs.length = n ∧ zs.length = j ∧ sp (gV (x :: vs) zs) H3 Q E
section
variable {X : Cx} {CX : CXT} {k n : Nat} {f C : Addr} {fd : FuncData} {ps ks : List Str} {sp : Sp} {E : XK} {m : Str} {apos pos : Pos} {o e : Expr} {es : List Expr} {kws : List Keyword} {ta : TE} {t tk : TA} {g : List Value → List Value → List Value} {gV : List V → List V → List V}
theorem pe_methN {pl : Sem Bool} (he : PE X o ta) (c : Cls X.K C) (hm : Meth X.K C m f) (F : FnOk X.prog X.w X.K X.mg X.base CX k f fd ps sp) (hr : Room k X.A) (hb : KBn X.K fd ps (n + 1) ks g gV) (hx : Passes CX X E) (ha : PA X (e :: es) t) (hkw : PK X kws tk)
    (hall : (backToKw pos (keywordEach kws X.env)).all (·.1.isSome) = true := by rfl) (hks : (backToKw pos (keywordEach kws X.env)).filterMap (·.1) = ks := by rfl) (hst : starEach (e :: es) X.env = (false, eval e X.env) :: starEach es X.env := by rfl)
    (hpl : ((backTo pos (starEach (e :: es) X.env)).any (·.1) || (backToKw pos (keywordEach kws X.env)).any (·.1.isNone)) = false := by rfl)
    (ht : eval (.Call (.Attribute o m apos) (e :: es) kws pos) X.env = (do
      let ov ← eval o X.env
      standAt apos.atName
      let (f, first) ← holding [ov] (getMethod ov m pl)
      callWith pos f first (backTo pos (starEach (e :: es) X.env)) (backToKw pos (keywordEach kws X.env))) := by rfl) :
    PE X (.Call (.Attribute o m apos) (e :: es) kws pos) (tMethN C m n ks.length sp gV E ta t tk) := by
  refine ⟨fun pins s σ H Q I h => ?_⟩
  refine PySem.W.methodCall_KW (pl := pl) (thn (he.run pins s σ H _ I h) fun u s1 ⟨x, H1, I1, rx, a, dx, fs, ex, ea, l, q⟩ => ?_) ht
  subst ex
  obtain rfl : u = Value.ref a := rx
  refine getmeth_ok I1 ea c hm l ?_
  refine PySem.W.callWith_KW (first := [.ref a]) (h₀ := X.base) I.ok.mod.kin hm.kp hall (thn (ha.run pos pins s1 σ H1 _ I1 q) fun us s2 ⟨vs, H2, I2, r, q2⟩ => ?_) hpl hst
  refine thn (hkw.run pos pins s2 σ H2 _ I2 q2) fun ws s3 ⟨zs, H3, I3, rz, l1, l2, q3⟩ => ⟨I3.kIn, ?_⟩
  rw [hks]
  exact run_fnN (us := .ref a :: us) (vs := .ref a :: vs) F hr hb hx I3 (.cons rfl r) rz (by rw [List.length_cons, l1]) l2 q3
end
/-- fields by name -/
abbrev Fs := List (Str × V)
example (h c d : V) : putF ("cursor" : Str) d ([("held", h), ("cursor", c)] : Fs) = ([("held", h), ("cursor", d)] : Fs) := by kernel_rfl
example (h c d : V) : putF ("cursor" : Str) d ([("held", h)] : Fs) = ([("held", h), ("cursor", d)] : Fs) := by kernel_rfl
end Sip
namespace Sip
open PySem PySem.Spec PyProof.Rows L2 TL
/-- a def of the top, a method of a class -/
structure Dg (K : PySem.W.Frag) (mg : Str → Option Value) (x : Str) (st : Stmt) (f : Addr) (fd : FuncData) : Prop where
  F : FunA K x x st f fd
  g : mg x = some (.ref f)
structure Mf (K : PySem.W.Frag) (C : Addr) (x qual : Str) (st : Stmt) (f : Addr) (fd : FuncData) : Prop where
  F : FunA K x qual st f fd
  m : Meth K C x f
theorem funA_mk {K : PySem.W.Frag} {x qual : Str} {st : Stmt} {f : Addr} {oc : Value} {od an : Option Addr} {osl : Array (Option Value)} {dV kV doc pm cdv ct : Value} (l : K.lookup f = some ⟨oc, od, .func (PySem.W.fnOf x qual (defArgs st) (defBody st) (defScope st) dV kV doc pm an cdv ct), osl⟩)
    (c : PySem.W.codeIn K cdv qual = true) (k : PySem.W.keepIn K (.ref f) = true) : FunA K x qual st f (PySem.W.fnOf x qual (defArgs st) (defBody st) (defScope st) dV kV doc pm an cdv ct) := ⟨⟨oc, od, dV, kV, doc, pm, an, cdv, ct, osl, rfl, l, c⟩, k⟩
end Sip
/-! repr of lists and tuples: asked where no other repr is under way -/
namespace Sip
open PySem PySem.Spec PyProof.Rows L2 TL

/-! data that can be shown: bounds of its weight and its depth -/
def Sh (w k : Nat) (d : PyData) : Prop := d.showable = true ∧ d.hasDict = false ∧ d.leavesShort 13 = true ∧ d.weight ≤ w ∧ d.depth ≤ k
def ShA (w k : Nat) (ds : List PyData) : Prop := PyData.showableAll ds = true ∧ PyData.hasDictAll ds = false ∧ PyData.leavesShortAll 13 ds = true ∧ PyData.weightAll ds ≤ w ∧ PyData.depthAll ds ≤ k
theorem Sh.up {w k w' k' : Nat} {d : PyData} (h : Sh w k d) (a : w ≤ w') (b : k ≤ k') : Sh w' k' d := ⟨h.1, h.2.1, h.2.2.1, Nat.le_trans h.2.2.2.1 a, Nat.le_trans h.2.2.2.2 b⟩
theorem ShA.up {w k w' k' : Nat} {d : List PyData} (h : ShA w k d) (a : w ≤ w') (b : k ≤ k') : ShA w' k' d := ⟨h.1, h.2.1, h.2.2.1, Nat.le_trans h.2.2.2.1 a, Nat.le_trans h.2.2.2.2 b⟩
theorem sh_non : Sh 0 0 .none := ⟨rfl, rfl, rfl, Nat.le_refl _, Nat.le_refl _⟩
theorem sh_bl (b : Bool) : Sh 0 0 (.bool b) := ⟨rfl, rfl, rfl, Nat.le_refl _, Nat.le_refl _⟩
theorem log_le {n k : Nat} (h : n < 2 ^ k) (hk : 0 < k) : n.log2 < k := by
  by_cases e : n = 0
  · subst e; simpa using hk
  · exact (Nat.log2_lt e).mpr h
theorem sh_int {i : Int} (h : i.natAbs < 10 ^ 12) : Sh 41 0 (.int i) := by
  have e : i.natAbs < 2 ^ 40 := Nat.lt_of_lt_of_le h (by decide)
  have l := log_le e (by decide)
  refine ⟨?_, rfl, ?_, ?_, Nat.le_refl _⟩
  · show decide _ = true
    exact decide_eq_true (by omega)
  · show decide _ = true
    exact decide_eq_true (PyData.shown_int_le h)
  · show (if i == 0 then 0 else i.natAbs.log2 + 1) ≤ 41
    split <;> omega
theorem sh_str {x : Str} (h : (x.cps.toList.all fun c => decide (c < 16 ^ 8)) = true) : Sh x.length 0 (.str x) := ⟨rfl, rfl, h, Nat.le_refl _, Nat.le_refl _⟩
theorem shA_nil : ShA 0 0 [] := ⟨rfl, rfl, rfl, Nat.le_refl _, Nat.le_refl _⟩
theorem shA_cons {w k v j : Nat} {d : PyData} {ds : List PyData} (h : Sh w k d) (t : ShA v j ds) : ShA (w + 1 + v) (max k j) (d :: ds) := by
  obtain ⟨a1, a2, a3, a4, a5⟩ := h
  obtain ⟨b1, b2, b3, b4, b5⟩ := t
  refine ⟨?_, ?_, ?_, ?_, ?_⟩
  · show (_ && _) = true; rw [a1, b1]; rfl
  · show (_ || _) = false; rw [a2, b2]; rfl
  · show (_ && _) = true; rw [a3, b3]; rfl
  · show _ + 1 + _ ≤ _; omega
  · show max _ _ ≤ max _ _; omega
theorem sh_list {w k : Nat} {ds : List PyData} (h : ShA w k ds) : Sh w (k + 1) (.list ds) := ⟨h.1, h.2.1, h.2.2.1, h.2.2.2.1, Nat.succ_le_succ h.2.2.2.2⟩
theorem sh_tuple {w k : Nat} {ds : List PyData} (h : ShA w k ds) : Sh w (k + 1) (.tuple ds) := ⟨h.1, h.2.1, h.2.2.1, h.2.2.2.1, Nat.succ_le_succ h.2.2.2.2⟩
theorem shA_map {α : Type} {f : α → PyData} {w k : Nat} : ∀ {xs : List α}, (∀ x ∈ xs, Sh w k (f x)) → ShA ((w + 1) * xs.length) k (xs.map f)
  | [], _ => shA_nil.up (Nat.zero_le _) (Nat.zero_le _)
  | x :: r, h => by
    have e := shA_cons (h x List.mem_cons_self) (shA_map (xs := r) fun y hy => h y (List.mem_cons_of_mem _ hy))
    refine e.up ?_ (by omega)
    rw [List.length_cons, Nat.mul_add]; omega
theorem sh_ints {ns : List Int} (h : ∀ n ∈ ns, n.natAbs < 10 ^ 12) : Sh (42 * ns.length) 1 (.list (ns.map .int)) := sh_list (shA_map fun n hn => sh_int (h n hn))
theorem Sh.fits {w k : Nat} {d : PyData} (h : Sh w k d) (hw : w ≤ 1000000) : d.shown.length ≤ sizeLine := PyData.shown_fits (by decide) (by decide) h.2.2.1 (Nat.le_trans h.2.2.2.1 (Nat.le_trans hw (by decide)))

section
variable {X : Cx}
/-- repr(v), v a list or a tuple -/
def rRepr (K : PySem.W.Frag) : List V → Hp → VK → Prop := fun xs H Q => ∃ (a : Addr) (d : PyData) (w k : Nat), xs = [.ref a] ∧ Dp K H (.ref a) d ∧ Sh w k d ∧ w ≤ 1000000 ∧ k ≤ 20 ∧ Q (.str d.shown) H
theorem call_reprD (hg : X.A.guards = some []) (hu : X.A.units + 64 < cLine) : CallR X (.builtin "repr") (rRepr X.K) := by
  intro pins s σ H xs us Q I r h
  obtain ⟨a, d, w, k, rfl, hd, hs, hw, hk, q⟩ := h
  obtain ⟨u, rfl, ru⟩ := vals1 r
  cases ru
  obtain ⟨as, r1⟩ := Dp.reads I d (.ref a) _ hd rfl
  have hdp := hs.2.2.2.2
  exact repr_of_reads' r1 hs.1 (PyData.noDict_hsm hs.2.1) hg (by omega) (fun _ _ e => e) (fun h' t tk hk => ⟨.str d.shown, H, I.kept hk, ⟨t, rfl⟩, q⟩) (hs.fits hw)
end

/-- a promise that is kept where no repr is under way -/
structure FnG (P : Program) (w : World) (K : PySem.W.Frag) (mg : Str → Option Value) (base : Heap) (CX : CXT) (k : Nat) (f : Addr) (fd : FuncData) (ps : List Str) (sp : Sp) : Prop where
  len : ∀ vs H Q E, sp vs H Q E → vs.length = ps.length
  run : ∀ (A : Around) (outer : List Env) (s : Shared) (H : Hp) (args : Args) (us : List Value) (vs : List V) (Q : VK) (E : XK), A.guards = some [] → Room k A →
    Env0 P w K mg base A outer s H → BindsTo s fd args (ps.zip us) → Vals vs us → sp vs H Q E → codeAny (model P w) A (.call (.ref f) args) (CR CX outer P w H s Q E) s
section
variable {P : Program} {w : World} {K : PySem.W.Frag} {mg : Str → Option Value} {base : Heap} {x qual : Str} {st : Stmt} {f : Addr} {fd : FuncData} {N ps : List Str} {k : Nat} {sp : Sp}
theorem FunA.okG {CX : CXT} (F : FunA K x qual st f fd) (S : FnScope N ps (defScope st)) (len : ∀ vs H Q E, sp vs H Q E → vs.length = ps.length)
    (hb : ∀ (cdv : Value) (A : Around) (outer : List Env) (s : Shared) (H : Hp) (vs : List V) (Q : VK) (E : XK), A.guards = some [] → Room k (A.deeper (envOfC qual (defScope st) s.heap.objs.size f cdv)) → sp vs H Q E →
      ∃ t, PSs (cxOf CX P w K mg base N qual (defScope st) f cdv A outer s H E) (defBody st) t ∧ t { nx := fun _ H' => Q .non H', rt := Q } (start N vs) H) : FnG P w K mg base CX (k + 1) f fd ps sp := by
  obtain ⟨oc, od, dV, kV, doc, pm, an, cdv, ct, osl, rfl, lk, hcd⟩ := F.ex
  refine ⟨len, fun A outer s H args us vs Q E hg hr e0 hbd r hsp => ?_⟩
  have keep : ∀ b o, base.get? b = some o → s.heap.get? b = some o := fun b o e => (e0.bs b o e).1
  have KX := e0.mod.kin.keeps keep
  refine codeAny_call_function hr.depth (KX _ _ lk) rfl S.co S.gen rfl (PySem.W.codeRec_of KX hcd) (hbd _ _ _ _ (wpAny_newFunctionEnv_cells S.kind (fun y hy => ?_) fun env he s1 z => ?_))
  · rcases S.par y.1 (List.of_mem_zip hy).1 with q | q
    · exact .inl q
    · exact .inr ⟨q, PySem.W.cellsFrom_some _ _ _ (.inl q)⟩
  subst he
  obtain ⟨t, ht, hq⟩ := hb cdv A outer s H vs Q E hg (hr.deeper _) hsp
  have I := inv_start (CX := CX) (N := N) (E := E) S hr.hd e0 (len _ _ _ _ hsp) r z
  refine ⟨(e0.mod.nolimit.keeps keep).keeps z.toInCall.keep, codeAny_func (wpAny_mono (ht.run [] s1 _ H _ I hq) (fun fl s' hs => ?_) fun _ _ h => h)⟩
  cases fl with
  | ret u =>
    obtain ⟨v, _, H', J, rv, q⟩ := hs
    exact ⟨v, H', J.os, J.bare, J.base, J.hok, rv, q⟩
  | next =>
    obtain ⟨_, H', J, q⟩ := hs
    exact ⟨.non, H', J.os, J.bare, J.base, J.hok, rfl, q⟩
  | brk => exact (hs.choose_spec.choose_spec.2 : False).elim
  | cont => exact (hs.choose_spec.choose_spec.2 : False).elim
/-- by a body that raises nothing -/
theorem FunA.okG0 (F : FunA K x qual st f fd) (S : FnScope N ps (defScope st)) (len : ∀ vs H Q E, sp vs H Q E → vs.length = ps.length)
    (hb : ∀ (cdv : Value) (A : Around) (outer : List Env) (s : Shared) (H : Hp) (vs : List V) (Q : VK) (E : XK), A.guards = some [] → Room k (A.deeper (envOfC qual (defScope st) s.heap.objs.size f cdv)) → sp vs H Q E →
      ∃ t, PSs (cxOf CX0 P w K mg base N qual (defScope st) f cdv A outer s H E).nox (defBody st) t ∧ t { nx := fun _ H' => Q .non H', rt := Q } (start N vs) H) : FnG P w K mg base CX0 (k + 1) f fd ps sp :=
  F.okG S len fun cdv A outer s H vs Q E hg hr h => let ⟨t, a, q⟩ := hb cdv A outer s H vs Q E hg hr h; ⟨t, a.nox, q⟩
end
section
variable {X : Cx} {CX : CXT} {k : Nat} {f : Addr} {fd : FuncData} {ps : List Str} {sp : Sp} {dvs : List V} {ds : List Value} {E : XK} {x : Str} {p pos : Pos} {e : Expr} {es : List Expr} {t : TA}
/-- f(e, ..) of such a promise -/
theorem pe_callG (hG : X.A.guards = some []) (F : FnG X.prog X.w X.K X.mg X.base CX k f fd ps sp) (hr : Room k X.A) (hg : Gl X x) (hm : X.mg x = some (.ref f)) (hk : PySem.W.keepIn X.K (.ref f) = true) (hb : Binds X.K fd ps ds) (hd : Vals dvs ds) (hx : Passes CX X E)
    (ha : PA X (e :: es) t) (n1 : (x == ("__debug__" : Str)) = false := by decide) (n2 : starEach (e :: es) X.env = (false, eval e X.env) :: starEach es X.env := by rfl) (n3 : (backTo pos (starEach es X.env)).any (·.1) = false := by rfl) :
    PE X (.Call (.Name x p) (e :: es) [] pos) (tCall sp dvs E t) := by
  refine ⟨fun pins s σ H Q I h => wpAny_Call_Name_kw (ld_glob I hg hm (PySem.W.callWith_K (h₀ := X.base) I.ok.mod.kin hk (thn (ha.run pos pins s σ H _ I h) fun us s1 ⟨vs, H1, I1, r, q⟩ => ⟨I1.kIn, ?_⟩) n2 n3) n1)⟩
  have r2 := r.append hd
  refine wpAny_call (codeAny_mono (F.run X.A X.stack s1 H1 ⟨us, []⟩ _ _ Q E hG hr I1.env0 (hb s1 us I1.kIn (by rw [← r2.length]; exact F.len _ _ _ _ q)) r2 q) fun fl s' hq => ?_)
  match fl, hq with
  | .error e, hq => exact hx pins σ H1 s1 e s' I1 hq
  | .ok (.ret u), hq => exact I1.after hq
end
section
variable {P : Program} {w : World} {K : PySem.W.Frag} {mg mb : Str → Option Value} {CX : CXT} {k : Nat} {fa a : Addr} {fd : FuncData} {x : Str} {sp : Sp} {s1 : Shared} {us : List Value} {ns : List Int}
/-- what a law wants of its call -/
abbrev LawEnd (s1 : Shared) (r : Result) (s' : Shared) : Prop := r = .ok (.ret (.bool true)) ∧ OldK s1.heap s'.heap ∧ s'.os = s1.os ∧ AllBare s'.gens
/-- from a heap in which the script alone may be tracked -/
theorem law_fromG (inK : K.In s1.heap) (gl : s1.heap.Ns mainGlobals mg) (bl : s1.heap.Ns builtinsNs mb) (bv : ∀ y : Str, y ≠ "__name__" → mb y = bootBuiltins y) (li : s1.heap.NoLimit) (ge : s1.gens = #[])
    (ha : s1.heap.get? a = some { cls := .type "list", data := .seq us.toArray }) (hr : Room k callerA) (F : ∀ b : Heap, K.In b → b.Ns mainGlobals mg → FnG P w K mg b CX k fa fd [x] sp) (bi : ∀ (s : Shared) (u : Value), BindsTo s fd ⟨[u], []⟩ [(x, u)])
    (no : ∀ H e s', CX [] H s1 (fun _ _ _ => False) e s' → False) (H : Hp) (only : Only H) (say : sp [.ref a] H (fun v _ => v = .bl true) fun _ _ _ => False) (ok : HOk P w H s1.heap) (hA : ∀ b, H b ≠ none → b = a) (hK : H a ≠ none → K.lookup a = none) :
    codeAny (model P w) callerA (.call (.ref fa) ⟨[.ref a], []⟩) (LawEnd s1) s1 := by
  have free : ∀ {b : Addr} {o : Obj}, s1.heap.get? b = some o → (∀ l n, o.data ≠ .seq l n) → H b = none := fun {b o} e d => by
    cases q : H b with
    | none => rfl
    | some u =>
      obtain rfl := hA b (by rw [q]; exact fun z => nomatch z)
      rw [ha] at e; cases e
      exact absurd rfl (d _ _)
  have ns2 : ∀ {b : Addr} {m : Str → Option Value}, s1.heap.Ns b m → (hidT s1.heap H).Ns b m := fun {b m} ⟨o, es, ep, e, d, r⟩ => ⟨o, es, ep, hidT_get e (free e fun l n z => by rw [d] at z; cases z), d, r⟩
  have k2 : K.In (hidT s1.heap H) := fun b o e => hidT_get (inK b o e) (by
    cases q : H b with
    | none => rfl
    | some u =>
      obtain rfl := hA b (by rw [q]; exact fun z => nomatch z)
      rw [hK (by rw [q]; exact fun z => nomatch z)] at e; cases e)
  have li2 : (hidT s1.heap H).NoLimit := by
    obtain ⟨mc, h1, h2⟩ := li
    exact ⟨mc, ns2 h1, h2⟩
  have e0 : Env0 P w K mg (hidT s1.heap H) callerA [] s1 H := { frames := rfl, mod := ⟨k2, ns2 gl, ⟨mb, ns2 bl, bv⟩, li2⟩, bs := fun b o e => of_hidT e, bsz := Nat.le_of_eq (hidT_size _ _), funs := trivial, frf := (fun b hb => absurd (show b ∈ ([] : List Addr) from hb) (List.not_mem_nil)), hok := ok, bare := .of_eq ge }
  refine codeAny_mono ((F _ k2 (ns2 gl)).run callerA [] s1 H ⟨[.ref a], []⟩ [.ref a] [.ref a] _ _ rfl hr e0 (bi s1 _) (.cons rfl .nil) say) fun r s' h => ?_
  match r, h with
  | .error e, h => exact (no H e s' h).elim
  | .ok (.ret u), ⟨v, H', os, bare, un, ok2, ru, q⟩ =>
    obtain rfl : v = .bl true := q
    cases ru
    refine ⟨rfl, OldK.of_keep fun b o e => ?_, os, bare⟩
    rcases only b with z | ⟨ob, xs, z⟩
    · exact un.keep b o e z (fun y => absurd (show b ∈ ([] : List Addr) from y) List.not_mem_nil) List.not_mem_nil
    · have o1 := (ok b _ z).1
      rw [e] at o1; cases o1
      exact (ok2 b _ (un.frzs b _ _ z)).1
theorem law_callG (inK : K.In s1.heap) (gl : s1.heap.Ns mainGlobals mg) (bl : s1.heap.Ns builtinsNs mb) (bv : ∀ y : Str, y ≠ "__name__" → mb y = bootBuiltins y) (li : s1.heap.NoLimit) (ge : s1.gens = #[])
    (ha : s1.heap.get? a = some { cls := .type "list", data := .seq us.toArray }) (hi : IntsAre us ns) (hl : ns.length ≤ sizeLine) (hr : Room k callerA) (F : ∀ b : Heap, K.In b → b.Ns mainGlobals mg → FnG P w K mg b CX k fa fd [x] sp)
    (bi : ∀ (s : Shared) (u : Value), BindsTo s fd ⟨[u], []⟩ [(x, u)]) (say : ∀ H : Hp, Only H → SqL K H a (ns.map V.int) → sp [.ref a] H (fun v _ => v = .bl true) fun _ _ _ => False) (no : ∀ H e s', CX [] H s1 (fun _ _ _ => False) e s' → False) :
    codeAny (model P w) callerA (.call (.ref fa) ⟨[.ref a], []⟩) (LawEnd s1) s1 := by
  have rv := vals_ints hi
  have ll : us.length = ns.length := hi.length
  have two : ∀ h : Hp, Only h → SqL K h a (ns.map V.int) → HOk P w h s1.heap → (∀ b, h b ≠ none → b = a) → (h a ≠ none → K.lookup a = none) → codeAny (model P w) callerA (.call (.ref fa) ⟨[.ref a], []⟩) (LawEnd s1) s1 := fun h h1 h2 h3 h4 h5 =>
    law_fromG inK gl bl bv li ge ha hr F bi no h h1 (say h h1 h2) h3 h4 h5
  cases own : K.lookup a with
  | some o =>
    have e := inK a o own
    rw [ha] at e; cases e
    exact two (fun _ => none) (fun _ => .inl rfl) (.inr ⟨_, us.toArray, _, own, rfl, rfl, rfl, by rw [List.size_toArray, ll]; exact hl, by simpa using rv⟩) (fun b u z => nomatch (show (none : Option HO) = some u from z)) (fun b z => absurd rfl z) fun z => absurd rfl z
  | none =>
    let G : Hp := upd (fun _ => none) a (.frz { cls := .type "list", data := .seq us.toArray } (.lst (ns.map V.int)))
    have ga : G a = some (.frz { cls := .type "list", data := .seq us.toArray } (.lst (ns.map V.int))) := upd_same
    have gn : ∀ b, b ≠ a → G b = none := fun b n => upd_ne n
    refine two G (fun b => ?_) (.inl (.inr ⟨_, ga⟩)) (fun b u z => ?_) (fun b z => ?_) fun _ => own
    · by_cases e : b = a
      · subst e; exact .inr ⟨_, _, ga⟩
      · exact .inl (gn b e)
    · by_cases e : b = a
      · subst e
        rw [ga] at z; cases z
        exact ⟨ha, by rw [List.length_map]; exact hl, us, _, rv, ha⟩
      · rw [gn b e] at z; cases z
    · exact Classical.byContradiction fun e => z (gn b e)
end
theorem walk_ofG {l : PySem.W.OpenLaw} {n k : Nat} {q : Program} {loose : List Str} {XP : (Str → Option Value) → Heap → Prop} {YP : World → Heap → Prop} {d : DefRec} {K : Params → PySem.W.Frag} {CX : World → CXT} {sp : World → Sp} {x : Str} (h1 : l.most = some n) (h2 : n ≤ sizeLine)
    (h3 : d.params.defaults = []) (hr : Room k callerA) (hY : ∀ (w : World) (h : Heap), YP w h → (K w.params).In h)
    (F : ∀ (w : World) (mg : Str → Option Value) (fa : Addr) (h : Heap), (K w.params).In h → h.Ns mainGlobals mg → mg d.name = some (.ref fa) → ∃ fd : FuncData, (∀ (s : Shared) (u : Value), BindsTo s fd ⟨[u], []⟩ [(x, u)]) ∧
      ∀ b : Heap, (K w.params).In b → b.Ns mainGlobals mg → FnG l.prog w (K w.params) mg b (CX w) k fa fd [x] (sp w))
    (say : ∀ (w : World) (H : Hp) (a : Addr) (ns : List Int), ns.length ≤ n → Only H → SqL (K w.params) H a (ns.map V.int) → sp w [.ref a] H (fun v _ => v = .bl true) fun _ _ _ => False)
    (no : ∀ (w : World) (H : Hp) (s : Shared) (e : Value) (s' : Shared), CX w [] H s (fun _ _ _ => False) e s' → False) : PySem.W.WalkO q loose XP YP l.row.toRowW d [] (fun f vs => PySem.call f vs) :=
  Att.attach_call h1 h3 fun w s0 s1 mg mb fa o pm cd doc a vs ns G Y _ _ _ hmg ho hi hlen ge =>
    let ⟨_, bi, hF⟩ := F w mg fa _ (hY w _ Y) G.T.g hmg
    law_callG (hY w _ Y) G.T.g G.T.b G.T.builtins G.T.nolimit ge ho hi (Nat.le_trans hlen h2) hr hF bi (fun H hO hS => say w H a ns hlen hO hS) fun H e s' => no w H s1 e s'
end Sip
namespace Sip
open PySem PySem.Spec PyProof.Rows L2 TL

abbrev Piece := Nat × List Int
/-! all pieces laid one behind another -/
def allF (r : List Int) (ps : List Piece) : List Int := ps.foldl (fun acc p => laidF acc p.1 p.2) r
def mostF (m : Nat) (ps : List Piece) : Nat := ps.foldl (fun m p => if 0 < p.2.length then max m (p.1 + p.2.length) else m) m
def stepB (k : Nat) (b : Int) (p : Piece) : Int := if p.1 ≤ k ∧ k < p.1 + p.2.length then p.2.getD (k - p.1) 0 else b
def byteF (b : Int) (k : Nat) (ps : List Piece) : Int := ps.foldl (stepB k) b
theorem laidF_len (r : List Int) (p : Piece) : (laidF r p.1 p.2).length = if 0 < p.2.length then max r.length (p.1 + p.2.length) else r.length := by
  by_cases h : p.2 = []
  · rw [h, laidF_nil]; rfl
  · rw [laidF_length h, if_pos (List.length_pos_iff.mpr h)]
theorem laidF_byte (r : List Int) (p : Piece) (k : Nat) : (laidF r p.1 p.2)[k]?.getD 0 = stepB k (r[k]?.getD 0) p := by
  unfold stepB
  by_cases h : p.2 = []
  · rw [h, laidF_nil, if_neg (by simp)]
  · rw [laidF_getD h, List.getD_eq_getElem?_getD, List.getD_eq_getElem?_getD]
theorem allF_len : ∀ (ps : List Piece) (r : List Int), (allF r ps).length = mostF r.length ps
  | [], _ => rfl
  | p :: q, r => by
    show (allF (laidF r p.1 p.2) q).length = mostF (if 0 < p.2.length then max r.length (p.1 + p.2.length) else r.length) q
    rw [allF_len q, laidF_len]
theorem allF_byte : ∀ (ps : List Piece) (r : List Int) (k : Nat), (allF r ps)[k]?.getD 0 = byteF (r[k]?.getD 0) k ps
  | [], _, _ => rfl
  | p :: q, r, k => by
    show (allF (laidF r p.1 p.2) q)[k]?.getD 0 = byteF (stepB k (r[k]?.getD 0) p) k q
    rw [allF_byte q, laidF_byte]
theorem allF_append (r : List Int) (a b : List Piece) : allF r (a ++ b) = allF (allF r a) b := List.foldl_append
/-- a piece in two parts -/
theorem laidF_parts (r : List Int) (n c : Nat) (d : List Int) (h : c ≤ d.length) : laidF (laidF r n (d.take c)) (n + c) (d.drop c) = laidF r n d := by
  have l1 := laidF_len r (n, d.take c)
  have l2 := laidF_len (laidF r n (d.take c)) (n + c, d.drop c)
  have l3 := laidF_len r (n, d)
  simp only [List.length_take, List.length_drop] at l1 l2 l3
  refine ext_getD ?_ fun k hk => ?_
  · rw [l2, l3, l1]
    split <;> split <;> split <;> omega
  · rw [laidF_byte _ (n + c, d.drop c), laidF_byte r (n, d.take c), laidF_byte r (n, d)]
    unfold stepB
    simp only [List.length_take, List.length_drop, List.getD_eq_getElem?_getD, List.getElem?_drop]
    by_cases h1 : n + c ≤ k ∧ k < n + c + (d.length - c)
    · rw [if_pos h1, if_pos (by omega)]
      congr 2
      omega
    · rw [if_neg h1]
      by_cases h2 : n ≤ k ∧ k < n + min c d.length
      · rw [if_pos h2, if_pos (by omega), List.getElem?_take_of_lt (by omega)]
      · rw [if_neg h2, if_neg (by omega)]
theorem allF_parts (r : List Int) (a b : List Piece) (n c : Nat) (d : List Int) (h : c ≤ d.length) :
    allF r (a ++ [(n, d.take c), (n + c, d.drop c)] ++ b) = allF r (a ++ [(n, d)] ++ b) := by
  rw [allF_append, allF_append, allF_append, allF_append]
  show allF (laidF (laidF (allF r a) n (d.take c)) (n + c) (d.drop c)) b = allF (laidF (allF r a) n d) b
  rw [laidF_parts _ _ _ _ h]
def Small (p : Piece) : Prop := p.1 ≤ 340 ∧ p.2.length ≤ 400 ∧ Bytes p.2
theorem bytes_getD {bs : List Int} (h : Bytes bs) (k : Nat) : 0 ≤ bs[k]?.getD 0 ∧ bs[k]?.getD 0 ≤ 255 := by
  cases e : bs[k]? with
  | none => exact ⟨by decide, by decide⟩
  | some b =>
    obtain ⟨hk, rfl⟩ := List.getElem?_eq_some_iff.mp e
    exact h _ (List.getElem_mem hk)
theorem bytes_of {bs : List Int} (h : ∀ k, k < bs.length → 0 ≤ bs[k]?.getD 0 ∧ bs[k]?.getD 0 ≤ 255) : Bytes bs := fun b hb => by
  obtain ⟨k, hk, rfl⟩ := List.getElem_of_mem hb
  have := h k hk
  rw [List.getElem?_eq_getElem hk] at this
  exact this
theorem laid_bytes {r : List Int} {p : Piece} (hr : Bytes r) (hp : Bytes p.2) : Bytes (laidF r p.1 p.2) := bytes_of fun k _ => by
  rw [laidF_byte]
  unfold stepB
  split
  · rw [List.getD_eq_getElem?_getD]; exact bytes_getD hp _
  · exact bytes_getD hr k
theorem allF_good : ∀ (ps : List Piece) (r : List Int), Bytes r → r.length ≤ 740 → (∀ p ∈ ps, Small p) → Bytes (allF r ps) ∧ (allF r ps).length ≤ 740
  | [], r, hb, hl, _ => ⟨hb, hl⟩
  | p :: q, r, hb, hl, hp => by
    have h1 := hp p (List.mem_cons_self ..)
    refine allF_good q (laidF r p.1 p.2) (laid_bytes hb h1.2.2) ?_ (fun z hz => hp z (List.mem_cons_of_mem _ hz))
    exact laidF_le ⟨hl, by have := h1.1; have := h1.2.1; omega⟩

/-! pieces in the heap -/
def PieceAt (H : Hp) (v : V) (p : Piece) : Prop := ∃ T D : Addr, v = .ref T ∧ H T = some (.tup [.int (p.1 : Nat), .ref D]) ∧ H D = some (.lst (p.2.map V.int))
def Pieces (H : Hp) (vs : List V) (ps : List Piece) : Prop := vs.length = ps.length ∧ ∀ (i : Nat) (v : V) (p : Piece), vs[i]? = some v → ps[i]? = some p → PieceAt H v p
theorem PieceAt.mono {H H' : Hp} {v : V} {p : Piece} (s : Same H H') (h : PieceAt H v p) : PieceAt H' v p := by
  obtain ⟨T, D, e, h1, h2⟩ := h
  exact ⟨T, D, e, s _ _ h1, s _ _ h2⟩
theorem Pieces.mono {H H' : Hp} {vs : List V} {ps : List Piece} (s : Same H H') (h : Pieces H vs ps) : Pieces H' vs ps :=
  ⟨h.1, fun i v p a b => (h.2 i v p a b).mono s⟩
theorem Pieces.at {H : Hp} {vs : List V} {ps : List Piece} {i : Nat} {v : V} (h : Pieces H vs ps) (e : vs[i]? = some v) : ∃ hi : i < ps.length, PieceAt H v ps[i] := by
  have hi : i < ps.length := by
    have := (List.getElem?_eq_some_iff.mp e).1
    rw [h.1] at this; exact this
  exact ⟨hi, h.2 i v _ e (List.getElem?_eq_getElem hi)⟩
theorem Pieces.nil {H : Hp} : Pieces H [] [] := ⟨rfl, fun i v p a => by simp at a⟩
theorem Pieces.append {H : Hp} {vs us : List V} {ps qs : List Piece} (h : Pieces H vs ps) (k : Pieces H us qs) : Pieces H (vs ++ us) (ps ++ qs) := by
  refine ⟨by rw [List.length_append, List.length_append, h.1, k.1], fun i v p a b => ?_⟩
  by_cases hi : i < vs.length
  · rw [List.getElem?_append_left hi] at a
    rw [List.getElem?_append_left (by rw [← h.1]; exact hi)] at b
    exact h.2 i v p a b
  · rw [List.getElem?_append_right (by omega)] at a
    rw [List.getElem?_append_right (by rw [← h.1]; omega), ← h.1] at b
    exact k.2 _ v p a b
theorem Pieces.one {H : Hp} {v : V} {p : Piece} (h : PieceAt H v p) : Pieces H [v] [p] := ⟨rfl, fun i w q a b => by
  cases i with
  | zero =>
    have e1 : v = w := Option.some.inj a
    have e2 : p = q := Option.some.inj b
    rw [← e1, ← e2]; exact h
  | succ i => simp at a⟩
theorem Pieces.take {H : Hp} {vs : List V} {ps : List Piece} (h : Pieces H vs ps) (n : Nat) : Pieces H (vs.take n) (ps.take n) := by
  refine ⟨by rw [List.length_take, List.length_take, h.1], fun i v p a b => ?_⟩
  have hi : i < n := by
    have := (List.getElem?_eq_some_iff.mp a).1
    rw [List.length_take] at this; omega
  rw [List.getElem?_take_of_lt hi] at a b
  exact h.2 i v p a b
theorem Pieces.drop {H : Hp} {vs : List V} {ps : List Piece} (h : Pieces H vs ps) (n : Nat) : Pieces H (vs.drop n) (ps.drop n) := by
  refine ⟨by rw [List.length_drop, List.length_drop, h.1], fun i v p a b => ?_⟩
  rw [List.getElem?_drop] at a b
  exact h.2 _ v p a b
theorem cut_to (xs : List V) (n : Nat) (h : n ≤ xs.length) : cutV xs none (some (n : Int)) = xs.take n := by
  unfold cutV
  rw [HT.sIx_none, HT.sIx_nat, Nat.min_eq_left h]; rfl
theorem cut_from (xs : List V) (n : Nat) (h : n ≤ xs.length) : cutV xs (some (n : Int)) none = xs.drop n := by
  unfold cutV
  rw [HT.sIx_none, HT.sIx_nat, Nat.min_eq_left h]
  exact List.take_of_length_le (by rw [List.length_drop]; omega)
theorem split_at {α : Type} {ps : List α} {i : Nat} (hi : i < ps.length) : ps.take i ++ [ps[i]] ++ ps.drop (i + 1) = ps := by
  rw [List.append_assoc]
  show ps.take i ++ (ps[i] :: ps.drop (i + 1)) = ps
  rw [List.getElem_cons_drop, List.take_append_drop]
theorem foldl_next {α β : Type} (f : β → α → β) (b : β) (xs : List α) (i : Nat) (hi : i < xs.length) : (xs.take (i + 1)).foldl f b = f ((xs.take i).foldl f b) xs[i] := by
  rw [List.take_add_one, List.getElem?_eq_getElem hi, List.foldl_append]; rfl

def spBytesM (K : PySem.W.Frag) : Sp := fun vs H Q _ => ∃ (p m : Addr) (n : Int) (o : HO) (ms : List Int), vs = [.ref p, .ref m] ∧ H p = some o ∧ PoolO n o ∧ n ≤ 900000000 ∧ SqL K H m (ms.map V.int) ∧ p ≠ m ∧ ms ≠ [] ∧ ms.length ≤ 100 ∧ (∀ z ∈ ms, 0 ≤ z ∧ z ≤ 400) ∧
  ∀ (H' : Hp) (q : Addr) (bs : List Int) (o' : HO), H q = none → H' q = some (.lst (bs.map V.int)) → H' p = some o' → PoolO (n + 1000) o' → Kp [p] H H' → (∃ z ∈ ms, (bs.length : Int) = z) → Bytes bs → Q (.ref q) H'
def spDueP (K : PySem.W.Frag) : Sp := fun vs H Q _ => ∃ (a b : Addr) (r : List Int) (us : List V) (ps : List Piece), vs = [.ref a, .ref b] ∧ SqL K H a (r.map V.int) ∧ SqL K H b us ∧ Pieces H us ps ∧ r.length ≤ 740 ∧ Bytes r ∧ (∀ p ∈ ps, Small p) ∧ ps.length ≤ 100 ∧
  ∀ (H' : Hp) (q : Addr), H q = none → H' q = some (.lst ((allF r ps).map V.int)) → Same H H' → Q (.ref q) H'
/-! what stands apart from some places -/
def mask (qs : List Addr) (H : Hp) : Hp := fun b => if b ∈ qs then none else H b
theorem mask_le (qs : List Addr) (H : Hp) : Same (mask qs H) H := fun b o e => by
  unfold mask at e
  split at e
  · cases e
  · exact e
theorem mask_upd {qs : List Addr} {H : Hp} {q : Addr} {o : HO} (h : q ∈ qs) : mask qs (upd H q o) = mask qs H := by
  funext b
  unfold mask
  split
  · rfl
  · next n =>
    have : b ≠ q := fun z => n (by rw [z]; exact h)
    rw [upd_ne this]
theorem mask_kp {qs : List Addr} {H H' : Hp} (k : Kp qs H H') : Same (mask qs H) (mask qs H') := fun b o e => by
  unfold mask at e ⊢
  split at e
  · cases e
  · next n => rw [if_neg n]; exact k b o n e
theorem mask_at {qs : List Addr} {H : Hp} {b : Addr} (h : b ∉ qs) : mask qs H b = H b := if_neg h
theorem Kp.sub {ps qs : List Addr} {H H' : Hp} (k : Kp ps H H') (h : ∀ x ∈ ps, x ∈ qs ∨ H x = none) : Kp qs H H' := fun b o n e => by
  refine k b o (fun z => ?_) e
  rcases h b z with h | h
  · exact n h
  · rw [h] at e; cases e
def Tiny (p : Piece) : Prop := p.1 ≤ 299 ∧ p.2.length ≤ 40 ∧ Bytes p.2
theorem Tiny.small {p : Piece} (h : Tiny p) : Small p := ⟨by have := h.1; omega, by have := h.2.1; omega, h.2.2⟩
end Sip
namespace Sip
open PySem PySem.Spec PyProof.Rows L2 TL

/-! an object with all that is its own (F): what a call may change -/
def Step (F : Addr → Prop) (H : Hp) (F' : Addr → Prop) (H' : Hp) : Prop := (∀ b o, ¬ F b → H b = some o → H' b = some o) ∧ ∀ b, F' b → F b ∨ H b = none
theorem Step.keep {F F' : Addr → Prop} {H H' : Hp} {b : Addr} {o : HO} (s : Step F H F' H') (n : ¬ F b) (e : H b = some o) : H' b = some o ∧ ¬ F' b :=
  ⟨s.1 b o n e, fun z => (s.2 b z).elim n fun q => by rw [q] at e; cases e⟩
/-- own objects made since H0 alone -/
theorem Step.since {F F' : Addr → Prop} {H0 H H' : Hp} (s : Step F H F' H') (a : Same H0 H) (n : ∀ b, F b → H0 b = none) : Same H0 H' ∧ ∀ b, F' b → H0 b = none := by
  refine ⟨fun b o e => s.1 b o (fun z => by rw [n b z] at e; cases e) (a b o e), fun b z => ?_⟩
  rcases s.2 b z with q | q
  · exact n b q
  · exact a.free q
theorem Step.of {F : Addr → Prop} {H H' : Hp} (s : Same H H') : Step F H F H' := ⟨fun b o _ e => s b o e, fun b z => .inl z⟩
theorem Step.trans {F F' F2 : Addr → Prop} {H H' H2 : Hp} (a : Step F H F' H') (b : Step F' H' F2 H2) : Step F H F2 H2 := by
  refine ⟨fun x o n e => b.1 x o (a.keep n e).2 (a.keep n e).1, fun x z => ?_⟩
  rcases b.2 x z with q | q
  · exact a.2 x q
  · by_cases f : F x
    · exact .inl f
    · cases e : H x with
      | none => exact .inr rfl
      | some o => rw [a.1 x o f e] at q; cases q

/-- a plain file in the heap, however it keeps its row: heap, address, what is its own, row, cursor -/
abbrev PP := Hp → Addr → (Addr → Prop) → List Int → Nat → Prop
structure IsPlain (C : Addr) (PA : PP) : Prop where
  loc : ∀ {H H' : Hp} {p : Addr} {F : Addr → Prop} {r : List Int} {c : Nat}, PA H p F r c → (∀ b o, F b → H b = some o → H' b = some o) → PA H' p F r c
  own : ∀ {H : Hp} {p : Addr} {F : Addr → Prop} {r : List Int} {c : Nat}, PA H p F r c → ∀ b, F b → ∃ o, H b = some o
  ins : ∀ {H : Hp} {p : Addr} {F : Addr → Prop} {r : List Int} {c : Nat}, PA H p F r c → ∃ dx fs, H p = some (.ins C dx fs) ∧ ∀ m ∈ (["read", "read_some", "peek", "readline", "write", "seek", "tell", "size", "row", "cut"] : List Str), fs.lookup m = none
theorem IsPlain.same {C : Addr} {PA : PP} (I : IsPlain C PA) {H H' : Hp} {p : Addr} {F : Addr → Prop} {r : List Int} {c : Nat} (h : PA H p F r c) (s : Same H H') : PA H' p F r c := I.loc h fun b o _ e => s b o e
theorem IsPlain.kp {C : Addr} {PA : PP} (I : IsPlain C PA) {H H' : Hp} {qs : List Addr} {p : Addr} {F : Addr → Prop} {r : List Int} {c : Nat} (h : PA H p F r c) (k : Kp qs H H') (n : ∀ q ∈ qs, ¬ F q) : PA H' p F r c :=
  I.loc h fun b o f e => k b o (fun z => n b z f) e
theorem IsPlain.new {C : Addr} {PA : PP} (I : IsPlain C PA) {H : Hp} {q p : Addr} {F : Addr → Prop} {r : List Int} {c : Nat} (h : PA H p F r c) (n : H q = none) : ¬ F q := fun f => by
  obtain ⟨o, e⟩ := I.own h q f
  rw [n] at e; cases e

def spPInit (K : PySem.W.Frag) (C : Addr) (PA : PP) : Sp := fun vs H Q _ => ∃ (p a dx : Addr) (r : List Int) (c : Nat), vs = [.ref p, .ref a, .int c] ∧ H p = some (.ins C dx []) ∧ H dx = some (.own p) ∧ SqL K H a (r.map V.int) ∧ p ≠ a ∧ r.length ≤ 400 ∧ c ≤ 4000 ∧
  ∀ (H' : Hp) (F' : Addr → Prop), PA H' p F' r c → Step (fun b => b = p ∨ b = dx) H F' H' → Q .non H'
def spPTell (PA : PP) : Sp := fun vs H Q _ => ∃ (p : Addr) (F : Addr → Prop) (r : List Int) (c : Nat), vs = [.ref p] ∧ PA H p F r c ∧ Q (.int c) H
def spPSize (PA : PP) : Sp := fun vs H Q _ => ∃ (p : Addr) (F : Addr → Prop) (r : List Int) (c : Nat), vs = [.ref p] ∧ PA H p F r c ∧ Q (.int r.length) H
def spPRow (PA : PP) : Sp := fun vs H Q _ => ∃ (p : Addr) (F : Addr → Prop) (r : List Int) (c : Nat), vs = [.ref p] ∧ PA H p F r c ∧ ∀ (H' : Hp) (q : Addr), H q = none → H' q = some (.lst (r.map V.int)) → Same H H' → Q (.ref q) H'
def spPSeek (PA : PP) : Sp := fun vs H Q _ => ∃ (p : Addr) (F : Addr → Prop) (r : List Int) (c g : Nat) (pl : Int) (st : Str), vs = [.ref p, .int pl, .str st] ∧ PA H p F r c ∧
  ((st = Str.ofString "head" ∧ (g : Int) = pl) ∨ (st = Str.ofString "here" ∧ (g : Int) = c + pl) ∨ (st = Str.ofString "tail" ∧ (g : Int) = r.length + pl)) ∧ g ≤ 4000 ∧ ∀ (H' : Hp) (F' : Addr → Prop), PA H' p F' r g → Step F H F' H' → Q (.int g) H'
def spPCut (PA : PP) : Sp := fun vs H Q _ => ∃ (p : Addr) (F : Addr → Prop) (r : List Int) (c g : Nat) (v : V), vs = [.ref p, v] ∧ PA H p F r c ∧ ((v = .non ∧ g = c) ∨ v = .int g) ∧ g ≤ 4000 ∧ ∀ (H' : Hp) (F' : Addr → Prop), PA H' p F' (r.take g) c → Step F H F' H' → Q .non H'
def spPWrite (PA : PP) : Sp := fun vs H Q _ => ∃ (p b : Addr) (F : Addr → Prop) (r : List Int) (c : Nat) (d : List Int), vs = [.ref p, .ref b] ∧ PA H p F r c ∧ ¬ F b ∧ H b = some (.lst (d.map V.int)) ∧ Bytes d ∧ r.length ≤ 4000 ∧ c ≤ 4000 ∧ d.length ≤ 400 ∧ (laidF r c d).length ≤ 4000 ∧
  ∀ (H' : Hp) (F' : Addr → Prop), PA H' p F' (laidF r c d) (c + d.length) → Step F H F' H' → Q (.int d.length) H'
/-- a place drawn for a row of n bytes -/
def spGoal (K : PySem.W.Frag) : Sp := fun vs H Q _ => ∃ (p x : Addr) (n : Int) (o : HO) (r : List Int), vs = [.ref p, .ref x] ∧ H p = some o ∧ PoolO n o ∧ n ≤ 900000000 ∧ SqL K H x (r.map V.int) ∧ p ≠ x ∧ r.length ≤ 5000 ∧
  ∀ (H' : Hp) (g : Nat) (o' : HO), g ≤ max (r.length + 20) 4000 → H' p = some o' → PoolO (n + 4) o' → Kp [p] H H' → Q (.int g) H'
def spSought (K : PySem.W.Frag) (PA : PP) : Sp := fun vs H Q _ => ∃ (p x : Addr) (F : Addr → Prop) (r : List Int) (c g : Nat) (way : Int), vs = [.ref p, .int way, .int g, .ref x, .int c] ∧ 0 ≤ way ∧ way ≤ 3 ∧ PA H p F r c ∧ SqL K H x (r.map V.int) ∧ g ≤ 4000 ∧
  ∀ (H' : Hp) (F' : Addr → Prop), PA H' p F' r g → Step F H F' H' → Q (.int g) H'
def spCutL (PA : PP) : Sp := fun vs H Q _ => ∃ (p : Addr) (F : Addr → Prop) (r : List Int) (c g : Nat) (way : Int), vs = [.ref p, .int way, .int g] ∧ 0 ≤ way ∧ way ≤ 2 ∧ (way < 2 → g = c) ∧ PA H p F r c ∧ g ≤ 4000 ∧
  ∀ (H' : Hp) (F' : Addr → Prop), PA H' p F' (r.take g) c → Step F H F' H' → Q .non H'
theorem take_cut (r : List Int) (g : Nat) : cutV (r.map V.int) none (some (g : Int)) = (r.take g).map V.int := by
  unfold cutV
  rw [HT.sIx_none, HT.sIx_nat, List.length_map, List.map_take]
  show (r.map V.int).take (min g r.length - 0) = _
  by_cases h : g ≤ r.length
  · rw [Nat.min_eq_left h]; rfl
  · rw [Nat.min_eq_right (by omega), List.take_of_length_le (by rw [List.length_map]; omega), List.take_of_length_le (by rw [List.length_map]; omega)]
theorem drop_cut (r : List Int) (g : Nat) : cutV (r.map V.int) (some (g : Int)) none = (r.drop g).map V.int := by
  unfold cutV
  rw [HT.sIx_none, HT.sIx_nat, List.length_map, List.map_drop]
  by_cases h : g ≤ r.length
  · rw [Nat.min_eq_left h]
    exact List.take_of_length_le (by rw [List.length_drop, List.length_map]; omega)
  · rw [Nat.min_eq_right (by omega), List.drop_of_length_le (by rw [List.length_map]; omega), List.drop_of_length_le (l := r.map V.int) (by rw [List.length_map]; omega)]
    simp
/-- one byte laid over by hand -/
theorem laid_one (r : List Int) (c : Nat) (v : Int) : (r ++ List.replicate (c - r.length) 0).take c ++ [v] ++ r.drop (c + 1) = laidF r c [v] := by
  rw [laidF_cons (by simp)]
  congr 1
  by_cases h : c + 1 ≤ r.length
  · rw [show c - r.length = 0 by omega]; simp
  · rw [List.drop_of_length_le (l := r) (by omega), List.drop_of_length_le]
    rw [List.length_append, List.length_replicate]
    show _ ≤ c + 1
    omega
end Sip
namespace Sip
open PySem PySem.Spec PyProof.Rows L2 TL
/-! a heap by name: what was made, what was written -/
theorem updG {H H' : Hp} {q : Addr} {o : HO} (g : upd H q o = H') (n : H q = none) : H' q = some o ∧ Same H H' := by
  subst g; exact ⟨upd_same, (Kp.new (ps := []) n).same⟩
theorem updK {H H' : Hp} {q : Addr} {o : HO} (g : upd H q o = H') : H' q = some o ∧ Kp [q] H H' := by
  subst g; exact ⟨upd_same, Kp.at (by simp)⟩
theorem neN {H : Hp} {p x : Addr} {o : HO} (n : H p = none) (e : H x = some o) : x ≠ p := ne_of_none e n
theorem neM {H : Hp} {p x : Addr} {o : HO} (n : H x = none) (e : H p = some o) : x ≠ p := (ne_of_none e n).symm
theorem kp1 {H H' : Hp} {p x : Addr} {o : HO} (k : Kp [p] H H') (n : x ≠ p) (e : H x = some o) : H' x = some o := k x o (by simpa using n) e
theorem sm1 {H H' : Hp} {x : Addr} {o : HO} (k : Same H H') (e : H x = some o) : H' x = some o := k x o e
theorem sqS {K : PySem.W.Frag} {H H' : Hp} {a : Addr} {l : List V} (s : Same H H') (h : SqL K H a l) : SqL K H' a l := s.seq h
theorem sqK {K : PySem.W.Frag} {H H' : Hp} {p a : Addr} {l : List V} (s : Kp [p] H H') (n : a ≠ p) (h : SqL K H a l) : SqL K H' a l := s.seq (by simpa using n) h
end Sip
namespace Sip
open PySem PySem.Spec PyProof.Rows L2 TL
theorem mapI_nil : ([] : List V) = List.map V.int [] := rfl
theorem mapI_cons {a : Int} {l : List V} {ms : List Int} (h : l = List.map V.int ms) : V.int a :: l = List.map V.int (a :: ms) := by rw [h]; rfl
theorem sq_lit {K : PySem.W.Frag} {H : Hp} {m : Addr} {l : List V} {ms : List Int} (h : H m = some (.lst l)) (e : l = ms.map V.int) : SqL K H m (ms.map V.int) := by rw [← e]; exact sq_at h
theorem hp_lit {H : Hp} {m : Addr} {l : List V} {ms : List Int} (h : H m = some (.lst l)) (e : l = ms.map V.int) : H m = some (.lst (ms.map V.int)) := by rw [← e]; exact h
end Sip
namespace Sip
open PySem PySem.Spec PyProof.Rows L2 TL
theorem iteFc {b : Bool} {A B : Prop} (e : b = false) (h : B) : if b = true then A else B := by subst e; exact iteF h
theorem iteTc {b : Bool} {A B : Prop} (e : b = true) (h : A) : if b = true then A else B := by subst e; exact iteT h
theorem free1 {H H' : Hp} {l : Addr} (h : H' l = none) (e : Same H H') : H l = none := e.free h
theorem same_tr {H H1 H2 : Hp} (b : Same H1 H2) (a : Same H H1) : Same H H2 := a.trans b
theorem step_sm {H H1 H2 : Hp} {p : Addr} (k : Kp [p] H1 H2) (n : H p = none) (s : Same H H1) : Same H H2 := step_same s n k
end Sip
namespace Sip
open PySem PySem.Spec PyProof.Rows L2 TL
theorem upd_get {H : Hp} {a b : Addr} {o u : HO} (n : b ≠ a) (e : H b = some u) : upd H a o b = some u := by rw [upd_ne n]; exact e
end Sip
namespace Sip
open PySem PySem.Spec PyProof.Rows L2 TL
/-- an object made: the older ones stay, and are not its own -/
theorem made_new {H H5 : Hp} {f dx : Addr} {o1 o2 : HO} {F : Addr → Prop} (st : Step (fun b => b = f ∨ b = dx) (upd (upd H dx o2) f o1) F H5) (nf : H f = none) (nd : H dx = none) : Same H H5 ∧ ∀ b o, H b = some o → ¬ F b := by
  have k : ∀ b o, H b = some o → H5 b = some o ∧ ¬ F b := fun b o e => by
    have bf : b ≠ f := ne_of_none e nf
    have bd : b ≠ dx := ne_of_none e nd
    exact st.keep (fun z => z.elim bf bd) (by rw [upd_ne bf, upd_ne bd]; exact e)
  exact ⟨fun b o e => (k b o e).1, fun b o e => (k b o e).2⟩
end Sip
namespace Sip
open PySem PySem.Spec PyProof.Rows L2 TL
theorem sqA {K : PySem.W.Frag} {H H' : Hp} {a : Addr} {l : List V} (h : SqL K H a l) (s : Same H H') : SqL K H' a l := s.seq h
end Sip
namespace Sip
open PySem PySem.Spec PyProof.Rows L2 TL
theorem sqB {K K' : PySem.W.Frag} {H H' : Hp} {a : Addr} {l : List V} (h : SqL K H a l) (s : Same H H') (e : K = K') : SqL K' H' a l := e ▸ s.seq h
end Sip
namespace Sip
open PySem PySem.Spec PyProof.Rows L2 TL
/-- what may be found by the way (no word over a frame) -/
class Wit (α : Type) : Prop where
  ok : True
instance : Wit V := ⟨trivial⟩
instance : Wit Int := ⟨trivial⟩
instance : Wit Nat := ⟨trivial⟩
instance : Wit Bool := ⟨trivial⟩
instance : Wit HO := ⟨trivial⟩
instance : Wit Str := ⟨trivial⟩
instance : Wit Value := ⟨trivial⟩
instance : Wit (Addr → Prop) := ⟨trivial⟩
instance {α β : Type} [Wit α] [Wit β] : Wit (α × β) := ⟨trivial⟩
instance {α : Type} [Wit α] : Wit (Option α) := ⟨trivial⟩
instance {α : Type} [Wit α] : Wit (List α) := ⟨trivial⟩
theorem exI {α : Type} [Wit α] {p : α → Prop} (a : α) (h : p a) : ∃ x, p x := ⟨a, h⟩
end Sip
namespace Sip
open PySem PySem.Spec PyProof.Rows L2 TL
theorem isi_ii {K : PySem.W.Frag} {v : Int} {H : Hp} {Q : VK} (h : Q (.bl true) H) : rIsi K [.int v, .ty "int"] H Q := ⟨.int v, .ty "int", _, _, true, rfl, .ty "int", .base (.int v), kit_ty (by decide +kernel), h⟩
theorem isi_ib {K : PySem.W.Frag} {v : Int} {H : Hp} {Q : VK} (h : Q (.bl false) H) : rIsi K [.int v, .ty "bool"] H Q := ⟨.int v, .ty "bool", _, _, false, rfl, .ty "bool", .base (.int v), kit_ty (by decide +kernel), h⟩
end Sip
namespace Sip
open PySem PySem.Spec PyProof.Rows L2

/-! del xs[lo:hi] -/
def delL {α : Type} (xs : List α) (a c : Nat) : List α := xs.take a ++ xs.drop (max a c)
theorem sel_filter {α : Type} (sel : Nat → Bool) (a c : Nat) (h : ∀ k, sel k = (decide (a ≤ k) && decide (k < c))) (xs : List α) :
    ∀ j, (xs.zipIdx j).filterMap (fun p => if sel p.2 = true then none else some p.1) = xs.take (a - j) ++ xs.drop (max (a - j) (c - j)) := by
  induction xs with
  | nil => intro j; simp
  | cons x r ih =>
    intro j
    rw [List.zipIdx_cons, List.filterMap_cons]
    have e := h j
    by_cases h1 : a ≤ j
    · by_cases h2 : j < c
      · rw [decide_eq_true h1, decide_eq_true h2] at e
        have e' : sel j = true := e
        simp only [e', if_true]
        rw [ih (j + 1)]
        have : a - j = 0 := by omega
        have : a - (j + 1) = 0 := by omega
        have : c - j = (c - (j + 1)) + 1 := by omega
        simp [*]
      · rw [decide_eq_true h1, decide_eq_false h2] at e
        have e' : ¬ (sel j = true) := by rw [e]; decide
        simp only [if_neg e']
        rw [ih (j + 1)]
        have : a - j = 0 := by omega
        have : a - (j + 1) = 0 := by omega
        have : c - j = 0 := by omega
        have : c - (j + 1) = 0 := by omega
        simp [*]
    · rw [decide_eq_false h1] at e
      have e' : ¬ (sel j = true) := by rw [e]; simp
      simp only [if_neg e']
      rw [ih (j + 1)]
      have e1 : a - j = (a - (j + 1)) + 1 := by omega
      have e2 : max (a - j) (c - j) = max (a - (j + 1)) (c - (j + 1)) + 1 := by omega
      rw [e2, e1, List.take_succ_cons, List.drop_succ_cons]
      rfl
def selF (a c : Nat) (i : Nat) : Bool :=
  if (1 : Int) > 0 then (a : Int) ≤ i && i < (c : Int) && (i - (a : Int)) % 1 == 0
  else (c : Int) < i && i ≤ (a : Int) && ((a : Int) - i) % (-1) == 0
theorem selF_eq (a c k : Nat) : selF a c k = (decide (a ≤ k) && decide (k < c)) := by
  unfold selF
  rw [if_pos (by decide)]
  have : ((k : Int) - (a : Int)) % 1 = 0 := by omega
  rw [this]
  simp
theorem selF_fun (a c : Nat) : (fun xs : Array Value => (List.filterMap (fun x => if selF a c x.snd = true then none else some x.fst) xs.toList.zipIdx).toArray) = fun t => (delL t.toList a c).toArray := by
  funext t
  have := sel_filter (selF a c) a c (selF_eq a c) t.toList 0
  rw [Nat.sub_zero, Nat.sub_zero] at this
  exact congrArg _ this
theorem sel_fun {sel : Nat → Bool} {a c : Nat} (h : ∀ k, sel k = selF a c k) : (fun xs : Array Value => (List.filterMap (fun x => if sel x.snd = true then none else some x.fst) xs.toList.zipIdx).toArray) = fun t => (delL t.toList a c).toArray := by
  have e : sel = selF a c := funext h
  subst e
  exact selF_fun a c
section
variable {pr : Program} {wd : World} {ar : Around} {er : Value → Shared → Prop} {s : Shared}
set_option maxHeartbeats 4000000 in
theorem del_slice {l z : Addr} {old : Array Value} {m a c : Nat} {lo hi : Option Int} {vl vu : Value} {Q : Unit → Shared → Prop}
    (eo : s.heap.get? l = some { cls := .type "list", data := .seq old m })
    (hz : s.heap.IsSliceOf z vl vu .none) (pl : IsPart vl lo) (pu : IsPart vu hi)
    (bd : sliceBounds lo hi none old.size = ((a : Int), (c : Int), 1)) (fit : old.size ≤ sizeLine)
    (k : Q () { s with heap := s.heap.update l (Obj.mapSeq fun t => (delL t.toList a c).toArray) }) :
    wpAny (model pr wd) ar (delItem (.ref l) (.ref z)) Q er s := by
  have lo' : s.heap.IsList l old := PySem.IsL.isList eo
  obtain ⟨oz, gz, cz, dz⟩ := id hz
  have tz : s.TypeIs (.ref z) "slice" := ⟨oz, gz, cz⟩
  refine wpAny_delItem_slot lo'.typeIs (by decide) PySem.F.slot_list_delitem ?_
  refine wpAny_call_entry PySem.F.slot_list_delitem lo'.typeIs PySem.F.entry_list_delitem ?_ (PySem.F.args_list_delitem_2 _ _)
  show wpAny _ _ (Builtin.List.listSubscript? (.ref z) >>= _) _ _ s
  refine wpAny_bind ?_
  unfold Builtin.List.listSubscript?
  refine wpAny_bind (wpAny_specialOf tz slice_no_index ?_)
  simp only [Option.isNone_none, if_true]
  refine wpAny_pure ?_
  show wpAny _ _ (typeOf (.ref z) >>= _) _ _ s
  refine wpAny_bind (wpAny_typeOf tz ?_)
  first
    | rw [if_neg (by decide)]
    | refine PySem.W.KFB.if_not (by decide) ?_
  rw [listSliceParts_eq]
  refine wpAny_bind (wpAny_bind (wpAny_field gz dz (x := .none) rfl (wpAny_bind (wpAny_listPart .none ?_))))
  rw [if_neg (show ¬ ((rawPart none == rawInt 0) = true) from Bool.false_ne_true)]
  refine wpAny_bind (wpAny_field gz dz (x := vl) rfl (wpAny_bind (wpAny_listPart pl ?_)))
  refine wpAny_bind (wpAny_field gz dz (x := vu) rfl (wpAny_bind (wpAny_listPart pu (wpAny_pure ?_))))
  unfold Builtin.List.listItems
  refine wpAny_bind (wpAny_bind (wpAny_seqItems eo rfl (wpAny_pure ?_)))
  have si := (sliceIndices_raw lo hi none old.size (by simp)).trans (congrArg (pure : Int × Int × Int → Sem (Int × Int × Int)) bd)
  refine wpAny_bind (wpAny_of_eq si ?_)
  refine wpAny_bind (wpAny_rule ?_)
  refine wpAny_bind ?_
  unfold Builtin.List.listUpdate
  simp only []
  rw [sel_fun (a := a) (c := c) (fun k => by with_unfolding_all rfl)]
  have zz : ((fun t : Array Value => (delL t.toList a c).toArray) old).size ≤ sizeLine + 1 := by
    show (delL old.toList a c).toArray.size ≤ _
    rw [List.size_toArray]
    unfold delL
    rw [List.length_append, List.length_take, List.length_drop, Array.length_toList]; omega
  refine wpAny_updateSeq (hz := fit) (_hz' := zz) eo rfl (wpAny_bind (wpAny_letGo ?_))
  first
    | with_reducible exact wpAny_pure ⟨.none, rfl, k⟩
    | exact wpAny_bind (wpAny_pure (wpAny_pure ⟨.none, rfl, k⟩))
    | exact wpAny_pure ⟨.none, rfl, k⟩
end
/-- what is left of a list whose part from lo to hi is deleted -/
def delV (xs : List V) (lo hi : Option Int) : List V := delL xs (HT.sIx xs.length 0 lo) (HT.sIx xs.length xs.length hi)
theorem bounds_sIx (lo hi : Option Int) (n : Nat) : sliceBounds lo hi none n = ((HT.sIx n 0 lo : Int), (HT.sIx n n hi : Int), 1) := by
  have f : ∀ (v : Option Int) (d : Nat), d ≤ n → (match v with | none => (d : Int) | some i => max 0 (min (if i < 0 then i + (n : Int) else i) (n : Int))) = (HT.sIx n d v : Int) ∨ (∃ i, v = some i ∧ i < 0 ∧ i + (n : Int) > n) := by
    intro v d hd
    cases v with
    | none => exact .inl rfl
    | some i =>
      left
      show max 0 (min (if i < 0 then i + (n : Int) else i) (n : Int)) = ((if i < 0 then (i + (n : Int)).toNat else min i.toNat n : Nat) : Int)
      split <;> omega
  have f1 := (f lo 0 (by omega)).resolve_right (by rintro ⟨i, _, h1, h2⟩; omega)
  have f2 := (f hi n (by omega)).resolve_right (by rintro ⟨i, _, h1, h2⟩; omega)
  rw [← f1, ← f2]
  unfold sliceBounds
  cases lo <;> cases hi <;> rfl
section
variable {X : Cx} {pos : Pos}
def tDelS (to : TE) (tl th : TO) : TS := fun D σ H => to σ H fun o H1 => tl σ H1 fun lo H2 => th σ H2 fun hi H3 => ∃ (l : Addr) (xs : List V), o = .ref l ∧ H3 l = some (.lst xs) ∧ D.nx σ (upd H3 l (.lst (delV xs lo hi)))
theorem ps_delS {o : Expr} {lo hi : Option Expr} {to : TE} {tl th : TO} {p2 tpos : Pos} (ho : PE X o to) (hl : PO X lo tl) (hh : PO X hi th) : PS X (.Delete [.Subscript o (.Slice lo hi none p2) tpos] pos) (tDelS to tl th) := by
  refine ⟨fun pins s σ H D I h => ?_⟩
  refine wpAny_Delete (wpAny_deleteEach_cons (wpAny_delete_Subscript (thn (ho.run pins s σ H _ I h) fun ov s1 ⟨x, H1, I1, r1, q1⟩ => ?_)))
  refine wpAny_Slice (thn (hl.run pins s1 σ H1 _ I1 q1) fun wl s2 ⟨l, H2, I2, pl, q2⟩ => ?_)
  refine thn (hh.run pins s2 σ H2 _ I2 q2) fun wu s3 ⟨uu, H3, I3, pu, q3⟩ => ?_
  rw [evalPart_none]
  refine wpAny_pure ?_
  obtain ⟨p, xs, rfl, hp, fin⟩ := q3
  cases r1
  have I4 : Inv X pins σ H3 { s3 with heap := s3.heap.push { cls := .type "slice", data := .fields #[wl, wu, .none] } } := I3.kept (t' := s3.toks) fun b ob e => Heap.get?_push_of_some _ e
  obtain ⟨z1, us1, n1, rv1, hz1, e1⟩ := I4.lstM hp
  have L1 := rv1.length
  refine del_slice (a := HT.sIx xs.length 0 l) (c := HT.sIx xs.length xs.length uu) e1 (Heap.IsSliceOf.new ..) pl pu (by rw [List.size_toArray, ← L1]; exact bounds_sIx _ _ _) (by rw [List.size_toArray]; omega) ?_
  refine wpAny_deleteEach_nil ⟨σ, _, ?_, fin⟩
  refine I4.lset (its' := delL us1 (HT.sIx xs.length 0 l) (HT.sIx xs.length xs.length uu)) (t' := s3.toks) hp e1 rfl (Vals.append (rv1.take _) (rv1.drop _)) ?_
  show (delL _ _ _).length ≤ _
  unfold delL
  rw [List.length_append, List.length_take, List.length_drop]
  omega
end
end Sip
namespace Sip
open PySem PySem.Spec PyProof.Rows L2 TL
/-- for i, x in enumerate(xs), the list standing -/
theorem for_enum {K : PySem.W.Frag} {a : Addr} {xs : List V} {g : TG} {tb : TS} {D : Ends} {σ : L2.St} {H : Hp} (Pv : Nat → L2.St → Hp → Prop) (h0 : Pv 0 σ H) (hl : ∀ i σ H, i ≤ xs.length → Pv i σ H → SqL K H a xs)
    (hs : ∀ i x σ H T, xs[i]? = some x → Pv i σ H → H T = none → g (.ref T) σ (upd H T (.tup [.int (i : Nat), x])) fun σ2 H2 => tb { D with nx := Pv (i + 1), ct := Pv (i + 1), bk := D.nx } σ2 H2) (hd : ∀ σ H, Pv xs.length σ H → D.nx σ H) :
    ∃ W : Nat → Nat → L2.St → Hp → Prop, (∃ m, W 0 m σ H) ∧ ∀ i m σ H, W i m σ H →
      ((Ite K a).stop i H ∧ D.nx σ H) ∨ ((Ite K a).go i H ∧ ∃ N : L2.St → Hp → Prop, (∀ σ' H', N σ' H' → ∃ m', m' < m ∧ W (i + 1) m' σ' H') ∧ ∀ x H', (Ite K a).yld i H x H' → g x σ H' fun σ2 H2 => tb { D with nx := N, ct := N, bk := D.nx } σ2 H2) := by
  refine ⟨fun i m σ H => m = xs.length - i ∧ i ≤ xs.length ∧ Pv i σ H, ⟨xs.length, by simp, Nat.zero_le _, h0⟩, ?_⟩
  rintro i m σ H ⟨rfl, hi, p⟩
  have q := hl i σ H hi p
  by_cases hlt : i < xs.length
  · refine .inr ⟨⟨xs, xs[i], q, by simp [hlt]⟩, Pv (i + 1), fun σ' H' p' => ⟨xs.length - (i + 1), by omega, rfl, hlt, p'⟩, fun x H' y => ?_⟩
    obtain ⟨T, y, rfl, nT, rfl, hy⟩ := y
    exact hs i y σ _ T (hy xs q) p nT
  · have e : i = xs.length := by omega
    subst e
    exact .inl ⟨⟨xs, q, Nat.le_refl _⟩, hd σ H p⟩
end Sip
namespace Sip
open PySem PySem.Spec PyProof.Rows L2 TL
section
variable {X : Cx} {e : Expr} {te : TE}
/-- a bound of a slice that may be None -/
def tPartO (te : TE) : TO := fun σ H Q => te σ H fun x H1 => ∃ k : Option Int, x = (match k with | none => .non | some i => .int i) ∧ Q k H1
theorem po_opt (h : PE X e te) : PO X (some e) (tPartO te) := by
  refine ⟨fun pins s σ H Q I hw => ?_⟩
  rw [evalPart_some]
  refine thn (h.run pins s σ H _ I hw) fun u s1 ⟨x, H1, I1, r1, q1⟩ => ?_
  obtain ⟨k, rfl, q⟩ := q1
  cases k with
  | none =>
    cases (show u = Value.none from r1)
    exact ⟨none, H1, I1, .none, q⟩
  | some i =>
    obtain ⟨t, rfl⟩ := (show ∃ t, u = Value.int i t from r1)
    exact ⟨some i, H1, I1, .int i t, q⟩
end
def cntV : Option Nat → V
  | none => .non
  | some n => .int n
def cntI : Option Nat → Option Int
  | none => none
  | some n => some n
theorem cntV_eq (k : Option Nat) : cntV k = (match cntI k with | none => V.non | some i => .int i) := by cases k <;> rfl
def takeO (k : Option Nat) (xs : List Int) : List Int := match k with
  | none => xs
  | some n => xs.take n
theorem cut_O (r : List Int) (k : Option Nat) : cutV (r.map V.int) none (cntI k) = (takeO k r).map V.int := by
  cases k with
  | none =>
    unfold cutV cntI takeO
    rw [HT.sIx_none, HT.sIx_none, List.length_map]
    show (r.map V.int).take (r.length - 0) = _
    exact List.take_of_length_le (by rw [List.length_map]; omega)
  | some n => exact take_cut r n
theorem takeO_len (k : Option Nat) (xs : List Int) : (takeO k xs).length ≤ xs.length := by
  cases k with
  | none => exact Nat.le_refl _
  | some n => show (xs.take n).length ≤ _; rw [List.length_take]; omega
def lineF (xs : List Int) : List Int := xs.take (xs.idxOf 10 + 1)
theorem lineF_no {xs : List Int} (h : (10 : Int) ∉ xs) : lineF xs = xs := by
  unfold lineF
  exact List.take_of_length_le (by rw [List.idxOf_eq_length h]; omega)
theorem idx_take (xs : List Int) (n : Nat) : (xs.take n).idxOf 10 = min (xs.idxOf 10) (xs.take n).length := by
  induction xs generalizing n with
  | nil => simp
  | cons x r ih =>
    cases n with
    | zero => simp
    | succ n =>
      rw [List.take_succ_cons, List.idxOf_cons, List.idxOf_cons, List.length_cons]
      by_cases h : x = 10
      · subst h; simp
      · have : (x == 10) = false := by simpa using h
        rw [this]
        simp only [cond_false]
        rw [ih n]; omega
theorem lineF_take (xs : List Int) (n : Nat) : lineF (xs.take n) = (lineF xs).take n := by
  unfold lineF
  rw [idx_take, List.take_take, List.take_take]
  rw [List.length_take]
  by_cases h : n ≤ xs.length
  · congr 1; omega
  · rw [List.take_of_length_le (l := xs) (by omega : xs.length ≤ n) |>.symm]
    by_cases g : xs.idxOf 10 < xs.length
    · rw [List.take_of_length_le (l := xs) (by omega : xs.length ≤ n)]; congr 1; omega
    · rw [List.take_of_length_le (l := xs) (by omega : xs.length ≤ n)]
      have : xs.idxOf 10 ≤ xs.length := List.idxOf_le_length
      rw [List.take_of_length_le (by omega), List.take_of_length_le (by omega)]
theorem lineF_O (xs : List Int) (k : Option Nat) : lineF (takeO k xs) = takeO k (lineF xs) := by
  cases k with
  | none => rfl
  | some n => exact lineF_take xs n
theorem inV_ten (xs : List Int) (v : Int) : inV (.int v) (xs.map V.int) = decide (v ∈ xs) := by
  unfold inV
  rw [List.any_map]
  rw [Bool.eq_iff_iff, List.any_eq_true, decide_eq_true_iff]
  constructor
  · rintro ⟨x, hx, e⟩
    have e1 : x = v := by
      have : eqV (.int x) (.int v) = true := e
      simpa [eqV] using this
    rw [← e1]; exact hx
  · intro h
    exact ⟨v, h, by show eqV (.int v) (.int v) = true; simp [eqV]⟩
theorem flat_ints (xs : List Int) : (xs.map V.int).all flatV = true := by
  rw [List.all_map, List.all_eq_true]
  intro x _
  rfl
theorem idx_facts {xs : List Int} {v : Int} (h : v ∈ xs) : (xs.map V.int)[xs.idxOf v]? = some (.int v) ∧ ∀ (m : Nat) (z : V), m < xs.idxOf v → (xs.map V.int)[m]? = some z → eqV z (.int v) = false := by
  have hl : xs.idxOf v < xs.length := List.idxOf_lt_length_of_mem h
  refine ⟨?_, fun m z hm hz => ?_⟩
  · rw [List.getElem?_map, List.getElem?_eq_getElem hl, List.getElem_idxOf hl]; rfl
  · rw [List.getElem?_map] at hz
    obtain ⟨y, hy, rfl⟩ := Option.map_eq_some_iff.mp hz
    have : y ≠ v := by
      intro e
      subst e
      have hm' : m < xs.length := by omega
      rw [List.getElem?_eq_getElem hm'] at hy
      have := List.not_of_lt_findIdx (p := (· == y)) (xs := xs) (i := m) hm
      have e2 : xs[m] = y := Option.some.inj hy
      rw [e2] at this
      simp at this
    show eqV (.int y) (.int v) = false
    simpa [eqV] using this
theorem mid_cut (r : List Int) (c n : Nat) : cutV (r.map V.int) (some (c : Int)) (some ((c + n : Nat) : Int)) = ((r.drop c).take n).map V.int := by
  unfold cutV
  rw [HT.sIx_nat, HT.sIx_nat, List.length_map, ← List.map_drop, ← List.map_take]
  congr 1
  by_cases h : c ≤ r.length
  · rw [Nat.min_eq_left h]
    by_cases g : c + n ≤ r.length
    · rw [Nat.min_eq_left g, Nat.add_sub_cancel_left]
    · rw [Nat.min_eq_right (by omega), List.take_of_length_le (by rw [List.length_drop]; omega), List.take_of_length_le (by rw [List.length_drop]; omega)]
  · rw [Nat.min_eq_right (by omega : r.length ≤ c), Nat.min_eq_right (by omega), List.drop_of_length_le (Nat.le_refl _), List.drop_of_length_le (by omega : r.length ≤ c)]
    simp
theorem past_le (r : List Int) (c n m : Nat) (h1 : r.length ≤ m) (h2 : c ≤ m) : c + ((r.drop c).take n).length ≤ m := by
  rw [List.length_take, List.length_drop]; omega
/-! promises of the reading calls -/
def spPPeek (PA : PP) : Sp := fun vs H Q _ => ∃ (p : Addr) (F : Addr → Prop) (r : List Int) (c : Nat) (k : Option Nat), vs = [.ref p, cntV k] ∧ PA H p F r c ∧
  ∀ (H' : Hp) (q : Addr), H q = none → H' q = some (.lst ((takeO k (r.drop c)).map V.int)) → Same H H' → Q (.ref q) H'
def spPRead (PA : PP) : Sp := fun vs H Q _ => ∃ (p : Addr) (F : Addr → Prop) (r : List Int) (c : Nat) (k : Option Nat), vs = [.ref p, cntV k] ∧ PA H p F r c ∧
  ∀ (H' : Hp) (F' : Addr → Prop) (q : Addr), PA H' p F' r (c + (takeO k (r.drop c)).length) → H q = none → ¬ F' q → H' q = some (.lst ((takeO k (r.drop c)).map V.int)) → Step F H F' H' → Q (.ref q) H'
def spPLine (PA : PP) : Sp := fun vs H Q _ => ∃ (p : Addr) (F : Addr → Prop) (r : List Int) (c : Nat) (k : Option Nat), vs = [.ref p, cntV k] ∧ PA H p F r c ∧ r.length ≤ 10000 ∧
  ∀ (H' : Hp) (F' : Addr → Prop) (q : Addr), PA H' p F' r (c + (takeO k (lineF (r.drop c))).length) → H q = none → ¬ F' q → H' q = some (.lst ((takeO k (lineF (r.drop c))).map V.int)) → Step F H F' H' → Q (.ref q) H'
def spFLine (K : PySem.W.Frag) : Sp := fun vs H Q _ => ∃ (a : Addr) (xs : List Int) (k : Option Nat), vs = [.ref a, cntV k] ∧ SqL K H a (xs.map V.int) ∧ xs.length ≤ 10000 ∧
  ∀ (H' : Hp) (q : Addr), H q = none → H' q = some (.lst ((takeO k (lineF xs)).map V.int)) → Same H H' → Q (.ref q) H'
def spCount : Sp := fun vs H Q _ => ∃ k : Option Nat, vs = [cntV k] ∧ Q .non H
def spAhead (PA : PP) : Sp := fun vs H Q _ => ∃ (p : Addr) (F : Addr → Prop) (r : List Int) (c : Nat), vs = [.ref p] ∧ PA H p F r c ∧
  ∀ (H' : Hp) (q : Addr), H q = none → H' q = some (.lst ((r.drop c).map V.int)) → Same H H' → Q (.ref q) H'
def spPassed (PA : PP) : Sp := fun vs H Q _ => ∃ (p t : Addr) (F : Addr → Prop) (r xs : List Int) (c : Nat), vs = [.ref p, .ref t] ∧ PA H p F r c ∧ ¬ F t ∧ H t = some (.lst (xs.map V.int)) ∧
  ∀ (H' : Hp) (F' : Addr → Prop), PA H' p F' r (c + xs.length) → ¬ F' t → H' t = some (.lst (xs.map V.int)) → Step F H F' H' → Q (.ref t) H'
end Sip
namespace Sip
open PySem PySem.Spec PyProof.Rows L2 TL
/-! ### tuples alike -/
section
variable {X : Cx}
def rEqS (K : PySem.W.Frag) : R2 := fun x y H Q => ∃ d, Dp K H x d ∧ Dp K H y d ∧ SeqAt.shaped d = true ∧ Q (.bl true) H
def rNeS (K : PySem.W.Frag) : R2 := fun x y H Q => ∃ d, Dp K H x d ∧ Dp K H y d ∧ SeqAt.shaped d = true ∧ Q (.bl false) H
theorem eqv_same {d : PyData} (h : SeqAt.shaped d = true) : PyData.eqv d d = true := SeqAt.eqv_refl d (SeqAt.canLay_of_shaped h)
theorem op_eqS (hu : X.A.units + 64 < cLine) : OpR X (compareOp .Eq) (rEqS X.K) := by
  intro pins s σ H x y v u Q I rx ry h
  obtain ⟨d, h1, h2, h3, q⟩ := h
  exact op_eqD hu pins s σ H x y v u Q I rx ry ⟨d, d, h1, h2, h3, h3, by rw [eqv_same h3]; exact q⟩
theorem op_neS (hu : X.A.units + 64 < cLine) : OpR X (compareOp .NotEq) (rNeS X.K) := by
  intro pins s σ H x y v u Q I rx ry h
  obtain ⟨d, h1, h2, h3, q⟩ := h
  exact op_neD hu pins s σ H x y v u Q I rx ry ⟨d, d, h1, h2, h3, h3, by rw [eqv_same h3]; exact q⟩
/-- == of two tuples of ints -/
def rEqTI (K : PySem.W.Frag) : R2 := fun x y H Q => ∃ (a b : Addr) (ns ms : List Int), x = .ref a ∧ y = .ref b ∧ SqT K H a (ns.map V.int) ∧ SqT K H b (ms.map V.int) ∧ Q (.bl (decide (ns = ms))) H
theorem lay_ints : ∀ ns : List Int, PyData.canLayAll0 (ns.map PyData.int) = true
  | [] => rfl
  | n :: r => by
    have := lay_ints r
    simp [PyData.canLayAll0, PyData.canLay0, this]
theorem eqv_ints : ∀ ns ms : List Int, PyData.eqvAll (ns.map PyData.int) (ms.map PyData.int) = decide (ns = ms)
  | [], [] => rfl
  | [], _ :: _ => by simp [PyData.eqvAll]
  | _ :: _, [] => by simp [PyData.eqvAll]
  | n :: r, m :: t => by
    show (PyData.eqv (.int n) (.int m) && PyData.eqvAll (r.map PyData.int) (t.map PyData.int)) = _
    rw [eqv_ints r t]
    show ((n == m) && decide (r = t)) = _
    by_cases h : n = m <;> by_cases g : r = t <;> simp [h, g]
end
theorem shaped_ints (ns : List Int) : SeqAt.shaped (.tuple (ns.map PyData.int)) = true := by
  unfold SeqAt.shaped
  rw [Bool.and_eq_true]
  refine ⟨lay_ints ns, decide_eq_true ?_⟩
  have : ∀ ms : List Int, PyData.depthAll (ms.map PyData.int) ≤ 1 := by
    intro ms
    induction ms with
    | nil => simp [PyData.depthAll]
    | cons m r ih => simp [PyData.depthAll, PyData.depth]; try omega
  have h := this ns
  show PyData.depth (.tuple (ns.map PyData.int)) ≤ 64
  simp [PyData.depth]; try omega
section
variable {X : Cx}
theorem op_eqTI (hu : X.A.units + 64 < cLine) : OpR X (compareOp .Eq) (rEqTI X.K) := by
  intro pins s σ H x y v u Q I rx ry h
  obtain ⟨a, b, ns, ms, rfl, rfl, ha, hb, q⟩ := h
  exact op_eqD hu pins s σ H _ _ v u Q I rx ry ⟨.tuple (ns.map PyData.int), .tuple (ms.map PyData.int), .tup ha (dp_ints ns), .tup hb (dp_ints ms), shaped_ints ns, shaped_ints ms, by
    rw [show PyData.eqv (.tuple (ns.map PyData.int)) (.tuple (ms.map PyData.int)) = decide (ns = ms) from eqv_ints ns ms]; exact q⟩
end
theorem dp4 {K : PySem.W.Frag} {H : Hp} {q : Addr} {w : Str} {a b c : Int} (h : SqT K H q [.str w, .int a, .int b, .int c]) : Dp K H (.ref q) (.tuple [.str w, .int a, .int b, .int c]) :=
  .tup h (.cons (.str _) (.cons (.int _) (.cons (.int _) (.cons (.int _) .nil))))
theorem sh4 {w : Str} (h : PyData.strOk w = true) (a b c : Int) : SeqAt.shaped (.tuple [.str w, .int a, .int b, .int c]) = true := by
  simp [SeqAt.shaped, PyData.canLay0, PyData.canLayAll0, PyData.depth, PyData.depthAll, h]
/-! ### the codes -/
inductive Cd
  | plain | steps | wide | turn
def Cd.w : Cd → Str
  | .plain => Str.ofString "plain"
  | .steps => Str.ofString "steps"
  | .wide => Str.ofString "wide"
  | .turn => Str.ofString "turn"
def skipT : List Int → Nat → Int → Nat × Int
  | [], p, s => (p, s)
  | x :: r, p, s => if 128 ≤ x then skipT r (p + 1) (x - 128) else (p, s)
def markW (row : List Int) (p : Nat) : Nat × Int :=
  if (row.drop p).take 2 = [254, 255] then (p + 2, 2) else if (row.drop p).take 2 = [255, 254] then (p + 2, 1) else (p, 2)
def goneF (c : Cd) (row : List Int) (p : Nat) (s : Int) : Nat × Int := match c with
  | .turn => skipT (row.drop p) p s
  | .wide => if s = 0 then markW row p else (p, s)
  | _ => (p, s)
def leadF (x : Int) : Nat × Int :=
  if x < 128 then (1, 0) else if x < 192 then (0, 0) else if x < 224 then (2, 192) else if x < 240 then (3, 224) else if x < 248 then (4, 240) else (0, 0)
def stepsW (n : Int) : List Int :=
  if n < 128 then [n] else if n < 2048 then [192 + n / 64, 128 + n % 64] else if n < 65536 then [224 + n / 4096, 128 + n / 64 % 64, 128 + n % 64]
  else [240 + n / 262144, 128 + n / 4096 % 64, 128 + n / 64 % 64, 128 + n % 64]
def foldS (s : Int) (xs : List Int) : Int := xs.foldl (fun s b => 64 * s + b - 128) s
def stepsAt (xs : List Int) : Int × Nat :=
  let l := leadF (xs.headD 0)
  let wr := xs.take l.1
  let sg := foldS (xs.headD 0 - l.2) (wr.drop 1)
  if stepsW sg = wr then (sg, l.1) else (0, 0)
def signF (c : Cd) (row : List Int) (b : Nat) (s : Int) : Int × Nat := match c with
  | .steps => stepsAt (row.drop b)
  | .wide => if row.length < b + 2 then (0, 0) else if s = 1 then (row.getD b 0 + 256 * row.getD (b + 1) 0, 2) else (256 * row.getD b 0 + row.getD (b + 1) 0, 2)
  | .turn => (128 * s + row.getD b 0, 1)
  | .plain => (row.getD b 0, 1)
def fourV (w : Str) (a : Int) (p : Nat) (s : Int) : List V := [.str w, .int a, .int p, .int s]
def tellF (row : List Int) (p : Nat) (s : Int) (g : Nat × Int) (t : Int × Nat) : List V :=
  if row.length ≤ g.1 then fourV (Str.ofString "end") 0 p s else if t.2 = 0 then fourV (Str.ofString "wrong") 0 (g.1 + 1) g.2 else fourV (Str.ofString "sign") t.1 (g.1 + t.2) g.2
def readF (c : Cd) (row : List Int) (p : Nat) (s : Int) : List V := tellF row p s (goneF c row p s) (signF c row (goneF c row p s).1 (goneF c row p s).2)
theorem readF_shape (c : Cd) (row : List Int) (p : Nat) (s : Int) : ∃ (w : Str) (a : Int) (p' : Nat) (s' : Int), readF c row p s = fourV w a p' s' ∧ PyData.strOk w = true := by
  unfold readF tellF
  split
  · exact ⟨_, _, _, _, rfl, by decide +kernel⟩
  · split
    · exact ⟨_, _, _, _, rfl, by decide +kernel⟩
    · exact ⟨_, _, _, _, rfl, by decide +kernel⟩
/-- two told tuples alike -/
theorem dp_read {K : PySem.W.Frag} {H : Hp} {a b : Addr} {c : Cd} {row : List Int} {p : Nat} {s : Int} (ha : SqT K H a (readF c row p s)) (hb : SqT K H b (readF c row p s)) : ∃ d, Dp K H (.ref a) d ∧ Dp K H (.ref b) d ∧ SeqAt.shaped d = true := by
  obtain ⟨w, x, p', s', e, h⟩ := readF_shape c row p s
  rw [e] at ha hb
  exact ⟨_, dp4 ha, dp4 hb, sh4 h _ _ _⟩
/-! promises -/
def newT (H : Hp) (vs : List V) (Q : VK) : Prop := ∀ (H' : Hp) (q : Addr), H q = none → H' q = some (.tup vs) → Same H H' → Q (.ref q) H'
def spChk : Sp := fun vs H Q _ => ∃ c : Cd, vs = [.str c.w] ∧ ∀ H', Same H H' → Q .non H'
def spBT (K : PySem.W.Frag) : Sp := fun vs H Q _ => ∃ (a : Addr) (row : List Int) (p : Nat) (s : Int), vs = [.ref a, .int p, .int s] ∧ SqL K H a (row.map V.int) ∧ newT H [.int (skipT (row.drop p) p s).1, .int (skipT (row.drop p) p s).2] Q
def spBM (K : PySem.W.Frag) : Sp := fun vs H Q _ => ∃ (a : Addr) (row : List Int) (p : Nat), vs = [.ref a, .int p] ∧ SqL K H a (row.map V.int) ∧ newT H [.int (markW row p).1, .int (markW row p).2] Q
def spGone (K : PySem.W.Frag) : Sp := fun vs H Q _ => ∃ (a : Addr) (row : List Int) (p : Nat) (s : Int) (c : Cd), vs = [.ref a, .int p, .int s, .str c.w] ∧ SqL K H a (row.map V.int) ∧ newT H [.int (goneF c row p s).1, .int (goneF c row p s).2] Q
def spWideAt (K : PySem.W.Frag) : Sp := fun vs H Q _ => ∃ (a : Addr) (row : List Int) (b : Nat) (s : Int), vs = [.ref a, .int b, .int s] ∧ SqL K H a (row.map V.int) ∧ b < row.length ∧ newT H [.int (signF .wide row b s).1, .int (signF .wide row b s).2] Q
def spStepsAt (K : PySem.W.Frag) : Sp := fun vs H Q _ => ∃ (a : Addr) (row : List Int) (b : Nat), vs = [.ref a, .int b] ∧ SqL K H a (row.map V.int) ∧ b < row.length ∧ newT H [.int (stepsAt (row.drop b)).1, .int (stepsAt (row.drop b)).2] Q
def spLead : Sp := fun vs H Q _ => ∃ x : Int, vs = [.int x] ∧ newT H [.int (leadF x).1, .int (leadF x).2] Q
def spStepsW : Sp := fun vs H Q _ => ∃ n : Int, vs = [.int n] ∧ ∀ (H' : Hp) (q : Addr), H q = none → H' q = some (.lst ((stepsW n).map V.int)) → Same H H' → Q (.ref q) H'
def spSignAt (K : PySem.W.Frag) (ok : Cd → Prop) : Sp := fun vs H Q _ => ∃ (a : Addr) (row : List Int) (b : Nat) (s : Int) (c : Cd), vs = [.ref a, .int b, .int s, .str c.w] ∧ ok c ∧ SqL K H a (row.map V.int) ∧ b < row.length ∧ newT H [.int (signF c row b s).1, .int (signF c row b s).2] Q
def spReadS (K : PySem.W.Frag) (ok : Cd → Prop) : Sp := fun vs H Q _ => ∃ (a : Addr) (row : List Int) (p : Nat) (s : Int) (c : Cd), vs = [.ref a, .int p, .int s, .str c.w] ∧ ok c ∧ SqL K H a (row.map V.int) ∧ newT H (readF c row p s) Q
end Sip
namespace Sip
open PySem PySem.Spec PyProof.Rows L2 TL
/-! the code steps: what is written is read -/
def baseF (m : Nat) : Int := match m with | 0 => 0 | 1 => 192 | 2 => 224 | _ => 240
theorem stepsW_back {s : Int} (h0 : 0 ≤ s) (h1 : s < 2097152) : ∃ (x : Int) (r : List Int) (m : Nat), stepsW s = x :: r ∧ r.length = m ∧ m ≤ 3 ∧ leadF x = (m + 1, baseF m) ∧ foldS (x - baseF m) r = s ∧ ∀ b ∈ x :: r, 0 ≤ b ∧ b ≤ 255 := by
  unfold stepsW
  by_cases a : s < 128
  · rw [if_pos a]
    refine ⟨s, [], 0, rfl, rfl, by omega, ?_, ?_, ?_⟩
    · unfold leadF baseF; rw [if_pos a]; rfl
    · show s - 0 = s; omega
    · intro b hb; rw [List.mem_singleton.mp hb]; omega
  · rw [if_neg a]
    by_cases b : s < 2048
    · rw [if_pos b]
      refine ⟨_, _, 1, rfl, rfl, by omega, ?_, ?_, ?_⟩
      · unfold leadF baseF; rw [if_neg (by omega), if_neg (by omega), if_pos (by omega)]; rfl
      · show 64 * (192 + s / 64 - 192) + (128 + s % 64) - 128 = s; omega
      · intro b hb; simp only [List.mem_cons, List.mem_nil_iff, or_false] at hb; rcases hb with rfl | rfl <;> omega
    · rw [if_neg b]
      by_cases c : s < 65536
      · rw [if_pos c]
        refine ⟨_, _, 2, rfl, rfl, by omega, ?_, ?_, ?_⟩
        · unfold leadF baseF; rw [if_neg (by omega), if_neg (by omega), if_neg (by omega), if_pos (by omega)]; rfl
        · show 64 * (64 * (224 + s / 4096 - 224) + (128 + s / 64 % 64) - 128) + (128 + s % 64) - 128 = s; omega
        · intro b hb; simp only [List.mem_cons, List.mem_nil_iff, or_false] at hb; rcases hb with rfl | rfl | rfl <;> omega
      · rw [if_neg c]
        refine ⟨_, _, 3, rfl, rfl, by omega, ?_, ?_, ?_⟩
        · unfold leadF baseF; rw [if_neg (by omega), if_neg (by omega), if_neg (by omega), if_neg (by omega), if_pos (by omega)]; rfl
        · show 64 * (64 * (64 * (240 + s / 262144 - 240) + (128 + s / 4096 % 64) - 128) + (128 + s / 64 % 64) - 128) + (128 + s % 64) - 128 = s; omega
        · intro b hb; simp only [List.mem_cons, List.mem_nil_iff, or_false] at hb; rcases hb with rfl | rfl | rfl | rfl <;> omega
def sgM (xs : List Int) (m : Nat) : Int := foldS (xs.headD 0 - baseF m) ((xs.take (m + 1)).drop 1)
def condM (xs : List Int) (m : Nat) : Prop := 0 ≤ sgM xs m ∧ sgM xs m < 2097152 ∧ stepsW (sgM xs m) = xs.take (m + 1)
theorem cond_at {xs : List Int} {m : Nat} (h : condM xs m) : stepsAt xs = (sgM xs m, (xs.take (m + 1)).length) ∧ (xs.take (m + 1)).length ≠ 0 := by
  obtain ⟨h0, h1, h2⟩ := h
  obtain ⟨x, r, k, e, lr, k3, el, ef, _⟩ := stepsW_back h0 h1
  rw [h2] at e
  generalize sgM xs m = s at *
  cases xs with
  | nil => simp at e
  | cons y t =>
    rw [List.take_succ_cons] at e h2 ⊢
    obtain ⟨rfl, er⟩ := List.cons.inj e
    have lt : (t.take m).length = k := by rw [er]; exact lr
    have et : t.take k = t.take m := by
      rw [← lt, List.length_take]
      by_cases g : m ≤ t.length
      · rw [Nat.min_eq_left g]
      · rw [Nat.min_eq_right (by omega), List.take_of_length_le (Nat.le_refl _), List.take_of_length_le (by omega)]
    refine ⟨?_, by simp⟩
    unfold stepsAt
    show (if stepsW (foldS (y - (leadF y).2) (((y :: t).take (leadF y).1).drop 1)) = (y :: t).take (leadF y).1 then _ else _) = _
    rw [el]
    dsimp only
    rw [List.take_succ_cons, List.drop_succ_cons, List.drop_zero, et, er, ef, h2, er, if_pos rfl, List.length_cons, lr]
    show (foldS (y - (leadF y).2) (List.drop 1 (List.take (leadF y).1 (y :: t))), (leadF y).1) = _
    rw [el]
    dsimp only
    rw [List.take_succ_cons, List.drop_succ_cons, List.drop_zero, et, er, ef]
theorem at_cond {xs : List Int} (hn : xs ≠ []) (nn : ∀ b ∈ xs, 0 ≤ b) (h : ∀ m, m < 4 → ¬ condM xs m) : stepsAt xs = (0, 0) := by
  cases xs with
  | nil => exact absurd rfl hn
  | cons x t =>
    have x0 := nn x (by simp)
    unfold stepsAt
    show (if stepsW (foldS (x - (leadF x).2) (((x :: t).take (leadF x).1).drop 1)) = (x :: t).take (leadF x).1 then _ else _) = _
    have lead : (leadF x).1 = 0 ∨ ∃ m, m < 4 ∧ leadF x = (m + 1, baseF m) ∧ (m = 0 → x < 128) ∧ (0 < m → 192 ≤ x) ∧ (m = 3 → x < 248) := by
      unfold leadF
      by_cases a : x < 128
      · rw [if_pos a]; exact .inr ⟨0, by omega, rfl, fun _ => a, by omega, by omega⟩
      · rw [if_neg a]
        by_cases b : x < 192
        · rw [if_pos b]; exact .inl rfl
        · rw [if_neg b]
          by_cases c : x < 224
          · rw [if_pos c]; exact .inr ⟨1, by omega, rfl, by omega, by omega, by omega⟩
          · rw [if_neg c]
            by_cases d : x < 240
            · rw [if_pos d]; exact .inr ⟨2, by omega, rfl, by omega, by omega, by omega⟩
            · rw [if_neg d]
              by_cases e : x < 248
              · rw [if_pos e]; exact .inr ⟨3, by omega, rfl, by omega, by omega, fun _ => e⟩
              · rw [if_neg e]; exact .inl rfl
    have ne : ∀ s, stepsW s ≠ [] := by
      intro s; unfold stepsW; split
      · simp
      · split
        · simp
        · split <;> simp
    rcases lead with l0 | ⟨m, m4, el, ma, mb, mc⟩
    · rw [l0, List.take_zero, if_neg (ne _)]
    · rw [el]
      dsimp only
      refine if_neg fun e => h m m4 ?_
      have es : sgM (x :: t) m = foldS (x - baseF m) (((x :: t).take (m + 1)).drop 1) := rfl
      rw [← es] at e
      refine ⟨?_, ?_, e⟩
      · by_cases hs : sgM (x :: t) m < 0
        · exfalso
          have e1 : stepsW (sgM (x :: t) m) = [sgM (x :: t) m] := by unfold stepsW; rw [if_pos (by omega)]
          rw [e1, List.take_succ_cons] at e
          have := (List.cons.inj e).1
          omega
        · omega
      · by_cases hs : sgM (x :: t) m < 2097152
        · exact hs
        · exfalso
          have e1 : stepsW (sgM (x :: t) m) = [240 + sgM (x :: t) m / 262144, 128 + sgM (x :: t) m / 4096 % 64, 128 + sgM (x :: t) m / 64 % 64, 128 + sgM (x :: t) m % 64] := by
            unfold stepsW; rw [if_neg (by omega), if_neg (by omega), if_neg (by omega)]
          rw [e1, List.take_succ_cons] at e
          obtain ⟨e2, e3⟩ := List.cons.inj e
          have l3 : (t.take m).length = 3 := by rw [← e3]; rfl
          rw [List.length_take] at l3
          have : m = 3 := by omega
          have := mc this
          omega
/-- the digits of sixty-four behind the first i ones, the eldest ahead -/
def restF (n : Int) : Nat → List Int
  | 0 => []
  | i + 1 => (128 + (n / 64 ^ i) % 64) :: restF n i
theorem restF_len (n : Int) (i : Nat) : (restF n i).length = i := by
  induction i with
  | zero => rfl
  | succ i ih => show (restF n i).length + 1 = _; rw [ih]
theorem restF_nn (n : Int) (i : Nat) : ∀ b ∈ restF n i, 0 ≤ b := by
  induction i with
  | zero => intro b hb; cases hb
  | succ i ih =>
    intro b hb
    rcases List.mem_cons.mp hb with rfl | hb
    · have := Int.emod_nonneg (n / 64 ^ i) (show (64 : Int) ≠ 0 by decide); omega
    · exact ih b hb
theorem div_next (n : Int) (i : Nat) : n / 64 ^ i / 64 = n / 64 ^ (i + 1) := by
  rw [Int.ediv_ediv_of_nonneg (Int.pow_nonneg (by decide)), Int.pow_succ]
theorem restF3 (n : Int) : restF n 3 = [128 + n / 4096 % 64, 128 + n / 64 % 64, 128 + n % 64] := by
  show [128 + (n / 4096) % 64, 128 + (n / 64) % 64, 128 + (n / 1) % 64] = _
  rw [Int.ediv_one]
theorem restF2 (n : Int) : restF n 2 = [128 + n / 64 % 64, 128 + n % 64] := by
  show [128 + (n / 64) % 64, 128 + (n / 1) % 64] = _
  rw [Int.ediv_one]
theorem restF1 (n : Int) : restF n 1 = [128 + n % 64] := by
  show [128 + (n / 1) % 64] = _
  rw [Int.ediv_one]
theorem foldS_snoc (s : Int) (xs : List Int) (x : Int) : foldS s (xs ++ [x]) = 64 * foldS s xs + x - 128 := by
  unfold foldS; rw [List.foldl_append]; rfl
def sizeF : Cd → Int
  | .plain => 256
  | .steps => 2097152
  | .wide => 65536
  | .turn => 16384
theorem sizeF_b (c : Cd) : 256 ≤ sizeF c ∧ sizeF c ≤ 2097152 := by cases c <;> decide
/-! promises of a law's own defs about signs -/
def spSignL : Sp := fun vs H Q _ => ∃ (p : Addr) (n : Int) (o : HO) (c : Cd), vs = [.ref p, .str c.w] ∧ H p = some o ∧ PoolO n o ∧ n ≤ 900000000 ∧
  ∀ (H' : Hp) (g : Int) (o' : HO), 0 ≤ g → g < sizeF c → H' p = some o' → PoolO (n + 3) o' → Kp [p] H H' → Q (.int g) H'
def spStepsL : Sp := fun vs H Q _ => ∃ n : Int, vs = [.int n] ∧ 0 ≤ n ∧ n < 2097152 ∧ ∀ (H' : Hp) (q : Addr), H q = none → H' q = some (.lst ((stepsW n).map V.int)) → Same H H' → Q (.ref q) H'
def spStepsRd (K : PySem.W.Frag) : Sp := fun vs H Q _ => ∃ (x : Addr) (row : List Int) (p : Nat), vs = [.ref x, .int p] ∧ SqL K H x (row.map V.int) ∧ p < row.length ∧ (∀ b ∈ row, 0 ≤ b) ∧ row.length ≤ 1000 ∧ newT H (readF .steps row p 0) Q
end Sip
namespace Sip
open PySem PySem.Spec PyProof.Rows L2 TL
def manyF (n : Int) : Nat := if n < 2048 then 1 else if n < 65536 then 2 else 3
theorem manyF_b (n : Int) : 1 ≤ manyF n ∧ manyF n ≤ 3 := by unfold manyF; split; · omega
                                                            split <;> omega
theorem many_val (n : Int) : (1 : Int) + (if decide (n > 2047) = true then 1 else 0) + (if decide (n > 65535) = true then 1 else 0) = (manyF n : Int) := by
  unfold manyF
  by_cases a : n < 2048
  · rw [if_pos a, if_neg (by simp; omega), if_neg (by simp; omega)]; rfl
  · by_cases b : n < 65536
    · rw [if_neg a, if_pos b, if_pos (by simp; omega), if_neg (by simp; omega)]; rfl
    · rw [if_neg a, if_neg b, if_pos (by simp; omega), if_pos (by simp; omega)]; rfl
theorem stepsW_rest {n : Int} (h : 128 ≤ n) : stepsW n = (baseF (manyF n) + n / 64 ^ manyF n) :: restF n (manyF n) := by
  unfold stepsW manyF
  rw [if_neg (by omega)]
  by_cases a : n < 2048
  · rw [if_pos a, if_pos a, restF1]; rfl
  · rw [if_neg a, if_neg a]
    by_cases b : n < 65536
    · rw [if_pos b, if_pos b, restF2]; rfl
    · rw [if_neg b, if_neg b, restF3]; rfl
theorem base_at {m : Nat} (h1 : 1 ≤ m) (h3 : m ≤ 3) : atI [V.int 192, .int 224, .int 240] ((m : Int) - 1) = some (.int (baseF m)) := by
  rcases (show m = 1 ∨ m = 2 ∨ m = 3 by omega) with rfl | rfl | rfl <;> rfl
theorem base_at0 {m : Nat} (h3 : m ≤ 3) : atI [V.int 0, .int 192, .int 224, .int 240] (m : Int) = some (.int (baseF m)) := by
  rcases (show m = 0 ∨ m = 1 ∨ m = 2 ∨ m = 3 by omega) with rfl | rfl | rfl | rfl <;> rfl
def sizesK : List (Key × V) := [(Sum.inr (Str.ofString "plain"), .int 256), (Sum.inr (Str.ofString "steps"), .int 2097152), (Sum.inr (Str.ofString "wide"), .int 65536), (Sum.inr (Str.ofString "turn"), .int 16384)]
theorem sizes_at (c : Cd) : valV (mergeK [] sizesK) (Sum.inr c.w) = some (.int (sizeF c)) := by
  cases c <;> kernel_rfl
theorem edges_nn : ∀ y ∈ ([0, 127, 128, 255, 2047, 2048, 65535, 65536, 2097151, 65279, 65534, 65533, 16383] : List Int), 0 ≤ y := by decide
end Sip
namespace Sip
open PySem PySem.Spec PyProof.Rows L2 TL
/-! writing signs -/
def signW (c : Cd) (g s : Int) : List Int × Int := match c with
  | .plain => ([g], s)
  | .steps => (stepsW g, s)
  | .wide => if s = 1 then ([g % 256, g / 256], 1) else if s = 2 then ([g / 256, g % 256], 2) else ([254, 255, g / 256, g % 256], 2)
  | .turn => if g / 128 = s then ([g % 128], g / 128) else ([128 + g / 128, g % 128], g / 128)
def writeF (c : Cd) : List Int → Int → List Int × Int
  | [], s => ([], s)
  | g :: r, s => ((signW c g s).1 ++ (writeF c r (signW c g s).2).1, (writeF c r (signW c g s).2).2)
def VS (c : Cd) (s : Int) : Prop := match c with
  | .wide => 0 ≤ s ∧ s ≤ 2
  | _ => True
theorem writeF_snoc (c : Cd) : ∀ (xs : List Int) (g s : Int), writeF c (xs ++ [g]) s = ((writeF c xs s).1 ++ (signW c g (writeF c xs s).2).1, (signW c g (writeF c xs s).2).2)
  | [], g, s => by simp [writeF]
  | x :: r, g, s => by
    show ((signW c x s).1 ++ (writeF c (r ++ [g]) (signW c x s).2).1, (writeF c (r ++ [g]) (signW c x s).2).2) = _
    rw [writeF_snoc c r g]
    simp [writeF]
theorem writeF_app (c : Cd) : ∀ (xs ys : List Int) (s : Int), writeF c (xs ++ ys) s = ((writeF c xs s).1 ++ (writeF c ys (writeF c xs s).2).1, (writeF c ys (writeF c xs s).2).2)
  | [], ys, s => by simp [writeF]
  | x :: r, ys, s => by
    show ((signW c x s).1 ++ (writeF c (r ++ ys) (signW c x s).2).1, (writeF c (r ++ ys) (signW c x s).2).2) = _
    rw [writeF_app c r ys]
    simp [writeF]
theorem writeF_one (c : Cd) (g s : Int) : writeF c [g] s = signW c g s := by
  show ((signW c g s).1 ++ [], (signW c g s).2) = _
  rw [List.append_nil]
theorem signW_vs {c : Cd} {g s : Int} (h : VS c s) : VS c (signW c g s).2 := by
  cases c with
  | wide =>
    show 0 ≤ (signW .wide g s).2 ∧ (signW .wide g s).2 ≤ 2
    unfold signW
    dsimp only
    split
    · show (0 : Int) ≤ 1 ∧ (1 : Int) ≤ 2; decide
    · split
      · show (0 : Int) ≤ 2 ∧ (2 : Int) ≤ 2; decide
      · show (0 : Int) ≤ 2 ∧ (2 : Int) ≤ 2; decide
  | plain => trivial
  | steps => trivial
  | turn => trivial
theorem writeF_vs {c : Cd} : ∀ {xs : List Int} {s : Int}, VS c s → VS c (writeF c xs s).2
  | [], s, h => h
  | x :: r, s, h => writeF_vs (xs := r) (signW_vs h)
theorem signW_len {c : Cd} {g s : Int} (g0 : 0 ≤ g) (g1 : g < sizeF c) : 0 < (signW c g s).1.length ∧ (signW c g s).1.length ≤ 4 := by
  cases c with
  | plain =>
    show 0 < 1 ∧ 1 ≤ 4
    decide
  | steps =>
    obtain ⟨x, r, m, e, lr, m3, _, _, _⟩ := stepsW_back g0 g1
    show 0 < (stepsW g).length ∧ (stepsW g).length ≤ 4
    rw [e, List.length_cons]; omega
  | wide =>
    unfold signW
    dsimp only
    split
    · show 0 < 2 ∧ 2 ≤ 4; decide
    · split
      · show 0 < 2 ∧ 2 ≤ 4; decide
      · show 0 < 4 ∧ 4 ≤ 4; decide
  | turn =>
    unfold signW
    dsimp only
    split
    · show 0 < 1 ∧ 1 ≤ 4; decide
    · show 0 < 2 ∧ 2 ≤ 4; decide
theorem signW_nn {c : Cd} {g s : Int} (g0 : 0 ≤ g) (g1 : g < sizeF c) : ∀ b ∈ (signW c g s).1, 0 ≤ b := by
  cases c with
  | plain => intro b hb; rw [List.mem_singleton.mp hb]; exact g0
  | steps =>
    obtain ⟨x, r, m, e, _, _, _, _, hb⟩ := stepsW_back g0 g1
    intro b h
    exact (hb b (by rw [← e]; exact h)).1
  | wide =>
    unfold signW
    dsimp only
    split
    · intro b hb; simp only [List.mem_cons, List.mem_nil_iff, or_false] at hb; rcases hb with rfl | rfl <;> omega
    · split
      · intro b hb; simp only [List.mem_cons, List.mem_nil_iff, or_false] at hb; rcases hb with rfl | rfl <;> omega
      · intro b hb; simp only [List.mem_cons, List.mem_nil_iff, or_false] at hb; rcases hb with rfl | rfl | rfl | rfl <;> omega
  | turn =>
    unfold signW
    dsimp only
    split
    · intro b hb; rw [List.mem_singleton.mp hb]; omega
    · intro b hb; simp only [List.mem_cons, List.mem_nil_iff, or_false] at hb; rcases hb with rfl | rfl <;> omega
theorem getD_at (A : List Int) (x : Int) (B : List Int) : (A ++ x :: B).getD A.length 0 = x := by
  rw [List.getD_eq_getElem?_getD, List.getElem?_append_right (Nat.le_refl _), Nat.sub_self]; rfl
theorem getD_at1 (A : List Int) (x y : Int) (B : List Int) : (A ++ x :: y :: B).getD (A.length + 1) 0 = y := by
  rw [List.getD_eq_getElem?_getD, List.getElem?_append_right (by omega), Nat.add_sub_cancel_left]; rfl
theorem drop_at (A B : List Int) : (A ++ B).drop A.length = B := by simp
theorem tell_sign {row : List Int} {p : Nat} {s : Int} {b : Nat} {sb g : Int} {n : Nat} (hb : b < row.length) (hn : n ≠ 0) : tellF row p s (b, sb) (g, n) = fourV (Str.ofString "sign") g (b + n) sb := by
  unfold tellF
  rw [if_neg (show ¬ row.length ≤ b by omega), if_neg (show ¬ (n = 0) from hn)]
/-- what is written of a sign is read as it -/
theorem read_written {c : Cd} {g s : Int} (g0 : 0 ≤ g) (g1 : g < sizeF c) (hs : VS c s) (A B : List Int) :
    readF c (A ++ (signW c g s).1 ++ B) A.length s = fourV (Str.ofString "sign") g (A.length + (signW c g s).1.length) (signW c g s).2 := by
  unfold readF
  cases c with
  | plain =>
    show tellF (A ++ [g] ++ B) A.length s (A.length, s) ((A ++ [g] ++ B).getD A.length 0, 1) = _
    rw [List.append_assoc]
    show tellF (A ++ g :: B) A.length s (A.length, s) ((A ++ g :: B).getD A.length 0, 1) = _
    rw [getD_at, tell_sign (by simp) (by decide)]
    rfl
  | steps =>
    show tellF (A ++ stepsW g ++ B) A.length s (A.length, s) (stepsAt ((A ++ stepsW g ++ B).drop A.length)) = fourV _ g (A.length + (stepsW g).length) s
    obtain ⟨x, r, m, e, lr, m3, el, ef, _⟩ := stepsW_back g0 g1
    rw [List.append_assoc, drop_at]
    have hw : (stepsW g).length = m + 1 := by rw [e, List.length_cons, lr]
    have et : (stepsW g ++ B).take (m + 1) = stepsW g := by rw [← hw, List.take_left]
    have hsg : sgM (stepsW g ++ B) m = g := by
      unfold sgM
      rw [et, e]
      exact ef
    have hc : condM (stepsW g ++ B) m := ⟨by rw [hsg]; exact g0, by rw [hsg]; exact g1, by rw [hsg, et]⟩
    obtain ⟨ea, ne⟩ := cond_at hc
    rw [hsg, et] at ea
    rw [et] at ne
    rw [ea, tell_sign (by simp [e]) ne]
  | turn =>
    show tellF _ A.length s (skipT ((A ++ (signW .turn g s).1 ++ B).drop A.length) A.length s) _ = _
    have g128 := Int.emod_nonneg g (show (128 : Int) ≠ 0 by decide)
    have g129 := Int.emod_lt_of_pos g (show (0 : Int) < 128 by decide)
    have gd : 0 ≤ g / 128 := Int.ediv_nonneg g0 (by decide)
    by_cases h : g / 128 = s
    · have ew : signW .turn g s = ([g % 128], g / 128) := if_pos h
      rw [ew, List.append_assoc]
      show tellF (A ++ (g % 128) :: B) A.length s (goneF .turn (A ++ (g % 128) :: B) A.length s) (signF .turn (A ++ (g % 128) :: B) (goneF .turn (A ++ (g % 128) :: B) A.length s).1 (goneF .turn (A ++ (g % 128) :: B) A.length s).2) = fourV _ g (A.length + 1) (g / 128)
      have eg : goneF .turn (A ++ (g % 128) :: B) A.length s = (A.length, s) := by
        show skipT ((A ++ (g % 128) :: B).drop A.length) A.length s = _
        rw [drop_at]
        show (if 128 ≤ g % 128 then _ else _) = _
        rw [if_neg (by omega)]
      rw [eg]
      show tellF (A ++ (g % 128) :: B) A.length s (A.length, s) (128 * s + (A ++ (g % 128) :: B).getD A.length 0, 1) = _
      rw [getD_at, tell_sign (by simp) (by decide), ← h, show 128 * (g / 128) + g % 128 = g by omega]
    · have ew : signW .turn g s = ([128 + g / 128, g % 128], g / 128) := if_neg h
      rw [ew, List.append_assoc]
      show tellF (A ++ (128 + g / 128) :: (g % 128) :: B) A.length s (goneF .turn (A ++ (128 + g / 128) :: (g % 128) :: B) A.length s) (signF .turn (A ++ (128 + g / 128) :: (g % 128) :: B) (goneF .turn (A ++ (128 + g / 128) :: (g % 128) :: B) A.length s).1 (goneF .turn (A ++ (128 + g / 128) :: (g % 128) :: B) A.length s).2) = fourV _ g (A.length + 2) (g / 128)
      have eg : goneF .turn (A ++ (128 + g / 128) :: (g % 128) :: B) A.length s = (A.length + 1, g / 128) := by
        show skipT ((A ++ (128 + g / 128) :: (g % 128) :: B).drop A.length) A.length s = _
        rw [drop_at]
        show (if 128 ≤ 128 + g / 128 then (if 128 ≤ g % 128 then _ else _) else _) = _
        rw [if_pos (by omega), if_neg (by omega), show 128 + g / 128 - 128 = g / 128 by omega]
      rw [eg]
      show tellF (A ++ (128 + g / 128) :: (g % 128) :: B) A.length s (A.length + 1, g / 128) (128 * (g / 128) + (A ++ (128 + g / 128) :: (g % 128) :: B).getD (A.length + 1) 0, 1) = _
      rw [getD_at1, tell_sign (by simp) (by decide), show 128 * (g / 128) + g % 128 = g by omega]
  | wide =>
    obtain ⟨s0, s2⟩ := (show 0 ≤ s ∧ s ≤ 2 from hs)
    have wd : ∀ (A' B' : List Int) (x y : Int) (sb : Int), signF .wide (A' ++ x :: y :: B') A'.length sb = (if sb = 1 then (x + 256 * y, 2) else (256 * x + y, 2)) := by
      intro A' B' x y sb
      show (if (A' ++ x :: y :: B').length < A'.length + 2 then _ else if sb = 1 then ((A' ++ x :: y :: B').getD A'.length 0 + 256 * (A' ++ x :: y :: B').getD (A'.length + 1) 0, 2) else (256 * (A' ++ x :: y :: B').getD A'.length 0 + (A' ++ x :: y :: B').getD (A'.length + 1) 0, 2)) = _
      rw [if_neg (by rw [List.length_append, List.length_cons, List.length_cons]; omega), getD_at, getD_at1]
    rcases (show s = 0 ∨ s = 1 ∨ s = 2 by omega) with rfl | rfl | rfl
    · have ew : signW .wide g 0 = ([254, 255, g / 256, g % 256], 2) := rfl
      rw [ew, List.append_assoc]
      show tellF (A ++ 254 :: 255 :: (g / 256) :: (g % 256) :: B) A.length 0 (goneF .wide (A ++ 254 :: 255 :: (g / 256) :: (g % 256) :: B) A.length 0) (signF .wide (A ++ 254 :: 255 :: (g / 256) :: (g % 256) :: B) (goneF .wide (A ++ 254 :: 255 :: (g / 256) :: (g % 256) :: B) A.length 0).1 (goneF .wide (A ++ 254 :: 255 :: (g / 256) :: (g % 256) :: B) A.length 0).2) = fourV _ g (A.length + 4) 2
      have eg : goneF .wide (A ++ 254 :: 255 :: (g / 256) :: (g % 256) :: B) A.length 0 = (A.length + 2, 2) := by
        show markW _ _ = _
        unfold markW
        rw [drop_at, if_pos (show List.take 2 (254 :: 255 :: (g / 256) :: (g % 256) :: B) = [254, 255] from rfl)]
      rw [eg]
      have ea : A ++ 254 :: 255 :: (g / 256) :: (g % 256) :: B = (A ++ [254, 255]) ++ (g / 256) :: (g % 256) :: B := by rw [List.append_assoc]; rfl
      have el : (A ++ [254, 255]).length = A.length + 2 := by rw [List.length_append]; rfl
      have := wd (A ++ [254, 255]) B (g / 256) (g % 256) 2
      rw [← ea, el, if_neg (by decide)] at this
      show tellF _ _ _ (A.length + 2, 2) (signF .wide _ (A.length + 2) 2) = _
      rw [this, tell_sign (by simp) (by decide), show 256 * (g / 256) + g % 256 = g by omega]
    · have ew : signW .wide g 1 = ([g % 256, g / 256], 1) := rfl
      rw [ew, List.append_assoc]
      show tellF (A ++ (g % 256) :: (g / 256) :: B) A.length 1 (A.length, 1) (signF .wide (A ++ (g % 256) :: (g / 256) :: B) A.length 1) = fourV _ g (A.length + 2) 1
      rw [wd, if_pos rfl, tell_sign (by simp) (by decide), show g % 256 + 256 * (g / 256) = g by omega]
    · have ew : signW .wide g 2 = ([g / 256, g % 256], 2) := rfl
      rw [ew, List.append_assoc]
      show tellF (A ++ (g / 256) :: (g % 256) :: B) A.length 2 (A.length, 2) (signF .wide (A ++ (g / 256) :: (g % 256) :: B) A.length 2) = fourV _ g (A.length + 2) 2
      rw [wd, if_neg (by decide), tell_sign (by simp) (by decide), show 256 * (g / 256) + g % 256 = g by omega]
theorem readF_end {c : Cd} {row : List Int} {p : Nat} {s : Int} (h : row.length ≤ p) : readF c row p s = fourV (Str.ofString "end") 0 p s := by
  have g : row.length ≤ (goneF c row p s).1 := by
    have e : row.drop p = [] := List.drop_of_length_le h
    unfold goneF
    cases c with
    | turn => show _ ≤ (skipT (row.drop p) p s).1; rw [e]; exact h
    | wide =>
      show _ ≤ (if s = 0 then markW row p else (p, s)).1
      split
      · unfold markW; rw [e]; simp; exact h
      · exact h
    | plain => exact h
    | steps => exact h
  unfold readF tellF
  rw [if_pos g]
/-! promises of the laws' own defs -/
def CODES : List V := [.str (Str.ofString "plain"), .str (Str.ofString "steps"), .str (Str.ofString "wide"), .str (Str.ofString "turn")]
theorem codes_at {i : Int} (h0 : 0 ≤ i) (h1 : i < 4) : ∃ c : Cd, atI CODES i = some (.str c.w) := by
  rcases (show i = 0 ∨ i = 1 ∨ i = 2 ∨ i = 3 by omega) with rfl | rfl | rfl | rfl
  · exact ⟨.plain, rfl⟩
  · exact ⟨.steps, rfl⟩
  · exact ⟨.wide, rfl⟩
  · exact ⟨.turn, rfl⟩
def spCodes : Sp := fun vs H Q _ => ∃ u : Unit, vs = [] ∧ ∀ (q : Addr), H q = none → Q (.ref q) (upd H q (.lst CODES))
def spState : Sp := fun vs H Q _ => ∃ (p : Addr) (n : Int) (o : HO) (c : Cd), vs = [.ref p, .str c.w] ∧ H p = some o ∧ PoolO n o ∧ n ≤ 900000000 ∧
  ∀ (H' : Hp) (s : Int) (o' : HO), VS c s → 0 ≤ s → s < 128 → H' p = some o' → PoolO (n + 3) o' → Kp [p] H H' → Q (.int s) H'
def spWriteL (K : PySem.W.Frag) : Sp := fun vs H Q _ => ∃ (a : Addr) (gs : List Int) (s : Int) (c : Cd), vs = [.ref a, .int s, .str c.w] ∧ SqL K H a (gs.map V.int) ∧ gs.length ≤ 200 ∧ VS c s ∧ (∀ g ∈ gs, 0 ≤ g ∧ g < sizeF c) ∧
  ∀ (H' : Hp) (q w : Addr), H q = none → H w = none → q ≠ w → H' q = some (.tup [.ref w, .int (writeF c gs s).2]) → H' w = some (.lst ((writeF c gs s).1.map V.int)) → Same H H' → Q (.ref q) H'
end Sip
namespace Sip
open PySem PySem.Spec PyProof.Rows L2 TL
def spWholeI : Sp := fun vs H Q _ => ∃ v : Int, vs = [.int v] ∧ Q (.bl true) H
def spLastS : Sp := fun vs H Q _ => ∃ c : Cd, vs = [.str c.w] ∧ Q (.int (sizeF c - 1)) H
def newW (H : Hp) (W : List Int × Int) (Q : VK) : Prop := ∀ (H' : Hp) (q w : Addr), H q = none → H w = none → q ≠ w → H' q = some (.tup [.ref w, .int W.2]) → H' w = some (.lst (W.1.map V.int)) → Same H H' → Q (.ref q) H'
def spWW : Sp := fun vs H Q _ => ∃ g s : Int, vs = [.int g, .int s] ∧ VS .wide s ∧ newW H (signW .wide g s) Q
def spTW : Sp := fun vs H Q _ => ∃ g s : Int, vs = [.int g, .int s] ∧ newW H (signW .turn g s) Q
def spSWr : Sp := fun vs H Q _ => ∃ (g s : Int) (c : Cd), vs = [.int g, .int s, .str c.w] ∧ VS c s ∧ newW H (signW c g s) Q
/-- a tuple of a row and a number -/
theorem shaped_row (ns : List Int) (v : Int) : SeqAt.shaped (.tuple [.list (ns.map PyData.int), .int v]) = true := by
  have h := shaped_ints ns
  unfold SeqAt.shaped at h ⊢
  rw [Bool.and_eq_true] at h ⊢
  obtain ⟨h1, h2⟩ := h
  have h1' : PyData.canLayAll0 (ns.map PyData.int) = true := lay_ints ns
  refine ⟨by simp [PyData.canLay0, PyData.canLayAll0, h1'], decide_eq_true ?_⟩
  have : ∀ ms : List Int, PyData.depthAll (ms.map PyData.int) ≤ 1 := by
    intro ms
    induction ms with
    | nil => simp [PyData.depthAll]
    | cons m r ih => simp [PyData.depthAll, PyData.depth]; try omega
  have h3 := this ns
  simp [PyData.depth, PyData.depthAll]; try omega
theorem dp_row {K : PySem.W.Frag} {H : Hp} {q w : Addr} {ns : List Int} {v : Int} (h : SqT K H q [.ref w, .int v]) (hw : SqL K H w (ns.map V.int)) : Dp K H (.ref q) (.tuple [.list (ns.map PyData.int), .int v]) :=
  .tup h (.cons (dp_lst hw) (.cons (.int _) .nil))
end Sip
namespace Sip
open PySem PySem.Spec PyProof.Rows L2 TL
def topS (i : Nat) : Stmt := PySem.Challenge.pw_sipstack_k86_records_of_any_row.main.body.getD i (.Pass ⟨0, 0, 0, 0⟩)
abbrev s_recs : Stmt := topS 2
abbrev N_recs : List Str := ["row", "records", "place", "behind"]
abbrev P_recs : List Str := ["row"]
theorem sc_recs : FnScope N_recs P_recs (defScope s_recs) := ⟨rfl, rfl, rfl, by decide +kernel, rfl, by decide +kernel, by decide +kernel⟩
abbrev s_pool : Stmt := topS 4
abbrev N_pool : List Str := ["_law_script", "_law_at", "_law_cell", "_law_digits"]
abbrev P_pool : List Str := ["_law_script", "_law_at"]
theorem sc_pool : FnScope N_pool P_pool (defScope s_pool) := ⟨rfl, rfl, rfl, by decide +kernel, rfl, by decide +kernel, by decide +kernel⟩
abbrev s_take : Stmt := topS 5
abbrev N_take : List Str := ["_law_pool_here", "_law_wide", "_law_found", "_law_seed"]
abbrev P_take : List Str := ["_law_pool_here", "_law_wide"]
theorem sc_take : FnScope N_take P_take (defScope s_take) := ⟨rfl, rfl, rfl, by decide +kernel, rfl, by decide +kernel, by decide +kernel⟩
abbrev s_entry : Stmt := topS 6
abbrev N_entry : List Str := ["_law_pool_here", "_law_most", "_law_many", "_law_found", "_law_k"]
abbrev P_entry : List Str := ["_law_pool_here", "_law_most"]
theorem sc_entry : FnScope N_entry P_entry (defScope s_entry) := ⟨rfl, rfl, rfl, by decide +kernel, rfl, by decide +kernel, by decide +kernel⟩
abbrev s_frames : Stmt := topS 7
abbrev N_frames : List Str := ["_law_entries", "_law_found", "_law_entry_here"]
abbrev P_frames : List Str := ["_law_entries"]
theorem sc_frames : FnScope N_frames P_frames (defScope s_frames) := ⟨rfl, rfl, rfl, by decide +kernel, rfl, by decide +kernel, by decide +kernel⟩
abbrev s_lrow : Stmt := topS 8
abbrev N_lrow : List Str := ["_law_pool_here", "_law_way", "_law_row_here", "_law_k", "_law_at", "_law_byte", "_law_j"]
abbrev P_lrow : List Str := ["_law_pool_here"]
theorem sc_lrow : FnScope N_lrow P_lrow (defScope s_lrow) := ⟨rfl, rfl, rfl, by decide +kernel, rfl, by decide +kernel, by decide +kernel⟩
abbrev s_due : Stmt := topS 9
abbrev N_due : List Str := ["_law_row_here", "_law_found", "_law_at"]
abbrev P_due : List Str := ["_law_row_here"]
theorem sc_due : FnScope N_due P_due (defScope s_due) := ⟨rfl, rfl, rfl, by decide +kernel, rfl, by decide +kernel, by decide +kernel⟩
abbrev s_asked : Stmt := topS 10
abbrev N_asked : List Str := ["_law_row_here", "_law_due_here", "_law_handed", "_law_found", "_law_entry_here"]
abbrev P_asked : List Str := ["_law_row_here"]
theorem sc_asked : FnScope N_asked P_asked (defScope s_asked) := ⟨rfl, rfl, rfl, by decide +kernel, rfl, by decide +kernel, by decide +kernel⟩
abbrev s_law : Stmt := topS 11
abbrev N_law : List Str := ["_law_script", "_law_k", "_law_row_here"]
abbrev P_law : List Str := ["_law_script"]
theorem sc_law : FnScope N_law P_law (defScope s_law) := ⟨rfl, rfl, rfl, by decide +kernel, rfl, by decide +kernel, by decide +kernel⟩
set_option maxHeartbeats 2000000

def badF (row : List Int) (p : Nat) (b : Int) : Prop := ¬ (1 ≤ b ∧ b ≤ 201) ∨ (p : Int) + b > row.length
instance (row : List Int) (p : Nat) (b : Int) : Decidable (badF row p b) := by unfold badF; exact inferInstance
def recF (row : List Int) : Nat → Nat → List (List Int) × Option Nat
  | 0, _ => ([], none)
  | f + 1, p => match row[p]? with
    | none => ([], none)
    | some b => if badF row p b then ([], some p) else (((row.drop (p + 1)).take (b.toNat - 1)) :: (recF row f (p + b.toNat)).1, (recF row f (p + b.toNat)).2)
def oV : Option Nat → V
  | none => .non
  | some p => .int p
def oD : Option Nat → PyData
  | none => .none
  | some p => .int p
theorem dp_oV {K : PySem.W.Frag} {H : Hp} : ∀ o, Dp K H (oV o) (oD o)
  | none => .non
  | some p => .int p
theorem recF_end {row : List Int} {f p : Nat} (h : row[p]? = none) : recF row f p = ([], none) := by
  cases f with
  | zero => rfl
  | succ f => show (match row[p]? with | none => _ | some b => _) = _; rw [h]
theorem recF_bad {row : List Int} {f p : Nat} {b : Int} (h : row[p]? = some b) (g : badF row p b) : recF row (f + 1) p = ([], some p) := by
  show (match row[p]? with | none => _ | some b => _) = _
  rw [h]; exact if_pos g
theorem recF_go {row : List Int} {f p : Nat} {b : Int} (h : row[p]? = some b) (g : ¬ badF row p b) : recF row (f + 1) p = (((row.drop (p + 1)).take (b.toNat - 1)) :: (recF row f (p + b.toNat)).1, (recF row f (p + b.toNat)).2) := by
  show (match row[p]? with | none => _ | some b => _) = _
  rw [h]; exact if_neg g
theorem recF_len {row : List Int} : ∀ (f p : Nat), ∀ r ∈ (recF row f p).1, r.length ≤ 200 ∧ ∀ x ∈ r, x ∈ row
  | 0, _, r, h => nomatch h
  | f + 1, p, r, h => by
    cases e : row[p]? with
    | none => rw [recF_end e] at h; cases h
    | some b =>
      by_cases g : badF row p b
      · rw [recF_bad e g] at h; cases h
      · rw [recF_go e g] at h
        rcases List.mem_cons.mp h with rfl | h
        · unfold badF at g
          refine ⟨?_, fun x hx => List.mem_of_mem_drop (List.mem_of_mem_take hx)⟩
          rw [List.length_take]; omega
        · exact recF_len f _ r h
theorem recF_count {row : List Int} : ∀ (f p : Nat), (recF row f p).1.length ≤ f
  | 0, _ => Nat.le_refl _
  | f + 1, p => by
    cases e : row[p]? with
    | none => rw [recF_end e]; exact Nat.zero_le _
    | some b =>
      by_cases g : badF row p b
      · rw [recF_bad e g]; exact Nat.zero_le _
      · rw [recF_go e g]; exact Nat.succ_le_succ (recF_count f _)
theorem recF_place {row : List Int} : ∀ (f p q : Nat), (recF row f p).2 = some q → q < row.length
  | 0, _, _, h => nomatch h
  | f + 1, p, q, h => by
    cases e : row[p]? with
    | none => rw [recF_end e] at h; cases h
    | some b =>
      by_cases g : badF row p b
      · rw [recF_bad e g] at h; cases h; exact (List.getElem?_eq_some_iff.mp e).1
      · rw [recF_go e g] at h; exact recF_place f _ q h
/-- the lists at qs are the rows rs -/
def Prs (H : Hp) : List Addr → List (List Int) → Prop
  | [], [] => True
  | q :: qs, r :: rs => H q = some (.lst (r.map V.int)) ∧ Prs H qs rs
  | _, _ => False
theorem Prs.same {H H' : Hp} (s : Same H H') : ∀ {qs : List Addr} {rs : List (List Int)}, Prs H qs rs → Prs H' qs rs
  | [], [], _ => trivial
  | _ :: _, _ :: _, h => ⟨s _ _ h.1, Prs.same s h.2⟩
  | [], _ :: _, h => h.elim
  | _ :: _, [], h => h.elim
theorem Prs.put {H : Hp} {b : Addr} {o : HO} : ∀ {qs : List Addr} {rs : List (List Int)}, b ∉ qs → Prs H qs rs → Prs (upd H b o) qs rs
  | [], [], _, _ => trivial
  | q :: qs, _ :: _, n, h => ⟨by rw [upd_ne (fun z => n (by rw [z]; exact List.mem_cons_self))]; exact h.1, Prs.put (fun z => n (List.mem_cons_of_mem _ z)) h.2⟩
  | [], _ :: _, _, h => h.elim
  | _ :: _, [], _, h => h.elim
theorem Prs.snoc {H : Hp} {q : Addr} {r : List Int} (e : H q = some (.lst (r.map V.int))) : ∀ {qs : List Addr} {rs : List (List Int)}, Prs H qs rs → Prs H (qs ++ [q]) (rs ++ [r])
  | [], [], _ => ⟨e, trivial⟩
  | _ :: _, _ :: _, h => ⟨h.1, Prs.snoc e h.2⟩
  | [], _ :: _, h => h.elim
  | _ :: _, [], h => h.elim
theorem Prs.len {H : Hp} : ∀ {qs : List Addr} {rs : List (List Int)}, Prs H qs rs → qs.length = rs.length
  | [], [], _ => rfl
  | _ :: _, _ :: _, h => congrArg (· + 1) (Prs.len h.2)
  | [], _ :: _, h => h.elim
  | _ :: _, [], h => h.elim
theorem Prs.mem {H : Hp} {q : Addr} : ∀ {qs : List Addr} {rs : List (List Int)}, Prs H qs rs → q ∈ qs → ∃ r ∈ rs, H q = some (.lst (r.map V.int))
  | [], [], _, h => nomatch h
  | x :: qs, r :: rs, h, m => by
    rcases List.mem_cons.mp m with rfl | m
    · exact ⟨r, List.mem_cons_self, h.1⟩
    · obtain ⟨r', a, b⟩ := Prs.mem h.2 m
      exact ⟨r', List.mem_cons_of_mem _ a, b⟩
  | [], _ :: _, h, _ => h.elim
  | _ :: _, [], h, _ => h.elim
theorem Prs.dp {K : PySem.W.Frag} {H : Hp} : ∀ {qs : List Addr} {rs : List (List Int)}, Prs H qs rs → DpAll K H (qs.map V.ref) (rs.map fun r => .list (r.map .int))
  | [], [], _ => .nil
  | _ :: _, _ :: _, h => .cons (dp_lst (sq_at h.1)) (Prs.dp h.2)
  | [], _ :: _, h => h.elim
  | _ :: _, [], h => h.elim
/-- a tuple of records, and a place -/
def Tree (H : Hp) (t l : Addr) (qs : List Addr) (x : List (List Int) × Option Nat) : Prop := H t = some (.tup [.ref l, oV x.2]) ∧ H l = some (.lst (qs.map V.ref)) ∧ Prs H qs x.1
def treeD (x : List (List Int) × Option Nat) : PyData := .tuple [.list (x.1.map fun r => .list (r.map .int)), oD x.2]
theorem Tree.dp {K : PySem.W.Frag} {H : Hp} {t l : Addr} {qs : List Addr} {x : List (List Int) × Option Nat} (h : Tree H t l qs x) : Dp K H (.ref t) (treeD x) := .tup (.inl (.inl h.1)) (.cons (.lst (sq_at h.2.1) h.2.2.dp) (.cons (dp_oV _) .nil))
theorem Tree.same {H H' : Hp} {t l : Addr} {qs : List Addr} {x : List (List Int) × Option Nat} (h : Tree H t l qs x) (s : Same H H') : Tree H' t l qs x := ⟨s _ _ h.1, s _ _ h.2.1, h.2.2.same s⟩
def recT (row : List Int) : List (List Int) × Option Nat := recF row (row.length + 1) 0
theorem sh_byte {i : Int} (h : 0 ≤ i ∧ i ≤ 255) : Sh 8 0 (.int i) := by
  have l : i.natAbs.log2 < 8 := log_le (by omega) (by decide)
  obtain ⟨a, b, c, d, e⟩ := sh_int (i := i) (by omega)
  refine ⟨a, b, c, ?_, e⟩
  show (if i == 0 then 0 else i.natAbs.log2 + 1) ≤ 8
  split <;> omega
def Byt (bs : List Int) : Prop := ∀ b ∈ bs, 0 ≤ b ∧ b ≤ 255
theorem sh_tree {row : List Int} (hb : Byt row) (hl : row.length ≤ 400) : ∃ w, w ≤ 1000000 ∧ Sh w 3 (treeD (recT row)) := by
  unfold recT
  have c := recF_count (row := row) (row.length + 1) 0
  have hr : ∀ r ∈ (recF row (row.length + 1) 0).1, Sh 1800 1 (.list (r.map .int)) := fun r m => by
    obtain ⟨a, b⟩ := recF_len (row := row) _ _ r m
    exact (sh_list (shA_map fun n hn => sh_byte (hb n (b n hn)))).up (by omega) (Nat.le_refl _)
  have ho : Sh 41 0 (oD (recF row (row.length + 1) 0).2) := by
    cases e : (recF row (row.length + 1) 0).2 with
    | none => exact sh_non.up (by omega) (Nat.le_refl _)
    | some q => exact sh_int (by have := recF_place _ _ _ e; omega)
  have h1 := shA_map (f := fun r : List Int => PyData.list (r.map .int)) hr
  refine ⟨_, ?_, sh_tuple (shA_cons (sh_list h1) (shA_cons ho shA_nil))⟩
  omega
def spRecs (K : PySem.W.Frag) : Sp := fun vs H Q _ => ∃ (a : Addr) (row : List Int), vs = [.ref a] ∧ SqL K H a (row.map V.int) ∧ row.length ≤ 400 ∧ Byt row ∧
  ∀ (H' : Hp) (t l : Addr) (qs : List Addr), H t = none → H l = none → (∀ q ∈ qs, H q = none ∧ q ≠ l ∧ q ≠ t) → l ≠ t → Tree H' t l qs (recT row) → Same H H' → Q (.ref t) H'

def spEntry : Sp := fun vs H Q _ => ∃ (p : Addr) (m n : Int) (o : HO), vs = [.ref p, .int m] ∧ H p = some o ∧ PoolO n o ∧ n ≤ 900000000 ∧ -5 ≤ m ∧ m ≤ 1000 ∧
  ∀ (H' : Hp) (q : Addr) (bs : List Int) (o' : HO), H q = none → H' q = some (.lst (bs.map V.int)) → H' p = some o' → PoolO (n + 500) o' → Kp [p] H H' → bs.length ≤ 200 → Byt bs → Q (.ref q) H'
def spFrames : Sp := fun vs H Q _ => ∃ (a e : Addr) (bs : List Int), vs = [.ref a] ∧ H a = some (.lst [.ref e]) ∧ H e = some (.lst (bs.map V.int)) ∧ bs.length ≤ 200 ∧
  ∀ (H' : Hp) (q : Addr), H q = none → H' q = some (.lst (((bs.length + 1 : Int) :: bs).map V.int)) → Same H H' → Q (.ref q) H'
def spLrow : Sp := fun vs H Q _ => ∃ (p : Addr) (n : Int) (o : HO), vs = [.ref p] ∧ H p = some o ∧ PoolO n o ∧ n ≤ 800000000 ∧
  ∀ (H' : Hp) (q : Addr) (bs : List Int), H q = none → H' q = some (.lst (bs.map V.int)) → Kp [p] H H' → bs.length ≤ 400 → Byt bs → Q (.ref q) H'
theorem byt_app {a b : List Int} (ha : Byt a) (hb : Byt b) : Byt (a ++ b) := fun x hx => (List.mem_append.mp hx).elim (ha x) (hb x)
theorem byt_one {v : Int} (h0 : 0 ≤ v) (h1 : v ≤ 255) : Byt [v] := fun x hx => by rw [List.mem_singleton.mp hx]; exact ⟨h0, h1⟩
theorem byt_take {a : List Int} {n : Nat} (ha : Byt a) : Byt (a.take n) := fun x hx => ha x (List.mem_of_mem_take hx)
theorem byt_drop {a : List Int} {n : Nat} (ha : Byt a) : Byt (a.drop n) := fun x hx => ha x (List.mem_of_mem_drop hx)

def spAsked86 (K : PySem.W.Frag) : Sp := fun vs H Q _ => ∃ (a : Addr) (row : List Int), vs = [.ref a] ∧ H a = some (.lst (row.map V.int)) ∧ row.length ≤ 400 ∧ Byt row ∧ ∀ H', Same H H' → Q (.bl true) H'
structure Tx (K : PySem.W.Frag) (mg : Str → Option Value) where
  f_recs : Addr
  fd_recs : FuncData
  D_recs : Dg K mg "records_of" s_recs f_recs fd_recs
  f_pool : Addr
  fd_pool : FuncData
  D_pool : Dg K mg "_law_pool" s_pool f_pool fd_pool
  f_take : Addr
  fd_take : FuncData
  D_take : Dg K mg "_law_take" s_take f_take fd_take
  f_entry : Addr
  fd_entry : FuncData
  D_entry : Dg K mg "_law_entry" s_entry f_entry fd_entry
  f_frames : Addr
  fd_frames : FuncData
  D_frames : Dg K mg "_law_frames" s_frames f_frames fd_frames
  f_lrow : Addr
  fd_lrow : FuncData
  D_lrow : Dg K mg "_law_row" s_lrow f_lrow fd_lrow
  f_due : Addr
  fd_due : FuncData
  D_due : Dg K mg "_law_due" s_due f_due fd_due
  f_asked : Addr
  fd_asked : FuncData
  D_asked : Dg K mg "_law_asked" s_asked f_asked fd_asked
  f_law : Addr
  fd_law : FuncData
  D_law : Dg K mg "law" s_law f_law fd_law
  bb_asked : Binds K fd_asked P_asked []
  bb_due : Binds K fd_due P_due []
  bb_entry : Binds K fd_entry P_entry []
  bb_frames : Binds K fd_frames P_frames []
  bb_lrow : Binds K fd_lrow P_lrow []
  bb_pool : Binds K fd_pool P_pool []
  bb_recs : Binds K fd_recs P_recs []
  bb_take : Binds K fd_take P_take []
  t_LONGEST_RECORD : Tok
  c_LONGEST_RECORD : mg "LONGEST_RECORD" = some (.int 200 t_LONGEST_RECORD)
  m_list : mg "list" = none
  m_len : mg "len" = none
  m_range : mg "range" = none
  m_max : mg "max" = none
  m_min : mg "min" = none
  m_repr : mg "repr" = none
section
variable {P : Program} {w : World} {K : PySem.W.Frag} {mg : Str → Option Value} {base : Heap}

theorem ok_pool (T : Tx K mg) : FnOk P w K mg base CX0 1 T.f_pool T.fd_pool P_pool (spPool K) := by
  have sz : sizeLine = 16777216 := sizeLine_eq
  refine T.D_pool.F.ok sc_pool (fun vs H Q E h => ?_) (fun cdv A outer s H vs Q E hr h => ?_)
  · obtain ⟨a, ns, i, rfl, _⟩ := h
    rfl
  · obtain ⟨a, ns, i, rfl, hS, h63, i0, i1, q⟩ := h
    refine ⟨_, (pss_cons (ps_set (i := 2) sc_pool.nd rfl (.inl rfl) pe_int)
      (C8.pss_cut (ps_if (pt_cmpR op_gt (pe_callB call_len_seq (by rfl) T.m_len PySem.boot_len (pa_cons (pv 0) pa_nil)) pe_int (nomark _)) (pss_one (ps_set (i := 2) sc_pool.nd rfl (.inl rfl) (pe_ix ix_list (pv 0) (pe_op op_mod (pv 1) (pe_callB call_len_seq (by rfl) T.m_len PySem.boot_len (pa_cons (pv 0) pa_nil))) (fun _ _ => rfl)))) pss_nil)
      (pss_cons (ps_set (i := 3) sc_pool.nd rfl (.inl rfl) pe_int)
      (C8.pss_cut (ps_if (PW.pt (pw_and (pt_cmpR op_ge (pv 2) (pe_op op_pow pe_int pe_int) (nomark _)) (pw_and1 (pt_cmpR op_lt (pv 1) (pe_callB call_len_seq (by rfl) T.m_len PySem.boot_len (pa_cons (pv 0) pa_nil)) (nomark _))))) (pss_one (ps_set (i := 3) sc_pool.nd rfl (.inl rfl) (pv 2))) pss_nil)
      (pss_one (ps_ret (pe_lst (pa_cons (pv 3) (pa_cons (pe_op op_mul pe_int (pv 1)) (pa_cons (pv 2) pa_nil)))))))))), ?_⟩
    refine ⟨fun σ' H' => H' = H ∧ ∃ c : Int, σ' = [some (.ref a), some (.int i), some (.int c), none], ?_, fun σ' H' hm => ?_⟩
    · refine ⟨.ref a, rfl, a, ns.map V.int, rfl, .inl hS, _, _, rfl, rfl, _, rfl, ite2 (fun e => ?_) (fun e => ?_)⟩
      · have e1 : (0 : Int) < ((ns.map V.int).length : Int) := of_decide_eq_true e
        rw [List.length_map] at e1
        obtain ⟨m, _, em, _⟩ := atI_int (ms := ns) (i := i % (ns.length : Int)) (Int.emod_nonneg _ (by omega)) (Int.emod_lt_of_pos _ e1)
        refine ⟨.ref a, rfl, .int i, rfl, .ref a, rfl, a, ns.map V.int, rfl, .inl hS, _, _, rfl, rfl, ?_, a, _, _, .int m, rfl, rfl, hS, ?_, rfl, m, rfl⟩
        · rw [List.length_map]; exact e1
        · rw [List.length_map]; exact em
      · exact ⟨rfl, 0, rfl⟩
    · obtain ⟨rfl, c, rfl⟩ := hm
      refine ⟨fun σ' H'' => H'' = H' ∧ ∃ d : Int, 0 ≤ d ∧ σ' = [some (.ref a), some (.int i), some (.int c), some (.int d)], ?_, fun σ' H'' hm => ?_⟩
      · refine ⟨.int c, rfl, _, _, rfl, rfl, ⟨by decide, by decide, by decide⟩, _, _, rfl, rfl, _, rfl, ite2 (fun e => ?_) (fun e => iteF ⟨rfl, 0, by decide, rfl⟩)⟩
        have e1 : ((10 : Int) ^ (18 : Int).toNat) ≤ c := of_decide_eq_true e
        refine ⟨.int i, rfl, .ref a, rfl, a, ns.map V.int, rfl, .inl hS, _, _, rfl, rfl, _, rfl, ite2 (fun e => ?_) (fun e => ⟨rfl, 0, by decide, rfl⟩)⟩
        exact ⟨.int c, rfl, rfl, c, Int.le_trans (by decide) e1, rfl⟩
      · obtain ⟨rfl, d, d0, rfl⟩ := hm
        refine ⟨.int d, rfl, .int i, rfl, _, _, rfl, rfl, .inl ⟨by decide, by decide⟩, .int c, rfl, by show (3 : Nat) ≤ sizeLine; decide, fun p np => q p _ np ⟨d, 1000 * i, c, rfl, d0, by omega, by omega⟩⟩


theorem ok_take (T : Tx K mg) : FnOk P w K mg base CX0 1 T.f_take T.fd_take P_take (spTake) := by
  have sz : sizeLine = 16777216 := sizeLine_eq
  refine T.D_take.F.ok sc_take (fun vs H Q E h => ?_) (fun cdv A outer s H vs Q E hr h => ?_)
  · obtain ⟨p, n, wd, o, rfl, _⟩ := h
    rfl
  · obtain ⟨p, n, wd, o, rfl, hp, ⟨d, c, x, rfl, d0, c0, cn⟩, n9, w0, w1, q⟩ := h
    refine ⟨_, (pss_cons (ps_if (pt_cmpR op_gt (pe_ix ix_list (pv 0) pe_int (fun _ _ => rfl)) pe_int (nomark _)) (pss_cons (ps_set (i := 2) sc_take.nd rfl (.inl rfl) (pe_op op_mod (pe_ix ix_list (pv 0) pe_int (fun _ _ => rfl)) (pv 1)))
      (pss_cons (ps_asg (pe_op op_fdiv (pe_ix ix_list (pv 0) pe_int (fun _ _ => rfl)) (pv 1)) (pg_sub (pv 0) pe_int set_list))
      (pss_one (ps_ret (pv 2))))) pss_nil)
      (pss_cons (ps_asg (pe_op op_add (pe_ix ix_list (pv 0) pe_int (fun _ _ => rfl)) pe_int) (pg_sub (pv 0) pe_int set_list))
      (pss_cons (ps_set (i := 3) sc_take.nd rfl (.inl rfl) (pe_op op_mod (pe_op op_pow (pe_op op_add (pe_op op_mod (pe_ix ix_list (pv 0) pe_int (fun _ _ => rfl)) pe_int) (pe_op op_mul pe_int (pe_ix ix_list (pv 0) pe_int (fun _ _ => rfl)))) pe_int) pe_int))
      (pss_cons (ps_set (i := 3) sc_take.nd rfl (.inl rfl) (pe_op op_add (pe_op op_mul (pv 3) pe_int) (pe_op op_mul (pe_op op_mul (pe_ix ix_list (pv 0) pe_int (fun _ _ => rfl)) (pe_ix ix_list (pv 0) pe_int (fun _ _ => rfl))) pe_int)))
      (pss_one (ps_ret (pe_op op_mod (pe_op op_fdiv (pe_op op_mod (pe_op op_add (pv 3) (pe_op op_fdivW (pe_ix ix_list (pv 0) pe_int (fun _ _ => rfl)) pe_int)) pe_int) pe_int) (pv 1)))))))), ?_⟩
    have S0 : SqL K H p [.int d, .int c, .int x] := sq_at hp
    refine ⟨.ref p, rfl, p, _, 0, .int d, rfl, rfl, S0, rfl, d, 0, rfl, rfl, _, rfl, ite2 (fun e => ?_) (fun e => ?_)⟩
    · refine ⟨.ref p, rfl, p, _, 0, .int d, rfl, rfl, S0, rfl, .int wd, rfl, d, wd, rfl, rfl, w0, ?_⟩
      refine ⟨.ref p, rfl, p, _, 0, .int d, rfl, rfl, S0, rfl, .int wd, rfl, d, wd, rfl, rfl, ⟨w0, w1⟩, ?_⟩
      refine ⟨.ref p, rfl, p, _, 0, 0, rfl, rfl, hp, rfl, .int (d % wd), rfl, ?_⟩
      exact q _ _ (Int.emod_nonneg _ (by omega)) (Int.emod_lt_of_pos _ w0) ⟨d / wd, c, x, rfl, Int.ediv_nonneg d0 (by omega), c0, by omega⟩
    · refine ⟨.ref p, rfl, p, _, 1, .int c, rfl, rfl, S0, rfl, c, 1, rfl, rfl, .ref p, rfl, p, _, 1, 1, rfl, rfl, hp, rfl, ?_⟩
      have S1 : SqL K (upd H p (.lst [.int d, .int (c + 1), .int x])) p [.int d, .int (c + 1), .int x] := sq_new
      have y0 : 0 ≤ x % 2147483647 := Int.emod_nonneg _ (by decide)
      have y1 : x % 2147483647 < 2147483647 := Int.emod_lt_of_pos _ (by decide)
      refine ⟨.ref p, rfl, p, _, 2, .int x, rfl, rfl, S1, rfl, x, _, rfl, rfl, by show (0 : Int) < 2147483647; decide, .ref p, rfl, p, _, 1, .int (c + 1), rfl, rfl, S1, rfl, 40503, c + 1, rfl, rfl, .inl ⟨by decide, by decide⟩, _, _, rfl, rfl, _, 5, rfl, rfl, ⟨by decide, by decide, ?_⟩, _, 2147483647, rfl, rfl, by show (0 : Int) < 2147483647; decide, ?_⟩
      · show (x % 2147483647 + 40503 * (c + 1)).natAbs < 18446744073709551616
        omega
      · refine ⟨_, rfl, _, 48271, rfl, rfl, .inr ⟨by decide, by decide⟩, .ref p, rfl, p, _, 1, .int (c + 1), rfl, rfl, S1, rfl, .ref p, rfl, p, _, 1, .int (c + 1), rfl, rfl, S1, rfl, c + 1, c + 1, rfl, rfl, .inl ⟨by omega, by omega⟩, _, 39373, rfl, rfl, .inr ⟨by decide, by decide⟩, _, _, rfl, rfl, ?_⟩
        refine ⟨_, rfl, .ref p, rfl, p, _, 2, .int x, rfl, rfl, S1, rfl, x, _, rfl, rfl, wide_div (b := 32) (by decide) (by decide) (by decide) (by decide), _, _, rfl, rfl, _, _, rfl, rfl, by show (0 : Int) < 1000000007; decide, _, 16, rfl, rfl, ⟨by decide, by decide⟩, .int wd, rfl, _, wd, rfl, rfl, w0, ?_⟩
        exact q _ _ (Int.emod_nonneg _ (by omega)) (Int.emod_lt_of_pos _ w0) ⟨d, c + 1, x, rfl, d0, by omega, by omega⟩


theorem ok_recs (T : Tx K mg) : FnOk P w K mg base CX0 1 T.f_recs T.fd_recs P_recs (spRecs K) := by
  have sz : sizeLine = 16777216 := sizeLine_eq
  refine T.D_recs.F.ok sc_recs (fun vs H Q E h => ?_) (fun cdv A outer s H vs Q E hr h => ?_)
  · obtain ⟨a, row, rfl, _⟩ := h
    rfl
  · obtain ⟨a, row, rfl, hA, lr, hB, q⟩ := h
    refine ⟨_, (pss_cons (ps_set (i := 1) sc_recs.nd rfl (.inl rfl) (pe_lst pa_nil))
      (pss_cons (ps_set (i := 2) sc_recs.nd rfl (.inl rfl) pe_int)
      (pss_cons (ps_while PassesOwn.never (pt_cmpR op_lt (pv 2) (pe_callB call_len_seq (by rfl) T.m_len PySem.boot_len (pa_cons (pv 0) pa_nil)) (nomark _)) (pss_cons (ps_set (i := 3) sc_recs.nd rfl (.inl rfl) (pe_op op_add (pv 2) (pe_ix ix_list (pv 0) (pv 2) (fun _ _ => rfl))))
      (pss_cons (ps_if (PW.pt (pw_or (pt_not (pt_chain op_le op_le pe_int (pe_ix ix_list (pv 0) (pv 2) (fun _ _ => rfl)) (pe_op op_add (pe_glob (v := .int 200) (by rfl) T.c_LONGEST_RECORD ⟨_, rfl⟩) pe_int))) (pw_or1 (pt_cmpR op_gt (pv 3) (pe_callB call_len_seq (by rfl) T.m_len PySem.boot_len (pa_cons (pv 0) pa_nil)) (nomark _))))) (pss_one (ps_ret (pe_tup (pa_cons (pv 1) (pa_cons (pv 2) pa_nil))))) pss_nil)
      (pss_cons (ps_expr (pe_bm PySem.F.plainAttrs_list PySem.F.slot_list_append PySem.F.type_list_append mt_append (pv 1) (pa_cons (pe_slice sl_list (pv 0) (po_some (pe_op op_add (pv 2) pe_int)) (po_some (pv 3))) pa_nil)))
      (pss_one (ps_set (i := 2) sc_recs.nd rfl (.inl rfl) (pv 3)))))))
      (pss_one (ps_ret (pe_tup (pa_cons (pv 1) (pa_cons pe_non pa_nil)))))))), ?_⟩
    refine ⟨Nat.zero_le _, fun l nl => ?_⟩
    have s0 := (Kp.new (ps := []) (o := HO.lst []) nl).same
    refine while_by (fun σ H' => ∃ (p f : Nat) (qs : List Addr) (acc : List (List Int)) (y : Option V), σ = [some (.ref a), some (.ref l), some (.int p), y] ∧ row.length + 1 ≤ p + f ∧ qs.length ≤ p ∧ recT row = (acc ++ (recF row f p).1, (recF row f p).2) ∧ H' l = some (.lst (qs.map V.ref)) ∧ Prs H' qs acc ∧ (∀ q ∈ qs, H q = none ∧ q ≠ l) ∧ Same H H' ∧ p ≤ row.length) (fun (σ : L2.St) (_ : Hp) => row.length - (match (σ[2]? : Option (Option V)) with | some (some (V.int i)) => i.toNat | _ => 0)) ⟨0, row.length + 1, [], [], none, rfl, by omega, Nat.le_refl _, rfl, upd_same, trivial, (fun q h => nomatch h), s0, Nat.zero_le _⟩ (fun σ H' hW => ?_) ?_
    · obtain ⟨p, f, qs, acc, y, rfl, hf, hq, inv, el, hp, fr, sm, pl⟩ := hW
      refine ⟨.int p, rfl, .ref a, rfl, a, _, rfl, .inl (sm.seq hA), _, _, rfl, rfl, _, rfl, ?_⟩
      rw [List.length_map]
      have fin : recF row f p = ([], none) ∨ recF row f p = ([], some p) → ∀ (o : Option Nat) (t : Addr), recF row f p = ([], o) → H' t = none → Q (.ref t) (upd H' t (.tup [.ref l, oV o])) := fun _ o t e nt => by
        have lt : l ≠ t := ne_of_none el nt
        have qt : ∀ q ∈ qs, q ≠ t := fun q m => by
          obtain ⟨r, _, er⟩ := hp.mem m
          exact ne_of_none er nt
        rw [e] at inv
        refine q _ t l qs (sm.free nt) nl (fun q m => ⟨(fr q m).1, (fr q m).2, qt q m⟩) lt ⟨by rw [upd_same, inv], by rw [upd_ne lt]; exact el, ?_⟩ (sm.trans (Kp.new (ps := []) nt).same)
        rw [inv, List.append_nil]
        exact hp.put (fun m => qt t m rfl)
      by_cases h : p < row.length
      · rw [decide_eq_true (by omega : (p : Int) < (row.length : Int))]
        refine iteT ?_
        obtain ⟨f, rfl⟩ : ∃ g, f = g + 1 := ⟨f - 1, by omega⟩
        have eb : row[p]? = some row[p] := List.getElem?_eq_getElem h
        have ea : atI (row.map V.int) (p : Int) = some (.int (row[p])) := atI_nat (by rw [List.getElem?_map, eb]; rfl)
        have hbb := hB row[p] (List.getElem_mem h)
        refine ⟨.int p, rfl, .ref a, rfl, .int p, rfl, a, _, _, .int (row[p]), rfl, rfl, sm.seq hA, ea, _, _, rfl, rfl, ?_⟩
        have ret : badF row p row[p] → ∀ t, H' t = none → Q (.ref t) (upd H' t (.tup [.ref l, .int p])) := fun bad t nt => by
          have e := recF_bad (f := f) eb bad
          exact fin (.inr e) (some p) t e nt
        refine ⟨.ref a, rfl, .int p, rfl, a, _, _, .int (row[p]), rfl, rfl, sm.seq hA, ea, _, _, rfl, rfl, _, rfl, ite2 (fun e1 => ?_) (fun e1 => ?_)⟩
        · have e1 := of_decide_eq_true e1
          refine ⟨_, _, rfl, rfl, _, _, rfl, rfl, _, rfl, ?_⟩
          refine ite2 (fun e2 => ?_) (fun e2 => ?_)
          · exact ⟨.ref l, rfl, .int p, rfl, by show (2 : Nat) ≤ sizeLine; omega, ret (.inl (by simp at e2; omega))⟩
          refine ⟨_, rfl, .ref a, rfl, a, _, rfl, .inl (sm.seq hA), _, _, rfl, rfl, _, rfl, ite2 (fun e3 => ?_) (fun e3 => ?_)⟩
          · exact ⟨.ref l, rfl, .int p, rfl, by show (2 : Nat) ≤ sizeLine; omega, ret (.inr (by rw [List.length_map] at e3; simpa using e3))⟩
          have good : ¬ badF row p row[p] := fun z => by
            unfold badF at z
            rw [List.length_map] at e3
            simp at e2 e3
            omega
          have e := recF_go (f := f) eb good
          have g := good
          unfold badF at g
          obtain ⟨m, hm⟩ := Int.eq_ofNat_of_zero_le hbb.1
          refine ⟨.ref l, rfl, .inl ⟨rfl, _, sq_at el⟩, .ref a, rfl, .int p, rfl, _, _, rfl, rfl, _, rfl, .int ((p : Int) + row[p]), rfl, _, rfl, a, _, rfl, sm.seq hA, fun u nu => ?_⟩
          have lu : l ≠ u := ne_of_none el nu
          rw [hm] at e eb g
          rw [Int.toNat_natCast] at e
          rw [show ((p : Int) + row[p]) = ((p + 1 + (m - 1) : Nat) : Int) by omega, show ((p : Int) + 1) = ((p + 1 : Nat) : Int) by omega, mid_cut]
          refine ⟨l, qs.map V.ref, .ref u, rfl, rfl, by rw [upd_ne lu]; exact el, by rw [List.length_map]; omega, ?_⟩
          have s2 : Same H (upd (upd H' u (.lst (((row.drop (p + 1)).take (m - 1)).map V.int))) l (.lst (qs.map V.ref ++ [.ref u]))) := put_same (sm.trans (Kp.new (ps := []) nu).same) nl
          refine ⟨_, rfl, ?_⟩
          refine ⟨⟨p + m, f, qs ++ [u], acc ++ [(row.drop (p + 1)).take (m - 1)], some (.int ((p + m : Nat) : Int)), by show ([some (.ref a), some (.ref l), some (.int ((p : Int) + row[p])), some (.int ((p : Int) + row[p]))] : List (Option V)) = _; rw [show (p : Int) + row[p] = ((p + m : Nat) : Int) by omega], by omega, by rw [List.length_append]; show qs.length + 1 ≤ _; omega, ?_, by rw [upd_same, List.map_append]; rfl, ?_, ?_, s2, by omega⟩, ?_⟩
          · rw [inv, e, List.append_assoc]; rfl
          · have up : u ∉ qs := fun z => by
              obtain ⟨r, _, er⟩ := hp.mem z
              exact ne_of_none er nu rfl
            refine Prs.snoc (by rw [upd_ne lu.symm, upd_same]) (Prs.put (fun z => (fr l z).2 rfl) (Prs.put up hp))
          · intro x hx
            rcases List.mem_append.mp hx with hx | hx
            · exact fr x hx
            · rw [List.mem_singleton.mp hx]; exact ⟨sm.free nu, lu.symm⟩
          · show row.length - ((p : Int) + row[p]).toNat < row.length - ((p : Int)).toNat
            omega
        · exact ⟨_, rfl, iteT ⟨.ref l, rfl, .int p, rfl, by show (2 : Nat) ≤ sizeLine; omega, ret (.inl (by simp at e1; omega))⟩⟩
      · rw [decide_eq_false (by omega : ¬ ((p : Int) < (row.length : Int)))]
        refine iteF ?_
        refine ⟨.ref l, rfl, by show (2 : Nat) ≤ sizeLine; omega, fun t nt => ?_⟩
        have e := recF_end (f := f) (List.getElem?_eq_none (l := row) (i := p) (by omega))
        exact fin (.inl e) none t e nt
    · rintro σ H' Q1 Q2 hq ⟨x, e1, y, e2, b, ys, e3, h3, i, j, e4, e5, k, e6, h⟩
      exact ⟨x, e1, y, e2, b, ys, e3, h3, i, j, e4, e5, k, e6, hq _ _ h⟩

theorem ok_due (T : Tx K mg) : FnOk P w K mg base CX0 1 T.f_due T.fd_due P_due (spRecs K) := by
  have sz : sizeLine = 16777216 := sizeLine_eq
  refine T.D_due.F.ok sc_due (fun vs H Q E h => ?_) (fun cdv A outer s H vs Q E hr h => ?_)
  · obtain ⟨a, row, rfl, _⟩ := h
    rfl
  · obtain ⟨a, row, rfl, hA, lr, hB, q⟩ := h
    refine ⟨_, (pss_cons (ps_set (i := 1) sc_due.nd rfl (.inl rfl) (pe_lst pa_nil))
      (pss_cons (ps_set (i := 2) sc_due.nd rfl (.inl rfl) pe_int)
      (pss_cons (ps_while PassesOwn.never (pt_cmpR op_lt (pv 2) (pe_callB call_len_seq (by rfl) T.m_len PySem.boot_len (pa_cons (pv 0) pa_nil)) (nomark _)) (pss_cons (ps_if (PW.pt (pw_or (pt_cmpR op_lt (pe_ix ix_list (pv 0) (pv 2) (fun _ _ => rfl)) pe_int (nomark _)) (pw_or (pt_cmpR op_gt (pe_ix ix_list (pv 0) (pv 2) (fun _ _ => rfl)) pe_int (nomark _)) (pw_or1 (pt_cmpR op_gt (pe_op op_add (pv 2) (pe_ix ix_list (pv 0) (pv 2) (fun _ _ => rfl))) (pe_callB call_len_seq (by rfl) T.m_len PySem.boot_len (pa_cons (pv 0) pa_nil)) (nomark _)))))) (pss_one (ps_ret (pe_tup (pa_cons (pv 1) (pa_cons (pv 2) pa_nil))))) pss_nil)
      (pss_cons (ps_expr (pe_bm PySem.F.plainAttrs_list PySem.F.slot_list_append PySem.F.type_list_append mt_append (pv 1) (pa_cons (pe_slice sl_list (pv 0) (po_some (pe_op op_add (pv 2) pe_int)) (po_some (pe_op op_add (pv 2) (pe_ix ix_list (pv 0) (pv 2) (fun _ _ => rfl))))) pa_nil)))
      (pss_one (ps_set (i := 2) sc_due.nd rfl (.inl rfl) (pe_op op_add (pv 2) (pe_ix ix_list (pv 0) (pv 2) (fun _ _ => rfl))))))))
      (pss_one (ps_ret (pe_tup (pa_cons (pv 1) (pa_cons pe_non pa_nil)))))))), ?_⟩
    refine ⟨Nat.zero_le _, fun l nl => ?_⟩
    have s0 := (Kp.new (ps := []) (o := HO.lst []) nl).same
    refine while_by (fun σ H' => ∃ (p f : Nat) (qs : List Addr) (acc : List (List Int)) (_ : Unit), σ = [some (.ref a), some (.ref l), some (.int p)] ∧ row.length + 1 ≤ p + f ∧ qs.length ≤ p ∧ recT row = (acc ++ (recF row f p).1, (recF row f p).2) ∧ H' l = some (.lst (qs.map V.ref)) ∧ Prs H' qs acc ∧ (∀ q ∈ qs, H q = none ∧ q ≠ l) ∧ Same H H' ∧ p ≤ row.length) (fun (σ : L2.St) (_ : Hp) => row.length - (match (σ[2]? : Option (Option V)) with | some (some (V.int i)) => i.toNat | _ => 0)) ⟨0, row.length + 1, [], [], (), rfl, by omega, Nat.le_refl _, rfl, upd_same, trivial, (fun q h => nomatch h), s0, Nat.zero_le _⟩ (fun σ H' hW => ?_) ?_
    · obtain ⟨p, f, qs, acc, y, rfl, hf, hq, inv, el, hp, fr, sm, pl⟩ := hW
      refine ⟨.int p, rfl, .ref a, rfl, a, _, rfl, .inl (sm.seq hA), _, _, rfl, rfl, _, rfl, ?_⟩
      rw [List.length_map]
      have fin : recF row f p = ([], none) ∨ recF row f p = ([], some p) → ∀ (o : Option Nat) (t : Addr), recF row f p = ([], o) → H' t = none → Q (.ref t) (upd H' t (.tup [.ref l, oV o])) := fun _ o t e nt => by
        have lt : l ≠ t := ne_of_none el nt
        have qt : ∀ q ∈ qs, q ≠ t := fun q m => by
          obtain ⟨r, _, er⟩ := hp.mem m
          exact ne_of_none er nt
        rw [e] at inv
        refine q _ t l qs (sm.free nt) nl (fun q m => ⟨(fr q m).1, (fr q m).2, qt q m⟩) lt ⟨by rw [upd_same, inv], by rw [upd_ne lt]; exact el, ?_⟩ (sm.trans (Kp.new (ps := []) nt).same)
        rw [inv, List.append_nil]
        exact hp.put (fun m => qt t m rfl)
      by_cases h : p < row.length
      · rw [decide_eq_true (by omega : (p : Int) < (row.length : Int))]
        refine iteT ?_
        obtain ⟨f, rfl⟩ : ∃ g, f = g + 1 := ⟨f - 1, by omega⟩
        have eb : row[p]? = some row[p] := List.getElem?_eq_getElem h
        have ea : atI (row.map V.int) (p : Int) = some (.int (row[p])) := atI_nat (by rw [List.getElem?_map, eb]; rfl)
        have hbb := hB row[p] (List.getElem_mem h)
        have ret : badF row p row[p] → ∀ t, H' t = none → Q (.ref t) (upd H' t (.tup [.ref l, .int p])) := fun bad t nt => by
          have e := recF_bad (f := f) eb bad
          exact fin (.inr e) (some p) t e nt
        refine ⟨.ref a, rfl, .int p, rfl, a, _, _, .int (row[p]), rfl, rfl, sm.seq hA, ea, _, _, rfl, rfl, _, rfl, ite2 (fun e1 => ?_) (fun e1 => ?_)⟩
        · exact iteT ⟨.ref l, rfl, .int p, rfl, by show (2 : Nat) ≤ sizeLine; omega, ret (.inl (by simp at e1; omega))⟩
        refine ⟨.ref a, rfl, .int p, rfl, a, _, _, .int (row[p]), rfl, rfl, sm.seq hA, ea, _, _, rfl, rfl, _, rfl, ite2 (fun e2 => ?_) (fun e2 => ?_)⟩
        · exact iteT ⟨.ref l, rfl, .int p, rfl, by show (2 : Nat) ≤ sizeLine; omega, ret (.inl (by simp at e2; omega))⟩
        refine ⟨.int p, rfl, .ref a, rfl, .int p, rfl, a, _, _, .int (row[p]), rfl, rfl, sm.seq hA, ea, _, _, rfl, rfl, .ref a, rfl, a, _, rfl, .inl (sm.seq hA), _, _, rfl, rfl, _, rfl, ite2 (fun e3 => ?_) (fun e3 => ?_)⟩
        · exact ⟨.ref l, rfl, .int p, rfl, by show (2 : Nat) ≤ sizeLine; omega, ret (.inr (by rw [List.length_map] at e3; simpa using e3))⟩
        · have good : ¬ badF row p row[p] := fun z => by
            unfold badF at z
            rw [List.length_map] at e3
            simp at e1 e2 e3
            omega
          have e := recF_go (f := f) eb good
          have g := good
          unfold badF at g
          obtain ⟨m, hm⟩ := Int.eq_ofNat_of_zero_le hbb.1
          refine ⟨.ref l, rfl, .inl ⟨rfl, _, sq_at el⟩, .ref a, rfl, .int p, rfl, _, _, rfl, rfl, _, rfl, .int p, rfl, .ref a, rfl, .int p, rfl, a, _, _, .int (row[p]), rfl, rfl, sm.seq hA, ea, _, _, rfl, rfl, _, rfl, a, _, rfl, sm.seq hA, fun u nu => ?_⟩
          have lu : l ≠ u := ne_of_none el nu
          rw [hm] at e eb g
          rw [Int.toNat_natCast] at e
          rw [show ((p : Int) + row[p]) = ((p + 1 + (m - 1) : Nat) : Int) by omega, show ((p : Int) + 1) = ((p + 1 : Nat) : Int) by omega, mid_cut]
          refine ⟨l, qs.map V.ref, .ref u, rfl, rfl, by rw [upd_ne lu]; exact el, by rw [List.length_map]; omega, ?_⟩
          have s2 : Same H (upd (upd H' u (.lst (((row.drop (p + 1)).take (m - 1)).map V.int))) l (.lst (qs.map V.ref ++ [.ref u]))) := put_same (sm.trans (Kp.new (ps := []) nu).same) nl
          refine ⟨.int p, rfl, .ref a, rfl, .int p, rfl, a, _, _, .int (row[p]), rfl, rfl, s2.seq hA, ea, _, _, rfl, rfl, ?_⟩
          refine ⟨⟨p + m, f, qs ++ [u], acc ++ [(row.drop (p + 1)).take (m - 1)], (), by show ([some (.ref a), some (.ref l), some (.int ((p : Int) + row[p]))] : List (Option V)) = _; rw [show (p : Int) + row[p] = ((p + m : Nat) : Int) by omega], by omega, by rw [List.length_append]; show qs.length + 1 ≤ _; omega, ?_, by rw [upd_same, List.map_append]; rfl, ?_, ?_, s2, by omega⟩, ?_⟩
          · rw [inv, e, List.append_assoc]; rfl
          · have up : u ∉ qs := fun z => by
              obtain ⟨r, _, er⟩ := hp.mem z
              exact ne_of_none er nu rfl
            refine Prs.snoc (by rw [upd_ne lu.symm, upd_same]) (Prs.put (fun z => (fr l z).2 rfl) (Prs.put up hp))
          · intro x hx
            rcases List.mem_append.mp hx with hx | hx
            · exact fr x hx
            · rw [List.mem_singleton.mp hx]; exact ⟨sm.free nu, lu.symm⟩
          · show row.length - ((p : Int) + row[p]).toNat < row.length - ((p : Int)).toNat
            omega
      · rw [decide_eq_false (by omega : ¬ ((p : Int) < (row.length : Int)))]
        refine iteF ?_
        refine ⟨.ref l, rfl, by show (2 : Nat) ≤ sizeLine; omega, fun t nt => ?_⟩
        have e := recF_end (f := f) (List.getElem?_eq_none (l := row) (i := p) (by omega))
        exact fin (.inl e) none t e nt
    · rintro σ H' Q1 Q2 hq ⟨x, e1, y, e2, b, ys, e3, h3, i, j, e4, e5, k, e6, h⟩
      exact ⟨x, e1, y, e2, b, ys, e3, h3, i, j, e4, e5, k, e6, hq _ _ h⟩

theorem ok_entry (T : Tx K mg) : FnOk P w K mg base CX0 2 T.f_entry T.fd_entry P_entry (spEntry) := by
  have G_take := ok_take (P := P) (w := w) (base := base) T
  have sz : sizeLine = 16777216 := sizeLine_eq
  refine T.D_entry.F.ok sc_entry (fun vs H Q E h => ?_) (fun cdv A outer s H vs Q E hr h => ?_)
  · obtain ⟨p, m, n, o, rfl, _⟩ := h
    rfl
  · obtain ⟨p, m, n, o, rfl, hp, hP, n9, m0, m1, q⟩ := h
    refine ⟨_, (pss_cons (ps_set (i := 2) sc_entry.nd rfl (.inl rfl) (pe_callB (call_min2 rfl) (by rfl) T.m_min (by decide +kernel) (pa_cons (pv 1) (pa_cons (pe_ix ix_list (pe_lst (pa_cons pe_int (pa_cons pe_int (pa_cons pe_int (pa_cons pe_int (pa_cons pe_int (pa_cons pe_int (pa_cons pe_int (pa_cons pe_int (pa_cons pe_int (pa_cons pe_int pa_nil))))))))))) (pe_call G_take (hr.mono (by decide)) (by rfl) T.D_take.g T.D_take.F.kp T.bb_take .nil pass0 (pa_cons (pv 0) (pa_cons pe_int pa_nil))) (fun _ _ => rfl)) pa_nil))))
      (pss_cons (ps_set (i := 3) sc_entry.nd rfl (.inl rfl) (pe_lst pa_nil))
      (pss_cons (ps_for PassesOwn.never rfl (pi_range1 (by rfl) T.m_range (pa_cons (pv 2) pa_nil)) (pg_name (i := 4) sc_entry.nd rfl (.inl rfl)) (pss_one (ps_if (pt_cmpR op_eq (pe_call G_take (hr.mono (by decide)) (by rfl) T.D_take.g T.D_take.F.kp T.bb_take .nil pass0 (pa_cons (pv 0) (pa_cons pe_int pa_nil))) pe_int (nomark _)) (pss_one (ps_expr (pe_bm PySem.F.plainAttrs_list PySem.F.slot_list_append PySem.F.type_list_append mt_append (pv 3) (pa_cons (pe_ix ix_list (pe_lst (pa_cons pe_int (pa_cons pe_int (pa_cons pe_int (pa_cons pe_int pa_nil))))) (pe_call G_take (hr.mono (by decide)) (by rfl) T.D_take.g T.D_take.F.kp T.bb_take .nil pass0 (pa_cons (pv 0) (pa_cons pe_int pa_nil))) (fun _ _ => rfl)) pa_nil)))) (pss_one (ps_expr (pe_bm PySem.F.plainAttrs_list PySem.F.slot_list_append PySem.F.type_list_append mt_append (pv 3) (pa_cons (pe_call G_take (hr.mono (by decide)) (by rfl) T.D_take.g T.D_take.F.kp T.bb_take .nil pass0 (pa_cons (pv 0) (pa_cons pe_int pa_nil))) pa_nil)))))))
      (pss_one (ps_ret (pv 3)))))), ?_⟩
    refine ⟨.int m, rfl, by show (10 : Nat) ≤ sizeLine; omega, fun l0 nl0 => ?_⟩
    have pl0 : p ≠ l0 := ne_of_none hp nl0
    refine ⟨.ref p, rfl, p, n, 10, o, rfl, by rw [upd_ne pl0]; exact hp, hP, by omega, by decide, by decide, fun r o1 r0 r1 hP1 => ?_⟩
    obtain ⟨z, zm, ez, _⟩ := atI_int (ms := [0, 1, 2, 3, 5, 9, 17, 40, 60, 200]) (i := r) r0 r1
    have zb : 0 ≤ z ∧ z ≤ 200 := (show ∀ y ∈ ([0, 1, 2, 3, 5, 9, 17, 40, 60, 200] : List Int), 0 ≤ y ∧ y ≤ 200 by decide) z zm
    refine ⟨l0, _, r, .int z, rfl, rfl, .inl (.inl (by rw [upd_ne pl0.symm, upd_same]; rfl)), ez, _, _, rfl, ?_⟩
    have kk : ∃ c : Int, c ≤ 200 ∧ -5 ≤ c ∧ (if z < m then z else m) = c := ⟨_, by split <;> omega, by split <;> omega, rfl⟩
    obtain ⟨c, c1, c0, ec⟩ := kk
    rw [ec]
    have k1 : Kp [p] H (upd (upd H l0 (.lst [.int 0, .int 1, .int 2, .int 3, .int 5, .int 9, .int 17, .int 40, .int 60, .int 200])) p o1) := (Kp.new nl0).trans (Kp.at (by simp))
    have ep1 : (upd (upd H l0 (.lst [.int 0, .int 1, .int 2, .int 3, .int 5, .int 9, .int 17, .int 40, .int 60, .int 200])) p o1) p = some o1 := upd_same
    generalize upd (upd H l0 (.lst [.int 0, .int 1, .int 2, .int 3, .int 5, .int 9, .int 17, .int 40, .int 60, .int 200])) p o1 = H1 at k1 ep1 ⊢
    refine ⟨Nat.zero_le _, fun a na => ?_⟩
    have pa : p ≠ a := ne_of_none ep1 na
    have naH : H a = none := k1.free (by simpa using pa.symm) na
    refine ⟨.int c, rfl, c, rfl, by omega, by omega, for_range (lo := 0) (n := c.toNat) (fun i σ H' => ∃ (bs : List Int) (o2 : HO) (y : Option V), σ = [some (.ref p), some (.int m), some (.int c), some (.ref a), y] ∧ H' a = some (.lst (bs.map V.int)) ∧ bs.length = i ∧ Byt bs ∧ H' p = some o2 ∧ PoolO (n + 1 + 2 * i) o2 ∧ Kp [p] H H') ?_ (fun i σ H' hi hW => ?_) (fun σ H' hW => ?_)⟩
    · exact ⟨[], o1, none, rfl, upd_same, rfl, (fun b hb => nomatch hb), by rw [upd_ne pa]; exact ep1, hP1.up (by omega), k1.trans (Kp.new na)⟩
    · obtain ⟨bs, o2, y, rfl, ea, eb, hb, ep, hP2, kk⟩ := hW
      have fit : (bs.map V.int).length < sizeLine := by rw [List.length_map]; omega
      refine ⟨.ref p, rfl, p, _, 4, o2, rfl, ep, hP2, by omega, by decide, by decide, fun r2 o3 s0 s1 hP3 => ?_⟩
      have ea3 : (upd H' p o3) a = some (.lst (bs.map V.int)) := by rw [upd_ne pa.symm]; exact ea
      have k3 : Kp [p] H (upd H' p o3) := kk.trans (Kp.at (by simp))
      refine ⟨rfl, _, rfl, ite2 (fun e => ?_) (fun e => ?_)⟩
      · refine ⟨.ref a, rfl, .inl ⟨rfl, _, sq_at ea3⟩, by show (4 : Nat) ≤ sizeLine; omega, fun l2 nl2 => ?_⟩
        have pl2 : p ≠ l2 := ne_of_none (upd_same : (upd H' p o3) p = some o3) nl2
        have al2 : a ≠ l2 := ne_of_none ea3 nl2
        refine ⟨.ref p, rfl, p, _, 4, o3, rfl, by rw [upd_ne pl2]; exact upd_same, hP3, by omega, by decide, by decide, fun r3 o4 t0 t1 hP4 => ?_⟩
        obtain ⟨v, mv, ev, _⟩ := atI_int (ms := [0, 1, 201, 255]) (i := r3) t0 t1
        have vb : 0 ≤ v ∧ v ≤ 255 := (show ∀ y ∈ ([0, 1, 201, 255] : List Int), 0 ≤ y ∧ y ≤ 255 by decide) v mv
        refine ⟨l2, _, r3, .int v, rfl, rfl, .inl (.inl (by rw [upd_ne pl2.symm, upd_same]; rfl)), ev, a, bs.map V.int, .int v, rfl, rfl, by rw [upd_ne pa.symm, upd_ne al2]; exact ea3, fit, ?_⟩
        exact ⟨bs ++ [v], o4, _, rfl, by rw [upd_same, List.map_append]; rfl, by rw [List.length_append, eb]; rfl, byt_app hb (byt_one vb.1 vb.2), by rw [upd_ne pa]; exact upd_same, hP4.up (by omega), ((k3.trans (Kp.new nl2)).trans (Kp.at (by simp))).put naH⟩
      · refine ⟨.ref a, rfl, .inl ⟨rfl, _, sq_at ea3⟩, .ref p, rfl, p, _, 256, o3, rfl, upd_same, hP3, by omega, by decide, by decide, fun v o4 t0 t1 hP4 => ?_⟩
        refine ⟨a, bs.map V.int, .int v, rfl, rfl, by rw [upd_ne pa.symm]; exact ea3, fit, ?_⟩
        exact ⟨bs ++ [v], o4, _, rfl, by rw [upd_same, List.map_append]; rfl, by rw [List.length_append, eb]; rfl, byt_app hb (byt_one t0 (by omega)), by rw [upd_ne pa]; exact upd_same, hP4.up (by omega), (k3.trans (Kp.at (by simp))).put naH⟩
    · obtain ⟨bs, o2, y, rfl, ea, eb, hb, ep, hP2, kk⟩ := hW
      exact ⟨.ref a, rfl, q H' a bs o2 naH ea ep (hP2.up (by omega)) kk (by omega) hb⟩

theorem ok_frames (T : Tx K mg) : FnOk P w K mg base CX0 1 T.f_frames T.fd_frames P_frames (spFrames) := by
  have sz : sizeLine = 16777216 := sizeLine_eq
  refine T.D_frames.F.ok sc_frames (fun vs H Q E h => ?_) (fun cdv A outer s H vs Q E hr h => ?_)
  · obtain ⟨a, e, bs, rfl, _⟩ := h
    rfl
  · obtain ⟨a, e, bs, rfl, hA, hE, lb, q⟩ := h
    refine ⟨_, (pss_cons (ps_set (i := 1) sc_frames.nd rfl (.inl rfl) (pe_lst pa_nil))
      (pss_cons (ps_for PassesOwn.never rfl (pi_list (pv 0)) (pg_name (i := 2) sc_frames.nd rfl (.inl rfl)) (pss_one (ps_set (i := 1) sc_frames.nd rfl (.inl rfl) (pe_op op_cat (pe_op op_cat (pv 1) (pe_lst (pa_cons (pe_op op_add (pe_callB call_len_seq (by rfl) T.m_len PySem.boot_len (pa_cons (pv 2) pa_nil)) pe_int) pa_nil))) (pv 2)))))
      (pss_one (ps_ret (pv 1))))), ?_⟩
    refine ⟨Nat.zero_le _, fun f nf => ?_⟩
    have af : a ≠ f := ne_of_none hA nf
    have ef : e ≠ f := ne_of_none hE nf
    have s1 := (Kp.new (ps := []) (o := HO.lst []) nf).same
    refine ⟨.ref a, rfl, a, rfl, ⟨_, sq_at (s1 _ _ hA)⟩, ?_⟩
    refine for_list (K := K) (a := a) (xs := [.ref e]) (fun i σ H' => ∃ (g : Addr) (y : Option V), σ = [some (.ref a), some (.ref g), y] ∧ H g = none ∧ H' g = some (.lst ((if i = 0 then [] else ((bs.length + 1 : Int) :: bs)).map V.int)) ∧ Same H H') ⟨f, none, rfl, nf, upd_same, s1⟩ (fun i σ H' _ hW => ?_) (fun i x σ H' hx hW => ?_) (fun σ H' hW => ?_)
    · obtain ⟨g, y, _, _, _, s⟩ := hW
      exact sq_at (s _ _ hA)
    · obtain ⟨g, y, rfl, ng, eg, sm⟩ := hW
      obtain ⟨rfl, rfl⟩ : i = 0 ∧ x = .ref e := by
        match i, hx with
        | 0, hx => exact ⟨rfl, (Option.some.inj hx).symm⟩
      have hE' := sm _ _ hE
      refine ⟨.ref g, rfl, .ref e, rfl, e, _, rfl, .inl (sq_at hE'), _, _, rfl, rfl, by show (1 : Nat) ≤ sizeLine; omega, fun u nu => ?_⟩
      have gu : g ≠ u := ne_of_none eg nu
      have s2 := sm.trans (Kp.new (ps := []) (o := HO.lst [.int ((((bs.map V.int).length : Nat) : Int) + 1)]) nu).same
      refine ⟨g, u, [], _, rfl, rfl, by rw [upd_ne gu]; exact eg, upd_same, by show (1 : Nat) ≤ sizeLine; omega, fun v nv => ?_⟩
      have s3 := s2.trans (Kp.new (ps := []) (o := HO.lst [.int ((((bs.map V.int).length : Nat) : Int) + 1)]) nv).same
      refine ⟨.ref e, rfl, v, e, [.int ((((bs.map V.int).length : Nat) : Int) + 1)], _, rfl, rfl, by rw [upd_same]; rfl, s3 _ _ hE, by rw [List.length_map]; show 1 + _ ≤ _; omega, fun z nz => ?_⟩
      refine ⟨z, _, rfl, s3.free nz, by rw [upd_same, List.length_map]; rfl, s3.trans (Kp.new (ps := []) nz).same⟩
    · obtain ⟨g, y, rfl, ng, eg, sm⟩ := hW
      exact ⟨.ref g, rfl, q _ g ng eg sm⟩

theorem ok_lrow (T : Tx K mg) : FnOk P w K mg base CX0 3 T.f_lrow T.fd_lrow P_lrow (spLrow) := by
  have G_take := ok_take (P := P) (w := w) (base := base) T
  have G_entry := ok_entry (P := P) (w := w) (base := base) T
  have G_frames := ok_frames (P := P) (w := w) (base := base) T
  have sz : sizeLine = 16777216 := sizeLine_eq
  refine T.D_lrow.F.ok sc_lrow (fun vs H Q E h => ?_) (fun cdv A outer s H vs Q E hr h => ?_)
  · obtain ⟨p, n, o, rfl, _⟩ := h
    rfl
  · obtain ⟨p, n, o, rfl, hp, hP, n9, q⟩ := h
    refine ⟨_, (pss_cons (ps_set (i := 1) sc_lrow.nd rfl (.inl rfl) (pe_call G_take (hr.mono (by decide)) (by rfl) T.D_take.g T.D_take.F.kp T.bb_take .nil pass0 (pa_cons (pv 0) (pa_cons pe_int pa_nil))))
      (pss_cons (ps_set (i := 2) sc_lrow.nd rfl (.inl rfl) (pe_lst pa_nil))
      (pss_cons (ps_for PassesOwn.never rfl (pi_range1 (by rfl) T.m_range (pa_cons (pe_call G_take (hr.mono (by decide)) (by rfl) T.D_take.g T.D_take.F.kp T.bb_take .nil pass0 (pa_cons (pv 0) (pa_cons pe_int pa_nil))) pa_nil)) (pg_name (i := 3) sc_lrow.nd rfl (.inl rfl)) (pss_one (ps_set (i := 2) sc_lrow.nd rfl (.inl rfl) (pe_op op_cat (pv 2) (pe_slice sl_list (pe_call G_frames (hr.mono (by decide)) (by rfl) T.D_frames.g T.D_frames.F.kp T.bb_frames .nil pass0 (pa_cons (pe_lst (pa_cons (pe_call G_entry (hr.mono (by decide)) (by rfl) T.D_entry.g T.D_entry.F.kp T.bb_entry .nil pass0 (pa_cons (pv 0) (pa_cons (pe_op op_sub pe_int (pe_callB call_len_seq (by rfl) T.m_len PySem.boot_len (pa_cons (pv 2) pa_nil))) pa_nil))) pa_nil)) pa_nil)) po_none (po_some (pe_op op_sub pe_int (pe_callB call_len_seq (by rfl) T.m_len PySem.boot_len (pa_cons (pv 2) pa_nil)))))))))
      (pss_cons (ps_set (i := 4) sc_lrow.nd rfl (.inl rfl) (pe_call G_take (hr.mono (by decide)) (by rfl) T.D_take.g T.D_take.F.kp T.bb_take .nil pass0 (pa_cons (pv 0) (pa_cons (pe_op op_add (pe_callB call_len_seq (by rfl) T.m_len PySem.boot_len (pa_cons (pv 2) pa_nil)) pe_int) pa_nil))))
      (pss_cons (ps_set (i := 5) sc_lrow.nd rfl (.inl rfl) (pe_ix ix_list (pe_lst (pa_cons pe_int (pa_cons pe_int (pa_cons pe_int (pa_cons pe_int (pa_cons pe_int (pa_cons (pe_call G_take (hr.mono (by decide)) (by rfl) T.D_take.g T.D_take.F.kp T.bb_take .nil pass0 (pa_cons (pv 0) (pa_cons pe_int pa_nil))) pa_nil))))))) (pe_call G_take (hr.mono (by decide)) (by rfl) T.D_take.g T.D_take.F.kp T.bb_take .nil pass0 (pa_cons (pv 0) (pa_cons pe_int pa_nil))) (fun _ _ => rfl)))
      (pss_cons (ps_if (pt_cmpR op_eq (pv 1) pe_int (nomark _)) (pss_one (ps_ret (pe_slice sl_list (pv 2) po_none (po_some (pv 4))))) pss_nil)
      (C8.pss_cut (ps_if (PW.pt (pw_and (pt_cmpR op_eq (pv 1) pe_int (nomark _)) (pw_and1 (pt_cmpR op_lt (pv 4) (pe_callB call_len_seq (by rfl) T.m_len PySem.boot_len (pa_cons (pv 2) pa_nil)) (nomark _))))) (pss_one (ps_ret (pe_op op_cat (pe_op op_cat (pe_slice sl_list (pv 2) po_none (po_some (pv 4))) (pe_lst (pa_cons (pv 5) pa_nil))) (pe_slice sl_list (pv 2) (po_some (pe_op op_add (pv 4) pe_int)) po_none)))) pss_nil)
      (pss_cons (ps_if (pt_cmpR op_eq (pv 1) pe_int (nomark _)) (pss_one (ps_ret (pe_slice sl_list (pe_op op_cat (pe_op op_cat (pv 2) (pe_lst (pa_cons (pv 5) pa_nil))) (pe_call G_entry (hr.mono (by decide)) (by rfl) T.D_entry.g T.D_entry.F.kp T.bb_entry .nil pass0 (pa_cons (pv 0) (pa_cons pe_int pa_nil)))) po_none (po_some pe_int)))) pss_nil)
      (pss_cons (ps_if (pt_cmpR op_eq (pv 1) pe_int (nomark _)) (pss_one (ps_ret (pe_lc (own := [("_law_k", 3)]) (g := gName 3) (tt := tYes) (by rfl) sc_lrow.nd (pi_range1 (by rfl) T.m_range (pa_cons (pe_call G_take (hr.mono (by decide)) (by rfl) T.D_take.g T.D_take.F.kp T.bb_take .nil pass0 (pa_cons (pv 0) (pa_cons pe_int pa_nil))) pa_nil)) (blkOk_by (own := [("_law_k", 3)]) (N := N_lrow) (sc := defScope s_lrow) (by decide +kernel)) (fun _ _ _ _ _ => pg_name (i := 3) sc_lrow.nd rfl (Or.inl rfl)) (fun _ _ _ _ _ => pts_nil) (fun _ _ _ _ _ => (pe_call G_take (hr.mono (by decide)) (by rfl) T.D_take.g T.D_take.F.kp T.bb_take .nil pass0 (pa_cons (pv 0) (pa_cons pe_int pa_nil))))))) pss_nil)
      (pss_cons (ps_if (pt_cmpR op_eq (pv 1) pe_int (nomark _)) (pss_one (ps_ret (pe_call G_entry (hr.mono (by decide)) (by rfl) T.D_entry.g T.D_entry.F.kp T.bb_entry .nil pass0 (pa_cons (pv 0) (pa_cons pe_int pa_nil))))) pss_nil)
      (pss_cons (ps_if (pt_cmpR op_eq (pv 1) pe_int (nomark _)) (pss_one (ps_ret (pe_op op_cat (pe_lst (pa_cons (pe_op op_add pe_int (pe_call G_take (hr.mono (by decide)) (by rfl) T.D_take.g T.D_take.F.kp T.bb_take .nil pass0 (pa_cons (pv 0) (pa_cons pe_int pa_nil)))) pa_nil)) (pe_lc (own := [("_law_j", 6)]) (g := gName 6) (tt := tYes) (by rfl) sc_lrow.nd (pi_range1 (by rfl) T.m_range (pa_cons (pe_op op_add pe_int (pe_call G_take (hr.mono (by decide)) (by rfl) T.D_take.g T.D_take.F.kp T.bb_take .nil pass0 (pa_cons (pv 0) (pa_cons pe_int pa_nil)))) pa_nil)) (blkOk_by (own := [("_law_j", 6)]) (N := N_lrow) (sc := defScope s_lrow) (by decide +kernel)) (fun _ _ _ _ _ => pg_name (i := 6) sc_lrow.nd rfl (Or.inl rfl)) (fun _ _ _ _ _ => pts_nil) (fun _ _ _ _ _ => (pe_op op_add pe_int (pe_call G_take (hr.mono (by decide)) (by rfl) T.D_take.g T.D_take.F.kp T.bb_take .nil pass0 (pa_cons (pv 0) (pa_cons pe_int pa_nil))))))))) pss_nil)
      (pss_one (ps_ret (pv 2)))))))))))))), ?_⟩
    refine ⟨.ref p, rfl, p, n, 7, o, rfl, hp, hP, by omega, by decide, by decide, fun w o1 w0 w1 hP1 => ?_⟩
    have ep1 : (upd H p o1) p = some o1 := upd_same
    have k1 : Kp [p] H (upd H p o1) := Kp.at (by simp)
    generalize upd H p o1 = H1 at k1 ep1 ⊢
    refine ⟨Nat.zero_le _, fun f nf => ?_⟩
    have pf : p ≠ f := ne_of_none ep1 nf
    have nfH : H f = none := k1.free (by simpa using pf.symm) nf
    refine ⟨.ref p, rfl, p, _, 9, o1, rfl, by rw [upd_ne pf]; exact ep1, hP1, by omega, by decide, by decide, fun c o2 c0 c1 hP2 => ?_⟩
    refine ⟨c, rfl, by omega, by omega, for_range (lo := 0) (n := c.toNat) (fun i σ H' => ∃ (g : Addr) (bs : List Int) (o3 : HO) (y : Option V), σ = [some (.ref p), some (.int w), some (.ref g), y, none, none, none] ∧ H g = none ∧ g ≠ p ∧ H' g = some (.lst (bs.map V.int)) ∧ bs.length ≤ 400 ∧ Byt bs ∧ H' p = some o3 ∧ PoolO (n + 10 + 500 * i) o3 ∧ Kp [p] H H') ?_ (fun i σ H' hi hW => ?_) (fun σ H' hW => ?_)⟩
    · exact ⟨f, [], o2, none, rfl, nfH, pf.symm, by rw [upd_ne pf.symm, upd_same]; rfl, Nat.zero_le _, (fun b hb => nomatch hb), upd_same, hP2.up (by omega), (k1.trans (Kp.new nf)).trans (Kp.at (by simp))⟩
    · obtain ⟨g, bs, o3, y, rfl, ng, gp, eg, lb, hb, ep, hP3, kk⟩ := hW
      refine ⟨.ref g, rfl, .ref p, rfl, .ref g, rfl, g, _, rfl, .inl (sq_at eg), _, _, rfl, rfl, p, _, _, o3, rfl, ep, hP3, by omega, by rw [List.length_map]; omega, by rw [List.length_map]; omega, fun H2 e es o4 ne ee ep4 hP4 k4 le be => ?_⟩
      have ge : g ≠ e := ne_of_none eg ne
      have eg2 := k4 _ _ (by simpa using gp) eg
      have pe : p ≠ e := ne_of_none ep ne
      refine ⟨by show (1 : Nat) ≤ sizeLine; omega, fun u nu => ?_⟩
      have s3 := (Kp.new (ps := []) (o := HO.lst [.ref e]) nu).same
      refine ⟨u, e, es, rfl, upd_same, s3 _ _ ee, by omega, fun H4 v nv ev s4 => ?_⟩
      have s24 := s3.trans s4
      have eg4 := s24 _ _ eg2
      refine ⟨.ref g, rfl, g, _, rfl, .inl (sq_at eg4), _, _, rfl, rfl, _, rfl, v, _, rfl, sq_at ev, fun z nz => ?_⟩
      rw [List.length_map, show ((400 : Int) - (bs.length : Int)) = ((400 - bs.length : Nat) : Int) by omega, take_cut]
      have s5 := s24.trans (Kp.new (ps := []) (o := HO.lst ((((es.length + 1 : Int) :: es).take (400 - bs.length)).map V.int)) nz).same
      refine ⟨g, z, bs.map V.int, _, rfl, rfl, s5 _ _ eg2, upd_same, by rw [List.length_map, List.length_map, List.length_take]; omega, fun x nx => ?_⟩
      rw [← List.map_append]
      have s6 := s5.trans (Kp.new (ps := []) (o := HO.lst ((bs ++ ((es.length + 1 : Int) :: es).take (400 - bs.length)).map V.int)) nx).same
      have kx : Kp [p] H _ := (kk.trans k4).trans (Kp.of s6)
      have px : x ≠ p := (ne_of_none (s5 _ _ ep4) nx).symm
      refine ⟨x, _, o4, _, rfl, (kk.trans (k4.trans (Kp.of s5))).free (by simpa using px) nx, px, upd_same, by rw [List.length_append, List.length_take]; omega, byt_app hb (byt_take ?_), s6 _ _ ep4, hP4.up (by omega), kx⟩
      intro b hb
      rcases List.mem_cons.mp hb with rfl | hb
      · omega
      · exact be b hb
    obtain ⟨g, bs, o3, y, rfl, ng, gp, eg, lb, hb, ep, hP3, kk⟩ := hW
    have c9 : (c.toNat : Int) ≤ 8 := by omega
    have hP3 := hP3.up (m := n + 5000) (by omega)
    clear k1 ep1 hP1 hP2
    refine ⟨.ref p, rfl, .ref g, rfl, g, _, rfl, .inl (sq_at eg), _, _, rfl, rfl, p, _, _, o3, rfl, ep, hP3, by omega, by rw [List.length_map]; omega, by rw [List.length_map]; omega, fun t o4 t0 t1 hP4 => ?_⟩
    rw [List.length_map] at t1
    have k4 : Kp [p] H (upd H' p o4) := kk.trans (Kp.at (by simp))
    have eg4 : (upd H' p o4) g = some (.lst (bs.map V.int)) := by rw [upd_ne gp]; exact eg
    have ep4 : (upd H' p o4) p = some o4 := upd_same
    generalize upd H' p o4 = H4 at k4 eg4 ep4 ⊢
    refine ⟨.ref p, rfl, p, _, 256, o4, rfl, ep4, hP4, by omega, by decide, by decide, fun b1 o5 b10 b11 hP5 => ?_⟩
    refine ⟨by show (6 : Nat) ≤ sizeLine; omega, fun m nm => ?_⟩
    have pm : p ≠ m := ne_of_none (upd_same : (upd H4 p o5) p = some o5) nm
    have gm : g ≠ m := ne_of_none (by rw [upd_ne gp]; exact eg4 : (upd H4 p o5) g = _) nm
    refine ⟨.ref p, rfl, p, _, 6, o5, rfl, by rw [upd_ne pm]; exact upd_same, hP5, by omega, by decide, by decide, fun r o6 r0 r1 hP6 => ?_⟩
    obtain ⟨v, mv, ev, _⟩ := atI_int (ms := [0, 202, 255, 1, 201, b1]) (i := r) r0 r1
    have vb : 0 ≤ v ∧ v ≤ 255 := by
      simp only [List.mem_cons, List.mem_nil_iff, or_false] at mv
      omega
    refine ⟨m, _, r, .int v, rfl, rfl, .inl (.inl (by rw [upd_ne pm.symm, upd_same]; rfl)), ev, ?_⟩
    have k5 : Kp [p] H (upd (upd (upd H4 p o5) m (.lst [.int 0, .int 202, .int 255, .int 1, .int 201, .int b1])) p o6) := ((k4.trans (Kp.at (by simp))).trans (Kp.new nm)).trans (Kp.at (by simp))
    have eg5 : (upd (upd (upd H4 p o5) m (.lst [.int 0, .int 202, .int 255, .int 1, .int 201, .int b1])) p o6) g = some (.lst (bs.map V.int)) := by rw [upd_ne gp, upd_ne gm, upd_ne gp]; exact eg4
    have ep5 : (upd (upd (upd H4 p o5) m (.lst [.int 0, .int 202, .int 255, .int 1, .int 201, .int b1])) p o6) p = some o6 := upd_same
    generalize upd (upd (upd H4 p o5) m (.lst [.int 0, .int 202, .int 255, .int 1, .int 201, .int b1])) p o6 = H5 at k5 eg5 ep5 ⊢
    clear k4 eg4 ep4 kk eg ep
    obtain ⟨t, rfl⟩ := Int.eq_ofNat_of_zero_le t0
    have new : ∀ {H' : Hp} {x : Addr}, Kp [p] H H' → H' p ≠ none → H' x = none → H x = none ∧ x ≠ p := fun {H' x} k hp nx => by
      have : x ≠ p := fun z => hp (z ▸ nx)
      exact ⟨k.free (by simpa using this) nx, this⟩
    refine ⟨_, rfl, rfl, _, rfl, ite2 (fun e => ?_) (fun _ => ?_)⟩
    · refine ⟨.ref g, rfl, _, rfl, _, rfl, g, _, rfl, sq_at eg5, fun x nx => ?_⟩
      rw [take_cut]
      exact q _ x _ (new k5 (by rw [ep5]; exact fun z => nomatch z) nx).1 upd_same (k5.trans (Kp.new nx)) (by rw [List.length_take]; omega) (byt_take hb)
    refine ⟨fun σ' H' => H' = H5 ∧ σ' = [some (.ref p), some (.int w), some (.ref g), y, some (.int t), some (.int v), none], ?_, fun σ' H' hm => ?_⟩
    · have skip : H5 = H5 ∧ [some (.ref p), some (.int w), some (.ref g), y, some (.int t), some (.int v), none] = [some (V.ref p), some (.int w), some (.ref g), y, some (.int t), some (.int v), none] := ⟨rfl, rfl⟩
      refine ⟨_, rfl, rfl, _, rfl, ite2 (fun e => ?_) (fun _ => iteF skip)⟩
      refine ⟨_, rfl, .ref g, rfl, g, _, rfl, .inl (sq_at eg5), _, _, rfl, rfl, _, rfl, ite2 (fun e2 => ?_) (fun _ => skip)⟩
      rw [List.length_map] at e2
      have e2 := of_decide_eq_true e2
      refine ⟨.ref g, rfl, _, rfl, _, rfl, g, _, rfl, sq_at eg5, fun x nx => ?_⟩
      rw [take_cut]
      have sx := (Kp.new (ps := []) (o := HO.lst ((bs.take t).map V.int)) nx).same
      refine ⟨_, rfl, by show (1 : Nat) ≤ sizeLine; omega, fun m2 nm2 => ?_⟩
      have sm2 := sx.trans (Kp.new (ps := []) (o := HO.lst [.int v]) nm2).same
      have xm : x ≠ m2 := ne_of_none upd_same nm2
      refine ⟨x, m2, (bs.take t).map V.int, [.int v], rfl, rfl, by rw [upd_ne xm]; exact upd_same, upd_same, by rw [List.length_map, List.length_take]; show _ + 1 ≤ _; omega, fun c2 nc2 => ?_⟩
      rw [show (bs.take t).map V.int ++ [.int v] = (bs.take t ++ [v]).map V.int by rw [List.map_append]; rfl]
      have sc2 := sm2.trans (Kp.new (ps := []) (o := HO.lst ((bs.take t ++ [v]).map V.int)) nc2).same
      refine ⟨.ref g, rfl, _, rfl, _, _, rfl, rfl, _, rfl, g, _, rfl, sq_at (sc2 _ _ eg5), fun d nd => ?_⟩
      rw [show ((t : Int) + 1) = ((t + 1 : Nat) : Int) by omega, drop_cut]
      have sd := sc2.trans (Kp.new (ps := []) (o := HO.lst ((bs.drop (t + 1)).map V.int)) nd).same
      have cd : c2 ≠ d := ne_of_none upd_same nd
      refine ⟨c2, d, _, _, rfl, rfl, by rw [upd_ne cd]; exact upd_same, upd_same, by rw [List.length_map, List.length_map, List.length_append, List.length_take, List.length_drop]; show _ + 1 + _ ≤ _; omega, fun z nz => ?_⟩
      rw [← List.map_append]
      have kz := k5.trans (Kp.of sd)
      exact q _ z _ (new kz (by rw [sd _ _ ep5]; exact fun z => nomatch z) nz).1 upd_same (kz.trans (Kp.new nz)) (by rw [List.length_append, List.length_append, List.length_take, List.length_drop]; show _ + 1 + _ ≤ _; omega) (byt_app (byt_app (byt_take hb) (byt_one vb.1 vb.2)) (byt_drop hb))
    obtain ⟨rfl, rfl⟩ := hm
    refine ⟨_, rfl, rfl, _, rfl, ite2 (fun e => ?_) (fun _ => ?_)⟩
    · refine ⟨.ref g, rfl, _, rfl, by show (1 : Nat) ≤ sizeLine; omega, fun m2 nm2 => ?_⟩
      have sm2 := (Kp.new (ps := []) (o := HO.lst [.int v]) nm2).same
      refine ⟨g, m2, bs.map V.int, [.int v], rfl, rfl, sm2 _ _ eg5, upd_same, by rw [List.length_map]; show _ + 1 ≤ _; omega, fun c2 nc2 => ?_⟩
      rw [show bs.map V.int ++ [.int v] = (bs ++ [v]).map V.int by rw [List.map_append]; rfl]
      have sc2 := sm2.trans (Kp.new (ps := []) (o := HO.lst ((bs ++ [v]).map V.int)) nc2).same
      refine ⟨.ref p, rfl, p, 60, _, o6, rfl, sc2 _ _ ep5, hP6, by omega, by decide, by decide, fun H6 e2 es o7 ne2 ee2 ep7 hP7 k7 le2 be2 => ?_⟩
      have cp : c2 ≠ p := fun z => by rw [z, sm2 _ _ ep5] at nc2; cases nc2
      have ec : H6 c2 = some (.lst ((bs ++ [v]).map V.int)) := k7 _ _ (by simpa using cp) upd_same
      refine ⟨c2, e2, _, _, rfl, rfl, ec, ee2, by rw [List.length_map, List.length_map, List.length_append]; show _ + 1 + _ ≤ _; omega, fun z nz => ?_⟩
      rw [← List.map_append]
      have sz1 := (Kp.new (ps := []) (o := HO.lst ((bs ++ [v] ++ es).map V.int)) nz).same
      refine ⟨_, rfl, z, _, rfl, sq_new, fun x nx => ?_⟩
      rw [show (400 : Int) = ((400 : Nat) : Int) from rfl, take_cut]
      have kz := (k5.trans (Kp.of sc2)).trans (k7.trans (Kp.of sz1))
      exact q _ x _ (new kz (by rw [sz1 _ _ ep7]; exact fun z => nomatch z) nx).1 upd_same (kz.trans (Kp.new nx)) (by rw [List.length_take]; omega) (byt_take (byt_app (byt_app hb (byt_one vb.1 vb.2)) be2))
    refine ⟨_, rfl, rfl, _, rfl, ite2 (fun e => ?_) (fun _ => ?_)⟩
    · refine ⟨.ref p, rfl, p, _, 40, o6, rfl, ep5, hP6, by omega, by decide, by decide, fun z o7 z0 z1 hP7 => ?_⟩
      refine ⟨z, rfl, by omega, by omega, fun D nD => ?_⟩
      have pD : p ≠ D := ne_of_none (upd_same : (upd H' p o7) p = some o7) nD
      have kD : Kp [p] H (upd H' p o7) := k5.trans (Kp.at (by simp))
      have nDH := (new kD (by rw [upd_same]; exact fun z => nomatch z) nD).1
      refine lc_range (lo := 0) (n := z.toNat) (fun j H2 => ∃ (cs : List Int) (o8 : HO), H2 D = some (.lst (cs.map V.int)) ∧ cs.length = j ∧ Byt cs ∧ H2 p = some o8 ∧ PoolO (n + 6000 + 2 * j) o8 ∧ Kp [p] H H2) ⟨[], o7, upd_same, rfl, (fun b hb => nomatch hb), by rw [upd_ne pD]; exact upd_same, hP7.up (by omega), kD.trans (Kp.new nD)⟩ (fun j H2 hj hP => ?_) (fun H2 hP => ?_)
      · obtain ⟨cs, o8, eD, lc, bc, ep8, hP8, k8⟩ := hP
        refine ⟨rfl, .ref p, rfl, p, _, 7, o8, rfl, ep8, hP8, by omega, by decide, by decide, fun a1 o9 a0 a11 hP9 => ?_⟩
        refine ⟨_, by rw [upd_ne pD.symm]; exact eD, by rw [List.length_map]; omega, ?_⟩
        exact ⟨cs ++ [a1], o9, by rw [upd_same, List.map_append]; rfl, by rw [List.length_append, lc]; rfl, byt_app bc (byt_one a0 (by omega)), by rw [upd_ne pD]; exact upd_same, hP9.up (by omega), (k8.trans (Kp.at (by simp))).put nDH⟩
      · obtain ⟨cs, o8, eD, lc, bc, ep8, hP8, k8⟩ := hP
        exact q _ D cs nDH eD k8 (by omega) bc
    refine ⟨_, rfl, rfl, _, rfl, ite2 (fun e => ?_) (fun _ => ?_)⟩
    · refine ⟨.ref p, rfl, p, 200, _, o6, rfl, ep5, hP6, by omega, by decide, by decide, fun H6 e2 es o7 ne2 ee2 ep7 hP7 k7 le2 be2 => ?_⟩
      exact q _ e2 es (new k5 (by rw [ep5]; exact fun z => nomatch z) ne2).1 ee2 (k5.trans k7) (by omega) be2
    refine ⟨_, rfl, rfl, _, rfl, ite2 (fun e => ?_) (fun _ => ?_)⟩
    · refine ⟨.ref p, rfl, p, _, 58, o6, rfl, ep5, hP6, by omega, by decide, by decide, fun z o7 z0 z1 hP7 => ?_⟩
      refine ⟨_, _, rfl, rfl, by show (1 : Nat) ≤ sizeLine; omega, fun m2 nm2 => ?_⟩
      have pm2 : p ≠ m2 := ne_of_none (upd_same : (upd H' p o7) p = some o7) nm2
      have km2 : Kp [p] H (upd H' p o7) := k5.trans (Kp.at (by simp))
      refine ⟨.ref p, rfl, p, _, 60, o7, rfl, by rw [upd_ne pm2]; exact upd_same, hP7, by omega, by decide, by decide, fun z2 o8 z20 z21 hP8 => ?_⟩
      have k8 : Kp [p] H (upd (upd (upd H' p o7) m2 (.lst [.int (198 + z)])) p o8) := (km2.trans (Kp.new nm2)).trans (Kp.at (by simp))
      have em8 : (upd (upd (upd H' p o7) m2 (.lst [.int (198 + z)])) p o8) m2 = some (.lst [.int (198 + z)]) := by rw [upd_ne pm2.symm]; exact upd_same
      have ep8 : (upd (upd (upd H' p o7) m2 (.lst [.int (198 + z)])) p o8) p = some o8 := upd_same
      refine ⟨_, _, rfl, rfl, 197 + z2, rfl, by omega, by omega, fun D nD => ?_⟩
      generalize upd (upd (upd H' p o7) m2 (.lst [.int (198 + z)])) p o8 = H8 at k8 em8 ep8 nD ⊢
      have pD : p ≠ D := ne_of_none ep8 nD
      have mD : m2 ≠ D := ne_of_none em8 nD
      have nDH := (new k8 (by rw [ep8]; exact fun z => nomatch z) nD).1
      refine lc_range (lo := 0) (n := (197 + z2).toNat) (fun j H2 => ∃ (cs : List Int) (o8 : HO), H2 D = some (.lst (cs.map V.int)) ∧ cs.length = j ∧ Byt cs ∧ H2 p = some o8 ∧ PoolO (n + 6000 + 2 * j) o8 ∧ Kp [p] H H2 ∧ H2 m2 = some (.lst [.int (198 + z)])) ⟨[], o8, upd_same, rfl, (fun b hb => nomatch hb), by rw [upd_ne pD]; exact ep8, hP8.up (by omega), k8.trans (Kp.new nD), by rw [upd_ne mD]; exact em8⟩ (fun j H2 hj hP => ?_) (fun H2 hP => ?_)
      · obtain ⟨cs, o8, eD, lc, bc, ep8, hP8, k8, em8⟩ := hP
        refine ⟨rfl, .ref p, rfl, p, _, 9, o8, rfl, ep8, hP8, by omega, by decide, by decide, fun a1 o9 a0 a11 hP9 => ?_⟩
        refine ⟨_, _, rfl, rfl, _, by rw [upd_ne pD.symm]; exact eD, by rw [List.length_map]; omega, ?_⟩
        exact ⟨cs ++ [1 + a1], o9, by rw [upd_same, List.map_append]; rfl, by rw [List.length_append, lc]; rfl, byt_app bc (byt_one (by omega) (by omega)), by rw [upd_ne pD]; exact upd_same, hP9.up (by omega), (k8.trans (Kp.at (by simp))).put nDH, by rw [upd_ne mD, upd_ne pm2.symm]; exact em8⟩
      · obtain ⟨cs, o8, eD, lc, bc, ep8, hP8, k8, em8⟩ := hP
        refine ⟨m2, D, [.int (198 + z)], _, rfl, rfl, em8, eD, by rw [List.length_map]; show 1 + _ ≤ _; omega, fun x nx => ?_⟩
        exact q _ x ((198 + z) :: cs) (new k8 (by rw [ep8]; exact fun z => nomatch z) nx).1 upd_same (k8.trans (Kp.new nx)) (by show cs.length + 1 ≤ _; omega) (byt_app (byt_one (v := 198 + z) (by omega) (by omega)) bc)
    exact ⟨.ref g, rfl, q _ g bs ng eg5 k5 lb hb⟩

theorem ok_asked (T : Tx K mg) : FnG P w K mg base CX0 3 T.f_asked T.fd_asked P_asked (spAsked86 K) := by
  have G_due := ok_due (P := P) (w := w) (base := base) T
  have G_recs := ok_recs (P := P) (w := w) (base := base) T
  have sz : sizeLine = 16777216 := sizeLine_eq
  refine T.D_asked.F.okG0 sc_asked (fun vs H Q E h => ?_) (fun cdv A outer s H vs Q E hG hr h => ?_)
  · obtain ⟨a, row, rfl, _⟩ := h
    rfl
  · obtain ⟨a, row, rfl, hA, lr, hB, q⟩ := h
    refine ⟨_, (pss_cons (ps_set (i := 1) sc_asked.nd rfl (.inl rfl) (pe_call G_due (hr.mono (by decide)) (by rfl) T.D_due.g T.D_due.F.kp T.bb_due .nil pass0 (pa_cons (pv 0) pa_nil)))
      (pss_cons (ps_set (i := 2) sc_asked.nd rfl (.inl rfl) (pe_callTy call_list_of (by rfl) T.m_list (by decide +kernel) (pa_cons (pv 0) pa_nil)))
      (pss_cons (ps_set (i := 3) sc_asked.nd rfl (.inl rfl) (pe_call G_recs (hr.mono (by decide)) (by rfl) T.D_recs.g T.D_recs.F.kp T.bb_recs .nil pass0 (pa_cons (pv 2) pa_nil)))
      (pss_cons (ps_if (PW.pt (pw_or (pt_cmpR op_ne (pe_callB (id := "repr") (r := Sip.rRepr K) (Sip.call_reprD (by exact hG) (by exact hr.units)) (by rfl) T.m_repr (by decide +kernel) (pa_cons (pv 3) pa_nil)) (pe_callB (id := "repr") (r := Sip.rRepr K) (Sip.call_reprD (by exact hG) (by exact hr.units)) (by rfl) T.m_repr (by decide +kernel) (pa_cons (pv 1) pa_nil)) (nomark _)) (pw_or1 (pt_cmpR (op_neI hr.units) (pv 2) (pv 0) (nomark _))))) (pss_one (ps_ret pe_bl)) pss_nil)
      (pss_cons (ps_for PassesOwn.never rfl (pi_list (pe_ix ix_tup (pv 3) pe_int (fun _ _ => rfl))) (pg_name (i := 4) sc_asked.nd rfl (.inl rfl)) (pss_one (ps_expr (pe_bm PySem.F.plainAttrs_list PySem.F.slot_list_append PySem.F.type_list_append mt_append (pv 4) (pa_cons pe_int pa_nil)))))
      (pss_cons (ps_expr (pe_bm PySem.F.plainAttrs_list PySem.F.slot_list_append PySem.F.type_list_append mt_append (pe_ix ix_tup (pv 3) pe_int (fun _ _ => rfl)) (pa_cons (pe_lst (pa_cons pe_int pa_nil)) pa_nil)))
      (pss_cons (ps_expr (pe_bm PySem.F.plainAttrs_list PySem.F.slot_list_append PySem.F.type_list_append mt_append (pv 2) (pa_cons pe_int pa_nil)))
      (pss_one (ps_ret (pe_cmpR op_eq (pe_callB (id := "repr") (r := Sip.rRepr K) (Sip.call_reprD (by exact hG) (by exact hr.units)) (by rfl) T.m_repr (by decide +kernel) (pa_cons (pe_call G_recs (hr.mono (by decide)) (by rfl) T.D_recs.g T.D_recs.F.kp T.bb_recs .nil pass0 (pa_cons (pe_callTy call_list_of (by rfl) T.m_list (by decide +kernel) (pa_cons (pv 0) pa_nil)) pa_nil)) pa_nil)) (pe_callB (id := "repr") (r := Sip.rRepr K) (Sip.call_reprD (by exact hG) (by exact hr.units)) (by rfl) T.m_repr (by decide +kernel) (pa_cons (pv 1) pa_nil)) (nomark _))))))))))), ?_⟩
    obtain ⟨wt, w1, hsh⟩ := sh_tree hB lr
    refine ⟨.ref a, rfl, a, row, rfl, sq_at hA, lr, hB, fun H1 t l qs nt nl nq lt tr s1 => ?_⟩
    refine ⟨.ref a, rfl, a, _, rfl, .inl (sq_at (s1 _ _ hA)), fun hd nh => ?_⟩
    have s2 := s1.trans (Kp.new (ps := []) (o := HO.lst (row.map V.int)) nh).same
    have ha2 := s2 _ _ hA
    have tr2 := tr.same (Kp.new (ps := []) (o := HO.lst (row.map V.int)) nh).same
    have hh2 : (upd H1 hd (.lst (row.map V.int))) hd = some (.lst (row.map V.int)) := upd_same
    have ah : a ≠ hd := ne_of_none (s1 _ _ hA) nh
    have s12 := (Kp.new (ps := []) (o := HO.lst (row.map V.int)) nh).same
    generalize upd H1 hd (.lst (row.map V.int)) = H2 at s2 ha2 tr2 hh2 s12 ⊢
    refine ⟨.ref hd, rfl, hd, row, rfl, sq_at hh2, lr, hB, fun H3 t' l' qs' nt' nl' nq' lt' tr' s3 => ?_⟩
    have tr3 := tr2.same s3
    refine ⟨.ref t', rfl, t', _, _, _, rfl, tr'.dp, hsh, w1, by decide, ?_⟩
    refine ⟨.ref t, rfl, t, _, _, _, rfl, tr3.dp, hsh, w1, by decide, ?_⟩
    refine ⟨rfl, _, rfl, ?_⟩
    rw [show decide (V.str (treeD (recT row)).shown = V.str (treeD (recT row)).shown) = true from decide_eq_true rfl]
    refine iteF ?_
    refine ⟨.ref hd, rfl, .ref a, rfl, hd, a, row, row, rfl, rfl, sq_at (s3 _ _ hh2), sq_at (s3 _ _ ha2), _, rfl, ?_⟩
    rw [decide_eq_true (rfl : row = row)]
    refine iteF ?_
    have len' : ∀ q ∈ qs', ∃ xs, H3 q = some (.lst xs) ∧ xs.length ≤ 400 := fun q m => by
      obtain ⟨r, hr, er⟩ := tr'.2.2.mem m
      have := (recF_len (row := row) _ _ r hr).1
      exact ⟨_, er, by rw [List.length_map]; omega⟩
    have lq : qs'.length ≤ 401 := by
      rw [tr'.2.2.len]
      have := recF_count (row := row) (row.length + 1) 0
      exact Nat.le_trans this (by omega)
    refine ⟨.ref t', rfl, t', _, _, .ref l', rfl, rfl, .inl (.inl tr'.1), rfl, l', rfl, ⟨_, sq_at tr'.2.1⟩, ?_⟩
    refine for_list (K := K) (a := l') (xs := qs'.map V.ref) (fun i σ H' => ∃ y : Option V, σ = [some (.ref a), some (.ref t), some (.ref hd), some (.ref t'), y] ∧ Same H2 H' ∧ H' t' = some (.tup [.ref l', oV (recT row).2]) ∧ H' l' = some (.lst (qs'.map V.ref)) ∧ ∀ q ∈ qs', ∃ xs, H' q = some (.lst xs) ∧ xs.length ≤ 400 + i) ⟨none, rfl, s3, tr'.1, tr'.2.1, len'⟩ (fun i σ H' _ hW => ?_) (fun i x σ H' hx hW => ?_) (fun σ H4 hW => ?_)
    · obtain ⟨_, _, _, _, el, _⟩ := hW
      exact sq_at el
    · obtain ⟨y, rfl, sm, et, el, hq⟩ := hW
      rw [List.getElem?_map] at hx
      obtain ⟨b, hb, rfl⟩ := Option.map_eq_some_iff.mp hx
      have mb := List.mem_of_getElem? hb
      have hi : i < qs'.length := (List.getElem?_eq_some_iff.mp hb).1
      obtain ⟨xs, ex, lx⟩ := hq b mb
      obtain ⟨n1, n2, n3⟩ := nq' b mb
      refine ⟨.ref b, rfl, .inl ⟨rfl, _, sq_at ex⟩, b, xs, _, rfl, rfl, ex, by omega, ?_⟩
      refine ⟨_, rfl, put_same sm n1, by rw [upd_ne n3.symm]; exact et, by rw [upd_ne n2.symm]; exact el, fun c mc => ?_⟩
      by_cases e : c = b
      · subst e
        exact ⟨_, upd_same, by rw [List.length_append]; show xs.length + 1 ≤ _; omega⟩
      · obtain ⟨ys, ey, ly⟩ := hq c mc
        exact ⟨ys, by rw [upd_ne e]; exact ey, by omega⟩
    · obtain ⟨y, rfl, sm, et, el, _⟩ := hW
      refine ⟨.ref t', rfl, t', _, _, .ref l', rfl, rfl, .inl (.inl et), rfl, .inl ⟨rfl, _, sq_at el⟩, by show (1 : Nat) ≤ sizeLine; omega, fun u nu => ?_⟩
      have lu : l' ≠ u := ne_of_none el nu
      refine ⟨l', _, _, rfl, rfl, by rw [upd_ne lu]; exact el, by rw [List.length_map]; omega, ?_⟩
      have s5 : Same H2 (upd (upd H4 u (.lst [.int 4])) l' (.lst (qs'.map V.ref ++ [.ref u]))) := put_same (sm.trans (Kp.new (ps := []) nu).same) nl'
      have eh := s5 _ _ hh2
      generalize upd (upd H4 u (.lst [.int 4])) l' (.lst (qs'.map V.ref ++ [.ref u])) = H5 at s5 eh ⊢
      refine ⟨.ref hd, rfl, .inl ⟨rfl, _, sq_at eh⟩, hd, _, _, rfl, rfl, eh, by rw [List.length_map]; omega, ?_⟩
      have s6 : Same H1 (upd H5 hd (.lst (row.map V.int ++ [.int 5]))) := put_same (s12.trans s5) nh
      generalize upd H5 hd (.lst (row.map V.int ++ [.int 5])) = H6 at s6 ⊢
      refine ⟨.ref a, rfl, a, _, rfl, .inl (sq_at (s6 _ _ (s1 _ _ hA))), fun c nc => ?_⟩
      have s7 := s6.trans (Kp.new (ps := []) (o := HO.lst (row.map V.int)) nc).same
      refine ⟨c, row, rfl, sq_new, lr, hB, fun H7 t7 l7 qs7 _ _ _ _ tr7 s8 => ?_⟩
      have s9 := s7.trans s8
      refine ⟨t7, _, _, _, rfl, tr7.dp, hsh, w1, by decide, ?_⟩
      refine ⟨.ref t, rfl, t, _, _, _, rfl, (tr.same s9).dp, hsh, w1, by decide, ?_⟩
      refine ⟨rfl, ?_⟩
      rw [decide_eq_true (rfl : V.str (treeD (recT row)).shown = _)]
      exact q _ (s1.trans s9)

theorem ok_law (T : Tx K mg) : FnG P w K mg base CX0 4 T.f_law T.fd_law P_law (spLaw K) := by
  have G_lrow := ok_lrow (P := P) (w := w) (base := base) T
  have G_pool := ok_pool (P := P) (w := w) (base := base) T
  have G_asked := ok_asked (P := P) (w := w) (base := base) T
  have sz : sizeLine = 16777216 := sizeLine_eq
  refine T.D_law.F.okG0 sc_law (fun vs H Q E h => ?_) (fun cdv A outer s H vs Q E hG hr h => ?_)
  · obtain ⟨a, ns, rfl, _⟩ := h
    rfl
  · obtain ⟨a, ns, rfl, hS, h63, q⟩ := h
    refine ⟨_, (pss_cons (ps_for PassesOwn.never rfl (pi_range1 (by rfl) T.m_range (pa_cons (pe_callB (call_max2 rfl) (by rfl) T.m_max (by decide +kernel) (pa_cons pe_int (pa_cons (pe_callB (call_min2 rfl) (by rfl) T.m_min (by decide +kernel) (pa_cons pe_int (pa_cons (pe_callB call_len_seq (by rfl) T.m_len PySem.boot_len (pa_cons (pv 0) pa_nil)) pa_nil))) pa_nil))) pa_nil)) (pg_name (i := 1) sc_law.nd rfl (.inl rfl)) (pss_cons (ps_set (i := 2) sc_law.nd rfl (.inl rfl) (pe_call G_lrow (hr.mono (by decide)) (by rfl) T.D_lrow.g T.D_lrow.F.kp T.bb_lrow .nil pass0 (pa_cons (pe_call G_pool (hr.mono (by decide)) (by rfl) T.D_pool.g T.D_pool.F.kp T.bb_pool .nil pass0 (pa_cons (pv 0) (pa_cons (pv 1) pa_nil))) pa_nil)))
      (pss_one (ps_if (pt_not (pt_val (Sip.pe_callG (by exact hG) G_asked (hr.mono (by decide)) (by rfl) T.D_asked.g T.D_asked.F.kp T.bb_asked .nil pass0 (pa_cons (pv 2) pa_nil)))) (pss_one (ps_ret pe_bl)) pss_nil))))
      (pss_one (ps_ret pe_bl))), ?_⟩
    refine ⟨.ref a, rfl, a, _, rfl, .inl hS, _, _, rfl, _, _, rfl, _, rfl, ?_, ?_, ?_⟩
    · split <;> (split <;> omega)
    · split <;> (split <;> omega)
    have en : ∃ n : Nat, n ≤ 8 ∧ (if (if (((ns.map V.int).length : Nat) : Int) < 8 then (((ns.map V.int).length : Nat) : Int) else 8) > 2 then (if (((ns.map V.int).length : Nat) : Int) < 8 then (((ns.map V.int).length : Nat) : Int) else 8) else 2).toNat = n := by
      refine ⟨_, ?_, rfl⟩
      split <;> (split <;> omega)
    obtain ⟨n, n8, en⟩ := en
    rw [en]
    refine for_range (lo := 0) (n := n) (fun i σ H' => ∃ y1 y2, σ = [some (.ref a), y1, y2] ∧ Same H H') ⟨none, none, rfl, Same.refl _⟩ (fun i σ H' hi hW => ?_) (fun σ H' hW => q _)
    obtain ⟨y1, y2, rfl, s1⟩ := hW
    refine ⟨.ref a, rfl, _, rfl, a, ns, 0 + (i : Int), rfl, s1.seq hS, h63, by omega, by omega, fun p o np hP => ?_⟩
    refine ⟨p, _, o, rfl, upd_same, hP, by omega, fun H2 r bs nr er kk lb hb => ?_⟩
    have s2 : Same H' H2 := step_same (Kp.new (ps := []) np).same np kk
    refine ⟨.ref r, rfl, r, bs, rfl, er, lb, hb, fun H3 s3 => ⟨_, rfl, iteF ?_⟩⟩
    exact ⟨_, _, rfl, (s1.trans s2).trans s3⟩
end
theorem all_mk {l : PySem.W.OpenLaw} {w : World} {K : PySem.W.Frag} {h : Heap} {mg : Str → Option Value} {fa f_recs f_pool f_take f_entry f_frames f_lrow f_due f_asked f_law : Addr} (X : K.In h) (G : h.Ns mainGlobals mg) (hfa : mg "law" = some (.ref fa))
    {od_recs an_recs : Option Addr} {sl_recs : Array (Option Value)} {oc_recs dc_recs pm_recs cd_recs ct_recs : Value}
    {kV_recs : Value}
    {od_pool an_pool : Option Addr} {sl_pool : Array (Option Value)} {oc_pool dc_pool pm_pool cd_pool ct_pool : Value}
    {kV_pool : Value}
    {od_take an_take : Option Addr} {sl_take : Array (Option Value)} {oc_take dc_take pm_take cd_take ct_take : Value}
    {kV_take : Value}
    {od_entry an_entry : Option Addr} {sl_entry : Array (Option Value)} {oc_entry dc_entry pm_entry cd_entry ct_entry : Value}
    {kV_entry : Value}
    {od_frames an_frames : Option Addr} {sl_frames : Array (Option Value)} {oc_frames dc_frames pm_frames cd_frames ct_frames : Value}
    {kV_frames : Value}
    {od_lrow an_lrow : Option Addr} {sl_lrow : Array (Option Value)} {oc_lrow dc_lrow pm_lrow cd_lrow ct_lrow : Value}
    {kV_lrow : Value}
    {od_due an_due : Option Addr} {sl_due : Array (Option Value)} {oc_due dc_due pm_due cd_due ct_due : Value}
    {kV_due : Value}
    {od_asked an_asked : Option Addr} {sl_asked : Array (Option Value)} {oc_asked dc_asked pm_asked cd_asked ct_asked : Value}
    {kV_asked : Value}
    {od_law an_law : Option Addr} {sl_law : Array (Option Value)} {oc_law dc_law pm_law cd_law ct_law : Value}
    {kV_law : Value}
    {t_LONGEST_RECORD : Tok}
    (a_recs : PySem.W.nsIn K mainGlobals "records_of" = some (some (.ref f_recs)))
    (l_recs : K.lookup f_recs = some ⟨oc_recs, od_recs, .func (PySem.W.fnOf "records_of" "records_of" (defArgs s_recs) (defBody s_recs) (defScope s_recs) .none kV_recs dc_recs pm_recs an_recs cd_recs ct_recs), sl_recs⟩)
    (c_recs : PySem.W.codeIn K cd_recs "records_of" = true)
    (k_recs : PySem.W.keepIn K (.ref f_recs) = true)
    (a_pool : PySem.W.nsIn K mainGlobals "_law_pool" = some (some (.ref f_pool)))
    (l_pool : K.lookup f_pool = some ⟨oc_pool, od_pool, .func (PySem.W.fnOf "_law_pool" "_law_pool" (defArgs s_pool) (defBody s_pool) (defScope s_pool) .none kV_pool dc_pool pm_pool an_pool cd_pool ct_pool), sl_pool⟩)
    (c_pool : PySem.W.codeIn K cd_pool "_law_pool" = true)
    (k_pool : PySem.W.keepIn K (.ref f_pool) = true)
    (a_take : PySem.W.nsIn K mainGlobals "_law_take" = some (some (.ref f_take)))
    (l_take : K.lookup f_take = some ⟨oc_take, od_take, .func (PySem.W.fnOf "_law_take" "_law_take" (defArgs s_take) (defBody s_take) (defScope s_take) .none kV_take dc_take pm_take an_take cd_take ct_take), sl_take⟩)
    (c_take : PySem.W.codeIn K cd_take "_law_take" = true)
    (k_take : PySem.W.keepIn K (.ref f_take) = true)
    (a_entry : PySem.W.nsIn K mainGlobals "_law_entry" = some (some (.ref f_entry)))
    (l_entry : K.lookup f_entry = some ⟨oc_entry, od_entry, .func (PySem.W.fnOf "_law_entry" "_law_entry" (defArgs s_entry) (defBody s_entry) (defScope s_entry) .none kV_entry dc_entry pm_entry an_entry cd_entry ct_entry), sl_entry⟩)
    (c_entry : PySem.W.codeIn K cd_entry "_law_entry" = true)
    (k_entry : PySem.W.keepIn K (.ref f_entry) = true)
    (a_frames : PySem.W.nsIn K mainGlobals "_law_frames" = some (some (.ref f_frames)))
    (l_frames : K.lookup f_frames = some ⟨oc_frames, od_frames, .func (PySem.W.fnOf "_law_frames" "_law_frames" (defArgs s_frames) (defBody s_frames) (defScope s_frames) .none kV_frames dc_frames pm_frames an_frames cd_frames ct_frames), sl_frames⟩)
    (c_frames : PySem.W.codeIn K cd_frames "_law_frames" = true)
    (k_frames : PySem.W.keepIn K (.ref f_frames) = true)
    (a_lrow : PySem.W.nsIn K mainGlobals "_law_row" = some (some (.ref f_lrow)))
    (l_lrow : K.lookup f_lrow = some ⟨oc_lrow, od_lrow, .func (PySem.W.fnOf "_law_row" "_law_row" (defArgs s_lrow) (defBody s_lrow) (defScope s_lrow) .none kV_lrow dc_lrow pm_lrow an_lrow cd_lrow ct_lrow), sl_lrow⟩)
    (c_lrow : PySem.W.codeIn K cd_lrow "_law_row" = true)
    (k_lrow : PySem.W.keepIn K (.ref f_lrow) = true)
    (a_due : PySem.W.nsIn K mainGlobals "_law_due" = some (some (.ref f_due)))
    (l_due : K.lookup f_due = some ⟨oc_due, od_due, .func (PySem.W.fnOf "_law_due" "_law_due" (defArgs s_due) (defBody s_due) (defScope s_due) .none kV_due dc_due pm_due an_due cd_due ct_due), sl_due⟩)
    (c_due : PySem.W.codeIn K cd_due "_law_due" = true)
    (k_due : PySem.W.keepIn K (.ref f_due) = true)
    (a_asked : PySem.W.nsIn K mainGlobals "_law_asked" = some (some (.ref f_asked)))
    (l_asked : K.lookup f_asked = some ⟨oc_asked, od_asked, .func (PySem.W.fnOf "_law_asked" "_law_asked" (defArgs s_asked) (defBody s_asked) (defScope s_asked) .none kV_asked dc_asked pm_asked an_asked cd_asked ct_asked), sl_asked⟩)
    (c_asked : PySem.W.codeIn K cd_asked "_law_asked" = true)
    (k_asked : PySem.W.keepIn K (.ref f_asked) = true)
    (a_law : PySem.W.nsIn K mainGlobals "law" = some (some (.ref f_law)))
    (l_law : K.lookup f_law = some ⟨oc_law, od_law, .func (PySem.W.fnOf "law" "law" (defArgs s_law) (defBody s_law) (defScope s_law) .none kV_law dc_law pm_law an_law cd_law ct_law), sl_law⟩)
    (c_law : PySem.W.codeIn K cd_law "law" = true)
    (k_law : PySem.W.keepIn K (.ref f_law) = true)
    (v_LONGEST_RECORD : PySem.W.nsIn K mainGlobals "LONGEST_RECORD" = some (some (.int 200 t_LONGEST_RECORD)))
    (z_list : PySem.W.nsIn K mainGlobals "list" = some none)
    (z_len : PySem.W.nsIn K mainGlobals "len" = some none)
    (z_range : PySem.W.nsIn K mainGlobals "range" = some none)
    (z_max : PySem.W.nsIn K mainGlobals "max" = some none)
    (z_min : PySem.W.nsIn K mainGlobals "min" = some none)
    (z_repr : PySem.W.nsIn K mainGlobals "repr" = some none) :
    ∃ fd : FuncData, (∀ (s : Shared) (v : Value), BindsTo s fd ⟨[v], []⟩ [("_law_script", v)]) ∧ ∀ base : Heap, K.In base → base.Ns mainGlobals mg → FnG l.prog w K mg base CX0 4 fa fd ["_law_script"] (spLaw K) := by
  have e := hfa.symm.trans (PySem.W.mg_of X G a_law)
  cases e
  have F_recs := funA_mk (st := s_recs) l_recs c_recs k_recs
  have F_pool := funA_mk (st := s_pool) l_pool c_pool k_pool
  have F_take := funA_mk (st := s_take) l_take c_take k_take
  have F_entry := funA_mk (st := s_entry) l_entry c_entry k_entry
  have F_frames := funA_mk (st := s_frames) l_frames c_frames k_frames
  have F_lrow := funA_mk (st := s_lrow) l_lrow c_lrow k_lrow
  have F_due := funA_mk (st := s_due) l_due c_due k_due
  have F_asked := funA_mk (st := s_asked) l_asked c_asked k_asked
  have F_law := funA_mk (st := s_law) l_law c_law k_law
  have bb_asked : Binds K (PySem.W.fnOf "_law_asked" "_law_asked" (defArgs s_asked) (defBody s_asked) (defScope s_asked) .none kV_asked dc_asked pm_asked an_asked cd_asked ct_asked) P_asked [] := .all fun us hl => match us, hl with | [_], _ => rfl
  have bb_due : Binds K (PySem.W.fnOf "_law_due" "_law_due" (defArgs s_due) (defBody s_due) (defScope s_due) .none kV_due dc_due pm_due an_due cd_due ct_due) P_due [] := .all fun us hl => match us, hl with | [_], _ => rfl
  have bb_entry : Binds K (PySem.W.fnOf "_law_entry" "_law_entry" (defArgs s_entry) (defBody s_entry) (defScope s_entry) .none kV_entry dc_entry pm_entry an_entry cd_entry ct_entry) P_entry [] := .all fun us hl => match us, hl with | [_, _], _ => rfl
  have bb_frames : Binds K (PySem.W.fnOf "_law_frames" "_law_frames" (defArgs s_frames) (defBody s_frames) (defScope s_frames) .none kV_frames dc_frames pm_frames an_frames cd_frames ct_frames) P_frames [] := .all fun us hl => match us, hl with | [_], _ => rfl
  have bb_lrow : Binds K (PySem.W.fnOf "_law_row" "_law_row" (defArgs s_lrow) (defBody s_lrow) (defScope s_lrow) .none kV_lrow dc_lrow pm_lrow an_lrow cd_lrow ct_lrow) P_lrow [] := .all fun us hl => match us, hl with | [_], _ => rfl
  have bb_pool : Binds K (PySem.W.fnOf "_law_pool" "_law_pool" (defArgs s_pool) (defBody s_pool) (defScope s_pool) .none kV_pool dc_pool pm_pool an_pool cd_pool ct_pool) P_pool [] := .all fun us hl => match us, hl with | [_, _], _ => rfl
  have bb_recs : Binds K (PySem.W.fnOf "records_of" "records_of" (defArgs s_recs) (defBody s_recs) (defScope s_recs) .none kV_recs dc_recs pm_recs an_recs cd_recs ct_recs) P_recs [] := .all fun us hl => match us, hl with | [_], _ => rfl
  have bb_take : Binds K (PySem.W.fnOf "_law_take" "_law_take" (defArgs s_take) (defBody s_take) (defScope s_take) .none kV_take dc_take pm_take an_take cd_take ct_take) P_take [] := .all fun us hl => match us, hl with | [_, _], _ => rfl
  let T : Tx K mg := ⟨f_recs, _, ⟨F_recs, PySem.W.mg_of X G a_recs⟩, f_pool, _, ⟨F_pool, PySem.W.mg_of X G a_pool⟩, f_take, _, ⟨F_take, PySem.W.mg_of X G a_take⟩, f_entry, _, ⟨F_entry, PySem.W.mg_of X G a_entry⟩, f_frames, _, ⟨F_frames, PySem.W.mg_of X G a_frames⟩, f_lrow, _, ⟨F_lrow, PySem.W.mg_of X G a_lrow⟩, f_due, _, ⟨F_due, PySem.W.mg_of X G a_due⟩, f_asked, _, ⟨F_asked, PySem.W.mg_of X G a_asked⟩, fa, _, ⟨F_law, PySem.W.mg_of X G a_law⟩, bb_asked, bb_due, bb_entry, bb_frames, bb_lrow, bb_pool, bb_recs, bb_take, t_LONGEST_RECORD, PySem.W.mg_of X G v_LONGEST_RECORD, PySem.W.mg_none_of X G z_list, PySem.W.mg_none_of X G z_len, PySem.W.mg_none_of X G z_range, PySem.W.mg_none_of X G z_max, PySem.W.mg_none_of X G z_min, PySem.W.mg_none_of X G z_repr⟩
  exact ⟨_, fun s v => .of_eq rfl, fun base _ _ => ok_law T⟩
end Sip
open PySem PySem.W PyProof.Rows
set_option maxHeartbeats 0 in
theorem PySem.Challenge.cw_sipstack_k86_records_of_any_row_holds : PySem.Challenge.rw_sipstack_k86_records_of_any_row.Holds := by
  w_on; o_law; k_head; (case hw => w_witness2)
  k_fill
  refine Sip.walk_ofG (l := PySem.Challenge.rw_sipstack_k86_records_of_any_row) (n := 63) (k := 4) (x := "_law_script") (CX := fun _ => L2.CX0) (sp := fun w => Sip.spLaw _) rfl (by decide) rfl ⟨rfl, by decide, by decide⟩ (fun w h Y => PySem.W.kIn_of Y) ?F (fun _ _ a ns hl _ hS => ⟨a, ns, rfl, hS, hl, fun _ => rfl⟩) (fun _ _ _ _ _ h => h)
  case F =>
    intro w mg fa h KX G hmg
    refine' Sip.all_mk KX G hmg ?a_recs ?l_recs ?c_recs ?k_recs ?a_pool ?l_pool ?c_pool ?k_pool ?a_take ?l_take ?c_take ?k_take ?a_entry ?l_entry ?c_entry ?k_entry ?a_frames ?l_frames ?c_frames ?k_frames ?a_lrow ?l_lrow ?c_lrow ?k_lrow ?a_due ?l_due ?c_due ?k_due ?a_asked ?l_asked ?c_asked ?k_asked ?a_law ?l_law ?c_law ?k_law ?v_LONGEST_RECORD ?z_list ?z_len ?z_range ?z_max ?z_min ?z_repr
    (case a_recs => k_is)
    (case l_recs => k_is)
    (case c_recs => k_is)
    (case k_recs => k_is)
    (case a_pool => k_is)
    (case l_pool => k_is)
    (case c_pool => k_is)
    (case k_pool => k_is)
    (case a_take => k_is)
    (case l_take => k_is)
    (case c_take => k_is)
    (case k_take => k_is)
    (case a_entry => k_is)
    (case l_entry => k_is)
    (case c_entry => k_is)
    (case k_entry => k_is)
    (case a_frames => k_is)
    (case l_frames => k_is)
    (case c_frames => k_is)
    (case k_frames => k_is)
    (case a_lrow => k_is)
    (case l_lrow => k_is)
    (case c_lrow => k_is)
    (case k_lrow => k_is)
    (case a_due => k_is)
    (case l_due => k_is)
    (case c_due => k_is)
    (case k_due => k_is)
    (case a_asked => k_is)
    (case l_asked => k_is)
    (case c_asked => k_is)
    (case k_asked => k_is)
    (case a_law => k_is)
    (case l_law => k_is)
    (case c_law => k_is)
    (case k_law => k_is)
    (case v_LONGEST_RECORD => k_is)
    (case z_list => k_is)
    (case z_len => k_is)
    (case z_range => k_is)
    (case z_max => k_is)
    (case z_min => k_is)
    (case z_repr => k_is)
