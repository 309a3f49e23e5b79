import PyProof.Rows.All
import Wide.All
import OpenK.AllK
import Wide.FinOn
import HandS.List
import HandS.Codes
import HandS.Comp
import HandS.Iter
import HandS.Ends
import HandS.Text
import HandS.Words
import HandS.WordsList
import HandS.Wide
import HandS.IsInst
import HandS.FStr
import PyProof.FString3
import PyProof.Rows.StrIntSpec
import HandS.Walk
import PySem.Challenge.RW_sipstack_k03_rows_written_and_read
set_option Elab.async false
set_option linter.all false
set_option maxRecDepth 100000
namespace Sip
open PySem PySem.Spec PyProof.Rows L2

/-! a slice of step one in a list, laid over by another list; its end may lie behind the list's end -/
theorem clamp {a c n : Nat} (h1 : a ≤ c) (h2 : a ≤ n) :
    sliceBounds (some (a : Int)) (some (c : Int)) none n = ((a : Int), ((min c n : Nat) : Int), 1) := by
  have n1 : ¬ ((a : Int) < 0) := by omega
  have n2 : ¬ ((c : Int) < 0) := by omega
  simp only [sliceBounds, Option.getD_none, n1, n2, if_false, show (1 : Int) > 0 from by decide, if_true]
  refine Prod.ext ?_ (Prod.ext ?_ rfl)
  · show max 0 (min (a : Int) (n : Int)) = (a : Int)
    omega
  · show max 0 (min (c : Int) (n : Int)) = ((min c n : Nat) : Int)
    omega

section
variable {pr : Program} {wd : World} {ar : Around} {er : Value → Shared → Prop} {s : Shared}
set_option maxHeartbeats 4000000 in
theorem put_slice {l b z : Addr} {old new : Array Value} {m m2 a c : Nat} {vl vu : Value} {Q : Unit → Shared → Prop}
    (eo : s.heap.get? l = some { cls := .type "list", data := .seq old m })
    (en : s.heap.get? b = some { cls := .type "list", data := .seq new m2 }) (ne : l ≠ b)
    (hz : s.heap.IsSliceOf z vl vu .none) (pl : IsPart vl (some (a : Int))) (pu : IsPart vu (some (c : Int)))
    (ac : a ≤ c) (an : a ≤ old.size) (fit : old.size + new.size ≤ sizeLine)
    (k : Q () { s with heap := s.heap.update l (Obj.mapSeq fun t => t.extract 0 a ++ new ++ t.extract (min c old.size) t.size) }) :
    wpAny (model pr wd) ar (setItem (.ref l) (.ref z) (.ref b)) Q er s := by
  by_cases hc : c ≤ old.size
  · rw [Nat.min_eq_left hc] at k
    exact setItem_slice eo en ne hz pl pu ac hc fit k
  · have lo : s.heap.IsList l old := PySem.IsL.isList eo
    have ln : s.heap.IsList b new := PySem.IsL.isList en
    obtain ⟨oz, gz, cz, dz⟩ := id hz
    have tz : s.TypeIs (.ref z) "slice" := ⟨oz, gz, cz⟩
    have apart : Builtin.List.listSameRef (.ref l) (.ref b) = false := by
      unfold Builtin.List.listSameRef; exact beq_eq_false_iff_ne.mpr ne
    have zz : ((fun t : Array Value => t.extract 0 a ++ new ++ t.extract (min c old.size) t.size) old).size ≤ sizeLine + 1 := by
      simp only [Array.size_append, Array.size_extract]; omega
    have bd := clamp ac an
    have mx : (max (a : Int) ((min c old.size : Nat) : Int)).toNat = min c old.size := by omega
    unfold setItem
    try (with_reducible refine wpAny_holding ?_)
    try refine wpAny_bind (wpAny_pure ?_)
    refine wpAny_bind (wpAny_sequenceKey lo.typeIs (by decide) (wpAny_bind ?_))
    refine wpAny_callSpecial?_slot (name := Str.ofString "__setitem__") lo.typeIs slot_list_setitem ?_
    refine wpAny_call_entry slot_list_setitem lo.typeIs entry_list_setitem ?_ (args_list_setitem _ _ _)
    show wpAny _ _ (Builtin.List.listSubscript? (.ref z) >>= _) _ _ s
    refine wpAny_bind ?_
    unfold Builtin.List.listSubscript?
    refine wpAny_bind (wpAny_specialOf tz slice_no_index ?_)
    simp only [Option.isNone_none, if_true]
    refine wpAny_pure ?_
    show wpAny _ _ (typeOf (.ref z) >>= _) _ _ s
    refine wpAny_bind (wpAny_typeOf tz ?_)
    first
      | rw [if_neg (by decide)]
      | refine PySem.W.KFB.if_not (by decide) ?_
    rw [listSliceParts_eq]
    refine wpAny_bind (wpAny_bind (wpAny_field gz dz (x := .none) rfl (wpAny_bind (wpAny_listPart .none ?_))))
    rw [if_neg (show ¬ ((rawPart none == rawInt 0) = true) from Bool.false_ne_true)]
    refine wpAny_bind (wpAny_field gz dz (x := vl) rfl (wpAny_bind (wpAny_listPart pl ?_)))
    refine wpAny_bind (wpAny_field gz dz (x := vu) rfl (wpAny_bind (wpAny_listPart pu (wpAny_pure ?_))))
    first
      | simp only [apart, Bool.false_eq_true, if_false]
      | refine PySem.W.KFB.if_not apart ?_
    refine wpAny_bind ?_
    unfold Builtin.List.listAllItems
    refine wpAny_bind (wpAny_typeOf ln.typeIs ?_)
    first
      | refine PySem.W.KFB.if_so (by decide) ?_
      | rw [if_pos (by decide)]
    unfold Builtin.List.listItems
    refine wpAny_bind (wpAny_seqItems en rfl (wpAny_pure (wpAny_bind (wpAny_bind (wpAny_seqItems eo rfl (wpAny_pure ?_))))))
    have si := (sliceIndices_raw (some (a : Int)) (some (c : Int)) none old.size (by simp)).trans (congrArg (pure : Int × Int × Int → Sem (Int × Int × Int)) bd)
    refine wpAny_bind (wpAny_of_eq si ?_)
    show wpAny _ _ (if ((1 : Int) == 1) = true then _ else _) _ _ s
    rw [if_pos (by decide)]
    refine wpAny_bind (wpAny_rule ?_)
    first
      | simp only [notLongL fit, Bool.false_eq_true, if_false]
      | refine PySem.W.KFB.if_not (notLongL fit) ?_
    try refine wpAny_bind (wpAny_pure ?_)
    show wpAny _ _ (updateSeq l (fun t => t.extract 0 ((a : Int)).toNat ++ new ++ t.extract (max (a : Int) ((min c old.size : Nat) : Int)).toNat t.size) >>= _) _ _ s
    rw [mx, Int.toNat_natCast]
    refine wpAny_bind (wpAny_updateSeq (hz := Nat.le_trans (Nat.le_add_right _ _) fit) (_hz' := zz) eo rfl (wpAny_bind (wpAny_letGo ?_)))
    first
      | exact wpAny_bind (wpAny_pure (wpAny_pure ⟨.none, rfl, wpAny_pure k⟩))
      | exact wpAny_pure ⟨.none, rfl, wpAny_pure k⟩
end

section
variable {X : Cx}
theorem splice (xs ys : List Value) (a c : Nat) : xs.toArray.extract 0 a ++ ys.toArray ++ xs.toArray.extract (min c xs.toArray.size) xs.toArray.size = (xs.take a ++ ys ++ xs.drop c).toArray := by
  rw [splice_eq]
  congr 1
  by_cases h : c ≤ xs.length
  · rw [List.size_toArray, Nat.min_eq_left h]
  · rw [List.size_toArray, Nat.min_eq_right (by omega), List.drop_length, List.drop_of_length_le (by omega)]

/-- o[lo:hi] = v, both given, v another list -/
def gCut (to : TE) (tl th : TO) : TG := fun v σ H Q => to σ H fun o H1 => tl σ H1 fun lo H2 => th σ H2 fun hi H3 =>
  ∃ p q xs ys a c, o = .ref p ∧ v = .ref q ∧ lo = some a ∧ hi = some c ∧ H3 p = some (.lst xs) ∧ H3 q = some (.lst ys) ∧ p ≠ q ∧
    0 ≤ a ∧ a ≤ c ∧ a ≤ xs.length ∧ xs.length + ys.length ≤ sizeLine ∧ Q σ (upd H3 p (.lst (xs.take a.toNat ++ ys ++ xs.drop c.toNat)))

theorem pg_cut {o : Expr} {lo hi : Option Expr} {to : TE} {tl th : TO} {p2 pos : Pos} (ho : PE X o to) (hl : PO X lo tl) (hh : PO X hi th)
    (ha : ∀ v, assign (.Subscript o (.Slice lo hi none p2) pos) X.env v = (do
      let ov ← holding [v] (eval o X.env)
      let iv ← holding [v, ov] (eval (.Slice lo hi none p2) X.env)
      standAt pos
      holding [v, ov, iv] (setItem ov iv v)
      release [iv, v, ov] []) := by intro _; rfl) : PG X (.Subscript o (.Slice lo hi none p2) pos) (gCut to tl th) := by
  refine ⟨fun pins s σ H v u Q I r h => ?_⟩
  rw [ha]
  refine wpAny_bind (wpAny_holding (thn (ho.run pins s σ H _ I h) fun ov s1 ⟨x, H1, I1, r1, q1⟩ => wpAny_bind (wpAny_holding ?_)))
  refine wpAny_Slice (thn (hl.run pins s1 σ H1 _ I1 q1) fun wl s2 ⟨l, H2, I2, pl, q2⟩ => ?_)
  refine thn (hh.run pins s2 σ H2 _ I2 q2) fun wu s3 ⟨uu, H3, I3, pu, q3⟩ => ?_
  rw [evalPart_none]
  refine wpAny_pure ?_
  obtain ⟨p, q, xs, ys, a, c, rfl, rfl, rfl, rfl, hp, hq, pq, a0, ac, ax, fit, fin⟩ := q3
  cases r1
  cases r
  have I4 : Inv X pins σ H3 { s3 with heap := s3.heap.push { cls := .type "slice", data := .fields #[wl, wu, .none] } } := I3.kept (t' := s3.toks) fun b ob e => Heap.get?_push_of_some _ e
  refine wpAny_bind (wpAny_standAt (wpAny_bind (wpAny_holding ?_)))
  obtain ⟨z1, us1, n1, rv1, _, e1⟩ := I4.lstM hp
  obtain ⟨z2, us2, n2, rv2, _, e2⟩ := I4.lstM hq
  obtain ⟨a', rfl⟩ := Int.eq_ofNat_of_zero_le a0
  obtain ⟨c', rfl⟩ := Int.eq_ofNat_of_zero_le (Int.le_trans a0 ac)
  simp only [Int.toNat_natCast] at fin
  have L1 := rv1.length
  have L2' := rv2.length
  refine put_slice (a := a') (c := c') e1 e2 pq (Heap.IsSliceOf.new ..) pl pu (by omega) (by rw [List.size_toArray]; omega) (by rw [List.size_toArray, List.size_toArray]; omega) ?_
  refine wpAny_release ⟨σ, _, ?_, fin⟩
  refine I4.lset (its' := us1.take a' ++ us2 ++ us1.drop c') (t' := s3.toks) hp e1 (splice us1 us2 a' c') (Vals.append (Vals.append (rv1.take _) rv2) (rv1.drop _)) ?_
  rw [List.length_append, List.length_append, List.length_take, List.length_drop]
  omega
end
end Sip
namespace Sip
open PySem PySem.Spec PyProof.Rows L2

/-- a def of the text: where it stands, how it is called -/
structure Df (K : PySem.W.Frag) (mg : Str → Option Value) (x : Str) (st : Stmt) (ps : List Str) (f : Addr) (fd : FuncData) : Prop where
  F : Fun K x x st f fd
  b : Binds K fd ps []
  g : mg x = some (.ref f)

/-! heaps: all that was tracked stands, but at the places ps -/
def Kp (ps : List Addr) (H H' : Hp) : Prop := ∀ b o, b ∉ ps → H b = some o → H' b = some o
theorem Kp.refl (ps : List Addr) (H : Hp) : Kp ps H H := fun _ _ _ h => h
theorem Kp.trans {ps : List Addr} {H H1 H2 : Hp} (a : Kp ps H H1) (b : Kp ps H1 H2) : Kp ps H H2 := fun c o n h => b c o n (a c o n h)
theorem Kp.wide {ps qs : List Addr} {H H1 : Hp} (a : Kp ps H H1) (h : ∀ x ∈ ps, x ∈ qs) : Kp qs H H1 := fun c o n e => a c o (fun z => n (h c z)) e
theorem Kp.same {H H1 : Hp} (a : Kp [] H H1) : Same H H1 := fun c o e => a c o (fun h => nomatch h) e
theorem Kp.of {ps : List Addr} {H H1 : Hp} (a : Same H H1) : Kp ps H H1 := fun c o _ e => a c o e
theorem Kp.at {ps : List Addr} {H : Hp} {p : Addr} {o : HO} (h : p ∈ ps) : Kp ps H (upd H p o) := fun b x n e => by
  have hb : b ≠ p := fun z => n (by rw [z]; exact h)
  rw [upd_ne hb]; exact e
theorem Kp.new {ps : List Addr} {H : Hp} {p : Addr} {o : HO} (h : H p = none) : Kp ps H (upd H p o) := fun b x n e => by
  rw [upd_ne (ne_of_none e h)]; exact e
/-- a place that was new at H is written later -/
theorem Kp.put {ps : List Addr} {H H1 : Hp} {p : Addr} {o : HO} (k : Kp ps H H1) (h : H p = none) : Kp ps H (upd H1 p o) := fun b x n e => by
  rw [upd_ne (ne_of_none e h)]; exact k b x n e
theorem Kp.seq {ps : List Addr} {K : PySem.W.Frag} {H H1 : Hp} {a : Addr} {xs : List V} (k : Kp ps H H1) (n : a ∉ ps) (h : SqL K H a xs) : SqL K H1 a xs := by
  rcases h with (h | ⟨o, h⟩) | h
  · exact .inl (.inl (k _ _ n h))
  · exact .inl (.inr ⟨o, k _ _ n h⟩)
  · exact .inr h
theorem Kp.free {H H1 : Hp} {ps : List Addr} (k : Kp ps H H1) {q : Addr} (n : q ∉ ps) (h : H1 q = none) : H q = none := by
  cases e : H q with
  | none => rfl
  | some o => rw [k q o n e] at h; cases h
theorem sq_new {K : PySem.W.Frag} {H : Hp} {p : Addr} {xs : List V} : SqL K (upd H p (.lst xs)) p xs := .inl (.inl upd_same)
theorem sq_at {K : PySem.W.Frag} {H : Hp} {p : Addr} {xs : List V} (h : H p = some (.lst xs)) : SqL K H p xs := .inl (.inl h)
theorem upd_upd {H : Hp} {p : Addr} {a b : HO} : upd (upd H p a) p b = upd H p b := by
  funext x
  by_cases h : x = p
  · subst h; rw [upd_same, upd_same]
  · rw [upd_ne h, upd_ne h, upd_ne h]

/-! the law's own draws: a pool is a list of three ints -/
def PoolO (n : Int) (o : HO) : Prop := ∃ d c x : Int, o = .lst [.int d, .int c, .int x] ∧ 0 ≤ d ∧ 0 ≤ c ∧ c ≤ n
theorem PoolO.up {n m : Int} {o : HO} (h : PoolO n o) (l : n ≤ m) : PoolO m o := by
  obtain ⟨d, c, x, e, h1, h2, h3⟩ := h
  exact ⟨d, c, x, e, h1, h2, by omega⟩
def spTake : Sp := fun vs H Q _ => ∃ (p : Addr) (n wide : Int) (o : HO), vs = [.ref p, .int wide] ∧ H p = some o ∧ PoolO n o ∧ n ≤ 1000000000 ∧ 0 < wide ∧ wide < 1073741824 ∧
  ∀ (r : Int) (o' : HO), 0 ≤ r → r < wide → PoolO (n + 1) o' → Q (.int r) (upd H p o')
def spPool (K : PySem.W.Frag) : Sp := fun vs H Q _ => ∃ (a : Addr) (ns : List Int) (i : Int), vs = [.ref a, .int i] ∧ SqL K H a (ns.map V.int) ∧ ns.length ≤ 63 ∧ 0 ≤ i ∧ i ≤ 1000 ∧
  ∀ (p : Addr) (o : HO), H p = none → PoolO (1000 * i) o → Q (.ref p) (upd H p o)

/-! lists of ints -/
theorem atI_int {ms : List Int} {i : Int} (h0 : 0 ≤ i) (h1 : i < ms.length) : ∃ m, m ∈ ms ∧ atI (ms.map V.int) i = some (.int m) ∧ ms[i.toNat]? = some m := by
  obtain ⟨j, rfl⟩ := Int.eq_ofNat_of_zero_le h0
  have hj : j < ms.length := by omega
  refine ⟨ms[j], List.getElem_mem hj, atI_nat ?_, by rw [Int.toNat_natCast, List.getElem?_eq_getElem hj]⟩
  rw [List.getElem?_map, List.getElem?_eq_getElem hj]; rfl
theorem atI_intV {ms : List Int} {i : Int} (h0 : 0 ≤ i) (h1 : i < ms.length) : atI (ms.map V.int) i = some (.int (ms.getD i.toNat 0)) := by
  obtain ⟨m, _, e, g⟩ := atI_int h0 h1
  rw [e, List.getD_eq_getElem?_getD, g]; rfl
theorem dp_ints {K : PySem.W.Frag} {H : Hp} : ∀ ns : List Int, DpAll K H (ns.map V.int) (ns.map PyData.int)
  | [] => .nil
  | n :: r => .cons (.int n) (dp_ints r)
theorem dp_lst {K : PySem.W.Frag} {H : Hp} {a : Addr} {ns : List Int} (h : SqL K H a (ns.map V.int)) : Dp K H (.ref a) (.list (ns.map PyData.int)) := .lst h (dp_ints ns)
section
variable {X : Cx}
/-- == and != of two lists of ints -/
def rEqI (K : PySem.W.Frag) : R2 := fun x y H Q => ∃ (a b : Addr) (ns ms : List Int), x = .ref a ∧ y = .ref b ∧ SqL K H a (ns.map V.int) ∧ SqL K H b (ms.map V.int) ∧ Q (.bl (decide (ns = ms))) H
def rNeI (K : PySem.W.Frag) : R2 := fun x y H Q => ∃ (a b : Addr) (ns ms : List Int), x = .ref a ∧ y = .ref b ∧ SqL K H a (ns.map V.int) ∧ SqL K H b (ms.map V.int) ∧ Q (.bl (!decide (ns = ms))) H
theorem op_eqI (hu : X.A.units + 64 < cLine) : OpR X (compareOp .Eq) (rEqI X.K) := by
  intro pins s σ H x y v u Q I rx ry h
  obtain ⟨a, b, ns, ms, rfl, rfl, ha, hb, q⟩ := h
  cases rx; cases ry
  obtain ⟨us, rv, hl, _⟩ := I.list ha
  obtain ⟨ws, rw', hl', _⟩ := I.list hb
  exact PySem.W.eq_intsK hl.isList rv.ints hl'.isList rw'.ints hu ⟨.bl (decide (ns = ms)), H, I, rfl, q⟩
theorem op_neI (hu : X.A.units + 64 < cLine) : OpR X (compareOp .NotEq) (rNeI X.K) := by
  intro pins s σ H x y v u Q I rx ry h
  obtain ⟨a, b, ns, ms, rfl, rfl, ha, hb, q⟩ := h
  cases rx; cases ry
  obtain ⟨us, rv, hl, _⟩ := I.list ha
  obtain ⟨ws, rw', hl', _⟩ := I.list hb
  exact PySem.W.ne_intsK hl.isList rv.ints hl'.isList rw'.ints hu ⟨.bl (!decide (ns = ms)), H, I, rfl, q⟩
end
/-! a row laid over another one -/
def laidF (r : List Int) (n : Nat) (d : List Int) : List Int :=
  if d = [] then r else (r ++ List.replicate (n - r.length) 0).take n ++ d ++ (r ++ List.replicate (n - r.length) 0).drop (n + d.length)
theorem laidF_nil (r : List Int) (n : Nat) : laidF r n [] = r := if_pos rfl
theorem laidF_cons {r : List Int} {n : Nat} {d : List Int} (h : d ≠ []) : laidF r n d = (r ++ List.replicate (n - r.length) 0).take n ++ d ++ (r ++ List.replicate (n - r.length) 0).drop (n + d.length) := if_neg h
theorem laidF_length {r : List Int} {n : Nat} {d : List Int} (h : d ≠ []) : (laidF r n d).length = max r.length (n + d.length) := by
  rw [laidF_cons h, List.length_append, List.length_append, List.length_take, List.length_drop, List.length_append, List.length_replicate]
  omega
theorem pad_get (r : List Int) (m i : Nat) : (r ++ List.replicate m 0)[i]?.getD 0 = r.getD i 0 := by
  rw [List.getD_eq_getElem?_getD]
  by_cases h : i < r.length
  · rw [List.getElem?_append_left h]
  · rw [List.getElem?_append_right (by omega), List.getElem?_eq_none (l := r) (by omega)]
    by_cases h2 : i - r.length < m
    · rw [List.getElem?_replicate, if_pos h2]; rfl
    · rw [List.getElem?_eq_none (by rw [List.length_replicate]; omega)]
theorem laidF_getD {r : List Int} {n : Nat} {d : List Int} (h : d ≠ []) (i : Nat) : (laidF r n d)[i]?.getD 0 = if n ≤ i ∧ i < n + d.length then d.getD (i - n) 0 else r.getD i 0 := by
  have lt : ((r ++ List.replicate (n - r.length) 0).take n).length = n := by
    rw [List.length_take, List.length_append, List.length_replicate]; omega
  rw [laidF_cons h, List.append_assoc]
  by_cases h1 : i < n
  · rw [if_neg (by omega), List.getElem?_append_left (by rw [lt]; exact h1), List.getElem?_take_of_lt h1]
    exact pad_get r _ i
  · rw [List.getElem?_append_right (by rw [lt]; omega), lt]
    by_cases h2 : i < n + d.length
    · rw [if_pos ⟨by omega, h2⟩, List.getElem?_append_left (by omega), List.getD_eq_getElem?_getD]
    · rw [if_neg (by omega), List.getElem?_append_right (by omega), List.getElem?_drop, ← pad_get r (n - r.length) i]
      congr 2
      omega
theorem laidF_get {r : List Int} {n : Nat} {d : List Int} {i : Nat} (h : d ≠ []) (hi : i < (laidF r n d).length) : (laidF r n d)[i]? = some (if n ≤ i ∧ i < n + d.length then d.getD (i - n) 0 else r.getD i 0) := by
  rw [← laidF_getD h i, List.getElem?_eq_getElem hi]; rfl
theorem ext_getD {xs ys : List Int} (hl : xs.length = ys.length) (h : ∀ i, i < xs.length → xs[i]?.getD 0 = ys[i]?.getD 0) : xs = ys := by
  apply List.ext_getElem hl
  intro i h1 h2
  have := h i h1
  rw [List.getElem?_eq_getElem h1, List.getElem?_eq_getElem h2] at this
  exact this
/-- laid over once more: the same -/
theorem laidF_twice (r : List Int) (n : Nat) (d : List Int) : laidF (laidF r n d) n d = laidF r n d := by
  by_cases h : d = []
  · subst h; rw [laidF_nil, laidF_nil]
  · have l1 := laidF_length (r := r) (n := n) h
    have l2 := laidF_length (r := laidF r n d) (n := n) h
    refine ext_getD (by omega) fun i hi => ?_
    rw [laidF_getD h, laidF_getD h]
    split
    · rfl
    · next c => rw [List.getD_eq_getElem?_getD, laidF_getD h, if_neg c]
theorem flat_rep (m : Nat) (v : V) : (List.replicate m [v]).flatten = List.replicate m v := by
  induction m with
  | zero => rfl
  | succ m ih => rw [List.replicate_succ, List.flatten_cons, ih, List.replicate_succ]; rfl
theorem all_true (n : Nat) : (List.replicate n true).all id = true := by
  rw [List.all_eq_true]
  intro x hx
  exact (List.mem_replicate.mp hx).2
def spBytes : Sp := fun vs H Q _ => ∃ (p : Addr) (n : Int) (o : HO), vs = [.ref p] ∧ H p = some o ∧ PoolO n o ∧ n ≤ 900000000 ∧
  ∀ (H' : Hp) (q : Addr) (bs : List Int) (o' : HO), H q = none → H' q = some (.lst (bs.map V.int)) → H' p = some o' → PoolO (n + 1000) o' → Kp [p] H H' → bs.length ≤ 400 → (∀ b ∈ bs, 0 ≤ b ∧ b ≤ 255) → Q (.ref q) H'
def spLaid (K : PySem.W.Frag) : Sp := fun vs H Q _ => ∃ (a b : Addr) (r : List Int) (n : Nat) (d : List Int), vs = [.ref a, .int n, .ref b] ∧ SqL K H a (r.map V.int) ∧ H b = some (.lst (d.map V.int)) ∧ r.length ≤ 10000 ∧ n ≤ 4400 ∧ d.length ≤ 4400 ∧
  ∀ (H' : Hp) (q : Addr), H q = none → H' q = some (.lst ((laidF r n d).map V.int)) → Same H H' → Q (.ref q) H'
def spDue (K : PySem.W.Frag) : Sp := fun vs H Q _ => ∃ (a b : Addr) (r : List Int) (n : Nat) (d : List Int), vs = [.ref a, .int n, .ref b] ∧ SqL K H a (r.map V.int) ∧ SqL K H b (d.map V.int) ∧ r.length ≤ 10000 ∧ n ≤ 4400 ∧ d.length ≤ 4400 ∧
  ∀ (H' : Hp) (q : Addr), H q = none → H' q = some (.lst ((laidF r n d).map V.int)) → Same H H' → Q (.ref q) H'
def spFits (K : PySem.W.Frag) : Sp := fun vs H Q _ => ∃ (a b : Addr) (xs ys : List Int), vs = [.ref a, .ref b] ∧ H a = some (.lst (xs.map V.int)) ∧ SqL K H b (ys.map V.int) ∧ xs.length ≤ 100000 ∧
  ∀ H' : Hp, Same H H' → Q (.bl (decide (xs = ys))) H'
def spLaw (K : PySem.W.Frag) : Sp := fun vs H Q _ => ∃ (a : Addr) (ns : List Int), vs = [.ref a] ∧ SqL K H a (ns.map V.int) ∧ ns.length ≤ 63 ∧ ∀ H' : Hp, Q (.bl true) H'
theorem step_same {H H1 H2 : Hp} {p : Addr} (s : Same H H1) (n : H p = none) (k : Kp [p] H1 H2) : Same H H2 := fun b o e =>
  k b o (fun z => ne_of_none e n (List.mem_singleton.mp z)) (s b o e)
theorem put_same {H H1 : Hp} {p : Addr} {o : HO} (s : Same H H1) (n : H p = none) : Same H (upd H1 p o) := fun b x e => by
  rw [upd_ne (ne_of_none e n)]; exact s b x e
theorem ixN_zero {n : Nat} (h : 0 < n) : ixN n 0 = some 0 := by
  unfold ixN
  rw [if_pos (by decide), if_pos (by omega)]; rfl
theorem laidF_le {r d : List Int} {n m : Nat} (h : r.length ≤ m ∧ n + d.length ≤ m) : (laidF r n d).length ≤ m := by
  by_cases e : d = []
  · subst e; rw [laidF_nil]; exact h.1
  · rw [laidF_length e]; omega
end Sip
namespace Sip
open PySem PySem.Spec PyProof.Rows L2 PySem.Builtin PySem.Builtin.Str PySem.Builtin.Int PySem.Builtin.Float

def figs : List Nat := [48, 49, 50, 51, 52, 53, 54, 55, 56, 57, 97, 98, 99, 100, 101, 102]
/-- two figures of sixteen -/
def two (n : Nat) : Str := ⟨#[figs.getD (n / 16) 0, figs.getD (n % 16) 0]⟩
def hexSpec : FormatSpec := { fill := 48, align := 61, width := some 2, type := some 120 }
theorem hex_parse : parseFormatSpec (Str.ofString "02x").cps.toList "int" 62 = .ok hexSpec := by kernel_rfl
theorem hex_ascii : (((Str.ofString "02x").cps.toList.drop 1).any (· ≥ 128) || ((Str.ofString "02x").cps.getD 0 0 ≥ 128 && !([60, 62, 61, 94] : List Nat).contains ((Str.ofString "02x").cps.getD 1 0))) = false := by decide +kernel
theorem hex_some : ((Str.ofString "02x").length == 0) = false := by decide +kernel
theorem hex_ex : ∃ F : Int → Str, (∀ (a : Int) (t u : Tok), Gives («int.__format__» ⟨[.int a t, .str (Str.ofString "02x") u], []⟩) (.str (F a))) ∧ ∀ b : Fin 256, F (b.val : Int) = two b.val := by
  apply Exists.intro
  apply And.intro
  · intro a t u prog w A R s hq
    unfold «int.__format__»
    simp only [selfAndOne, noKeywords, Int.intOfSelf, asInt?, asStr?, List.isEmpty_nil, if_true, pure_bind, bind_pure, bind_assoc, hex_some, hex_ascii, Bool.false_eq_true, if_false,
      show (Value.str (Str.ofString "02x") u == Value.none) = false from rfl]
    refine wpAny_bind (wpAny_typeNameOf (T := "str") (typeIs_str _ _ _) (by decide) fun _ => wpAny_bind (wpAny_typeNameOfCut_int ?_))
    simp only [hex_parse]
    refine PySem.W.KFB.if_so (by decide +kernel) ?_
    show wpAny _ _ (retStr _) _ _ _
    unfold retStr
    exact wpAny_bind (wpAny_mkStr (wpAny_pure hq.2) hq.1)
  · decide +kernel
end Sip
namespace Sip
open PySem PySem.Spec PyProof.Rows L2 TL

section
variable {X : Cx}
/-- f'{b:02x}' of a byte -/
def tHex (te : TE) : TE := fun σ H Q => te σ H fun x H1 => ∃ b : Nat, b < 256 ∧ x = .int b ∧ Q (.str (two b)) H1
theorem pe_hex {e : Expr} {te : TE} {k : Nat} {p1 p2 p3 p4 : Pos} (he : PE X e te) :
    PE X (.JoinedStr [.FormattedValue e (-1) (some (.JoinedStr [.Constant (.str (Str.ofString "02x")) k p1] p2)) p3] p4) (tHex te) := by
  have hs : PE X (.JoinedStr [.Constant (.str (Str.ofString "02x")) k p1] p2) (tC (.str (Str.ofString "02x"))) := pe_joined1 pe_str
  obtain ⟨F, g1, g2⟩ := hex_ex
  refine ⟨fun pins s σ H Q I h => wpAny_JoinedStr_one (wpAny_FormattedValue_spec (thn (he.run pins s σ H _ I h) fun v s1 ⟨x, H1, I1, r1, q1⟩ => ?_))⟩
  obtain ⟨b, hb, rfl, q⟩ := q1
  obtain ⟨t, rfl⟩ := r1
  refine thn (hs.run pins s1 σ H1 (fun y H2 => y = .str (Str.ofString "02x") ∧ H2 = H1) I1 ⟨rfl, rfl⟩) fun u s2 ⟨y, H2, I2, r2, ey, eH⟩ => ?_
  subst ey eH
  obtain ⟨t2, rfl⟩ := r2
  have e2 : F (b : Int) = two b := g2 ⟨b, hb⟩
  refine ⟨_, _, rfl, wpAny_formatField_spec (x := F (b : Int)) hex_some (fun s' => typeIs_int s' _ _) PySem.F.slot_int_format PySem.F.entry_int_format PySem.F.args_int_format_2 (fun u => g1 b t u) ?_ (by rw [sizeLine_eq]; decide +kernel) (by rw [e2, sizeLine_eq]; show (2 : Nat) ≤ _; decide)⟩
  rw [e2]
  exact ⟨.str (two b), H2, (I2.tok _).tok _, ⟨_, rfl⟩, q⟩
end

/-! the text of a row, as codes -/
def twoL (b : Int) : List Nat := [figs.getD (b.toNat / 16) 0, figs.getD (b.toNat % 16) 0]
def txL (bs : List Int) : List Nat := bs.flatMap twoL
def tx (bs : List Int) : Str := ⟨(txL bs).toArray⟩
def Bytes (bs : List Int) : Prop := ∀ b ∈ bs, 0 ≤ b ∧ b ≤ 255
theorem txL_length : ∀ bs : List Int, (txL bs).length = 2 * bs.length
  | [] => rfl
  | b :: r => by
    show (twoL b ++ txL r).length = 2 * (r.length + 1)
    rw [List.length_append, txL_length r]
    show 2 + 2 * r.length = _
    omega
theorem tx_length (bs : List Int) : (tx bs).length = 2 * bs.length := by
  show (txL bs).toArray.size = _
  rw [List.size_toArray, txL_length]
theorem txL_append (a b : List Int) : txL (a ++ b) = txL a ++ txL b := List.flatMap_append
theorem tx_append (a b : List Int) : tx (a ++ b) = tx a ++ tx b := ext_toList (by
  show (txL (a ++ b)).toArray.toList = ((txL a).toArray ++ (txL b).toArray).toList
  rw [Array.toList_append, txL_append])
/-- a figure's worth -/
def wor (c : Nat) : Nat := figs.idxOf c
theorem wor_figs : ∀ j : Fin 16, wor (figs.getD j.val 0) = j.val := by decide
theorem twoL_back {b : Int} (h : 0 ≤ b ∧ b ≤ 255) : ∃ i j : Nat, i < 16 ∧ j < 16 ∧ twoL b = [figs.getD i 0, figs.getD j 0] ∧ b = 16 * (i : Int) + j :=
  ⟨b.toNat / 16, b.toNat % 16, by omega, by omega, rfl, by omega⟩
theorem figs_inj {i j : Nat} (hi : i < 16) (hj : j < 16) (e : figs.getD i 0 = figs.getD j 0) : i = j := by
  have a : wor (figs.getD i 0) = i := wor_figs ⟨i, hi⟩
  have b : wor (figs.getD j 0) = j := wor_figs ⟨j, hj⟩
  exact a.symm.trans ((congrArg wor e).trans b)
theorem txL_inj : ∀ {a b : List Int}, Bytes a → Bytes b → txL a = txL b → a = b
  | [], [], _, _, _ => rfl
  | [], y :: r, _, _, e => by cases e
  | x :: r, [], _, _, e => by cases e
  | x :: r, y :: q, ha, hb, e => by
    obtain ⟨i, j, hi, hj, e1, e2⟩ := twoL_back (ha x (List.mem_cons_self ..))
    obtain ⟨m, n, hm, hn, e3, e4⟩ := twoL_back (hb y (List.mem_cons_self ..))
    have e5 : twoL x ++ txL r = twoL y ++ txL q := e
    rw [e1, e3] at e5
    have e6 := List.cons.inj e5
    have e7 := List.cons.inj e6.2
    have k1 := figs_inj hi hm e6.1
    have k2 := figs_inj hj hn e7.1
    have k3 := txL_inj (fun z hz => ha z (List.mem_cons_of_mem _ hz)) (fun z hz => hb z (List.mem_cons_of_mem _ hz)) e7.2
    rw [e2, e4, k1, k2, k3]
theorem tx_inj {a b : List Int} (ha : Bytes a) (hb : Bytes b) (e : tx a = tx b) : a = b := txL_inj ha hb (by
  have := congrArg (fun s : Str => s.cps.toList) e
  exact this)
theorem tx_eq {a b : List Int} (ha : Bytes a) (hb : Bytes b) : decide (V.str (tx a) = V.str (tx b)) = decide (a = b) := by
  by_cases h : a = b
  · subst h; rw [decide_eq_true rfl, decide_eq_true rfl]
  · rw [decide_eq_false h, decide_eq_false]
    intro z
    exact h (tx_inj ha hb (V.str.inj z))
/-- joined from its parts -/
theorem join_two : ∀ bs : List Int, Str.join (Str.ofString "") (bs.map fun b => two b.toNat) = tx bs := fun bs => ext_toList (by
  show tl (Str.join (Str.ofString "") _) = txL bs
  rw [tl_join]
  have e0 : tl (Str.ofString "") = [] := by decide +kernel
  rw [e0, List.map_map]
  induction bs with
  | nil => rfl
  | cons b r ih =>
    cases r with
    | nil => show twoL b = twoL b ++ []; rw [List.append_nil]
    | cons c q =>
      show twoL b ++ ([] ++ joinL [] ((c :: q).map _)) = twoL b ++ txL (c :: q)
      rw [List.nil_append, ih])
/-- its signs by place -/
theorem txL_get : ∀ {bs : List Int} {i : Nat} {b : Int}, bs[i]? = some b → (txL bs)[2 * i]? = some (figs.getD (b.toNat / 16) 0) ∧ (txL bs)[2 * i + 1]? = some (figs.getD (b.toNat % 16) 0)
  | [], _, _, h => by simp at h
  | x :: r, 0, b, h => by
    have e : x = b := Option.some.inj h
    subst e
    exact ⟨rfl, rfl⟩
  | x :: r, i + 1, b, h => txL_get (bs := r) (i := i) (b := b) h
theorem tx_at {bs : List Int} {i : Nat} {b : Int} (h : bs[i]? = some b) : atI (tx bs).cps.toList ((2 * i : Nat) : Int) = some (figs.getD (b.toNat / 16) 0) ∧ atI (tx bs).cps.toList ((2 * i + 1 : Nat) : Int) = some (figs.getD (b.toNat % 16) 0) :=
  ⟨atI_nat (txL_get h).1, atI_nat (txL_get h).2⟩
def FIG : Str := Str.ofString "0123456789abcdef"
theorem fig_find : ∀ j : Fin 16, Txt.find FIG ⟨#[figs.getD j.val 0]⟩ = (j.val : Int) := by decide +kernel
theorem fig_at {j : Nat} (h : j < 16) : atI FIG.cps.toList (j : Int) = some (figs.getD j 0) := by
  have e : FIG.cps.toList = figs := by decide +kernel
  rw [e]
  refine atI_nat ?_
  rw [List.getD_eq_getElem?_getD, List.getElem?_eq_getElem (show j < figs.length from h)]; rfl
/-! slices of lists of ints -/
theorem cut_map (bs : List Int) (lo hi : Option Int) : ∃ cs : List Int, cutV (bs.map V.int) lo hi = cs.map V.int ∧ cs.length ≤ bs.length ∧ ∀ x ∈ cs, x ∈ bs := by
  refine ⟨(bs.drop (HT.sIx bs.length 0 lo)).take (HT.sIx bs.length bs.length hi - HT.sIx bs.length 0 lo), ?_, ?_, ?_⟩
  · unfold cutV
    rw [List.length_map, List.map_take, List.map_drop]
  · rw [List.length_take, List.length_drop]; omega
  · intro x hx
    exact List.mem_of_mem_drop (List.mem_of_mem_take hx)
theorem size_two (n : Nat) : Builtin.Range.rangeSize 0 ((2 * n : Nat) : Int) 2 = (n : Int) := by
  unfold Builtin.Range.rangeSize
  rw [if_pos (by decide)]
  split <;> omega
theorem range_two (n : Nat) (h : n ≤ 1000000) : RgC 0 ((2 * n : Nat) : Int) 2 n := by
  refine ⟨by decide, by decide, ?_, size_two n⟩
  have f : ∀ x : Int, 0 ≤ x → x ≤ 3000000 → Builtin.Range.rangeFitsLong x = true := fun x h0 h1 => by
    unfold Builtin.Range.rangeFitsLong
    rw [Bool.and_eq_true, decide_eq_true_eq, decide_eq_true_eq]
    omega
  unfold Builtin.Range.small
  rw [size_two, f 0 (by decide) (by decide), f ((2 * n : Nat) : Int) (by omega) (by omega), f 2 (by decide) (by decide), f (n : Int) (by omega) (by omega)]
  simp only [Bool.true_and, show (2 : Int) > 0 from by decide, if_true, Bool.or_eq_true, beq_iff_eq]
  exact .inr (f _ (by omega) (by omega))
end Sip
namespace Sip
open PySem PySem.Spec PyProof.Rows L2 TL
def spWorth : Sp := fun vs H Q _ => ∃ j : Nat, j < 16 ∧ vs = [.str ⟨#[figs.getD j 0]⟩] ∧ Q (.int j) H
def spRead : Sp := fun vs H Q _ => ∃ bs : List Int, vs = [.str (tx bs)] ∧ Bytes bs ∧ bs.length ≤ 8000 ∧ ∀ (H' : Hp) (p : Addr), H p = none → H' p = some (.lst (bs.map V.int)) → Same H H' → Q (.ref p) H'
def spTxt (K : PySem.W.Frag) : Sp := fun vs H Q _ => ∃ (a : Addr) (bs : List Int), vs = [.ref a] ∧ SqL K H a (bs.map V.int) ∧ Bytes bs ∧ bs.length ≤ 8000 ∧ ∀ H' : Hp, Same H H' → Q (.str (tx bs)) H'
theorem get_int {xs : List Int} {i : Nat} {x : V} (h : (xs.map V.int)[i]? = some x) : ∃ hi : i < xs.length, x = .int xs[i] := by
  have hi : i < xs.length := by
    have := (List.getElem?_eq_some_iff.mp h).1
    rwa [List.length_map] at this
  refine ⟨hi, ?_⟩
  rw [List.getElem?_map, List.getElem?_eq_getElem hi] at h
  exact (Option.some.inj h).symm
theorem sum_two : ∀ bs : List Int, ((bs.map fun b => two b.toNat).map (·.length)).sum = 2 * bs.length
  | [] => rfl
  | b :: r => by
    show 2 + ((r.map fun b => two b.toNat).map (·.length)).sum = 2 * (r.length + 1)
    rw [sum_two r]; omega
theorem fit_two (bs : List Int) (h : bs.length ≤ 8000) : ((bs.map fun b => two b.toNat).map (·.length)).sum + (bs.map fun b => two b.toNat).length * (Str.ofString "").length ≤ 16777216 := by
  rw [sum_two, show (Str.ofString "").length = 0 by decide +kernel]; omega
end Sip
namespace Sip
open PySem PySem.Spec PyProof.Rows L2 TL
def spAsked : Sp := fun vs H Q _ => ∃ (a : Addr) (bs : List Int), vs = [.ref a] ∧ H a = some (.lst (bs.map V.int)) ∧ Bytes bs ∧ bs.length ≤ 4000 ∧ ∀ H' : Hp, Same H H' → Q (.bl true) H'
end Sip
namespace Sip
open PySem PySem.Spec PyProof.Rows L2 TL
def topS (i : Nat) : Stmt := PySem.Challenge.pw_sipstack_k03_rows_written_and_read.main.body.getD i (.Pass ⟨0, 0, 0, 0⟩)
abbrev s_worth : Stmt := topS 7
abbrev N_worth : List Str := ["figure", "worth"]
abbrev P_worth : List Str := ["figure"]
theorem sc_worth : FnScope N_worth P_worth (defScope s_worth) := ⟨rfl, rfl, rfl, by decide +kernel, rfl, by decide +kernel, by decide +kernel⟩
abbrev s_read : Stmt := topS 6
abbrev N_read : List Str := ["text", "at"]
abbrev P_read : List Str := ["text"]
theorem sc_read : FnScope N_read P_read (defScope s_read) := ⟨rfl, rfl, rfl, by decide +kernel, rfl, by decide +kernel, by decide +kernel⟩
abbrev s_rowtext : Stmt := topS 5
abbrev N_rowtext : List Str := ["row", "byte"]
abbrev P_rowtext : List Str := ["row"]
theorem sc_rowtext : FnScope N_rowtext P_rowtext (defScope s_rowtext) := ⟨rfl, rfl, rfl, by decide +kernel, rfl, by decide +kernel, by decide +kernel⟩
abbrev s_pool : Stmt := topS 9
abbrev N_pool : List Str := ["_law_script", "_law_at", "_law_cell", "_law_digits"]
abbrev P_pool : List Str := ["_law_script", "_law_at"]
theorem sc_pool : FnScope N_pool P_pool (defScope s_pool) := ⟨rfl, rfl, rfl, by decide +kernel, rfl, by decide +kernel, by decide +kernel⟩
abbrev s_take : Stmt := topS 10
abbrev N_take : List Str := ["_law_pool_here", "_law_wide", "_law_found", "_law_seed"]
abbrev P_take : List Str := ["_law_pool_here", "_law_wide"]
theorem sc_take : FnScope N_take P_take (defScope s_take) := ⟨rfl, rfl, rfl, by decide +kernel, rfl, by decide +kernel, by decide +kernel⟩
abbrev s_bytes : Stmt := topS 11
abbrev N_bytes : List Str := ["_law_pool_here", "_law_many", "_law_found", "_law_k"]
abbrev P_bytes : List Str := ["_law_pool_here"]
theorem sc_bytes : FnScope N_bytes P_bytes (defScope s_bytes) := ⟨rfl, rfl, rfl, by decide +kernel, rfl, by decide +kernel, by decide +kernel⟩
abbrev s_text : Stmt := topS 12
abbrev N_text : List Str := ["_law_row", "_law_figures", "_law_one"]
abbrev P_text : List Str := ["_law_row"]
theorem sc_text : FnScope N_text P_text (defScope s_text) := ⟨rfl, rfl, rfl, by decide +kernel, rfl, by decide +kernel, by decide +kernel⟩
abbrev s_fits : Stmt := topS 13
abbrev N_fits : List Str := ["_law_found", "_law_due", "_law_thing"]
abbrev P_fits : List Str := ["_law_found", "_law_due"]
theorem sc_fits : FnScope N_fits P_fits (defScope s_fits) := ⟨rfl, rfl, rfl, by decide +kernel, rfl, by decide +kernel, by decide +kernel⟩
abbrev s_asked : Stmt := topS 14
abbrev N_asked : List Str := ["_law_row", "_law_handed", "_law_text_here", "_law_found"]
abbrev P_asked : List Str := ["_law_row"]
theorem sc_asked : FnScope N_asked P_asked (defScope s_asked) := ⟨rfl, rfl, rfl, by decide +kernel, rfl, by decide +kernel, by decide +kernel⟩
abbrev s_law : Stmt := topS 15
abbrev N_law : List Str := ["_law_script", "_law_pool_here", "_law_row", "_law_other", "_law_at", "_law_both"]
abbrev P_law : List Str := ["_law_script"]
theorem sc_law : FnScope N_law P_law (defScope s_law) := ⟨rfl, rfl, rfl, by decide +kernel, rfl, by decide +kernel, by decide +kernel⟩
section
variable {P : Program} {w : World} {K : PySem.W.Frag} {mg : Str → Option Value} {base : Heap}

theorem ok_pool {f : Addr} {fd : FuncData} (F : Fun K "_law_pool" "_law_pool" s_pool f fd) (m_len : mg "len" = none) : FnOk P w K mg base CX0 1 f fd P_pool (spPool K) := by
  refine F.ok sc_pool (fun vs H Q E h => ?_) (fun cdv A outer s H vs Q E hr h => ?_)
  · obtain ⟨a, ns, i, rfl, _⟩ := h
    rfl
  · obtain ⟨a, ns, i, rfl, hS, h63, i0, i1, q⟩ := h
    refine ⟨_, (pss_cons (ps_set (i := 2) sc_pool.nd rfl (.inl rfl) pe_int)
      (C8.pss_cut (ps_if (pt_cmpR op_gt (pe_callB call_len_seq (by rfl) m_len PySem.boot_len (pa_cons (pv 0) pa_nil)) pe_int (nomark _)) (pss_one (ps_set (i := 2) sc_pool.nd rfl (.inl rfl) (pe_ix ix_list (pv 0) (pe_op op_mod (pv 1) (pe_callB call_len_seq (by rfl) m_len PySem.boot_len (pa_cons (pv 0) pa_nil))) (fun _ _ => rfl)))) pss_nil)
      (pss_cons (ps_set (i := 3) sc_pool.nd rfl (.inl rfl) pe_int)
      (C8.pss_cut (ps_if (PW.pt (pw_and (pt_cmpR op_ge (pv 2) (pe_op op_pow pe_int pe_int) (nomark _)) (pw_and1 (pt_cmpR op_lt (pv 1) (pe_callB call_len_seq (by rfl) m_len PySem.boot_len (pa_cons (pv 0) pa_nil)) (nomark _))))) (pss_one (ps_set (i := 3) sc_pool.nd rfl (.inl rfl) (pv 2))) pss_nil)
      (pss_one (ps_ret (pe_lst (pa_cons (pv 3) (pa_cons (pe_op op_mul pe_int (pv 1)) (pa_cons (pv 2) pa_nil)))))))))), ?_⟩
    refine ⟨fun σ' H' => H' = H ∧ ∃ c : Int, σ' = [some (.ref a), some (.int i), some (.int c), none], ?_, fun σ' H' hm => ?_⟩
    · refine ⟨.ref a, rfl, a, ns.map V.int, rfl, .inl hS, _, _, rfl, rfl, _, rfl, ite2 (fun e => ?_) (fun e => ?_)⟩
      · have e1 : (0 : Int) < ((ns.map V.int).length : Int) := of_decide_eq_true e
        rw [List.length_map] at e1
        obtain ⟨m, _, em, _⟩ := atI_int (ms := ns) (i := i % (ns.length : Int)) (Int.emod_nonneg _ (by omega)) (Int.emod_lt_of_pos _ e1)
        refine ⟨.ref a, rfl, .int i, rfl, .ref a, rfl, a, ns.map V.int, rfl, .inl hS, _, _, rfl, rfl, ?_, a, _, _, .int m, rfl, rfl, hS, ?_, rfl, m, rfl⟩
        · rw [List.length_map]; exact e1
        · rw [List.length_map]; exact em
      · exact ⟨rfl, 0, rfl⟩
    · obtain ⟨rfl, c, rfl⟩ := hm
      refine ⟨fun σ' H'' => H'' = H' ∧ ∃ d : Int, 0 ≤ d ∧ σ' = [some (.ref a), some (.int i), some (.int c), some (.int d)], ?_, fun σ' H'' hm => ?_⟩
      · refine ⟨.int c, rfl, _, _, rfl, rfl, ⟨by decide, by decide, by decide⟩, _, _, rfl, rfl, _, rfl, ite2 (fun e => ?_) (fun e => iteF ⟨rfl, 0, by decide, rfl⟩)⟩
        have e1 : ((10 : Int) ^ (18 : Int).toNat) ≤ c := of_decide_eq_true e
        refine ⟨.int i, rfl, .ref a, rfl, a, ns.map V.int, rfl, .inl hS, _, _, rfl, rfl, _, rfl, ite2 (fun e => ?_) (fun e => ⟨rfl, 0, by decide, rfl⟩)⟩
        exact ⟨.int c, rfl, rfl, c, Int.le_trans (by decide) e1, rfl⟩
      · obtain ⟨rfl, d, d0, rfl⟩ := hm
        refine ⟨.int d, rfl, .int i, rfl, _, _, rfl, rfl, .inl ⟨by decide, by decide⟩, .int c, rfl, by show (3 : Nat) ≤ sizeLine; decide, fun p np => q p _ np ⟨d, 1000 * i, c, rfl, d0, by omega, by omega⟩⟩

theorem ok_take {f : Addr} {fd : FuncData} (F : Fun K "_law_take" "_law_take" s_take f fd) : FnOk P w K mg base CX0 1 f fd P_take spTake := by
  refine F.ok sc_take (fun vs H Q E h => ?_) (fun cdv A outer s H vs Q E hr h => ?_)
  · obtain ⟨p, n, wd, o, rfl, _⟩ := h
    rfl
  · obtain ⟨p, n, wd, o, rfl, hp, ⟨d, c, x, rfl, d0, c0, cn⟩, n9, w0, w1, q⟩ := h
    refine ⟨_, (pss_cons (ps_if (pt_cmpR op_gt (pe_ix ix_list (pv 0) pe_int (fun _ _ => rfl)) pe_int (nomark _)) (pss_cons (ps_set (i := 2) sc_take.nd rfl (.inl rfl) (pe_op op_mod (pe_ix ix_list (pv 0) pe_int (fun _ _ => rfl)) (pv 1)))
      (pss_cons (ps_asg (pe_op op_fdiv (pe_ix ix_list (pv 0) pe_int (fun _ _ => rfl)) (pv 1)) (pg_sub (pv 0) pe_int set_list))
      (pss_one (ps_ret (pv 2))))) pss_nil)
      (pss_cons (ps_asg (pe_op op_add (pe_ix ix_list (pv 0) pe_int (fun _ _ => rfl)) pe_int) (pg_sub (pv 0) pe_int set_list))
      (pss_cons (ps_set (i := 3) sc_take.nd rfl (.inl rfl) (pe_op op_mod (pe_op op_pow (pe_op op_add (pe_op op_mod (pe_ix ix_list (pv 0) pe_int (fun _ _ => rfl)) pe_int) (pe_op op_mul pe_int (pe_ix ix_list (pv 0) pe_int (fun _ _ => rfl)))) pe_int) pe_int))
      (pss_cons (ps_set (i := 3) sc_take.nd rfl (.inl rfl) (pe_op op_add (pe_op op_mul (pv 3) pe_int) (pe_op op_mul (pe_op op_mul (pe_ix ix_list (pv 0) pe_int (fun _ _ => rfl)) (pe_ix ix_list (pv 0) pe_int (fun _ _ => rfl))) pe_int)))
      (pss_one (ps_ret (pe_op op_mod (pe_op op_fdiv (pe_op op_mod (pe_op op_add (pv 3) (pe_op op_fdivW (pe_ix ix_list (pv 0) pe_int (fun _ _ => rfl)) pe_int)) pe_int) pe_int) (pv 1)))))))), ?_⟩
    have S0 : SqL K H p [.int d, .int c, .int x] := sq_at hp
    refine ⟨.ref p, rfl, p, _, 0, .int d, rfl, rfl, S0, rfl, d, 0, rfl, rfl, _, rfl, ite2 (fun e => ?_) (fun e => ?_)⟩
    · refine ⟨.ref p, rfl, p, _, 0, .int d, rfl, rfl, S0, rfl, .int wd, rfl, d, wd, rfl, rfl, w0, ?_⟩
      refine ⟨.ref p, rfl, p, _, 0, .int d, rfl, rfl, S0, rfl, .int wd, rfl, d, wd, rfl, rfl, ⟨w0, w1⟩, ?_⟩
      refine ⟨.ref p, rfl, p, _, 0, 0, rfl, rfl, hp, rfl, .int (d % wd), rfl, ?_⟩
      exact q _ _ (Int.emod_nonneg _ (by omega)) (Int.emod_lt_of_pos _ w0) ⟨d / wd, c, x, rfl, Int.ediv_nonneg d0 (by omega), c0, by omega⟩
    · refine ⟨.ref p, rfl, p, _, 1, .int c, rfl, rfl, S0, rfl, c, 1, rfl, rfl, .ref p, rfl, p, _, 1, 1, rfl, rfl, hp, rfl, ?_⟩
      have S1 : SqL K (upd H p (.lst [.int d, .int (c + 1), .int x])) p [.int d, .int (c + 1), .int x] := sq_new
      have y0 : 0 ≤ x % 2147483647 := Int.emod_nonneg _ (by decide)
      have y1 : x % 2147483647 < 2147483647 := Int.emod_lt_of_pos _ (by decide)
      refine ⟨.ref p, rfl, p, _, 2, .int x, rfl, rfl, S1, rfl, x, _, rfl, rfl, by show (0 : Int) < 2147483647; decide, .ref p, rfl, p, _, 1, .int (c + 1), rfl, rfl, S1, rfl, 40503, c + 1, rfl, rfl, .inl ⟨by decide, by decide⟩, _, _, rfl, rfl, _, 5, rfl, rfl, ⟨by decide, by decide, ?_⟩, _, 2147483647, rfl, rfl, by show (0 : Int) < 2147483647; decide, ?_⟩
      · show (x % 2147483647 + 40503 * (c + 1)).natAbs < 18446744073709551616
        omega
      · refine ⟨_, rfl, _, 48271, rfl, rfl, .inr ⟨by decide, by decide⟩, .ref p, rfl, p, _, 1, .int (c + 1), rfl, rfl, S1, rfl, .ref p, rfl, p, _, 1, .int (c + 1), rfl, rfl, S1, rfl, c + 1, c + 1, rfl, rfl, .inl ⟨by omega, by omega⟩, _, 39373, rfl, rfl, .inr ⟨by decide, by decide⟩, _, _, rfl, rfl, ?_⟩
        refine ⟨_, rfl, .ref p, rfl, p, _, 2, .int x, rfl, rfl, S1, rfl, x, _, rfl, rfl, wide_div (b := 32) (by decide) (by decide) (by decide) (by decide), _, _, rfl, rfl, _, _, rfl, rfl, by show (0 : Int) < 1000000007; decide, _, 16, rfl, rfl, ⟨by decide, by decide⟩, .int wd, rfl, _, wd, rfl, rfl, w0, ?_⟩
        exact q _ _ (Int.emod_nonneg _ (by omega)) (Int.emod_lt_of_pos _ w0) ⟨d, c + 1, x, rfl, d0, by omega, by omega⟩

theorem ok_bytes {f : Addr} {fd : FuncData} (F : Fun K "_law_bytes" "_law_bytes" s_bytes f fd) {f_take : Addr} {fd_take : FuncData} (D_take : Df K mg "_law_take" s_take P_take f_take fd_take) (m_range : mg "range" = none) : FnOk P w K mg base CX0 2 f fd P_bytes spBytes := by
  have G_take : FnOk P w K mg base CX0 1 f_take fd_take P_take spTake := ok_take D_take.F
  refine F.ok sc_bytes (fun vs H Q E h => ?_) (fun cdv A outer s H vs Q E hr h => ?_)
  · obtain ⟨p, n, o, rfl, _⟩ := h
    rfl
  · obtain ⟨p, n, o, rfl, hp, hP, n9, q⟩ := h
    refine ⟨_, (pss_cons (ps_set (i := 1) sc_bytes.nd rfl (.inl rfl) (pe_ix ix_list (pe_lst (pa_cons pe_int (pa_cons pe_int (pa_cons pe_int (pa_cons pe_int (pa_cons pe_int (pa_cons pe_int (pa_cons pe_int (pa_cons pe_int (pa_cons pe_int (pa_cons pe_int pa_nil))))))))))) (pe_call G_take (hr.mono (by decide)) (by rfl) D_take.g D_take.F.kp D_take.b .nil pass0 (pa_cons (pv 0) (pa_cons pe_int pa_nil))) (fun _ _ => rfl)))
      (pss_cons (ps_set (i := 2) sc_bytes.nd rfl (.inl rfl) (pe_lst pa_nil))
      (pss_cons (ps_for PassesOwn.never rfl (pi_range1 (by rfl) m_range (pa_cons (pv 1) pa_nil)) (pg_name (i := 3) sc_bytes.nd rfl (.inl rfl)) (pss_one (ps_if (pt_cmpR op_eq (pe_call G_take (hr.mono (by decide)) (by rfl) D_take.g D_take.F.kp D_take.b .nil pass0 (pa_cons (pv 0) (pa_cons pe_int pa_nil))) pe_int (nomark _)) (pss_one (ps_expr (pe_bm PySem.F.plainAttrs_list PySem.F.slot_list_append PySem.F.type_list_append mt_append (pv 2) (pa_cons (pe_ix ix_list (pe_lst (pa_cons pe_int (pa_cons pe_int (pa_cons pe_int (pa_cons pe_int pa_nil))))) (pe_call G_take (hr.mono (by decide)) (by rfl) D_take.g D_take.F.kp D_take.b .nil pass0 (pa_cons (pv 0) (pa_cons pe_int pa_nil))) (fun _ _ => rfl)) pa_nil)))) (pss_one (ps_expr (pe_bm PySem.F.plainAttrs_list PySem.F.slot_list_append PySem.F.type_list_append mt_append (pv 2) (pa_cons (pe_call G_take (hr.mono (by decide)) (by rfl) D_take.g D_take.F.kp D_take.b .nil pass0 (pa_cons (pv 0) (pa_cons pe_int pa_nil))) pa_nil)))))))
      (pss_one (ps_ret (pv 2)))))), ?_⟩
    refine ⟨by show (10 : Nat) ≤ sizeLine; decide, fun l nl => ?_⟩
    have pl : p ≠ l := ne_of_none hp nl
    refine ⟨.ref p, rfl, p, n, 10, o, rfl, by rw [upd_ne pl]; exact hp, hP, by omega, by decide, by decide, fun r o1 r0 r1 hP1 => ?_⟩
    obtain ⟨m, mm, em, _⟩ := atI_int (ms := [0, 1, 2, 3, 5, 8, 13, 30, 60, 400]) (i := r) r0 r1
    have mb : 0 ≤ m ∧ m ≤ 400 := (show ∀ y ∈ ([0, 1, 2, 3, 5, 8, 13, 30, 60, 400] : List Int), 0 ≤ y ∧ y ≤ 400 by decide) m mm
    refine ⟨l, _, r, .int m, rfl, rfl, .inl (.inl (by rw [upd_ne pl.symm, upd_same]; rfl)), em, Nat.zero_le _, fun a na => ?_⟩
    have hp2 : (upd (upd H l (.lst [.int 0, .int 1, .int 2, .int 3, .int 5, .int 8, .int 13, .int 30, .int 60, .int 400])) p o1) p = some o1 := upd_same
    have pa : p ≠ a := ne_of_none hp2 na
    have k2 : Kp [p] H (upd (upd H l (.lst [.int 0, .int 1, .int 2, .int 3, .int 5, .int 8, .int 13, .int 30, .int 60, .int 400])) p o1) := (Kp.new nl).trans (Kp.at (by simp))
    have ha0 : H a = none := k2.free (by simpa using pa.symm) na
    refine ⟨.int m, rfl, m, rfl, by omega, by omega, for_range (lo := 0) (n := m.toNat) (fun i σ H' => ∃ (bs : List Int) (o2 : HO) (y : Option V), σ = [some (.ref p), some (.int m), some (.ref a), y] ∧ H' a = some (.lst (bs.map V.int)) ∧ bs.length = i ∧ (∀ b ∈ bs, 0 ≤ b ∧ b ≤ 255) ∧ H' p = some o2 ∧ PoolO (n + 1 + 2 * i) o2 ∧ Kp [p] H H') ?_ (fun i σ H' hi hW => ?_) (fun σ H' hW => ?_)⟩
    · exact ⟨[], o1, none, rfl, upd_same, rfl, by simp, by rw [upd_ne pa]; exact upd_same, hP1.up (by omega), k2.put ha0⟩
    · obtain ⟨bs, o2, y, rfl, ea, eb, hb, ep, hP2, kk⟩ := hW
      have fit : (bs.map V.int).length < sizeLine := by rw [List.length_map]; exact small1000 (by omega)
      refine ⟨.ref p, rfl, p, _, 4, o2, rfl, ep, hP2, by omega, by decide, by decide, fun r2 o3 s0 s1 hP3 => ?_⟩
      have ea3 : (upd H' p o3) a = some (.lst (bs.map V.int)) := by rw [upd_ne pa.symm]; exact ea
      have k3 : Kp [p] H (upd H' p o3) := kk.trans (Kp.at (by simp))
      refine ⟨rfl, _, rfl, ite2 (fun e => ?_) (fun e => ?_)⟩
      · refine ⟨.ref a, rfl, .inl ⟨rfl, _, sq_at ea3⟩, by show (4 : Nat) ≤ sizeLine; decide, fun l2 nl2 => ?_⟩
        have pl2 : p ≠ l2 := ne_of_none (upd_same : (upd H' p o3) p = some o3) nl2
        have al2 : a ≠ l2 := ne_of_none ea3 nl2
        refine ⟨.ref p, rfl, p, _, 4, o3, rfl, by rw [upd_ne pl2]; exact upd_same, hP3, by omega, by decide, by decide, fun r3 o4 t0 t1 hP4 => ?_⟩
        obtain ⟨z, mz, ez, _⟩ := atI_int (ms := [0, 10, 13, 255]) (i := r3) t0 t1
        have zb : 0 ≤ z ∧ z ≤ 255 := (show ∀ y ∈ ([0, 10, 13, 255] : List Int), 0 ≤ y ∧ y ≤ 255 by decide) z mz
        refine ⟨l2, _, r3, .int z, rfl, rfl, .inl (.inl (by rw [upd_ne pl2.symm, upd_same]; rfl)), ez, a, bs.map V.int, .int z, rfl, rfl, by rw [upd_ne pa.symm, upd_ne al2]; exact ea3, fit, ?_⟩
        refine ⟨bs ++ [z], o4, _, rfl, by rw [upd_same, List.map_append]; rfl, by rw [List.length_append, eb]; rfl, ?_, by rw [upd_ne pa]; exact upd_same, hP4.up (by omega), ((k3.trans (Kp.new nl2)).trans (Kp.at (by simp))).put ha0⟩
        intro b hb2
        rcases List.mem_append.mp hb2 with hb3 | hb3
        · exact hb b hb3
        · rw [List.mem_singleton.mp hb3]; exact zb
      · refine ⟨.ref a, rfl, .inl ⟨rfl, _, sq_at ea3⟩, .ref p, rfl, p, _, 256, o3, rfl, upd_same, hP3, by omega, by decide, by decide, fun z o4 t0 t1 hP4 => ?_⟩
        refine ⟨a, bs.map V.int, .int z, rfl, rfl, by rw [upd_ne pa.symm]; exact ea3, fit, ?_⟩
        refine ⟨bs ++ [z], o4, _, rfl, by rw [upd_same, List.map_append]; rfl, by rw [List.length_append, eb]; rfl, ?_, by rw [upd_ne pa]; exact upd_same, hP4.up (by omega), (k3.trans (Kp.at (by simp))).put ha0⟩
        intro b hb2
        rcases List.mem_append.mp hb2 with hb3 | hb3
        · exact hb b hb3
        · rw [List.mem_singleton.mp hb3]; exact ⟨t0, by omega⟩
    · obtain ⟨bs, o2, y, rfl, ea, eb, hb, ep, hP2, kk⟩ := hW
      exact ⟨.ref a, rfl, q H' a bs o2 ha0 ea ep (hP2.up (by omega)) kk (by omega) hb⟩

theorem ok_worth {f : Addr} {fd : FuncData} {k : Nat} {tF : Tok} (F : Fun K "figure_worth" "figure_worth" s_worth f fd) (g_FIG : mg "FIGURES" = some (.str FIG tF)) : FnOk P w K mg base CX0 (k + 1) f fd P_worth spWorth := by
  refine F.ok sc_worth (fun vs H Q E h => ?_) (fun cdv A outer s H vs Q E hr h => ?_)
  · obtain ⟨j, hj, rfl, _⟩ := h
    rfl
  · obtain ⟨j, hj, rfl, q⟩ := h
    refine ⟨_, (pss_cons (ps_set (i := 1) sc_worth.nd rfl (.inl rfl) (pe_m1 PySem.F.slot_str_find PySem.F.type_str_find mt_find (pe_glob (v := .str FIG) (by rfl) g_FIG ⟨_, rfl⟩) (pv 0)))
      (pss_cons (ps_if (pt_cmpR op_lt (pv 1) pe_int (nomark _)) (pss_one ps_never) pss_nil)
      (pss_one (ps_ret (pv 1))))), ?_⟩
    have e : Txt.find FIG ⟨#[figs.getD j 0]⟩ = (j : Int) := fig_find ⟨j, hj⟩
    refine ⟨⟨_, rfl⟩, _, rfl, FIG, _, rfl, rfl, ?_⟩
    rw [e]
    refine ⟨.int j, rfl, _, _, rfl, rfl, _, rfl, ite2 (fun z => ?_) (fun _ => ⟨.int j, rfl, q⟩)⟩
    have z1 : (j : Int) < 0 := of_decide_eq_true z
    omega

theorem ok_read {f : Addr} {fd : FuncData} {f_worth : Addr} {fd_worth : FuncData} {tF : Tok} (F : Fun K "read_row" "read_row" s_read f fd) (D_worth : Df K mg "figure_worth" s_worth P_worth f_worth fd_worth) (g_FIG : mg "FIGURES" = some (.str FIG tF)) (m_len : mg "len" = none) (m_range : mg "range" = none) : FnOk P w K mg base CX0 2 f fd P_read spRead := by
  have G_worth : FnOk P w K mg base CX0 1 f_worth fd_worth P_worth spWorth := ok_worth D_worth.F g_FIG
  refine F.ok sc_read (fun vs H Q E h => ?_) (fun cdv A outer s H vs Q E hr h => ?_)
  · obtain ⟨bs, rfl, _⟩ := h
    rfl
  · obtain ⟨bs, rfl, hb, lb, q⟩ := h
    refine ⟨_, (pss_cons (ps_if (pt_cmpR op_ne (pe_op op_mod (pe_callB call_len_str (by rfl) m_len PySem.boot_len (pa_cons (pv 0) pa_nil)) pe_int) pe_int (nomark _)) (pss_one ps_never) pss_nil)
      (pss_one (ps_ret (pe_lc (own := [("at", 1)]) (g := gName 1) (tt := tYes) (by rfl) sc_read.nd (pi_range3 (by rfl) m_range (pa_cons pe_int (pa_cons (pe_callB call_len_str (by rfl) m_len PySem.boot_len (pa_cons (pv 0) pa_nil)) (pa_cons pe_int pa_nil)))) (blkOk_by (own := [("at", 1)]) (N := N_read) (sc := defScope s_read) (by decide +kernel)) (fun _ _ _ _ _ => pg_name (i := 1) sc_read.nd rfl (Or.inl rfl)) (fun _ _ _ _ _ => pts_nil) (fun _ _ _ _ _ => (pe_op op_add (pe_op op_mul pe_int (pe_call G_worth (hr.mono (by decide)) (by rfl) D_worth.g D_worth.F.kp D_worth.b .nil pass0 (pa_cons (pe_ix ix_str (pv 0) (pv 1) (fun _ _ => rfl)) pa_nil))) (pe_call G_worth (hr.mono (by decide)) (by rfl) D_worth.g D_worth.F.kp D_worth.b .nil pass0 (pa_cons (pe_ix ix_str (pv 0) (pe_op op_add (pv 1) pe_int) (fun _ _ => rfl)) pa_nil)))))))), ?_⟩
    have sz : sizeLine = 16777216 := sizeLine_eq
    have lt := tx_length bs
    have lz : (tx bs).length ≤ sizeLine := by omega
    refine ⟨.str (tx bs), rfl, tx bs, rfl, lz, _, _, rfl, rfl, by show (0 : Int) < 2; decide, rfl, _, rfl, iteNS (show V.int (((tx bs).length : Int) % 2) = V.int 0 by rw [lt, show (((2 * bs.length : Nat) : Int) % 2) = 0 by omega]) ?_⟩
    refine ⟨.str (tx bs), rfl, tx bs, rfl, lz, 0, _, 2, bs.length, rfl, by rw [lt]; exact range_two _ (by omega), fun D nD => lc_it walk_rangeC (fun i H' => H' D = some (.lst ((bs.take i).map V.int)) ∧ Same H H') ⟨by rw [upd_same]; rfl, (Kp.new (ps := []) nD).same⟩ (fun _ _ _ _ => trivial) (fun i x H' H2 hi hP hy => ?_) (fun H' hP => ?_)⟩
    · obtain ⟨rfl, rfl⟩ := hy
      obtain ⟨eD, sm⟩ := hP
      have gb : bs[i]? = some bs[i] := List.getElem?_eq_getElem hi
      obtain ⟨b0, b1⟩ := hb bs[i] (List.getElem_mem hi)
      obtain ⟨t1, t2⟩ := tx_at gb
      refine ⟨rfl, ?_⟩
      refine ⟨.str (tx bs), rfl, .int (0 + (i : Nat) * 2), rfl, tx bs, _, _, rfl, rfl, lz, by rw [show (0 + ((i : Nat) : Int) * 2) = ((2 * i : Nat) : Int) by omega]; exact t1, bs[i].toNat / 16, by omega, rfl, ?_⟩
      refine ⟨16, _, rfl, rfl, .inl ⟨by decide, by decide⟩, .str (tx bs), rfl, .int (0 + (i : Nat) * 2), rfl, _, _, rfl, rfl, tx bs, _, _, rfl, rfl, lz, by rw [show (0 + ((i : Nat) : Int) * 2 + 1) = ((2 * i + 1 : Nat) : Int) by omega]; exact t2, bs[i].toNat % 16, by omega, rfl, ?_⟩
      refine ⟨_, _, rfl, rfl, _, eD, by rw [List.length_map, List.length_take]; omega, ?_, (Kp.put (ps := []) (Kp.of sm) nD).same⟩
      rw [upd_same, List.take_add_one, gb, List.map_append]
      have e : 16 * ((bs[i].toNat / 16 : Nat) : Int) + ((bs[i].toNat % 16 : Nat) : Int) = bs[i] := by omega
      show some (HO.lst (_ ++ [V.int (16 * ((bs[i].toNat / 16 : Nat) : Int) + ((bs[i].toNat % 16 : Nat) : Int))])) = _
      rw [e]
      rfl
    · obtain ⟨eD, sm⟩ := hP
      rw [List.take_length] at eD
      exact q _ D nD eD sm

theorem ok_rowtext {f : Addr} {fd : FuncData} {k : Nat} (F : Fun K "row_text" "row_text" s_rowtext f fd) : FnOk P w K mg base CX0 (k + 1) f fd P_rowtext (spTxt K) := by
  refine F.ok sc_rowtext (fun vs H Q E h => ?_) (fun cdv A outer s H vs Q E hr h => ?_)
  · obtain ⟨a, bs, rfl, _⟩ := h
    rfl
  · obtain ⟨a, bs, rfl, hA, hb, lb, q⟩ := h
    refine ⟨_, (pss_one (ps_ret (pe_join pe_str (pe_lc (own := [("byte", 1)]) (g := gName 1) (tt := tYes) (by rfl) sc_rowtext.nd (pi_list (pv 0)) (blkOk_by (own := [("byte", 1)]) (N := N_rowtext) (sc := defScope s_rowtext) (by decide +kernel)) (fun _ _ _ _ _ => pg_name (i := 1) sc_rowtext.nd rfl (Or.inl rfl)) (fun _ _ _ _ _ => pts_nil) (fun _ _ _ _ _ => (Sip.pe_hex (pv 1))))))), ?_⟩
    have sz : sizeLine = 16777216 := sizeLine_eq
    refine ⟨⟨_, rfl⟩, .ref a, rfl, a, rfl, ⟨_, hA⟩, fun D nD => lc_list (K := K) (a := a) (xs := bs.map V.int) (fun i H' => H' D = some (.lst (((bs.take i).map fun b => two b.toNat).map V.str)) ∧ Same H H') ⟨by rw [upd_same]; rfl, (Kp.new (ps := []) nD).same⟩ (fun i H' _ h => h.2.seq hA) (fun i x H' hx hP => ?_) (fun H' hP => ?_)⟩
    · obtain ⟨eD, sm⟩ := hP
      obtain ⟨hi, rfl⟩ := get_int hx
      obtain ⟨b0, b1⟩ := hb bs[i] (List.getElem_mem hi)
      refine ⟨rfl, ?_⟩
      refine ⟨.int bs[i], rfl, bs[i].toNat, by omega, by rw [Int.toNat_of_nonneg b0], _, eD, by rw [List.length_map, List.length_map, List.length_take]; omega, ?_, (Kp.put (ps := []) (Kp.of sm) nD).same⟩
      rw [upd_same, List.take_add_one, List.getElem?_eq_getElem hi, List.map_append, List.map_append]; rfl
    · obtain ⟨eD, sm⟩ := hP
      rw [List.length_map, List.take_length] at eD
      refine ⟨_, D, _, rfl, rfl, .inl (sq_at eD), fit_two bs lb, ?_⟩
      rw [join_eq, join_two]
      exact q _ sm

theorem ok_text {f : Addr} {fd : FuncData} {k : Nat} (F : Fun K "_law_text" "_law_text" s_text f fd) : FnOk P w K mg base CX0 (k + 1) f fd P_text (spTxt K) := by
  refine F.ok sc_text (fun vs H Q E h => ?_) (fun cdv A outer s H vs Q E hr h => ?_)
  · obtain ⟨a, bs, rfl, _⟩ := h
    rfl
  · obtain ⟨a, bs, rfl, hA, hb, lb, q⟩ := h
    refine ⟨_, (pss_cons (ps_set (i := 1) sc_text.nd rfl (.inr rfl) pe_str)
      (pss_one (ps_ret (pe_join pe_str (pe_lc (own := [("_law_one", 2)]) (g := gName 2) (tt := tYes) (by rfl) sc_text.nd (pi_list (pv 0)) (blkOk_by (own := [("_law_one", 2)]) (N := N_text) (sc := defScope s_text) (by decide +kernel)) (fun _ _ _ _ _ => pg_name (i := 2) sc_text.nd rfl (Or.inl rfl)) (fun _ _ _ _ _ => pts_nil) (fun _ _ _ _ _ => (pe_op op_add_str (pe_ix ix_str (pv 1) (pe_op op_fdiv (pv 2) pe_int) (fun _ _ => rfl)) (pe_ix ix_str (pv 1) (pe_op op_mod (pv 2) pe_int) (fun _ _ => rfl))))))))), ?_⟩
    have sz : sizeLine = 16777216 := sizeLine_eq
    have lF : FIG.length ≤ sizeLine := by rw [sz]; decide +kernel
    refine ⟨⟨_, rfl⟩, .ref a, rfl, a, rfl, ⟨_, hA⟩, fun D nD => lc_list (K := K) (a := a) (xs := bs.map V.int) (fun i H' => H' D = some (.lst (((bs.take i).map fun b => two b.toNat).map V.str)) ∧ Same H H') ⟨by rw [upd_same]; rfl, (Kp.new (ps := []) nD).same⟩ (fun i H' _ h => h.2.seq hA) (fun i x H' hx hP => ?_) (fun H' hP => ?_)⟩
    · obtain ⟨eD, sm⟩ := hP
      obtain ⟨hi, rfl⟩ := get_int hx
      obtain ⟨b0, b1⟩ := hb bs[i] (List.getElem_mem hi)
      refine ⟨rfl, ?_⟩
      refine ⟨.str FIG, rfl, .int bs[i], rfl, bs[i], 16, rfl, rfl, ⟨by decide, by decide⟩, FIG, _, figs.getD (bs[i].toNat / 16) 0, rfl, rfl, lF, ?_, .str FIG, rfl, .int bs[i], rfl, bs[i], 16, rfl, rfl, by show (0 : Int) < 16; decide, FIG, _, figs.getD (bs[i].toNat % 16) 0, rfl, rfl, lF, ?_, _, _, rfl, rfl, by show (1 + 1 : Nat) ≤ sizeLine; omega, _, eD, by rw [List.length_map, List.length_map, List.length_take]; omega, ?_, (Kp.put (ps := []) (Kp.of sm) nD).same⟩
      · rw [show bs[i] / 16 = ((bs[i].toNat / 16 : Nat) : Int) by omega]; exact fig_at (by omega)
      · rw [show bs[i] % 16 = ((bs[i].toNat % 16 : Nat) : Int) by omega]; exact fig_at (by omega)
      · rw [upd_same, List.take_add_one, List.getElem?_eq_getElem hi, List.map_append, List.map_append]; rfl
    · obtain ⟨eD, sm⟩ := hP
      rw [List.length_map, List.take_length] at eD
      refine ⟨_, D, _, rfl, rfl, .inl (sq_at eD), fit_two bs lb, ?_⟩
      rw [join_eq, join_two]
      exact q _ sm

theorem ok_fits {f : Addr} {fd : FuncData} {k : Nat} (F : Fun K "_law_fits" "_law_fits" s_fits f fd) (m_len : mg "len" = none) (m_isinstance : mg "isinstance" = none) (m_list : mg "list" = none) (m_int : mg "int" = none) (m_bool : mg "bool" = none) (m_all : mg "all" = none) : FnOk P w K mg base CX0 (k + 1) f fd P_fits (spFits K) := by
  refine F.ok sc_fits (fun vs H Q E h => ?_) (fun cdv A outer s H vs Q E hr h => ?_)
  · obtain ⟨a, b, xs, ys, rfl, _⟩ := h
    rfl
  · obtain ⟨a, b, xs, ys, rfl, hA, hB, lx, q⟩ := h
    refine ⟨_, (pss_cons (ps_if (PW.pt (pw_or (pt_not (pt_val (pe_callB (id := "isinstance") (r := rIsi K) call_isi (by rfl) m_isinstance (by decide +kernel) (pa_cons (pv 0) (pa_cons (pe_bltn (v := .ty "list") (by rfl) m_list (by decide +kernel) rfl) pa_nil))))) (pw_or1 (pt_cmpR op_ne (pe_callB call_len_seq (by rfl) m_len PySem.boot_len (pa_cons (pv 0) pa_nil)) (pe_callB call_len_seq (by rfl) m_len PySem.boot_len (pa_cons (pv 1) pa_nil)) (nomark _))))) (pss_one (ps_ret pe_bl)) pss_nil)
      (pss_one (ps_ret (pe_and (pe_callB (cr_all rfl) (by rfl) m_all (by decide +kernel) (pa_cons (pe_lc (own := [("_law_thing", 2)]) (g := gName 2) (tt := tYes) (by rfl) sc_fits.nd (pi_list (pv 0)) (blkOk_by (own := [("_law_thing", 2)]) (N := N_fits) (sc := defScope s_fits) (by decide +kernel)) (fun _ _ _ _ _ => pg_name (i := 2) sc_fits.nd rfl (Or.inl rfl)) (fun _ _ _ _ _ => pts_nil) (fun _ _ _ _ _ => (pe_and (pe_callB (id := "isinstance") (r := rIsi K) call_isi (by rfl) m_isinstance (by decide +kernel) (pa_cons (pv 2) (pa_cons (pe_bltn (v := .ty "int") (by rfl) m_int (by decide +kernel) rfl) pa_nil))) (pe_one (pe_not (pe_callB (id := "isinstance") (r := rIsi K) call_isi (by rfl) m_isinstance (by decide +kernel) (pa_cons (pv 2) (pa_cons (pe_bltn (v := .ty "bool") (by rfl) m_bool (by decide +kernel) rfl) pa_nil)))))))) pa_nil)) (pe_one (pe_cmpR (op_eqI hr.units) (pv 0) (pv 1) (nomark _))))))), ?_⟩
    refine ⟨.ref a, rfl, .ref a, .ty "list", _, _, true, rfl, .ty "list", .base (.lst hA), kit_ty (by decide +kernel), true, rfl, iteF ?_⟩
    refine ⟨.ref a, rfl, a, _, rfl, .inl (sq_at hA), .ref b, rfl, b, _, rfl, .inl hB, rfl, _, rfl, ite2 (fun e => ?_) (fun e => ?_)⟩
    · have ne : xs ≠ ys := fun z => by
        subst z
        rw [decide_eq_true rfl] at e
        cases e
      have := q H (Same.refl H)
      rw [decide_eq_false ne] at this
      exact this
    · refine ⟨.ref a, rfl, a, rfl, ⟨_, sq_at hA⟩, fun D nD => lc_list (K := K) (a := a) (xs := xs.map V.int) (fun i H' => H' D = some (.lst ((List.replicate i true).map V.bl)) ∧ Same H H') ⟨by rw [upd_same]; rfl, (Kp.new (ps := []) nD).same⟩ (fun i H' _ h => h.2.seq (sq_at hA)) (fun i x H' hx hP => ?_) (fun H' hP => ?_)⟩
      · obtain ⟨eD, sm⟩ := hP
        have hi : i < xs.length := by
          have := (List.getElem?_eq_some_iff.mp hx).1
          rwa [List.length_map] at this
        obtain ⟨v, rfl⟩ : ∃ v : Int, x = .int v := by
          rw [List.getElem?_map, List.getElem?_eq_getElem hi] at hx
          exact ⟨_, (Option.some.inj hx).symm⟩
        refine ⟨rfl, ?_⟩
        refine ⟨.int v, rfl, .int v, .ty "int", _, _, true, rfl, .ty "int", .base (.int v), kit_ty (by decide +kernel), true, rfl, ?_⟩
        refine ⟨.int v, rfl, .int v, .ty "bool", _, _, false, rfl, .ty "bool", .base (.int v), kit_ty (by decide +kernel), false, rfl, _, eD, ?_, ?_, ?_⟩
        · rw [List.length_map, List.length_replicate]
          exact Nat.lt_of_lt_of_le hi (Nat.le_of_lt (Nat.lt_of_le_of_lt lx (by rw [sizeLine_eq]; decide)))
        · rw [upd_same, List.replicate_succ', List.map_append]; rfl
        · exact (Kp.put (ps := []) (Kp.of sm) nD).same
      · obtain ⟨eD, sm⟩ := hP
        refine ⟨D, List.replicate (xs.map V.int).length true, rfl, sq_at eD, _, rfl, ?_⟩
        rw [all_true, if_pos rfl]
        exact ⟨.ref a, rfl, .ref b, rfl, a, b, xs, ys, rfl, rfl, sq_at (sm _ _ hA), sm.seq hB, q _ sm⟩

theorem ok_asked {f : Addr} {fd : FuncData} (F : Fun K "_law_asked" "_law_asked" s_asked f fd) {f_worth f_read f_rowtext f_text f_fits : Addr} {fd_worth fd_read fd_rowtext fd_text fd_fits : FuncData} {tF : Tok}
    (D_worth : Df K mg "figure_worth" s_worth P_worth f_worth fd_worth) (D_read : Df K mg "read_row" s_read P_read f_read fd_read) (D_rowtext : Df K mg "row_text" s_rowtext P_rowtext f_rowtext fd_rowtext)
    (D_text : Df K mg "_law_text" s_text P_text f_text fd_text) (D_fits : Df K mg "_law_fits" s_fits P_fits f_fits fd_fits) (g_FIG : mg "FIGURES" = some (.str FIG tF))
    (m_list : mg "list" = none) (m_len : mg "len" = none) (m_range : mg "range" = none) (m_isinstance : mg "isinstance" = none) (m_int : mg "int" = none) (m_bool : mg "bool" = none) (m_all : mg "all" = none) (m_str : mg "str" = none) :
    FnOk P w K mg base CX0 3 f fd P_asked spAsked := by
  have G_read : FnOk P w K mg base CX0 2 f_read fd_read P_read spRead := ok_read D_read.F D_worth g_FIG m_len m_range
  have G_rowtext : FnOk P w K mg base CX0 1 f_rowtext fd_rowtext P_rowtext (spTxt K) := ok_rowtext D_rowtext.F
  have G_text : FnOk P w K mg base CX0 1 f_text fd_text P_text (spTxt K) := ok_text D_text.F
  have G_fits : FnOk P w K mg base CX0 1 f_fits fd_fits P_fits (spFits K) := ok_fits D_fits.F m_len m_isinstance m_list m_int m_bool m_all
  have sz : sizeLine = 16777216 := sizeLine_eq
  refine F.ok sc_asked (fun vs H Q E h => ?_) (fun cdv A outer s H vs Q E hr h => ?_)
  · obtain ⟨a, bs, rfl, _⟩ := h
    rfl
  · obtain ⟨a, bs, rfl, hA, hb, lb, q⟩ := h
    refine ⟨_, (pss_cons (ps_set (i := 1) sc_asked.nd rfl (.inl rfl) (pe_callTy call_list_of (by rfl) m_list (by decide +kernel) (pa_cons (pv 0) pa_nil)))
      (pss_cons (ps_set (i := 2) sc_asked.nd rfl (.inl rfl) (pe_call G_rowtext (hr.mono (by decide)) (by rfl) D_rowtext.g D_rowtext.F.kp D_rowtext.b .nil pass0 (pa_cons (pv 1) pa_nil)))
      (pss_cons (ps_if (PW.pt (pw_or (pt_not (pt_val (pe_callB (id := "isinstance") (r := rIsi K) call_isi (by rfl) m_isinstance (by decide +kernel) (pa_cons (pv 2) (pa_cons (pe_bltn (v := .ty "str") (by rfl) m_str (by decide +kernel) rfl) pa_nil))))) (pw_or (pt_cmpR op_ne (pv 2) (pe_call G_text (hr.mono (by decide)) (by rfl) D_text.g D_text.F.kp D_text.b .nil pass0 (pa_cons (pv 0) pa_nil)) (nomark _)) (pw_or1 (pt_cmpR (op_neI hr.units) (pv 1) (pv 0) (nomark _)))))) (pss_one (ps_ret pe_bl)) pss_nil)
      (pss_cons (ps_set (i := 3) sc_asked.nd rfl (.inl rfl) (pe_call G_read (hr.mono (by decide)) (by rfl) D_read.g D_read.F.kp D_read.b .nil pass0 (pa_cons (pv 2) pa_nil)))
      (pss_cons (ps_if (pt_not (pt_val (pe_call G_fits (hr.mono (by decide)) (by rfl) D_fits.g D_fits.F.kp D_fits.b .nil pass0 (pa_cons (pv 3) (pa_cons (pv 0) pa_nil))))) (pss_one (ps_ret pe_bl)) pss_nil)
      (pss_cons (ps_expr (pe_bm PySem.F.plainAttrs_list PySem.F.slot_list_append PySem.F.type_list_append mt_append (pv 3) (pa_cons pe_int pa_nil)))
      (C8.pss_cut (ps_expr (pe_bm PySem.F.plainAttrs_list PySem.F.slot_list_append PySem.F.type_list_append mt_append (pv 1) (pa_cons pe_int pa_nil)))
      (pss_one (ps_ret (pe_and (pe_call G_fits (hr.mono (by decide)) (by rfl) D_fits.g D_fits.F.kp D_fits.b .nil pass0 (pa_cons (pe_call G_read (hr.mono (by decide)) (by rfl) D_read.g D_read.F.kp D_read.b .nil pass0 (pa_cons (pv 2) pa_nil)) (pa_cons (pv 0) pa_nil))) (pe_one (pe_cmpR op_eq (pe_call G_rowtext (hr.mono (by decide)) (by rfl) D_rowtext.g D_rowtext.F.kp D_rowtext.b .nil pass0 (pa_cons (pe_callTy call_list_of (by rfl) m_list (by decide +kernel) (pa_cons (pv 0) pa_nil)) pa_nil)) (pv 2) (nomark _))))))))))))), ?_⟩
    refine ⟨.ref a, rfl, a, _, rfl, .inl (sq_at hA), fun h nh => ?_⟩
    have s1 : Same H (upd H h (.lst (bs.map V.int))) := (Kp.new (ps := []) nh).same
    refine ⟨.ref h, rfl, h, bs, rfl, sq_new, hb, by omega, fun H2 s2 => ?_⟩
    have a2 := s2 _ _ (s1 _ _ hA)
    have h2 := s2 h _ upd_same
    refine ⟨.str (tx bs), rfl, .str (tx bs), .ty "str", _, _, true, rfl, .ty "str", .base (.str _), kit_ty (by decide +kernel), true, rfl, iteF ?_⟩
    refine ⟨.str (tx bs), rfl, .ref a, rfl, a, bs, rfl, sq_at a2, hb, by omega, fun H3 s3 => ⟨rfl, _, rfl, iteNS rfl ?_⟩⟩
    have a3 := s3 _ _ a2
    have h3 := s3 _ _ h2
    refine ⟨.ref h, rfl, .ref a, rfl, h, a, bs, bs, rfl, rfl, sq_at h3, sq_at a3, _, rfl, iteNS rfl ?_⟩
    refine ⟨.str (tx bs), rfl, bs, rfl, hb, by omega, fun H4 t nt et s4 => ?_⟩
    have a4 := s4 _ _ a3
    have h4 := s4 _ _ h3
    refine ⟨.ref t, rfl, .ref a, rfl, t, a, bs, bs, rfl, et, sq_at a4, by omega, fun H5 s5 => ⟨_, rfl, iteNS rfl ?_⟩⟩
    have a5 := s5 _ _ a4
    have h5 := s5 _ _ h4
    have t5 := s5 _ _ et
    have at' : a ≠ t := ne_of_none a3 nt
    have ht : h ≠ t := ne_of_none h3 nt
    have ah : a ≠ h := ne_of_none hA nh
    have n5 : Same H H5 := ((s1.trans s2).trans s3).trans (s4.trans s5)
    have nt0 : H t = none := ((s1.trans s2).trans s3).free nt
    refine ⟨.ref t, rfl, .inl ⟨rfl, _, sq_at t5⟩, t, _, _, rfl, rfl, t5, by rw [List.length_map]; omega, ?_⟩
    have h6 : (upd H5 t (.lst (bs.map V.int ++ [V.int 3]))) h = some (.lst (bs.map V.int)) := by rw [upd_ne ht]; exact h5
    refine ⟨fun σ' H' => σ' = [some (.ref a), some (.ref h), some (.str (tx bs)), some (.ref t)] ∧ H' a = some (.lst (bs.map V.int)) ∧ Same H H', ?_, fun σ' H6 hm => ?_⟩
    · refine ⟨.ref h, rfl, .inl ⟨rfl, _, sq_at h6⟩, h, _, _, rfl, rfl, h6, by rw [List.length_map]; omega, rfl, ?_, put_same (put_same n5 nt0) nh⟩
      rw [upd_ne ah, upd_ne at']; exact a5
    · obtain ⟨rfl, a6, n6⟩ := hm
      refine ⟨.str (tx bs), rfl, bs, rfl, hb, by omega, fun H7 t2 nt2 et2 s7 => ?_⟩
      refine ⟨.ref a, rfl, t2, a, bs, bs, rfl, et2, sq_at (s7 _ _ a6), by omega, fun H8 s8 => ⟨_, rfl, ?_⟩⟩
      rw [decide_eq_true rfl, if_pos rfl]
      refine ⟨.ref a, rfl, a, _, rfl, .inl (sq_at (s8 _ _ (s7 _ _ a6))), fun h2 nh2 => ?_⟩
      refine ⟨h2, bs, rfl, sq_new, hb, by omega, fun H9 s9 => ⟨.str (tx bs), rfl, rfl, ?_⟩⟩
      rw [decide_eq_true rfl]
      exact q _ (((n6.trans s7).trans s8).trans ((Kp.new (ps := []) nh2).same.trans s9))

theorem ok_law {f : Addr} {fd : FuncData} (F : Fun K "law" "law" s_law f fd) {f_worth f_read f_rowtext f_pool f_take f_bytes f_text f_fits f_asked : Addr} {fd_worth fd_read fd_rowtext fd_pool fd_take fd_bytes fd_text fd_fits fd_asked : FuncData} {tF : Tok}
    (D_worth : Df K mg "figure_worth" s_worth P_worth f_worth fd_worth) (D_read : Df K mg "read_row" s_read P_read f_read fd_read) (D_rowtext : Df K mg "row_text" s_rowtext P_rowtext f_rowtext fd_rowtext)
    (D_pool : Df K mg "_law_pool" s_pool P_pool f_pool fd_pool) (D_take : Df K mg "_law_take" s_take P_take f_take fd_take) (D_bytes : Df K mg "_law_bytes" s_bytes P_bytes f_bytes fd_bytes)
    (D_text : Df K mg "_law_text" s_text P_text f_text fd_text) (D_fits : Df K mg "_law_fits" s_fits P_fits f_fits fd_fits) (D_asked : Df K mg "_law_asked" s_asked P_asked f_asked fd_asked) (g_FIG : mg "FIGURES" = some (.str FIG tF))
    (m_list : mg "list" = none) (m_len : mg "len" = none) (m_range : mg "range" = none) (m_isinstance : mg "isinstance" = none) (m_int : mg "int" = none) (m_bool : mg "bool" = none) (m_all : mg "all" = none) (m_str : mg "str" = none) :
    FnOk P w K mg base CX0 4 f fd P_law (spLaw K) := by
  have G_pool : FnOk P w K mg base CX0 1 f_pool fd_pool P_pool (spPool K) := ok_pool D_pool.F m_len
  have G_take : FnOk P w K mg base CX0 1 f_take fd_take P_take spTake := ok_take D_take.F
  have G_bytes : FnOk P w K mg base CX0 2 f_bytes fd_bytes P_bytes spBytes := ok_bytes D_bytes.F D_take m_range
  have G_rowtext : FnOk P w K mg base CX0 1 f_rowtext fd_rowtext P_rowtext (spTxt K) := ok_rowtext D_rowtext.F
  have G_asked : FnOk P w K mg base CX0 3 f_asked fd_asked P_asked spAsked := ok_asked D_asked.F D_worth D_read D_rowtext D_text D_fits g_FIG m_list m_len m_range m_isinstance m_int m_bool m_all m_str
  have sz : sizeLine = 16777216 := sizeLine_eq
  refine F.ok sc_law (fun vs H Q E h => ?_) (fun cdv A outer s H vs Q E hr h => ?_)
  · obtain ⟨a, ns, rfl, _⟩ := h
    rfl
  · obtain ⟨a, ns, rfl, hS, h63, q⟩ := h
    refine ⟨_, (pss_cons (ps_set (i := 1) sc_law.nd rfl (.inl rfl) (pe_call G_pool (hr.mono (by decide)) (by rfl) D_pool.g D_pool.F.kp D_pool.b .nil pass0 (pa_cons (pv 0) (pa_cons pe_int pa_nil))))
      (pss_cons (ps_set (i := 2) sc_law.nd rfl (.inl rfl) (pe_call G_bytes (hr.mono (by decide)) (by rfl) D_bytes.g D_bytes.F.kp D_bytes.b .nil pass0 (pa_cons (pv 1) pa_nil)))
      (pss_cons (ps_set (i := 3) sc_law.nd rfl (.inl rfl) (pe_call G_bytes (hr.mono (by decide)) (by rfl) D_bytes.g D_bytes.F.kp D_bytes.b .nil pass0 (pa_cons (pe_call G_pool (hr.mono (by decide)) (by rfl) D_pool.g D_pool.F.kp D_pool.b .nil pass0 (pa_cons (pv 0) (pa_cons pe_int pa_nil))) pa_nil)))
      (C8.pss_cut (ps_if (PW.pt (pw_and (pt_cmpR op_eq (pe_call G_take (hr.mono (by decide)) (by rfl) D_take.g D_take.F.kp D_take.b .nil pass0 (pa_cons (pv 1) (pa_cons pe_int pa_nil))) pe_int (nomark _)) (pw_and1 (pt_cmpR op_gt (pe_callB call_len_seq (by rfl) m_len PySem.boot_len (pa_cons (pv 2) pa_nil)) pe_int (nomark _))))) (pss_cons (ps_set (i := 4) sc_law.nd rfl (.inl rfl) (pe_call G_take (hr.mono (by decide)) (by rfl) D_take.g D_take.F.kp D_take.b .nil pass0 (pa_cons (pv 1) (pa_cons (pe_callB call_len_seq (by rfl) m_len PySem.boot_len (pa_cons (pv 2) pa_nil)) pa_nil))))
      (pss_one (ps_set (i := 3) sc_law.nd rfl (.inl rfl) (pe_op op_cat (pe_op op_cat (pe_slice sl_list (pv 2) po_none (po_some (pv 4))) (pe_lst (pa_cons (pe_op op_mod (pe_op op_add (pe_op op_add (pe_ix ix_list (pv 2) (pv 4) (fun _ _ => rfl)) pe_int) (pe_call G_take (hr.mono (by decide)) (by rfl) D_take.g D_take.F.kp D_take.b .nil pass0 (pa_cons (pv 1) (pa_cons pe_int pa_nil)))) pe_int) pa_nil))) (pe_slice sl_list (pv 2) (po_some (pe_op op_add (pv 4) pe_int)) po_none))))) pss_nil)
      (pss_cons (ps_if (PW.pt (pw_or (pt_not (pt_val (pe_call G_asked (hr.mono (by decide)) (by rfl) D_asked.g D_asked.F.kp D_asked.b .nil pass0 (pa_cons (pv 2) pa_nil)))) (pw_or (pt_not (pt_val (pe_call G_asked (hr.mono (by decide)) (by rfl) D_asked.g D_asked.F.kp D_asked.b .nil pass0 (pa_cons (pv 3) pa_nil)))) (pw_or1 (pt_not (pt_val (pe_call G_asked (hr.mono (by decide)) (by rfl) D_asked.g D_asked.F.kp D_asked.b .nil pass0 (pa_cons (pv 2) pa_nil)))))))) (pss_one (ps_ret pe_bl)) pss_nil)
      (pss_cons (ps_if (pt_cmpR op_ne (pe_cmpR op_eq (pe_call G_rowtext (hr.mono (by decide)) (by rfl) D_rowtext.g D_rowtext.F.kp D_rowtext.b .nil pass0 (pa_cons (pe_callTy call_list_of (by rfl) m_list (by decide +kernel) (pa_cons (pv 2) pa_nil)) pa_nil)) (pe_call G_rowtext (hr.mono (by decide)) (by rfl) D_rowtext.g D_rowtext.F.kp D_rowtext.b .nil pass0 (pa_cons (pe_callTy call_list_of (by rfl) m_list (by decide +kernel) (pa_cons (pv 3) pa_nil)) pa_nil)) (nomark _)) (pe_cmpR (op_eqI hr.units) (pv 2) (pv 3) (nomark _)) (nomark _)) (pss_one (ps_ret pe_bl)) pss_nil)
      (pss_cons (ps_set (i := 5) sc_law.nd rfl (.inl rfl) (pe_op op_cat (pv 2) (pv 3)))
      (pss_one (ps_ret (pe_or (pe_cmpR op_gt (pe_callB call_len_seq (by rfl) m_len PySem.boot_len (pa_cons (pv 5) pa_nil)) pe_int (nomark _)) (pe_one (pe_cmpR op_eq (pe_call G_rowtext (hr.mono (by decide)) (by rfl) D_rowtext.g D_rowtext.F.kp D_rowtext.b .nil pass0 (pa_cons (pe_callTy call_list_of (by rfl) m_list (by decide +kernel) (pa_cons (pv 5) pa_nil)) pa_nil)) (pe_op op_add_str (pe_call G_rowtext (hr.mono (by decide)) (by rfl) D_rowtext.g D_rowtext.F.kp D_rowtext.b .nil pass0 (pa_cons (pe_callTy call_list_of (by rfl) m_list (by decide +kernel) (pa_cons (pv 2) pa_nil)) pa_nil)) (pe_call G_rowtext (hr.mono (by decide)) (by rfl) D_rowtext.g D_rowtext.F.kp D_rowtext.b .nil pass0 (pa_cons (pe_callTy call_list_of (by rfl) m_list (by decide +kernel) (pa_cons (pv 3) pa_nil)) pa_nil))) (nomark _))))))))))))), ?_⟩
    refine ⟨.ref a, rfl, a, ns, 0, rfl, hS, h63, by decide, by decide, fun p o1 np hP1 => ?_⟩
    refine ⟨.ref p, rfl, p, _, o1, rfl, upd_same, hP1, by omega, fun H2 x bs o2 nx ex ep hP2 kk lb hb => ?_⟩
    have s2 : Same H H2 := step_same (Kp.new (ps := []) np).same np kk
    have xp : x ≠ p := fun z => by rw [z, upd_same] at nx; cases nx
    refine ⟨.ref a, rfl, a, ns, 1, rfl, s2.seq hS, h63, by decide, by decide, fun p2 o7 np2 hP7 => ?_⟩
    have s4 : Same H2 (upd H2 p2 o7) := (Kp.new (ps := []) np2).same
    refine ⟨p2, _, o7, rfl, upd_same, hP7, by omega, fun H8 y ds o8 ny ey _ _ kk2 ld hd => ?_⟩
    have s5 : Same H2 H8 := step_same s4 np2 kk2
    have x8 := s5 _ _ ex
    have p8 := s5 _ _ ep
    have yp : y ≠ p := fun z => by
      rw [z] at ny
      have := s4 _ _ ep
      rw [ny] at this; cases this
    refine ⟨fun σ' H' => ∃ (y' : Addr) (cs : List Int) (z4 : Option V), σ' = [some (.ref a), some (.ref p), some (.ref x), some (.ref y'), z4, none] ∧ H' x = some (.lst (bs.map V.int)) ∧ H' y' = some (.lst (cs.map V.int)) ∧ Bytes cs ∧ cs.length ≤ 1000, ?_, fun σ' H9 hm => ?_⟩
    · refine ⟨.ref p, rfl, p, _, 4, o2, rfl, p8, hP2, by omega, by decide, by decide, fun r o3 r0 r1 hP3 => ⟨rfl, _, rfl, ite2 (fun _ => ?_) (fun _ => iteF ?_)⟩⟩
      · have x9 : (upd H8 p o3) x = some (.lst (bs.map V.int)) := by rw [upd_ne xp]; exact x8
        have y9 : (upd H8 p o3) y = some (.lst (ds.map V.int)) := by rw [upd_ne yp]; exact ey
        refine ⟨.ref x, rfl, x, _, rfl, .inl (sq_at x9), _, _, rfl, rfl, _, rfl, ite2 (fun e => ?_) (fun _ => ⟨y, ds, none, rfl, x9, y9, hd, by omega⟩)⟩
        have e1 : (0 : Int) < ((bs.map V.int).length : Int) := of_decide_eq_true e
        refine ⟨.ref p, rfl, .ref x, rfl, x, _, rfl, .inl (sq_at x9), p, _, _, o3, rfl, upd_same, hP3, by omega, e1, by rw [List.length_map]; omega, fun r2 o4 t0 t1 hP4 => ?_⟩
        rw [List.length_map] at t1
        have x10 : (upd (upd H8 p o3) p o4) x = some (.lst (bs.map V.int)) := by rw [upd_ne xp]; exact x9
        -- row[:at]
        obtain ⟨c1, ec1, lc1, mc1⟩ := cut_map bs none (some r2)
        refine ⟨.ref x, rfl, .int r2, rfl, r2, rfl, x, _, rfl, sq_at x10, fun l1 nl1 => ?_⟩
        rw [ec1]
        have x11 : (upd (upd (upd H8 p o3) p o4) l1 (.lst (c1.map V.int))) x = some (.lst (bs.map V.int)) := by rw [upd_ne (ne_of_none x10 nl1)]; exact x10
        have p11 : (upd (upd (upd H8 p o3) p o4) l1 (.lst (c1.map V.int))) p = some o4 := by rw [upd_ne (ne_of_none (upd_same : (upd (upd H8 p o3) p o4) p = some o4) nl1)]; exact upd_same
        have l1p : l1 ≠ p := fun z => by rw [z, upd_same] at nl1; cases nl1
        -- the byte between
        refine ⟨.ref x, rfl, .int r2, rfl, x, _, r2, _, rfl, rfl, sq_at x11, atI_intV t0 t1, _, _, rfl, rfl, .ref p, rfl, p, _, 255, o4, rfl, p11, hP4, by omega, by decide, by decide, fun r3 o5 u0 u1 hP5 => ?_⟩
        refine ⟨_, _, rfl, rfl, _, _, rfl, rfl, by show (0 : Int) < 256; decide, by show (1 : Nat) ≤ sizeLine; omega, fun l2 nl2 => ?_⟩
        have x12 : (upd (upd (upd (upd H8 p o3) p o4) l1 (.lst (c1.map V.int))) p o5) x = some (.lst (bs.map V.int)) := by rw [upd_ne xp]; exact x11
        have l12 : (upd (upd (upd (upd H8 p o3) p o4) l1 (.lst (c1.map V.int))) p o5) l1 = some (.lst (c1.map V.int)) := by rw [upd_ne l1p]; exact upd_same
        have v0 : 0 ≤ (bs.getD r2.toNat 0 + 1 + r3) % 256 := Int.emod_nonneg _ (by decide)
        have v1 : (bs.getD r2.toNat 0 + 1 + r3) % 256 < 256 := Int.emod_lt_of_pos _ (by decide)
        have n12 : l1 ≠ l2 := ne_of_none l12 nl2
        have nx2 : x ≠ l2 := ne_of_none x12 nl2
        refine ⟨l1, l2, _, _, rfl, rfl, by rw [upd_ne n12]; exact l12, upd_same, by rw [List.length_map]; show c1.length + 1 ≤ sizeLine; omega, fun l3 nl3 => ?_⟩
        obtain ⟨c2, ec2, lc2, mc2⟩ := cut_map bs (some (r2 + 1)) none
        have x13 : ∀ o9 : HO, (upd (upd (upd (upd (upd H8 p o3) p o4) l1 (.lst (c1.map V.int))) p o5) l2 o9) x = some (.lst (bs.map V.int)) := fun o9 => by rw [upd_ne nx2]; exact x12
        have nx3 : x ≠ l3 := ne_of_none (x13 _) nl3
        refine ⟨.ref x, rfl, .int r2, rfl, _, _, rfl, rfl, _, rfl, x, _, rfl, sq_at (by rw [upd_ne nx3]; exact x13 _), fun l4 nl4 => ?_⟩
        rw [ec2]
        have n34 : l3 ≠ l4 := ne_of_none upd_same nl4
        refine ⟨l3, l4, _, _, rfl, rfl, by rw [upd_ne n34]; exact upd_same, upd_same, ?_, fun l5 nl5 => ?_⟩
        · rw [List.length_append, List.length_map, List.length_map]
          show c1.length + 1 + c2.length ≤ sizeLine
          omega
        · have nx4 : x ≠ l4 := ne_of_none (by rw [upd_ne nx3]; exact x13 _) nl4
          have x15 : ∀ o7 o8 o9 : HO, (upd (upd (upd (upd (upd (upd (upd H8 p o3) p o4) l1 (.lst (c1.map V.int))) p o5) l2 o7) l3 o8) l4 o9) x = some (.lst (bs.map V.int)) := fun o7 o8 o9 => by rw [upd_ne nx4, upd_ne nx3]; exact x13 _
          refine ⟨l5, c1 ++ [(bs.getD r2.toNat 0 + 1 + r3) % 256] ++ c2, _, rfl, by rw [upd_ne (ne_of_none (x15 _ _ _) nl5)]; exact x15 _ _ _, ?_, ?_, ?_⟩
          · rw [upd_same, List.map_append, List.map_append]; rfl
          · intro b hb2
            rcases List.mem_append.mp hb2 with hb3 | hb3
            · rcases List.mem_append.mp hb3 with hb4 | hb4
              · exact hb b (mc1 b hb4)
              · rw [List.mem_singleton.mp hb4]; omega
            · exact hb b (mc2 b hb3)
          · rw [List.length_append, List.length_append]
            show c1.length + 1 + c2.length ≤ 1000
            omega
      · exact ⟨y, ds, none, rfl, by rw [upd_ne xp]; exact x8, by rw [upd_ne yp]; exact ey, hd, by omega⟩
    · obtain ⟨y', cs, z4, rfl, ex, ey, hc, lc⟩ := hm
      refine ⟨.ref x, rfl, x, bs, rfl, ex, hb, by omega, fun H10 t1 => ⟨_, rfl, iteF ?_⟩⟩
      refine ⟨.ref y', rfl, y', cs, rfl, t1 _ _ ey, hc, by omega, fun H11 t2 => ⟨_, rfl, iteF ?_⟩⟩
      refine ⟨.ref x, rfl, x, bs, rfl, t2 _ _ (t1 _ _ ex), hb, by omega, fun H12 t3 => ⟨_, rfl, iteF ?_⟩⟩
      have t13 := (t1.trans t2).trans t3
      -- the texts are alike just where the rows are
      refine ⟨.ref x, rfl, x, _, rfl, .inl (sq_at (t13 _ _ ex)), fun h1 nh1 => ⟨h1, bs, rfl, sq_new, hb, by omega, fun H13 t4 => ?_⟩⟩
      have t14 := t13.trans ((Kp.new (ps := []) nh1).same.trans t4)
      refine ⟨.ref y', rfl, y', _, rfl, .inl (sq_at (t14 _ _ ey)), fun h2 nh2 => ⟨h2, cs, rfl, sq_new, hc, by omega, fun H14 t5 => ?_⟩⟩
      have t15 := t14.trans ((Kp.new (ps := []) nh2).same.trans t5)
      refine ⟨rfl, .ref x, rfl, .ref y', rfl, x, y', bs, cs, rfl, rfl, sq_at (t15 _ _ ex), sq_at (t15 _ _ ey), rfl, _, rfl, ?_⟩
      rw [tx_eq hb hc]
      refine iteNS rfl ?_
      refine ⟨.ref x, rfl, .ref y', rfl, x, y', _, _, rfl, rfl, t15 _ _ ex, t15 _ _ ey, by rw [List.length_map, List.length_map]; omega, fun b1 nb1 => ?_⟩
      rw [← List.map_append]
      have t16 := t15.trans (Kp.new (ps := []) (o := HO.lst ((bs ++ cs).map V.int)) nb1).same
      refine ⟨.ref b1, rfl, b1, _, rfl, .inl sq_new, _, _, rfl, rfl, _, rfl, ite2 (fun _ => q _) (fun _ => ?_)⟩
      refine ⟨.ref b1, rfl, b1, _, rfl, .inl sq_new, fun h3 nh3 => ⟨h3, bs ++ cs, rfl, sq_new, ?_, by rw [List.length_append]; omega, fun H17 t17 => ?_⟩⟩
      · intro b hb2
        rcases List.mem_append.mp hb2 with hb3 | hb3
        · exact hb b hb3
        · exact hc b hb3
      · have t18 := t16.trans ((Kp.new (ps := []) nh3).same.trans t17)
        refine ⟨.ref x, rfl, x, _, rfl, .inl (sq_at (t18 _ _ ex)), fun h4 nh4 => ⟨h4, bs, rfl, sq_new, hb, by omega, fun H18 t19 => ?_⟩⟩
        have t20 := t18.trans ((Kp.new (ps := []) nh4).same.trans t19)
        refine ⟨.ref y', rfl, y', _, rfl, .inl (sq_at (t20 _ _ ey)), fun h5 nh5 => ⟨h5, cs, rfl, sq_new, hc, by omega, fun H19 t21 => ?_⟩⟩
        refine ⟨_, _, rfl, rfl, by rw [tx_length, tx_length]; omega, rfl, ?_⟩
        rw [tx_append, decide_eq_true rfl]
        exact q _
end
theorem all_mk {l : PySem.W.OpenLaw} {w : World} {K : PySem.W.Frag} {h : Heap} {mg : Str → Option Value} {fa : Addr} {f_worth f_read f_rowtext f_pool f_take f_bytes f_text f_fits f_asked f_law : Addr} (X : K.In h) (G : h.Ns mainGlobals mg) (hfa : mg "law" = some (.ref fa))
    {od_worth an_worth : Option Addr} {sl_worth : Array (Option Value)} {oc_worth kV_worth dc_worth pm_worth cd_worth ct_worth : Value}
    (a_worth : PySem.W.nsIn K mainGlobals "figure_worth" = some (some (.ref f_worth))) (l_worth : K.lookup f_worth = some ⟨oc_worth, od_worth, .func (PySem.W.fnOf "figure_worth" "figure_worth" (defArgs s_worth) (defBody s_worth) (defScope s_worth) .none kV_worth dc_worth pm_worth an_worth cd_worth ct_worth), sl_worth⟩)
    (c_worth : PySem.W.codeIn K cd_worth "figure_worth" = true) (k_worth : PySem.W.keepIn K (.ref f_worth) = true)
    {od_read an_read : Option Addr} {sl_read : Array (Option Value)} {oc_read kV_read dc_read pm_read cd_read ct_read : Value}
    (a_read : PySem.W.nsIn K mainGlobals "read_row" = some (some (.ref f_read))) (l_read : K.lookup f_read = some ⟨oc_read, od_read, .func (PySem.W.fnOf "read_row" "read_row" (defArgs s_read) (defBody s_read) (defScope s_read) .none kV_read dc_read pm_read an_read cd_read ct_read), sl_read⟩)
    (c_read : PySem.W.codeIn K cd_read "read_row" = true) (k_read : PySem.W.keepIn K (.ref f_read) = true)
    {od_rowtext an_rowtext : Option Addr} {sl_rowtext : Array (Option Value)} {oc_rowtext kV_rowtext dc_rowtext pm_rowtext cd_rowtext ct_rowtext : Value}
    (a_rowtext : PySem.W.nsIn K mainGlobals "row_text" = some (some (.ref f_rowtext))) (l_rowtext : K.lookup f_rowtext = some ⟨oc_rowtext, od_rowtext, .func (PySem.W.fnOf "row_text" "row_text" (defArgs s_rowtext) (defBody s_rowtext) (defScope s_rowtext) .none kV_rowtext dc_rowtext pm_rowtext an_rowtext cd_rowtext ct_rowtext), sl_rowtext⟩)
    (c_rowtext : PySem.W.codeIn K cd_rowtext "row_text" = true) (k_rowtext : PySem.W.keepIn K (.ref f_rowtext) = true)
    {od_pool an_pool : Option Addr} {sl_pool : Array (Option Value)} {oc_pool kV_pool dc_pool pm_pool cd_pool ct_pool : Value}
    (a_pool : PySem.W.nsIn K mainGlobals "_law_pool" = some (some (.ref f_pool))) (l_pool : K.lookup f_pool = some ⟨oc_pool, od_pool, .func (PySem.W.fnOf "_law_pool" "_law_pool" (defArgs s_pool) (defBody s_pool) (defScope s_pool) .none kV_pool dc_pool pm_pool an_pool cd_pool ct_pool), sl_pool⟩)
    (c_pool : PySem.W.codeIn K cd_pool "_law_pool" = true) (k_pool : PySem.W.keepIn K (.ref f_pool) = true)
    {od_take an_take : Option Addr} {sl_take : Array (Option Value)} {oc_take kV_take dc_take pm_take cd_take ct_take : Value}
    (a_take : PySem.W.nsIn K mainGlobals "_law_take" = some (some (.ref f_take))) (l_take : K.lookup f_take = some ⟨oc_take, od_take, .func (PySem.W.fnOf "_law_take" "_law_take" (defArgs s_take) (defBody s_take) (defScope s_take) .none kV_take dc_take pm_take an_take cd_take ct_take), sl_take⟩)
    (c_take : PySem.W.codeIn K cd_take "_law_take" = true) (k_take : PySem.W.keepIn K (.ref f_take) = true)
    {od_bytes an_bytes : Option Addr} {sl_bytes : Array (Option Value)} {oc_bytes kV_bytes dc_bytes pm_bytes cd_bytes ct_bytes : Value}
    (a_bytes : PySem.W.nsIn K mainGlobals "_law_bytes" = some (some (.ref f_bytes))) (l_bytes : K.lookup f_bytes = some ⟨oc_bytes, od_bytes, .func (PySem.W.fnOf "_law_bytes" "_law_bytes" (defArgs s_bytes) (defBody s_bytes) (defScope s_bytes) .none kV_bytes dc_bytes pm_bytes an_bytes cd_bytes ct_bytes), sl_bytes⟩)
    (c_bytes : PySem.W.codeIn K cd_bytes "_law_bytes" = true) (k_bytes : PySem.W.keepIn K (.ref f_bytes) = true)
    {od_text an_text : Option Addr} {sl_text : Array (Option Value)} {oc_text kV_text dc_text pm_text cd_text ct_text : Value}
    (a_text : PySem.W.nsIn K mainGlobals "_law_text" = some (some (.ref f_text))) (l_text : K.lookup f_text = some ⟨oc_text, od_text, .func (PySem.W.fnOf "_law_text" "_law_text" (defArgs s_text) (defBody s_text) (defScope s_text) .none kV_text dc_text pm_text an_text cd_text ct_text), sl_text⟩)
    (c_text : PySem.W.codeIn K cd_text "_law_text" = true) (k_text : PySem.W.keepIn K (.ref f_text) = true)
    {od_fits an_fits : Option Addr} {sl_fits : Array (Option Value)} {oc_fits kV_fits dc_fits pm_fits cd_fits ct_fits : Value}
    (a_fits : PySem.W.nsIn K mainGlobals "_law_fits" = some (some (.ref f_fits))) (l_fits : K.lookup f_fits = some ⟨oc_fits, od_fits, .func (PySem.W.fnOf "_law_fits" "_law_fits" (defArgs s_fits) (defBody s_fits) (defScope s_fits) .none kV_fits dc_fits pm_fits an_fits cd_fits ct_fits), sl_fits⟩)
    (c_fits : PySem.W.codeIn K cd_fits "_law_fits" = true) (k_fits : PySem.W.keepIn K (.ref f_fits) = true)
    {od_asked an_asked : Option Addr} {sl_asked : Array (Option Value)} {oc_asked kV_asked dc_asked pm_asked cd_asked ct_asked : Value}
    (a_asked : PySem.W.nsIn K mainGlobals "_law_asked" = some (some (.ref f_asked))) (l_asked : K.lookup f_asked = some ⟨oc_asked, od_asked, .func (PySem.W.fnOf "_law_asked" "_law_asked" (defArgs s_asked) (defBody s_asked) (defScope s_asked) .none kV_asked dc_asked pm_asked an_asked cd_asked ct_asked), sl_asked⟩)
    (c_asked : PySem.W.codeIn K cd_asked "_law_asked" = true) (k_asked : PySem.W.keepIn K (.ref f_asked) = true)
    {od_law an_law : Option Addr} {sl_law : Array (Option Value)} {oc_law kV_law dc_law pm_law cd_law ct_law : Value}
    (a_law : PySem.W.nsIn K mainGlobals "law" = some (some (.ref f_law))) (l_law : K.lookup f_law = some ⟨oc_law, od_law, .func (PySem.W.fnOf "law" "law" (defArgs s_law) (defBody s_law) (defScope s_law) .none kV_law dc_law pm_law an_law cd_law ct_law), sl_law⟩)
    (c_law : PySem.W.codeIn K cd_law "law" = true) (k_law : PySem.W.keepIn K (.ref f_law) = true)
    {t_FIGURES : Tok} (v_FIGURES : PySem.W.nsIn K mainGlobals "FIGURES" = some (some (.str FIG t_FIGURES)))
    (z_list : PySem.W.nsIn K mainGlobals "list" = some none) (z_len : PySem.W.nsIn K mainGlobals "len" = some none) (z_range : PySem.W.nsIn K mainGlobals "range" = some none) (z_isinstance : PySem.W.nsIn K mainGlobals "isinstance" = some none) (z_int : PySem.W.nsIn K mainGlobals "int" = some none) (z_bool : PySem.W.nsIn K mainGlobals "bool" = some none) (z_all : PySem.W.nsIn K mainGlobals "all" = some none) (z_str : PySem.W.nsIn K mainGlobals "str" = some none) :
    ∃ fd : FuncData, (∀ (s : Shared) (v : Value), BindsTo s fd ⟨[v], []⟩ [("_law_script", v)]) ∧ ∀ base : Heap, K.In base → base.Ns mainGlobals mg → FnOk l.prog w K mg base CX0 4 fa fd ["_law_script"] (spLaw K) := by
  have e := hfa.symm.trans (PySem.W.mg_of X G a_law)
  cases e
  have F_worth := fun_mk (st := s_worth) l_worth c_worth k_worth
  have D_worth : Df K mg "figure_worth" s_worth P_worth f_worth _ := ⟨F_worth, F_worth.binds (ps := P_worth) fun _ _ _ _ _ _ us hl => match us, hl with | [_], _ => rfl, PySem.W.mg_of X G a_worth⟩
  have F_read := fun_mk (st := s_read) l_read c_read k_read
  have D_read : Df K mg "read_row" s_read P_read f_read _ := ⟨F_read, F_read.binds (ps := P_read) fun _ _ _ _ _ _ us hl => match us, hl with | [_], _ => rfl, PySem.W.mg_of X G a_read⟩
  have F_rowtext := fun_mk (st := s_rowtext) l_rowtext c_rowtext k_rowtext
  have D_rowtext : Df K mg "row_text" s_rowtext P_rowtext f_rowtext _ := ⟨F_rowtext, F_rowtext.binds (ps := P_rowtext) fun _ _ _ _ _ _ us hl => match us, hl with | [_], _ => rfl, PySem.W.mg_of X G a_rowtext⟩
  have F_pool := fun_mk (st := s_pool) l_pool c_pool k_pool
  have D_pool : Df K mg "_law_pool" s_pool P_pool f_pool _ := ⟨F_pool, F_pool.binds (ps := P_pool) fun _ _ _ _ _ _ us hl => match us, hl with | [_, _], _ => rfl, PySem.W.mg_of X G a_pool⟩
  have F_take := fun_mk (st := s_take) l_take c_take k_take
  have D_take : Df K mg "_law_take" s_take P_take f_take _ := ⟨F_take, F_take.binds (ps := P_take) fun _ _ _ _ _ _ us hl => match us, hl with | [_, _], _ => rfl, PySem.W.mg_of X G a_take⟩
  have F_bytes := fun_mk (st := s_bytes) l_bytes c_bytes k_bytes
  have D_bytes : Df K mg "_law_bytes" s_bytes P_bytes f_bytes _ := ⟨F_bytes, F_bytes.binds (ps := P_bytes) fun _ _ _ _ _ _ us hl => match us, hl with | [_], _ => rfl, PySem.W.mg_of X G a_bytes⟩
  have F_text := fun_mk (st := s_text) l_text c_text k_text
  have D_text : Df K mg "_law_text" s_text P_text f_text _ := ⟨F_text, F_text.binds (ps := P_text) fun _ _ _ _ _ _ us hl => match us, hl with | [_], _ => rfl, PySem.W.mg_of X G a_text⟩
  have F_fits := fun_mk (st := s_fits) l_fits c_fits k_fits
  have D_fits : Df K mg "_law_fits" s_fits P_fits f_fits _ := ⟨F_fits, F_fits.binds (ps := P_fits) fun _ _ _ _ _ _ us hl => match us, hl with | [_, _], _ => rfl, PySem.W.mg_of X G a_fits⟩
  have F_asked := fun_mk (st := s_asked) l_asked c_asked k_asked
  have D_asked : Df K mg "_law_asked" s_asked P_asked f_asked _ := ⟨F_asked, F_asked.binds (ps := P_asked) fun _ _ _ _ _ _ us hl => match us, hl with | [_], _ => rfl, PySem.W.mg_of X G a_asked⟩
  have F_law := fun_mk (st := s_law) l_law c_law k_law
  have m_FIGURES := PySem.W.mg_of X G v_FIGURES
  have m_list : mg "list" = none := PySem.W.mg_none_of X G z_list
  have m_len : mg "len" = none := PySem.W.mg_none_of X G z_len
  have m_range : mg "range" = none := PySem.W.mg_none_of X G z_range
  have m_isinstance : mg "isinstance" = none := PySem.W.mg_none_of X G z_isinstance
  have m_int : mg "int" = none := PySem.W.mg_none_of X G z_int
  have m_bool : mg "bool" = none := PySem.W.mg_none_of X G z_bool
  have m_all : mg "all" = none := PySem.W.mg_none_of X G z_all
  have m_str : mg "str" = none := PySem.W.mg_none_of X G z_str
  exact ⟨_, fun s v => .of_eq rfl, fun base _ _ => ok_law F_law D_worth D_read D_rowtext D_pool D_take D_bytes D_text D_fits D_asked m_FIGURES m_list m_len m_range m_isinstance m_int m_bool m_all m_str⟩
end Sip
open PySem PySem.W PyProof.Rows
set_option maxHeartbeats 0 in
theorem PySem.Challenge.cw_sipstack_k03_rows_written_and_read_holds : PySem.Challenge.rw_sipstack_k03_rows_written_and_read.Holds := by
  w_on; o_law; k_head; (case hw => w_witness2)
  k_fill
  refine L2.walk_of (l := PySem.Challenge.rw_sipstack_k03_rows_written_and_read) (n := 63) (k := 4) (x := "_law_script") (CX := fun _ => L2.CX0) (sp := fun w => Sip.spLaw _) rfl (by decide) rfl ⟨rfl, by decide, by decide⟩ (fun w h Y => PySem.W.kIn_of Y) ?F (fun _ _ a ns hl _ hS => ⟨a, ns, rfl, hS, hl, fun _ => rfl⟩) (fun _ _ _ _ _ h => h)
  case F =>
    intro w mg fa h KX G hmg
    refine' Sip.all_mk KX G hmg ?a_worth ?l_worth ?c_worth ?k_worth ?a_read ?l_read ?c_read ?k_read ?a_rowtext ?l_rowtext ?c_rowtext ?k_rowtext ?a_pool ?l_pool ?c_pool ?k_pool ?a_take ?l_take ?c_take ?k_take ?a_bytes ?l_bytes ?c_bytes ?k_bytes ?a_text ?l_text ?c_text ?k_text ?a_fits ?l_fits ?c_fits ?k_fits ?a_asked ?l_asked ?c_asked ?k_asked ?a_law ?l_law ?c_law ?k_law ?v_FIGURES ?z_list ?z_len ?z_range ?z_isinstance ?z_int ?z_bool ?z_all ?z_str
    (case a_worth => k_is)
    (case l_worth => k_is)
    (case c_worth => k_is)
    (case k_worth => k_is)
    (case a_read => k_is)
    (case l_read => k_is)
    (case c_read => k_is)
    (case k_read => k_is)
    (case a_rowtext => k_is)
    (case l_rowtext => k_is)
    (case c_rowtext => k_is)
    (case k_rowtext => k_is)
    (case a_pool => k_is)
    (case l_pool => k_is)
    (case c_pool => k_is)
    (case k_pool => k_is)
    (case a_take => k_is)
    (case l_take => k_is)
    (case c_take => k_is)
    (case k_take => k_is)
    (case a_bytes => k_is)
    (case l_bytes => k_is)
    (case c_bytes => k_is)
    (case k_bytes => k_is)
    (case a_text => k_is)
    (case l_text => k_is)
    (case c_text => k_is)
    (case k_text => k_is)
    (case a_fits => k_is)
    (case l_fits => k_is)
    (case c_fits => k_is)
    (case k_fits => k_is)
    (case a_asked => k_is)
    (case l_asked => k_is)
    (case c_asked => k_is)
    (case k_asked => k_is)
    (case a_law => k_is)
    (case l_law => k_is)
    (case c_law => k_is)
    (case k_law => k_is)
    (case v_FIGURES => k_is)
    (case z_list => k_is)
    (case z_len => k_is)
    (case z_range => k_is)
    (case z_isinstance => k_is)
    (case z_int => k_is)
    (case z_bool => k_is)
    (case z_all => k_is)
    (case z_str => k_is)
