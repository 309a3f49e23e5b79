import PyProof.Rows.All
import Wide.All
import OpenK.AllK
import Wide.FinOn
import HandS.List
import HandS.Codes
import HandS.Comp
import HandS.Iter
import HandS.Ends
import HandS.Text
import HandS.Words
import HandS.WordsList
import HandS.Wide
import HandS.IsInst
import HandS.FStr
import PyProof.FString3
import PyProof.Rows.StrIntSpec
import HandS.Walk
import HandS.Exc
import HandS.ExcOwn
import HandS.ExcIs
import HandS.WordsExc
import HandS.StrMore
import HandS.Defaults
import HandS.MakeKwOnly
import HandS.Flow
import HandS.Star
import HandS.Conv
import HandS.Deep
import HandS.ExcInit
import KE.KExcIs
import HandS.TryMany
import HandS.ClsMeth
import HandS.HotCalls
import HandS.SuiteRaise
import KE.KExcRaise
import HandS.Small
import PySem.Challenge.RW_sipstack_k10_device_told_lists
set_option Elab.async false
set_option linter.all false
set_option maxRecDepth 100000
namespace Sip
open PySem PySem.Spec PyProof.Rows L2

/-! a slice of step one in a list, laid over by another list; its end may lie behind the list's end -/
theorem clamp {a c n : Nat} (h1 : a ≤ c) (h2 : a ≤ n) :
    sliceBounds (some (a : Int)) (some (c : Int)) none n = ((a : Int), ((min c n : Nat) : Int), 1) := by
  have n1 : ¬ ((a : Int) < 0) := by omega
  have n2 : ¬ ((c : Int) < 0) := by omega
  simp only [sliceBounds, Option.getD_none, n1, n2, if_false, show (1 : Int) > 0 from by decide, if_true]
  refine Prod.ext ?_ (Prod.ext ?_ rfl)
  · show max 0 (min (a : Int) (n : Int)) = (a : Int)
    omega
  · show max 0 (min (c : Int) (n : Int)) = ((min c n : Nat) : Int)
    omega

section
variable {pr : Program} {wd : World} {ar : Around} {er : Value → Shared → Prop} {s : Shared}
set_option maxHeartbeats 4000000 in
theorem put_slice {l b z : Addr} {old new : Array Value} {m m2 a c : Nat} {vl vu : Value} {Q : Unit → Shared → Prop}
    (eo : s.heap.get? l = some { cls := .type "list", data := .seq old m })
    (en : s.heap.get? b = some { cls := .type "list", data := .seq new m2 }) (ne : l ≠ b)
    (hz : s.heap.IsSliceOf z vl vu .none) (pl : IsPart vl (some (a : Int))) (pu : IsPart vu (some (c : Int)))
    (ac : a ≤ c) (an : a ≤ old.size) (fit : old.size + new.size ≤ sizeLine)
    (k : Q () { s with heap := s.heap.update l (Obj.mapSeq fun t => t.extract 0 a ++ new ++ t.extract (min c old.size) t.size) }) :
    wpAny (model pr wd) ar (setItem (.ref l) (.ref z) (.ref b)) Q er s := by
  by_cases hc : c ≤ old.size
  · rw [Nat.min_eq_left hc] at k
    exact setItem_slice eo en ne hz pl pu ac hc fit k
  · have lo : s.heap.IsList l old := PySem.IsL.isList eo
    have ln : s.heap.IsList b new := PySem.IsL.isList en
    obtain ⟨oz, gz, cz, dz⟩ := id hz
    have tz : s.TypeIs (.ref z) "slice" := ⟨oz, gz, cz⟩
    have apart : Builtin.List.listSameRef (.ref l) (.ref b) = false := by
      unfold Builtin.List.listSameRef; exact beq_eq_false_iff_ne.mpr ne
    have zz : ((fun t : Array Value => t.extract 0 a ++ new ++ t.extract (min c old.size) t.size) old).size ≤ sizeLine + 1 := by
      simp only [Array.size_append, Array.size_extract]; omega
    have bd := clamp ac an
    have mx : (max (a : Int) ((min c old.size : Nat) : Int)).toNat = min c old.size := by omega
    unfold setItem
    try (with_reducible refine wpAny_holding ?_)
    try refine wpAny_bind (wpAny_pure ?_)
    refine wpAny_bind (wpAny_sequenceKey lo.typeIs (by decide) (wpAny_bind ?_))
    refine wpAny_callSpecial?_slot (name := Str.ofString "__setitem__") lo.typeIs slot_list_setitem ?_
    refine wpAny_call_entry slot_list_setitem lo.typeIs entry_list_setitem ?_ (args_list_setitem _ _ _)
    show wpAny _ _ (Builtin.List.listSubscript? (.ref z) >>= _) _ _ s
    refine wpAny_bind ?_
    unfold Builtin.List.listSubscript?
    refine wpAny_bind (wpAny_specialOf tz slice_no_index ?_)
    simp only [Option.isNone_none, if_true]
    refine wpAny_pure ?_
    show wpAny _ _ (typeOf (.ref z) >>= _) _ _ s
    refine wpAny_bind (wpAny_typeOf tz ?_)
    first
      | rw [if_neg (by decide)]
      | refine PySem.W.KFB.if_not (by decide) ?_
    rw [listSliceParts_eq]
    refine wpAny_bind (wpAny_bind (wpAny_field gz dz (x := .none) rfl (wpAny_bind (wpAny_listPart .none ?_))))
    rw [if_neg (show ¬ ((rawPart none == rawInt 0) = true) from Bool.false_ne_true)]
    refine wpAny_bind (wpAny_field gz dz (x := vl) rfl (wpAny_bind (wpAny_listPart pl ?_)))
    refine wpAny_bind (wpAny_field gz dz (x := vu) rfl (wpAny_bind (wpAny_listPart pu (wpAny_pure ?_))))
    first
      | simp only [apart, Bool.false_eq_true, if_false]
      | refine PySem.W.KFB.if_not apart ?_
    refine wpAny_bind ?_
    unfold Builtin.List.listAllItems
    refine wpAny_bind (wpAny_typeOf ln.typeIs ?_)
    first
      | refine PySem.W.KFB.if_so (by decide) ?_
      | rw [if_pos (by decide)]
    unfold Builtin.List.listItems
    refine wpAny_bind (wpAny_seqItems en rfl (wpAny_pure (wpAny_bind (wpAny_bind (wpAny_seqItems eo rfl (wpAny_pure ?_))))))
    have si := (sliceIndices_raw (some (a : Int)) (some (c : Int)) none old.size (by simp)).trans (congrArg (pure : Int × Int × Int → Sem (Int × Int × Int)) bd)
    refine wpAny_bind (wpAny_of_eq si ?_)
    show wpAny _ _ (if ((1 : Int) == 1) = true then _ else _) _ _ s
    rw [if_pos (by decide)]
    refine wpAny_bind (wpAny_rule ?_)
    first
      | simp only [notLongL fit, Bool.false_eq_true, if_false]
      | refine PySem.W.KFB.if_not (notLongL fit) ?_
    try refine wpAny_bind (wpAny_pure ?_)
    show wpAny _ _ (updateSeq l (fun t => t.extract 0 ((a : Int)).toNat ++ new ++ t.extract (max (a : Int) ((min c old.size : Nat) : Int)).toNat t.size) >>= _) _ _ s
    rw [mx, Int.toNat_natCast]
    refine wpAny_bind (wpAny_updateSeq (hz := Nat.le_trans (Nat.le_add_right _ _) fit) (_hz' := zz) eo rfl (wpAny_bind (wpAny_letGo ?_)))
    first
      | exact wpAny_bind (wpAny_pure (wpAny_pure ⟨.none, rfl, wpAny_pure k⟩))
      | exact wpAny_pure ⟨.none, rfl, wpAny_pure k⟩
end

section
variable {X : Cx}
theorem splice (xs ys : List Value) (a c : Nat) : xs.toArray.extract 0 a ++ ys.toArray ++ xs.toArray.extract (min c xs.toArray.size) xs.toArray.size = (xs.take a ++ ys ++ xs.drop c).toArray := by
  rw [splice_eq]
  congr 1
  by_cases h : c ≤ xs.length
  · rw [List.size_toArray, Nat.min_eq_left h]
  · rw [List.size_toArray, Nat.min_eq_right (by omega), List.drop_length, List.drop_of_length_le (by omega)]

/-- o[lo:hi] = v, both given, v another list -/
def gCut (to : TE) (tl th : TO) : TG := fun v σ H Q => to σ H fun o H1 => tl σ H1 fun lo H2 => th σ H2 fun hi H3 =>
  ∃ p q xs ys a c, o = .ref p ∧ v = .ref q ∧ lo = some a ∧ hi = some c ∧ H3 p = some (.lst xs) ∧ H3 q = some (.lst ys) ∧ p ≠ q ∧
    0 ≤ a ∧ a ≤ c ∧ a ≤ xs.length ∧ xs.length + ys.length ≤ sizeLine ∧ Q σ (upd H3 p (.lst (xs.take a.toNat ++ ys ++ xs.drop c.toNat)))

theorem pg_cut {o : Expr} {lo hi : Option Expr} {to : TE} {tl th : TO} {p2 pos : Pos} (ho : PE X o to) (hl : PO X lo tl) (hh : PO X hi th)
    (ha : ∀ v, assign (.Subscript o (.Slice lo hi none p2) pos) X.env v = (do
      let ov ← holding [v] (eval o X.env)
      let iv ← holding [v, ov] (eval (.Slice lo hi none p2) X.env)
      standAt pos
      holding [v, ov, iv] (setItem ov iv v)
      release [iv, v, ov] []) := by intro _; rfl) : PG X (.Subscript o (.Slice lo hi none p2) pos) (gCut to tl th) := by
  refine ⟨fun pins s σ H v u Q I r h => ?_⟩
  rw [ha]
  refine wpAny_bind (wpAny_holding (thn (ho.run pins s σ H _ I h) fun ov s1 ⟨x, H1, I1, r1, q1⟩ => wpAny_bind (wpAny_holding ?_)))
  refine wpAny_Slice (thn (hl.run pins s1 σ H1 _ I1 q1) fun wl s2 ⟨l, H2, I2, pl, q2⟩ => ?_)
  refine thn (hh.run pins s2 σ H2 _ I2 q2) fun wu s3 ⟨uu, H3, I3, pu, q3⟩ => ?_
  rw [evalPart_none]
  refine wpAny_pure ?_
  obtain ⟨p, q, xs, ys, a, c, rfl, rfl, rfl, rfl, hp, hq, pq, a0, ac, ax, fit, fin⟩ := q3
  cases r1
  cases r
  have I4 : Inv X pins σ H3 { s3 with heap := s3.heap.push { cls := .type "slice", data := .fields #[wl, wu, .none] } } := I3.kept (t' := s3.toks) fun b ob e => Heap.get?_push_of_some _ e
  refine wpAny_bind (wpAny_standAt (wpAny_bind (wpAny_holding ?_)))
  obtain ⟨z1, us1, n1, rv1, _, e1⟩ := I4.lstM hp
  obtain ⟨z2, us2, n2, rv2, _, e2⟩ := I4.lstM hq
  obtain ⟨a', rfl⟩ := Int.eq_ofNat_of_zero_le a0
  obtain ⟨c', rfl⟩ := Int.eq_ofNat_of_zero_le (Int.le_trans a0 ac)
  simp only [Int.toNat_natCast] at fin
  have L1 := rv1.length
  have L2' := rv2.length
  refine put_slice (a := a') (c := c') e1 e2 pq (Heap.IsSliceOf.new ..) pl pu (by omega) (by rw [List.size_toArray]; omega) (by rw [List.size_toArray, List.size_toArray]; omega) ?_
  refine wpAny_release ⟨σ, _, ?_, fin⟩
  refine I4.lset (its' := us1.take a' ++ us2 ++ us1.drop c') (t' := s3.toks) hp e1 (splice us1 us2 a' c') (Vals.append (Vals.append (rv1.take _) rv2) (rv1.drop _)) ?_
  rw [List.length_append, List.length_append, List.length_take, List.length_drop]
  omega
end
end Sip
namespace Sip
open PySem PySem.Spec PyProof.Rows L2

/-- a def of the text: where it stands, how it is called -/
structure Df (K : PySem.W.Frag) (mg : Str → Option Value) (x : Str) (st : Stmt) (ps : List Str) (f : Addr) (fd : FuncData) : Prop where
  F : Fun K x x st f fd
  b : Binds K fd ps []
  g : mg x = some (.ref f)

/-! heaps: all that was tracked stands, but at the places ps -/
def Kp (ps : List Addr) (H H' : Hp) : Prop := ∀ b o, b ∉ ps → H b = some o → H' b = some o
theorem Kp.refl (ps : List Addr) (H : Hp) : Kp ps H H := fun _ _ _ h => h
theorem Kp.trans {ps : List Addr} {H H1 H2 : Hp} (a : Kp ps H H1) (b : Kp ps H1 H2) : Kp ps H H2 := fun c o n h => b c o n (a c o n h)
theorem Kp.wide {ps qs : List Addr} {H H1 : Hp} (a : Kp ps H H1) (h : ∀ x ∈ ps, x ∈ qs) : Kp qs H H1 := fun c o n e => a c o (fun z => n (h c z)) e
theorem Kp.same {H H1 : Hp} (a : Kp [] H H1) : Same H H1 := fun c o e => a c o (fun h => nomatch h) e
theorem Kp.of {ps : List Addr} {H H1 : Hp} (a : Same H H1) : Kp ps H H1 := fun c o _ e => a c o e
theorem Kp.at {ps : List Addr} {H : Hp} {p : Addr} {o : HO} (h : p ∈ ps) : Kp ps H (upd H p o) := fun b x n e => by
  have hb : b ≠ p := fun z => n (by rw [z]; exact h)
  rw [upd_ne hb]; exact e
theorem Kp.new {ps : List Addr} {H : Hp} {p : Addr} {o : HO} (h : H p = none) : Kp ps H (upd H p o) := fun b x n e => by
  rw [upd_ne (ne_of_none e h)]; exact e
/-- a place that was new at H is written later -/
theorem Kp.put {ps : List Addr} {H H1 : Hp} {p : Addr} {o : HO} (k : Kp ps H H1) (h : H p = none) : Kp ps H (upd H1 p o) := fun b x n e => by
  rw [upd_ne (ne_of_none e h)]; exact k b x n e
theorem Kp.seq {ps : List Addr} {K : PySem.W.Frag} {H H1 : Hp} {a : Addr} {xs : List V} (k : Kp ps H H1) (n : a ∉ ps) (h : SqL K H a xs) : SqL K H1 a xs := by
  rcases h with (h | ⟨o, h⟩) | h
  · exact .inl (.inl (k _ _ n h))
  · exact .inl (.inr ⟨o, k _ _ n h⟩)
  · exact .inr h
theorem Kp.free {H H1 : Hp} {ps : List Addr} (k : Kp ps H H1) {q : Addr} (n : q ∉ ps) (h : H1 q = none) : H q = none := by
  cases e : H q with
  | none => rfl
  | some o => rw [k q o n e] at h; cases h
theorem sq_new {K : PySem.W.Frag} {H : Hp} {p : Addr} {xs : List V} : SqL K (upd H p (.lst xs)) p xs := .inl (.inl upd_same)
theorem sq_at {K : PySem.W.Frag} {H : Hp} {p : Addr} {xs : List V} (h : H p = some (.lst xs)) : SqL K H p xs := .inl (.inl h)
theorem upd_upd {H : Hp} {p : Addr} {a b : HO} : upd (upd H p a) p b = upd H p b := by
  funext x
  by_cases h : x = p
  · subst h; rw [upd_same, upd_same]
  · rw [upd_ne h, upd_ne h, upd_ne h]

/-! the law's own draws: a pool is a list of three ints -/
def PoolO (n : Int) (o : HO) : Prop := ∃ d c x : Int, o = .lst [.int d, .int c, .int x] ∧ 0 ≤ d ∧ 0 ≤ c ∧ c ≤ n
theorem PoolO.up {n m : Int} {o : HO} (h : PoolO n o) (l : n ≤ m) : PoolO m o := by
  obtain ⟨d, c, x, e, h1, h2, h3⟩ := h
  exact ⟨d, c, x, e, h1, h2, by omega⟩
def spTake : Sp := fun vs H Q _ => ∃ (p : Addr) (n wide : Int) (o : HO), vs = [.ref p, .int wide] ∧ H p = some o ∧ PoolO n o ∧ n ≤ 1000000000 ∧ 0 < wide ∧ wide < 1073741824 ∧
  ∀ (r : Int) (o' : HO), 0 ≤ r → r < wide → PoolO (n + 1) o' → Q (.int r) (upd H p o')
def spPool (K : PySem.W.Frag) : Sp := fun vs H Q _ => ∃ (a : Addr) (ns : List Int) (i : Int), vs = [.ref a, .int i] ∧ SqL K H a (ns.map V.int) ∧ ns.length ≤ 63 ∧ 0 ≤ i ∧ i ≤ 1000 ∧
  ∀ (p : Addr) (o : HO), H p = none → PoolO (1000 * i) o → Q (.ref p) (upd H p o)

/-! lists of ints -/
theorem atI_int {ms : List Int} {i : Int} (h0 : 0 ≤ i) (h1 : i < ms.length) : ∃ m, m ∈ ms ∧ atI (ms.map V.int) i = some (.int m) ∧ ms[i.toNat]? = some m := by
  obtain ⟨j, rfl⟩ := Int.eq_ofNat_of_zero_le h0
  have hj : j < ms.length := by omega
  refine ⟨ms[j], List.getElem_mem hj, atI_nat ?_, by rw [Int.toNat_natCast, List.getElem?_eq_getElem hj]⟩
  rw [List.getElem?_map, List.getElem?_eq_getElem hj]; rfl
theorem atI_intV {ms : List Int} {i : Int} (h0 : 0 ≤ i) (h1 : i < ms.length) : atI (ms.map V.int) i = some (.int (ms.getD i.toNat 0)) := by
  obtain ⟨m, _, e, g⟩ := atI_int h0 h1
  rw [e, List.getD_eq_getElem?_getD, g]; rfl
theorem dp_ints {K : PySem.W.Frag} {H : Hp} : ∀ ns : List Int, DpAll K H (ns.map V.int) (ns.map PyData.int)
  | [] => .nil
  | n :: r => .cons (.int n) (dp_ints r)
theorem dp_lst {K : PySem.W.Frag} {H : Hp} {a : Addr} {ns : List Int} (h : SqL K H a (ns.map V.int)) : Dp K H (.ref a) (.list (ns.map PyData.int)) := .lst h (dp_ints ns)
section
variable {X : Cx}
/-- == and != of two lists of ints -/
def rEqI (K : PySem.W.Frag) : R2 := fun x y H Q => ∃ (a b : Addr) (ns ms : List Int), x = .ref a ∧ y = .ref b ∧ SqL K H a (ns.map V.int) ∧ SqL K H b (ms.map V.int) ∧ Q (.bl (decide (ns = ms))) H
def rNeI (K : PySem.W.Frag) : R2 := fun x y H Q => ∃ (a b : Addr) (ns ms : List Int), x = .ref a ∧ y = .ref b ∧ SqL K H a (ns.map V.int) ∧ SqL K H b (ms.map V.int) ∧ Q (.bl (!decide (ns = ms))) H
theorem op_eqI (hu : X.A.units + 64 < cLine) : OpR X (compareOp .Eq) (rEqI X.K) := by
  intro pins s σ H x y v u Q I rx ry h
  obtain ⟨a, b, ns, ms, rfl, rfl, ha, hb, q⟩ := h
  cases rx; cases ry
  obtain ⟨us, rv, hl, _⟩ := I.list ha
  obtain ⟨ws, rw', hl', _⟩ := I.list hb
  exact PySem.W.eq_intsK hl.isList rv.ints hl'.isList rw'.ints hu ⟨.bl (decide (ns = ms)), H, I, rfl, q⟩
theorem op_neI (hu : X.A.units + 64 < cLine) : OpR X (compareOp .NotEq) (rNeI X.K) := by
  intro pins s σ H x y v u Q I rx ry h
  obtain ⟨a, b, ns, ms, rfl, rfl, ha, hb, q⟩ := h
  cases rx; cases ry
  obtain ⟨us, rv, hl, _⟩ := I.list ha
  obtain ⟨ws, rw', hl', _⟩ := I.list hb
  exact PySem.W.ne_intsK hl.isList rv.ints hl'.isList rw'.ints hu ⟨.bl (!decide (ns = ms)), H, I, rfl, q⟩
end
/-! a row laid over another one -/
def laidF (r : List Int) (n : Nat) (d : List Int) : List Int :=
  if d = [] then r else (r ++ List.replicate (n - r.length) 0).take n ++ d ++ (r ++ List.replicate (n - r.length) 0).drop (n + d.length)
theorem laidF_nil (r : List Int) (n : Nat) : laidF r n [] = r := if_pos rfl
theorem laidF_cons {r : List Int} {n : Nat} {d : List Int} (h : d ≠ []) : laidF r n d = (r ++ List.replicate (n - r.length) 0).take n ++ d ++ (r ++ List.replicate (n - r.length) 0).drop (n + d.length) := if_neg h
theorem laidF_length {r : List Int} {n : Nat} {d : List Int} (h : d ≠ []) : (laidF r n d).length = max r.length (n + d.length) := by
  rw [laidF_cons h, List.length_append, List.length_append, List.length_take, List.length_drop, List.length_append, List.length_replicate]
  omega
theorem pad_get (r : List Int) (m i : Nat) : (r ++ List.replicate m 0)[i]?.getD 0 = r.getD i 0 := by
  rw [List.getD_eq_getElem?_getD]
  by_cases h : i < r.length
  · rw [List.getElem?_append_left h]
  · rw [List.getElem?_append_right (by omega), List.getElem?_eq_none (l := r) (by omega)]
    by_cases h2 : i - r.length < m
    · rw [List.getElem?_replicate, if_pos h2]; rfl
    · rw [List.getElem?_eq_none (by rw [List.length_replicate]; omega)]
theorem laidF_getD {r : List Int} {n : Nat} {d : List Int} (h : d ≠ []) (i : Nat) : (laidF r n d)[i]?.getD 0 = if n ≤ i ∧ i < n + d.length then d.getD (i - n) 0 else r.getD i 0 := by
  have lt : ((r ++ List.replicate (n - r.length) 0).take n).length = n := by
    rw [List.length_take, List.length_append, List.length_replicate]; omega
  rw [laidF_cons h, List.append_assoc]
  by_cases h1 : i < n
  · rw [if_neg (by omega), List.getElem?_append_left (by rw [lt]; exact h1), List.getElem?_take_of_lt h1]
    exact pad_get r _ i
  · rw [List.getElem?_append_right (by rw [lt]; omega), lt]
    by_cases h2 : i < n + d.length
    · rw [if_pos ⟨by omega, h2⟩, List.getElem?_append_left (by omega), List.getD_eq_getElem?_getD]
    · rw [if_neg (by omega), List.getElem?_append_right (by omega), List.getElem?_drop, ← pad_get r (n - r.length) i]
      congr 2
      omega
theorem laidF_get {r : List Int} {n : Nat} {d : List Int} {i : Nat} (h : d ≠ []) (hi : i < (laidF r n d).length) : (laidF r n d)[i]? = some (if n ≤ i ∧ i < n + d.length then d.getD (i - n) 0 else r.getD i 0) := by
  rw [← laidF_getD h i, List.getElem?_eq_getElem hi]; rfl
theorem ext_getD {xs ys : List Int} (hl : xs.length = ys.length) (h : ∀ i, i < xs.length → xs[i]?.getD 0 = ys[i]?.getD 0) : xs = ys := by
  apply List.ext_getElem hl
  intro i h1 h2
  have := h i h1
  rw [List.getElem?_eq_getElem h1, List.getElem?_eq_getElem h2] at this
  exact this
/-- laid over once more: the same -/
theorem laidF_twice (r : List Int) (n : Nat) (d : List Int) : laidF (laidF r n d) n d = laidF r n d := by
  by_cases h : d = []
  · subst h; rw [laidF_nil, laidF_nil]
  · have l1 := laidF_length (r := r) (n := n) h
    have l2 := laidF_length (r := laidF r n d) (n := n) h
    refine ext_getD (by omega) fun i hi => ?_
    rw [laidF_getD h, laidF_getD h]
    split
    · rfl
    · next c => rw [List.getD_eq_getElem?_getD, laidF_getD h, if_neg c]
theorem flat_rep (m : Nat) (v : V) : (List.replicate m [v]).flatten = List.replicate m v := by
  induction m with
  | zero => rfl
  | succ m ih => rw [List.replicate_succ, List.flatten_cons, ih, List.replicate_succ]; rfl
theorem all_true (n : Nat) : (List.replicate n true).all id = true := by
  rw [List.all_eq_true]
  intro x hx
  exact (List.mem_replicate.mp hx).2
def spBytes : Sp := fun vs H Q _ => ∃ (p : Addr) (n : Int) (o : HO), vs = [.ref p] ∧ H p = some o ∧ PoolO n o ∧ n ≤ 900000000 ∧
  ∀ (H' : Hp) (q : Addr) (bs : List Int) (o' : HO), H q = none → H' q = some (.lst (bs.map V.int)) → H' p = some o' → PoolO (n + 1000) o' → Kp [p] H H' → bs.length ≤ 400 → (∀ b ∈ bs, 0 ≤ b ∧ b ≤ 255) → Q (.ref q) H'
def spLaid (K : PySem.W.Frag) : Sp := fun vs H Q _ => ∃ (a b : Addr) (r : List Int) (n : Nat) (d : List Int), vs = [.ref a, .int n, .ref b] ∧ SqL K H a (r.map V.int) ∧ H b = some (.lst (d.map V.int)) ∧ r.length ≤ 10000 ∧ n ≤ 4400 ∧ d.length ≤ 4400 ∧
  ∀ (H' : Hp) (q : Addr), H q = none → H' q = some (.lst ((laidF r n d).map V.int)) → Same H H' → Q (.ref q) H'
def spDue (K : PySem.W.Frag) : Sp := fun vs H Q _ => ∃ (a b : Addr) (r : List Int) (n : Nat) (d : List Int), vs = [.ref a, .int n, .ref b] ∧ SqL K H a (r.map V.int) ∧ SqL K H b (d.map V.int) ∧ r.length ≤ 10000 ∧ n ≤ 4400 ∧ d.length ≤ 4400 ∧
  ∀ (H' : Hp) (q : Addr), H q = none → H' q = some (.lst ((laidF r n d).map V.int)) → Same H H' → Q (.ref q) H'
def spFits (K : PySem.W.Frag) : Sp := fun vs H Q _ => ∃ (a b : Addr) (xs ys : List Int), vs = [.ref a, .ref b] ∧ H a = some (.lst (xs.map V.int)) ∧ SqL K H b (ys.map V.int) ∧ xs.length ≤ 100000 ∧
  ∀ H' : Hp, Same H H' → Q (.bl (decide (xs = ys))) H'
def spLaw (K : PySem.W.Frag) : Sp := fun vs H Q _ => ∃ (a : Addr) (ns : List Int), vs = [.ref a] ∧ SqL K H a (ns.map V.int) ∧ ns.length ≤ 63 ∧ ∀ H' : Hp, Q (.bl true) H'
theorem step_same {H H1 H2 : Hp} {p : Addr} (s : Same H H1) (n : H p = none) (k : Kp [p] H1 H2) : Same H H2 := fun b o e =>
  k b o (fun z => ne_of_none e n (List.mem_singleton.mp z)) (s b o e)
theorem put_same {H H1 : Hp} {p : Addr} {o : HO} (s : Same H H1) (n : H p = none) : Same H (upd H1 p o) := fun b x e => by
  rw [upd_ne (ne_of_none e n)]; exact s b x e
theorem ixN_zero {n : Nat} (h : 0 < n) : ixN n 0 = some 0 := by
  unfold ixN
  rw [if_pos (by decide), if_pos (by omega)]; rfl
theorem laidF_le {r d : List Int} {n m : Nat} (h : r.length ≤ m ∧ n + d.length ≤ m) : (laidF r n d).length ≤ m := by
  by_cases e : d = []
  · subst e; rw [laidF_nil]; exact h.1
  · rw [laidF_length e]; omega
end Sip
namespace Sip
open PySem PySem.Spec PyProof.Rows L2 PySem.Builtin PySem.Builtin.Str PySem.Builtin.Int PySem.Builtin.Float

def figs : List Nat := [48, 49, 50, 51, 52, 53, 54, 55, 56, 57, 97, 98, 99, 100, 101, 102]
/-- two figures of sixteen -/
def two (n : Nat) : Str := ⟨#[figs.getD (n / 16) 0, figs.getD (n % 16) 0]⟩
def hexSpec : FormatSpec := { fill := 48, align := 61, width := some 2, type := some 120 }
theorem hex_parse : parseFormatSpec (Str.ofString "02x").cps.toList "int" 62 = .ok hexSpec := by kernel_rfl
theorem hex_ascii : (((Str.ofString "02x").cps.toList.drop 1).any (· ≥ 128) || ((Str.ofString "02x").cps.getD 0 0 ≥ 128 && !([60, 62, 61, 94] : List Nat).contains ((Str.ofString "02x").cps.getD 1 0))) = false := by decide +kernel
theorem hex_some : ((Str.ofString "02x").length == 0) = false := by decide +kernel
theorem hex_ex : ∃ F : Int → Str, (∀ (a : Int) (t u : Tok), Gives («int.__format__» ⟨[.int a t, .str (Str.ofString "02x") u], []⟩) (.str (F a))) ∧ ∀ b : Fin 256, F (b.val : Int) = two b.val := by
  apply Exists.intro
  apply And.intro
  · intro a t u prog w A R s hq
    unfold «int.__format__»
    simp only [selfAndOne, noKeywords, Int.intOfSelf, asInt?, asStr?, List.isEmpty_nil, if_true, pure_bind, bind_pure, bind_assoc, hex_some, hex_ascii, Bool.false_eq_true, if_false,
      show (Value.str (Str.ofString "02x") u == Value.none) = false from rfl]
    refine wpAny_bind (wpAny_typeNameOf (T := "str") (typeIs_str _ _ _) (by decide) fun _ => wpAny_bind (wpAny_typeNameOfCut_int ?_))
    simp only [hex_parse]
    refine PySem.W.KFB.if_so (by decide +kernel) ?_
    show wpAny _ _ (retStr _) _ _ _
    unfold retStr
    exact wpAny_bind (wpAny_mkStr (wpAny_pure hq.2) hq.1)
  · decide +kernel
end Sip
namespace Sip
open PySem PySem.Spec PyProof.Rows L2 TL

section
variable {X : Cx}
/-- f'{b:02x}' of a byte -/
def tHex (te : TE) : TE := fun σ H Q => te σ H fun x H1 => ∃ b : Nat, b < 256 ∧ x = .int b ∧ Q (.str (two b)) H1
theorem pe_hex {e : Expr} {te : TE} {k : Nat} {p1 p2 p3 p4 : Pos} (he : PE X e te) :
    PE X (.JoinedStr [.FormattedValue e (-1) (some (.JoinedStr [.Constant (.str (Str.ofString "02x")) k p1] p2)) p3] p4) (tHex te) := by
  have hs : PE X (.JoinedStr [.Constant (.str (Str.ofString "02x")) k p1] p2) (tC (.str (Str.ofString "02x"))) := pe_joined1 pe_str
  obtain ⟨F, g1, g2⟩ := hex_ex
  refine ⟨fun pins s σ H Q I h => wpAny_JoinedStr_one (wpAny_FormattedValue_spec (thn (he.run pins s σ H _ I h) fun v s1 ⟨x, H1, I1, r1, q1⟩ => ?_))⟩
  obtain ⟨b, hb, rfl, q⟩ := q1
  obtain ⟨t, rfl⟩ := r1
  refine thn (hs.run pins s1 σ H1 (fun y H2 => y = .str (Str.ofString "02x") ∧ H2 = H1) I1 ⟨rfl, rfl⟩) fun u s2 ⟨y, H2, I2, r2, ey, eH⟩ => ?_
  subst ey eH
  obtain ⟨t2, rfl⟩ := r2
  have e2 : F (b : Int) = two b := g2 ⟨b, hb⟩
  refine ⟨_, _, rfl, wpAny_formatField_spec (x := F (b : Int)) hex_some (fun s' => typeIs_int s' _ _) PySem.F.slot_int_format PySem.F.entry_int_format PySem.F.args_int_format_2 (fun u => g1 b t u) ?_ (by rw [sizeLine_eq]; decide +kernel) (by rw [e2, sizeLine_eq]; show (2 : Nat) ≤ _; decide)⟩
  rw [e2]
  exact ⟨.str (two b), H2, (I2.tok _).tok _, ⟨_, rfl⟩, q⟩
end

/-! the text of a row, as codes -/
def twoL (b : Int) : List Nat := [figs.getD (b.toNat / 16) 0, figs.getD (b.toNat % 16) 0]
def txL (bs : List Int) : List Nat := bs.flatMap twoL
def tx (bs : List Int) : Str := ⟨(txL bs).toArray⟩
def Bytes (bs : List Int) : Prop := ∀ b ∈ bs, 0 ≤ b ∧ b ≤ 255
theorem txL_length : ∀ bs : List Int, (txL bs).length = 2 * bs.length
  | [] => rfl
  | b :: r => by
    show (twoL b ++ txL r).length = 2 * (r.length + 1)
    rw [List.length_append, txL_length r]
    show 2 + 2 * r.length = _
    omega
theorem tx_length (bs : List Int) : (tx bs).length = 2 * bs.length := by
  show (txL bs).toArray.size = _
  rw [List.size_toArray, txL_length]
theorem txL_append (a b : List Int) : txL (a ++ b) = txL a ++ txL b := List.flatMap_append
theorem tx_append (a b : List Int) : tx (a ++ b) = tx a ++ tx b := ext_toList (by
  show (txL (a ++ b)).toArray.toList = ((txL a).toArray ++ (txL b).toArray).toList
  rw [Array.toList_append, txL_append])
/-- a figure's worth -/
def wor (c : Nat) : Nat := figs.idxOf c
theorem wor_figs : ∀ j : Fin 16, wor (figs.getD j.val 0) = j.val := by decide
theorem twoL_back {b : Int} (h : 0 ≤ b ∧ b ≤ 255) : ∃ i j : Nat, i < 16 ∧ j < 16 ∧ twoL b = [figs.getD i 0, figs.getD j 0] ∧ b = 16 * (i : Int) + j :=
  ⟨b.toNat / 16, b.toNat % 16, by omega, by omega, rfl, by omega⟩
theorem figs_inj {i j : Nat} (hi : i < 16) (hj : j < 16) (e : figs.getD i 0 = figs.getD j 0) : i = j := by
  have a : wor (figs.getD i 0) = i := wor_figs ⟨i, hi⟩
  have b : wor (figs.getD j 0) = j := wor_figs ⟨j, hj⟩
  exact a.symm.trans ((congrArg wor e).trans b)
theorem txL_inj : ∀ {a b : List Int}, Bytes a → Bytes b → txL a = txL b → a = b
  | [], [], _, _, _ => rfl
  | [], y :: r, _, _, e => by cases e
  | x :: r, [], _, _, e => by cases e
  | x :: r, y :: q, ha, hb, e => by
    obtain ⟨i, j, hi, hj, e1, e2⟩ := twoL_back (ha x (List.mem_cons_self ..))
    obtain ⟨m, n, hm, hn, e3, e4⟩ := twoL_back (hb y (List.mem_cons_self ..))
    have e5 : twoL x ++ txL r = twoL y ++ txL q := e
    rw [e1, e3] at e5
    have e6 := List.cons.inj e5
    have e7 := List.cons.inj e6.2
    have k1 := figs_inj hi hm e6.1
    have k2 := figs_inj hj hn e7.1
    have k3 := txL_inj (fun z hz => ha z (List.mem_cons_of_mem _ hz)) (fun z hz => hb z (List.mem_cons_of_mem _ hz)) e7.2
    rw [e2, e4, k1, k2, k3]
theorem tx_inj {a b : List Int} (ha : Bytes a) (hb : Bytes b) (e : tx a = tx b) : a = b := txL_inj ha hb (by
  have := congrArg (fun s : Str => s.cps.toList) e
  exact this)
theorem tx_eq {a b : List Int} (ha : Bytes a) (hb : Bytes b) : decide (V.str (tx a) = V.str (tx b)) = decide (a = b) := by
  by_cases h : a = b
  · subst h; rw [decide_eq_true rfl, decide_eq_true rfl]
  · rw [decide_eq_false h, decide_eq_false]
    intro z
    exact h (tx_inj ha hb (V.str.inj z))
/-- joined from its parts -/
theorem join_two : ∀ bs : List Int, Str.join (Str.ofString "") (bs.map fun b => two b.toNat) = tx bs := fun bs => ext_toList (by
  show tl (Str.join (Str.ofString "") _) = txL bs
  rw [tl_join]
  have e0 : tl (Str.ofString "") = [] := by decide +kernel
  rw [e0, List.map_map]
  induction bs with
  | nil => rfl
  | cons b r ih =>
    cases r with
    | nil => show twoL b = twoL b ++ []; rw [List.append_nil]
    | cons c q =>
      show twoL b ++ ([] ++ joinL [] ((c :: q).map _)) = twoL b ++ txL (c :: q)
      rw [List.nil_append, ih])
/-- its signs by place -/
theorem txL_get : ∀ {bs : List Int} {i : Nat} {b : Int}, bs[i]? = some b → (txL bs)[2 * i]? = some (figs.getD (b.toNat / 16) 0) ∧ (txL bs)[2 * i + 1]? = some (figs.getD (b.toNat % 16) 0)
  | [], _, _, h => by simp at h
  | x :: r, 0, b, h => by
    have e : x = b := Option.some.inj h
    subst e
    exact ⟨rfl, rfl⟩
  | x :: r, i + 1, b, h => txL_get (bs := r) (i := i) (b := b) h
theorem tx_at {bs : List Int} {i : Nat} {b : Int} (h : bs[i]? = some b) : atI (tx bs).cps.toList ((2 * i : Nat) : Int) = some (figs.getD (b.toNat / 16) 0) ∧ atI (tx bs).cps.toList ((2 * i + 1 : Nat) : Int) = some (figs.getD (b.toNat % 16) 0) :=
  ⟨atI_nat (txL_get h).1, atI_nat (txL_get h).2⟩
def FIG : Str := Str.ofString "0123456789abcdef"
theorem fig_find : ∀ j : Fin 16, Txt.find FIG ⟨#[figs.getD j.val 0]⟩ = (j.val : Int) := by decide +kernel
theorem fig_at {j : Nat} (h : j < 16) : atI FIG.cps.toList (j : Int) = some (figs.getD j 0) := by
  have e : FIG.cps.toList = figs := by decide +kernel
  rw [e]
  refine atI_nat ?_
  rw [List.getD_eq_getElem?_getD, List.getElem?_eq_getElem (show j < figs.length from h)]; rfl
/-! slices of lists of ints -/
theorem cut_map (bs : List Int) (lo hi : Option Int) : ∃ cs : List Int, cutV (bs.map V.int) lo hi = cs.map V.int ∧ cs.length ≤ bs.length ∧ ∀ x ∈ cs, x ∈ bs := by
  refine ⟨(bs.drop (HT.sIx bs.length 0 lo)).take (HT.sIx bs.length bs.length hi - HT.sIx bs.length 0 lo), ?_, ?_, ?_⟩
  · unfold cutV
    rw [List.length_map, List.map_take, List.map_drop]
  · rw [List.length_take, List.length_drop]; omega
  · intro x hx
    exact List.mem_of_mem_drop (List.mem_of_mem_take hx)
theorem size_two (n : Nat) : Builtin.Range.rangeSize 0 ((2 * n : Nat) : Int) 2 = (n : Int) := by
  unfold Builtin.Range.rangeSize
  rw [if_pos (by decide)]
  split <;> omega
theorem range_two (n : Nat) (h : n ≤ 1000000) : RgC 0 ((2 * n : Nat) : Int) 2 n := by
  refine ⟨by decide, by decide, ?_, size_two n⟩
  have f : ∀ x : Int, 0 ≤ x → x ≤ 3000000 → Builtin.Range.rangeFitsLong x = true := fun x h0 h1 => by
    unfold Builtin.Range.rangeFitsLong
    rw [Bool.and_eq_true, decide_eq_true_eq, decide_eq_true_eq]
    omega
  unfold Builtin.Range.small
  rw [size_two, f 0 (by decide) (by decide), f ((2 * n : Nat) : Int) (by omega) (by omega), f 2 (by decide) (by decide), f (n : Int) (by omega) (by omega)]
  simp only [Bool.true_and, show (2 : Int) > 0 from by decide, if_true, Bool.or_eq_true, beq_iff_eq]
  exact .inr (f _ (by omega) (by omega))
end Sip
namespace Sip
open PySem PySem.Spec PyProof.Rows L2 TL
def spWorth : Sp := fun vs H Q _ => ∃ j : Nat, j < 16 ∧ vs = [.str ⟨#[figs.getD j 0]⟩] ∧ Q (.int j) H
def spRead : Sp := fun vs H Q _ => ∃ bs : List Int, vs = [.str (tx bs)] ∧ Bytes bs ∧ bs.length ≤ 8000 ∧ ∀ (H' : Hp) (p : Addr), H p = none → H' p = some (.lst (bs.map V.int)) → Same H H' → Q (.ref p) H'
def spTxt (K : PySem.W.Frag) : Sp := fun vs H Q _ => ∃ (a : Addr) (bs : List Int), vs = [.ref a] ∧ SqL K H a (bs.map V.int) ∧ Bytes bs ∧ bs.length ≤ 8000 ∧ ∀ H' : Hp, Same H H' → Q (.str (tx bs)) H'
theorem get_int {xs : List Int} {i : Nat} {x : V} (h : (xs.map V.int)[i]? = some x) : ∃ hi : i < xs.length, x = .int xs[i] := by
  have hi : i < xs.length := by
    have := (List.getElem?_eq_some_iff.mp h).1
    rwa [List.length_map] at this
  refine ⟨hi, ?_⟩
  rw [List.getElem?_map, List.getElem?_eq_getElem hi] at h
  exact (Option.some.inj h).symm
theorem sum_two : ∀ bs : List Int, ((bs.map fun b => two b.toNat).map (·.length)).sum = 2 * bs.length
  | [] => rfl
  | b :: r => by
    show 2 + ((r.map fun b => two b.toNat).map (·.length)).sum = 2 * (r.length + 1)
    rw [sum_two r]; omega
theorem fit_two (bs : List Int) (h : bs.length ≤ 8000) : ((bs.map fun b => two b.toNat).map (·.length)).sum + (bs.map fun b => two b.toNat).length * (Str.ofString "").length ≤ 16777216 := by
  rw [sum_two, show (Str.ofString "").length = 0 by decide +kernel]; omega
end Sip
namespace Sip
open PySem PySem.Spec PyProof.Rows L2 TL
def spAsked : Sp := fun vs H Q _ => ∃ (a : Addr) (bs : List Int), vs = [.ref a] ∧ H a = some (.lst (bs.map V.int)) ∧ Bytes bs ∧ bs.length ≤ 4000 ∧ ∀ H' : Hp, Same H H' → Q (.bl true) H'
end Sip
/-! a list comprehension whose element may raise: what is raised leaves the comprehension -/
namespace Sip
open PySem PySem.Spec PyProof.Rows L2

theorem note_same {e : Value} {a b : Env} (h : a.frame = b.frame) : noteFrame e a = noteFrame e b := by
  unfold noteFrame PySem.frameOf
  rw [h]

/-- a comprehension's end, either way -/
def endX (M : Model) (A : Around) (E : Value → Shared → Prop) (Q : Value → Shared → Prop) (acc : Value) (ce : Env) (r : Result) (s' : Shared) : Prop :=
  ∃ m, s'.heap.Ns ce.locals m ∧ ∀ h', Heap.SameBut ce.locals s'.heap h' → match r with
    | .ok _ => Q acc { s' with heap := h' }
    | .error x => wpAny M A (passOn "comprehension.variables-let-go" x ce : Sem Value) (fun _ _ => False) E { s' with heap := h' }

theorem comp_run {M : Model} {A : Around} {E : Value → Shared → Prop} {s : Shared} {env : Env} {e : Expr} {scope : Scope} {pos : Pos} {na fi : Sem Value} {g : Comprehension} {gs : List Comprehension} {cl : List (Str × Addr)} {Q : Value → Shared → Prop}
    (hg : clausesOf e = g :: gs) (hs : ∀ x, foldedSetIterable g.iter env x = pure x) (hcl : closureFor scope env = pure cl) (hk : scope.kind = .function)
    (hn : ∀ x ∈ scope.names, x.2 = .local → scope.names.lookup x.1 = some .local)
    (h : wpAny M A fi (fun x s1 => wpAny M A (pyIter x) (fun it s2 => wpAny M A na (fun acc s3 => wpAny M A (newFunctionEnv scope env.globals cl [] env.qual none .none (some env)) (fun ce s4 =>
      codeAny M A (.compStart e 0 it acc { ce with scope := relabel scope env }) (endX M A E Q acc { ce with scope := relabel scope env }) s4) E s3) E s2) E s1) E s) :
    wpAny M A (comprehension e scope env pos na false fi none) Q E s := by
  unfold comprehension
  rw [hcl, hg]
  refine wpAny_bind (wpAny_mono h (fun x s1 h1 => ?_) fun _ _ z => z)
  refine wpAny_bind (wpAny_standAt (wpAny_bind (wpAny_of_eq (hs x) ?_)))
  refine wpAny_bind (wpAny_holding (wpAny_mono h1 (fun it s2 h2 => ?_) fun _ _ z => z))
  refine wpAny_standIf (wpAny_bind (wpAny_mono h2 (fun acc s3 h3 => ?_) fun _ _ z => z))
  refine wpAny_bind (wpAny_pure (wpAny_bind (wpAny_mono h3 (fun ce s4 h4 => ?_) fun _ _ z => z)))
  dsimp only
  have vs : ∀ x ∈ (scope.names.filter fun x => (x.2 == .local || x.2 == .cell) && x.1 != (".0" : Str)).reverse, x.2 = .local → Env.kindOf { ce with scope := relabel scope env } x.1 = some .local :=
    fun x hx hl => lookup_relabel_local (hn x (List.mem_filter.mp (List.mem_reverse.mp hx)).1 hl)
  refine wpAny_holding (wpAny_bind (wpAny_attempt (wpAny_holding (wpAny_run (codeAny_mono h4 fun r s' hr => ?_)))))
  obtain ⟨m, nm, hr⟩ := hr
  cases r with
  | ok f => exact wpAny_bind (wpAny_holding (wpAny_comp_letGo (cenv := { ce with scope := relabel scope env }) hk _ s' m vs nm fun h' _ _ sb => wpAny_pure (hr h' sb)))
  | error x => exact wpAny_bind (wpAny_holding (wpAny_comp_letGo (cenv := { ce with scope := relabel scope env }) hk _ s' m vs nm fun h' _ _ sb => wpAny_mono (hr h' sb) (fun _ _ f => f.elim) fun _ _ z => z))

theorem frames_to {h h' B B' : Heap} : ∀ {l : List Env}, h.FunFrames B l → (∀ b ∈ frs l, ∀ o, h.get? b = some o → h'.get? b = some o) → (∀ b ∈ frs l, B'.get? b = none) → h'.FunFrames B' l
  | [], _, _, _ => trivial
  | v :: l, f, k, n => by
    obtain ⟨f1, ⟨L, o, f2, f3, f4, f5⟩, f6⟩ := f
    have up : ∀ b ∈ frs l, b ∈ frs (v :: l) := fun b hb => by
      obtain ⟨x, hx, q⟩ := List.mem_filterMap.mp hb
      exact List.mem_filterMap.mpr ⟨x, List.mem_cons_of_mem _ hx, q⟩
    have hL : L ∈ frs (v :: l) := List.mem_filterMap.mpr ⟨v, List.mem_cons_self, f2⟩
    exact ⟨f1, ⟨L, o, f2, n L hL, k L hL o f4, f5⟩, frames_to f6 (fun b hb => k b (up b hb)) fun b hb => n b (up b hb)⟩

section
variable {X : Cx} {pins : List (Addr × Obj)} {σ : L2.St} {H3 : Hp} {s3 : Shared}
set_option maxHeartbeats 1000000 in
theorem comp_out {scope : Scope} {ce : Env} {fp : List Addr} {W : WX} {E : XK} {pb : List (Addr × Obj)} {σb : L2.St} {Hb : Hp} {sb s' : Shared} {u acc : Value} {Q : Value → Shared → Prop}
    (I3 : Inv X pins σ H3 s3) (hst : X.stack = X.env :: X.outer) (hfr : X.env.frame = some X.env.locals) (tk : Takes X W) (hfp : ∀ b ∈ fp, FpOk X pins H3 b)
    (cf : ce.frame = X.env.frame) (cL : ce.locals = s3.heap.objs.size) (Ib : Inv (X.blk s3 H3 scope ce fp) pb σb Hb sb) (hE : ∀ cls d H', E cls d H' → W cls d σ H')
    (c : CX X.prog X.w X.stack Hb sb E u s') :
    notedBy (model X.prog X.w) X.A ce (fun e s'' => endX (model X.prog X.w) X.A X.xe Q acc ce (.error e) s'') u s' := by
  obtain ⟨a, B, H', cls, d, rfl, fl, hok, ub, na, os, ag, hw⟩ := c
  have hA : X.A.frames = some (X.env :: X.outer) := by rw [I3.ok.frames, hst]
  have Bu : Un (frs X.stack) fp H3 Hb s3.heap sb.heap := Ib.base
  have HbC : Hb ce.locals = none := Ib.free
  obtain ⟨m, ⟨oC, es, ep, eC, dC, rC⟩, _⟩ := Ib.loc
  have eC : sb.heap.get? ce.locals = some oC := eC
  have nC : ce.locals ∉ frs X.stack := fun z => by
    rcases List.mem_cons.mp (I3.stkSub _ z) with z | z
    · have := I3.lt
      rw [← z, cL] at this
      exact absurd this (Nat.lt_irrefl _)
    · exact I3.nofs (Nat.le_of_eq cL.symm) z
  have BC : B.get? ce.locals = some oC := ub.keep _ _ eC HbC nC
  have H'C : H' ce.locals = none := ub.free _ _ eC HbC
  have ffl : ∀ b ∈ frs X.stack, ∃ o, s'.heap.get? b = some o ∧ ∀ vs, o.data ≠ .fields vs := fun b hb => (fl.2.2.1.mem hb).2
  show wpAny _ _ (noteFrame (.ref a) ce) _ _ s'
  rw [note_same cf]
  have fl2 := fl
  rw [hst] at fl2
  refine HandSPX.looks_onZ Zc.steady hA hfr fl2 fun h1 hh up1 => ?_
  obtain ⟨st1, en1, ff1, tr1⟩ := hh
  refine ⟨m, ⟨oC, es, ep, st1 _ _ BC, dC, rC⟩, fun h' sbut => ?_⟩
  -- the ground without the comprehension's own names
  obtain ⟨B', b1, b2⟩ := restrict B fun b => !decide (b = ce.locals)
  have Bto : ∀ b o, B.get? b = some o → b ≠ ce.locals → B'.get? b = some o := fun b o e n => by
    rw [b1 b (by simp [n])]; exact e
  have Bof : ∀ b o, B'.get? b = some o → B.get? b = some o ∧ b ≠ ce.locals := fun b o e => by
    by_cases n : b = ce.locals
    · rw [b2 b (by simp [n])] at e; cases e
    · rw [b1 b (by simp [n])] at e; exact ⟨e, n⟩
  have Bno : ∀ b, B.get? b = none → B'.get? b = none ∧ b ≠ ce.locals := fun b e => by
    have n : b ≠ ce.locals := fun z => by rw [z, BC] at e; cases e
    exact ⟨by rw [b1 b (by simp [n])]; exact e, n⟩
  have st2 : B'.StaysIn h' := fun b o e => by
    obtain ⟨e1, n⟩ := Bof b o e
    rw [sbut.2 b n]; exact st1 b o e1
  have ff2 : h'.FunFrames B' (X.env :: X.outer) := frames_to ff1 (fun b hb o e => by
    rw [sbut.2 b (Bno b (ff1.mem hb).1).2]; exact e) fun b hb => (Bno b (ff1.mem hb).1).1
  have tr2 : HandSPX.TracedZ h' B' a (Zc cls d) (rawInt X.env.locals) := by
    obtain ⟨oe, vs, T, oT, ts, t1, t2, t3, t4, t5, t6, t7, t8, t9⟩ := tr1
    exact ⟨oe, vs, T, oT, ts, by rw [sbut.2 a (Bno a en1).2]; exact t1, t2, t3, t4, (Bno T t5).1, t6, by rw [sbut.2 T (Bno T t5).2]; exact t7, t8, t9⟩
  show wpAny _ _ (passOn "comprehension.variables-let-go" (.ref a) ce : Sem Value) _ _ _
  obtain ⟨oe, vs, T, oT, ts, t1, t2, t3, t4, t5, t6, t7, t8, t9⟩ := id tr2
  unfold PySem.passOn
  refine wpAny_bind (wpAny_field t1 t3 t4 ?_)
  rw [if_neg (show ¬ ((Value.ref T == Value.none) = true) from by simp)]
  try refine wpAny_bind (wpAny_pure ?_)
  refine wpAny_bind (HandSPX.setFlight_anyZ (s := { s' with heap := h' }) st2 ff2 tr2 fun h2 k1 k2 k3 k4 => wpAny_throw (tk _ _ ?_))
  rw [cf, hfr] at k3
  -- the state without it
  obtain ⟨G, g1, g2⟩ := restrict h2 fun b => (B'.get? b).isSome || decide (b ∈ frs X.stack)
  have gB : ∀ b o, B'.get? b = some o → G.get? b = some o := fun b o e => by
    rw [g1 b (by simp [e])]; exact k1 b o e
  have gF : ∀ b ∈ frs X.stack, G.get? b = h2.get? b := fun b hb => g1 b (by simp [hb])
  have og : ∀ b o, G.get? b = some o → h2.get? b = some o ∧ ((B'.get? b).isSome = true ∨ b ∈ frs X.stack) := fun b o e => by
    cases q : ((B'.get? b).isSome || decide (b ∈ frs X.stack)) with
    | false => rw [g2 b q] at e; cases e
    | true => rw [g1 b q] at e; exact ⟨e, by simpa [Bool.or_eq_true] using q⟩
  -- a frame's object through all of it
  have fr : ∀ b ∈ frs X.stack, ∀ o, s'.heap.get? b = some o → ∃ sl, h2.get? b = some { o with slots := sl } := fun b hb o e => by
    obtain ⟨o2, e2, nf⟩ := ffl b hb
    rw [e] at e2; cases e2
    obtain ⟨sl1, e3⟩ := up1 b o e nf
    have nb : b ≠ ce.locals := fun z => nC (z ▸ hb)
    rw [← sbut.2 b nb] at e3
    obtain ⟨sl2, e4⟩ := k4 b _ e3 nf
    exact ⟨sl2, e4⟩
  have lt3 : ∀ b o, s3.heap.get? b = some o → b ≠ ce.locals := fun b o e z => by
    have := Heap.lt_size e
    rw [z, cL] at this
    exact absurd this (Nat.lt_irrefl _)
  have U : Un (frs X.stack) fp H3 H' s3.heap G := by
    refine ⟨fun b o e n hb hx => ?_, fun b o e n hb hx => ?_, fun b o e n hx => ?_, fun b o e hx => ?_, fun b xs e => ub.tups b xs (Bu.tups b xs e), fun b o v e => ub.frzs b o v (Bu.frzs b o v e), fun b ps e => ?_⟩
    · exact gB b o (Bto b o (ub.keep b o (Bu.keep b o e n hb hx) (Bu.free b o e n hx) hb) (lt3 b o e))
    · obtain ⟨sl, e1⟩ := Bu.slot b o e n hb hx
      obtain ⟨sl1, e2⟩ := ub.slot b _ e1 hb
      obtain ⟨sl2, e3⟩ := fr b hb _ e2
      exact ⟨sl2, by rw [gF b hb]; exact e3⟩
    · obtain ⟨o1, e1⟩ := Bu.there b o e hx
      exact ub.free b o1 e1 (Bu.free b o e n hx)
    · obtain ⟨o1, e1⟩ := Bu.there b o e hx
      by_cases hb : b ∈ frs X.stack
      · obtain ⟨sl1, e2⟩ := ub.slot b _ e1 hb
        obtain ⟨sl2, e3⟩ := fr b hb _ e2
        exact ⟨_, by rw [gF b hb]; exact e3⟩
      · obtain ⟨o2, e2⟩ := ub.there b o1 e1 hb
        exact ⟨o2, gB b o2 (Bto b o2 e2 (lt3 b o e))⟩
    · obtain ⟨m1, e1⟩ := Bu.tbls b ps e
      obtain ⟨m2, e2⟩ := ub.tbls b _ e1
      exact ⟨m1 ++ m2, by rw [e2]; simp⟩
  have hokG : HOk X.prog X.w H' G := fun b o q => (hok b o q).stay (fun c v hc r => gB c v (Bto c v r fun z => by
    rcases hc with hc | hc
    · rw [← hc, z, H'C] at q; cases q
    · rw [z, H'C] at hc; cases hc)) (fun _ r => r) fun _ _ r => r
  have IX : Inv X pins σ H' { s3 with heap := G, gens := s'.gens, drawn := s'.drawn, toks := s'.toks } :=
    I3.call (ch := fp) U hokG ag fun b hb => ⟨(hfp b hb).2.2.2.1, (hfp b hb).2.1, (hfp b hb).2.2.2.2.1, (hfp b hb).2.2.2.2.2⟩
  refine ⟨a, B', _, pins, σ, H', cls, d, rfl, IX, fun b o e hb => ?_, Heap.UpToSlots.of_keeps fun b o e => (og b o e).1, .inr (.inr ⟨k1, (Bno a en1).1, by rw [hst]; exact k2, k3⟩), na, os.trans Ib.os, ag, hE _ _ _ hw⟩
  obtain ⟨e1, w1⟩ := og b o e
  rcases w1 with w1 | w1
  · obtain ⟨o2, q2⟩ := Option.isSome_iff_exists.mp w1
    have := k1 b o2 q2
    rw [e1] at this; cases this
    exact q2
  · exact absurd w1 hb
end

/-- another wish about what is raised -/
abbrev withX (X : Cx) (xe : Value → Shared → Prop) : Cx := { X with xe := xe }
theorem swapX {X : Cx} {pins : List (Addr × Obj)} {σ : L2.St} {H : Hp} {s : Shared} (xe : Value → Shared → Prop) (I : Inv X pins σ H s) : Inv (withX X xe) pins σ H s :=
  ⟨⟨I.ok.mod, I.ok.kind, I.ok.glob, I.ok.blt, I.ok.above, I.ok.inj, I.ok.has, I.ok.cab, I.ok.hd, I.ok.frames, I.ok.stk, I.ok.exf, I.ok.bs, I.ok.bsz, I.ok.noex, I.ok.exfs, I.ok.funs, I.ok.frf⟩,
    I.os, I.bare, I.base, I.loc, I.cell, I.free, I.freeC, I.pin, I.hok, I.len⟩
theorem unswapX {X : Cx} {pins : List (Addr × Obj)} {σ : L2.St} {H : Hp} {s : Shared} {xe : Value → Shared → Prop} (I : Inv (withX X xe) pins σ H s) : Inv X pins σ H s :=
  ⟨⟨I.ok.mod, I.ok.kind, I.ok.glob, I.ok.blt, I.ok.above, I.ok.inj, I.ok.has, I.ok.cab, I.ok.hd, I.ok.frames, I.ok.stk, I.ok.exf, I.ok.bs, I.ok.bsz, I.ok.noex, I.ok.exfs, I.ok.funs, I.ok.frf⟩,
    I.os, I.bare, I.base, I.loc, I.cell, I.free, I.freeC, I.pin, I.hok, I.len⟩
section
variable {X : Cx}
/-- [elt for target in iter], where elt may raise: W tells what is then wanted -/
def tLcX (wi : TI) (g : TG) (te : XK → TE) (vs : List Nat) (W : WX) : TE := fun σ H Q => tLc wi g tYes (te fun cls d H' => W cls d σ H') vs σ H Q
set_option maxHeartbeats 2000000 in
theorem pe_lcX {elt tg iter : Expr} {scope : Scope} {own : List (Str × Nat)} {pos : Pos} {wi : TI} {g : TG} {te : XK → TE} {W : WX} (hc : X.calm = true) (hst : X.stack = X.env :: X.outer) (hfr : X.env.frame = some X.env.locals) (tk : Takes X W) (hN : X.N.Nodup)
    (hi : PI X tg iter wi) (ok : BlkOk X.N X.env.scope scope own)
    (hg : ∀ (s : Shared) (H : Hp) (C : Addr) (cl : List (Str × Addr)) (fp : List Addr), PG (X.blk s H scope (compEnvC scope cl C X.env) fp) tg g)
    (he : ∀ (s : Shared) (H : Hp) (C : Addr) (cl : List (Str × Addr)) (fp : List Addr) (xe : Value → Shared → Prop) (E : XK), Passes (CX X.prog X.w) (withX (X.blk s H scope (compEnvC scope cl C X.env) fp) xe) E →
      PE (withX (X.blk s H scope (compEnvC scope cl C X.env) fp) xe) elt (te E))
    (hs : ∀ x, foldedSetIterable iter X.env x = pure x := by intro _; rfl) : PE X (.ListComp elt [⟨tg, iter, [], 0⟩] scope pos) (tLcX wi g te (own.map (·.2)) W) := by
  refine ⟨fun pins s σ H Q I h => ?_⟩
  have h : tLc wi g tYes (te fun cls d H' => W cls d σ H') (own.map (·.2)) σ H Q := h
  generalize hE : (fun cls d H' => W cls d σ H' : XK) = E at h
  have hEW : ∀ cls d H', E cls d H' → W cls d σ H' := fun cls d H' q => by rw [← hE] at q; exact q
  rw [eval_ListComp]
  have cells : ∀ y ∈ scope.names, y.2 = .free → ∃ c, X.env.cells.lookup y.1 = some c := fun y hy e => (ok.free y hy e).elim (fun k => I.ok.has _ (.inl k)) fun k => I.ok.has _ (.inr k)
  refine comp_run rfl hs (closure_ok cells) ok.kind (fun y hy e => by rw [ok.uniq y hy, e]) (thn (hi.run pins s σ H _ I h) fun xv s1 hx => ?_)
  refine thn hx fun itv s2 h2 => ?_
  obtain ⟨it, fp, tn, J, H2, rfl, I2, T, st2, f2, q⟩ := h2
  refine wpAny_newObj_type (newEnv_comp ?_) (by show 0 ≤ sizeLine; decide)
  generalize eD : s2.heap.objs.size = D
  have nD : H2 D = none := I2.hok.fresh (Nat.le_of_eq eD)
  obtain ⟨Wi, ⟨m0, w0⟩, turn⟩ := q D nD
  generalize es3 : ({ s2 with heap := s2.heap.push { cls := .type "list", data := .seq ([] : List Value).toArray } } : Shared) = s3
  have p3 : s3.heap = s2.heap.push { cls := .type "list", data := .seq ([] : List Value).toArray } := by rw [← es3]
  have I3 : Inv X pins σ (upd H2 D (.lst [])) s3 := by
    subst es3
    refine I2.laid (t' := s2.toks) (fun b o e => Heap.get?_push_of_some _ e) (Nat.le_of_eq eD) ⟨Nat.zero_le _, [], 0, .nil, ?_⟩
    subst eD
    exact Heap.get?_push_size _ rfl
  have f3 : ∀ b ∈ fp, FpOk X pins (upd H2 D (.lst [])) b ∧ b < s3.heap.objs.size := fun b hb => by
    obtain ⟨o, e, _⟩ := T.obj _ _ st2 b hb
    have lt := Heap.lt_size e
    refine ⟨⟨?_, (f2 b hb).2⟩, by rw [p3, Heap.size_push]; exact Nat.lt_succ_of_lt lt⟩
    rw [upd_ne (by rw [← eD]; exact Nat.ne_of_lt lt)]
    exact (f2 b hb).1
  have st3 : tn 0 s3.heap := T.keep _ _ _ st2 fun b _ o e => by rw [p3]; exact Heap.get?_push_of_some _ e
  have I4 := block_start I3 ok hN f3
  generalize ecl : cellsFrom (s3.heap.objs.size + 1) scope.names (cloFrom X.env.cells scope.names []) = cl at I4 ⊢
  have pg := hg s3 (upd H2 D (.lst [])) s3.heap.objs.size cl fp
  have pe := he s3 (upd H2 D (.lst [])) s3.heap.objs.size cl fp
  have nf : ∀ b ∈ fp, (upd H2 D (.lst [])) b = none := fun b hb => (f3 b hb).1.1
  show codeAny _ _ (.compStart (.ListComp elt [⟨tg, iter, [], 0⟩] scope pos) 0 (.ref it) (.ref D) (compEnvC scope cl s3.heap.objs.size X.env)) (endX (model X.prog X.w) X.A X.xe (EP X pins σ Q) (.ref D) (compEnvC scope cl s3.heap.objs.size X.env)) { s3 with heap := pushCells (s3.heap.push { cls := .type "dict", data := .dict #[] }) scope.names }
  generalize ece : compEnvC scope cl s3.heap.objs.size X.env = ce at I4 pg pe ⊢
  have cL : ce.locals = s3.heap.objs.size := by subst ece; rfl
  have cF : ce.frame = X.env.frame := by subst ece; rfl
  generalize eH3 : upd H2 D (.lst []) = H3 at I3 I4 pg pe w0 nf f3
  generalize es4 : ({ s3 with heap := pushCells (s3.heap.push { cls := .type "dict", data := .dict #[] }) scope.names } : Shared) = s4 at I4 ⊢
  have st4 : tn 0 s4.heap := T.keep _ _ _ st3 fun b _ o e => by rw [← es4]; exact pushCells_keeps _ _ _ _ (Heap.get?_push_of_some _ e)
  generalize eY : X.blk s3 H3 scope ce fp = Y at I4 pg pe
  have Yi : ∀ {σ' : L2.St} {H' : Hp} {s' : Shared}, Inv Y [] σ' H' s' → (∀ b ∈ fp, H' b = none) → ∀ b ∈ fp, FpOk Y [] H' b := fun {σ' H' s'} I' hn b hb => by
    subst eY
    exact ⟨hn b hb, (I'.ok.exf b hb).1, I'.ok.exfs b hb, .inl hb, fun x c e => (I'.ok.exf b hb).2 x c e, fun p hp => absurd (show p ∈ ([] : List (Addr × Obj)) ++ [] from hp) (by simp)⟩
  -- what is raised in the block
  have out : ∀ {pb : List (Addr × Obj)} {σb : L2.St} {Hb : Hp} {sb s' : Shared} {u : Value}, Inv Y pb σb Hb sb → CX X.prog X.w X.stack Hb sb E u s' →
      notedBy (model X.prog X.w) X.A ce (fun e s'' => endX (model X.prog X.w) X.A X.xe (EP X pins σ Q) (.ref D) ce (.error e) s'') u s' := fun {pb σb Hb sb s' u} Ib c => by
    subst eY
    exact comp_out I3 hst hfr tk (fun b hb => (f3 b hb).1) cF cL Ib hEW c
  have Yp : Y.prog = X.prog ∧ Y.w = X.w ∧ Y.K = X.K ∧ Y.A = X.A ∧ Y.env = ce ∧ Y.stack = X.stack ∧ Y.xe = (fun _ _ => False) := by subst eY; exact ⟨rfl, rfl, rfl, rfl, rfl, rfl, rfl⟩
  have back : ∀ {H5 : Hp} {s6 : Shared}, Inv Y [] (wipe σ (own.map (·.2))) H5 s6 → Inv X pins σ H5 s6 ∧ H5 s3.heap.objs.size = none ∧ ∃ m, s6.heap.Ns ce.locals m := fun {H5 s6} I6 => by
    subst eY
    refine ⟨I3.call' (ch := fp) I6.os I6.base I6.hok I6.bare fun b hb => ?_, ?_, ?_⟩
    · obtain ⟨⟨_, z1, _, z3, z4, z5⟩, _⟩ := f3 b hb
      exact ⟨z3, z1, z4, z5⟩
    · have z : H5 ce.locals = none := I6.free
      rw [cL] at z; exact z
    · obtain ⟨m, hn, _⟩ := I6.loc
      exact ⟨m, hn⟩
  subst eY
  have loop : codeAny (model X.prog X.w) X.A (.compLoop (.ListComp elt [⟨tg, iter, [], 0⟩] scope pos) 0 (.ref it) (.ref D) ce) (endX (model X.prog X.w) X.A X.xe (EP X pins σ Q) (.ref D) ce) s4 := by
    refine compLoop_any (fun n s' => ∃ i H', Inv (X.blk s3 H3 scope ce fp) [] (wipe σ (own.map (·.2))) H' s' ∧ tn i s'.heap ∧ (∀ b ∈ fp, H' b = none) ∧ Wi i n H') (fun n s5 hI => ?_) m0 ⟨0, H3, I4, st4, nf, w0⟩
    obtain ⟨i, H5, I5, st5, n5, w5⟩ := hI
    rcases turn i n H5 w5 with ⟨stop, qq⟩ | ⟨go, Nx, hNx, step⟩
    · refine thnF (T.done (X.blk s3 H3 scope ce fp) rfl rfl rfl hc i [] s5 _ H5 (fun _ _ => False) I5 (Yi I5 n5) st5 stop) fun r s6 ⟨hr, I6⟩ => ?_
      subst hr
      obtain ⟨I7, nC, m, hn⟩ := back I6
      refine ⟨m, hn, fun h' sb => ?_⟩
      obtain ⟨c0, c1, c2, c3, c4, c5⟩ := I3.fpOk (Nat.le_refl _) nC
      rw [cL] at sb
      exact ⟨.ref D, H5, I7.turned (t' := s6.toks) (fun b o hb e => (sb.2 b hb).trans e) c0 c1 c3 c4 c5, rfl, qq⟩
    · refine thnF (T.item (X.blk s3 H3 scope ce fp) rfl rfl rfl hc i [] s5 _ H5 (fun _ _ => False) I5 (Yi I5 n5) st5 go) fun r s6 ⟨u, hr, h6⟩ => ?_
      subst hr
      refine thnF h6 fun _ s7 ⟨x, H7, I7, r7, y7, st7, n7⟩ => ?_
      have I7p := I7.pinned (Yi I7 n7) (T.obj _ _ st7)
      refine thnF (pg.run _ s7 _ H7 x u _ I7p r7 (step x H7 y7)) fun _ s8 ⟨σ8, H8, I8, w8, q8⟩ => wpAny_tests_nil ?_
      have q9 : te E σ8 H8 fun y H4 => ∃ acc, H4 D = some (.lst acc) ∧ acc.length < sizeLine ∧ Nx (upd H4 D (.lst (acc ++ [y]))) := q8
      rw [if_pos rfl]
      have pe1 := pe (fun u s' => ∃ pb σb Hb sb, Inv (X.blk s3 H3 scope ce fp) pb σb Hb sb ∧ CX X.prog X.w X.stack Hb sb E u s') E (fun pb σb Hb sb e s' Ib c => ⟨pb, σb, Hb, sb, unswapX Ib, c⟩)
      refine wpAny_mono (pe1.run _ s8 σ8 H8 _ (swapX _ I8) q9) (fun z s10 hz => ?_) (fun e s' hx => ?_)
      · obtain ⟨yv, H10, I10, r10, acc, d10, z10, nx⟩ := hz
        refine app_ok (X := X.blk s3 H3 scope ce fp) (unswapX I10) d10 z10 r10 fun s11 I11 => ?_
        obtain ⟨m', hm, w'⟩ := hNx _ nx
        have pin : ∀ b ∈ fp, ∀ o, s7.heap.get? b = some o → s11.heap.get? b = some o ∧ (upd H10 D (.lst (acc ++ [yv]))) b = none := fun b hb o e => by
          have z := I11.pin (b, o) (List.mem_append_right _ (List.mem_append_right _ (mem_pinsAt hb e)))
          exact ⟨z.1, z.2.1⟩
        refine ⟨m', hm, i + 1, _, (I11.unpinned (pins := [])).weak (by rw [← w8, wipe_length]) (fun j v e => ?_), T.keep _ _ _ st7 fun b hb o e => (pin b hb o e).1, fun b hb => ?_, w'⟩
        · rw [← w8] at e
          exact (wipe_some e).1
        · obtain ⟨o, e, _⟩ := T.obj _ _ st7 b hb
          exact (pin b hb o e).2
      · obtain ⟨pb, σb, Hb, sb, Ib, c⟩ := hx
        exact out Ib c
  exact codeAny_compStart_list loop (T.self X.A 0 _ _ _ st4 loop)
end
end Sip
namespace Sip
open PySem PySem.Spec PyProof.Rows L2 TL

section
variable {X : Cx}
/-- X(), X an own error class without an __init__ of its own -/
theorem pmk_own0 {C : Addr} {bmB : List Value} {B newId initId : String} {x : Str} {p pos : Pos} (F : ExcBaseFacts B newId initId bmB) (q : PySem.W.excIn X.K C bmB newId = true) (gC : X.mg x = some (.ref C)) (kC : PySem.W.keepIn X.K (.ref C) = true)
    (r : Raises X (.ref C)) (hg : Gl X x) (hdb : (x == ("__debug__" : Str)) = false := by decide) : PMk X (.Call (.Name x p) [] [] pos) (fun _ H Q => Q (.ref C) none H) := by
  intro pins s σ H Q I h
  refine wpAny_Call_Name_kw (ld_glob I hg gC (PySem.W.callWith_K0 I.kIn kC ?_) hdb)
  obtain ⟨bm, N, nm, qn, bs, hdct, sn, sub, ab, col, dd, k0, k1, k2, k3, k5, mN, hC, hN, hni, T⟩ := exc_obj I.kIn q
  exact wpAny_call_exc_subT (rest := []) F T hC hN hni (fun h' e hm => mk_of I hm r h (I.hok.gone hm.new)) (Nat.zero_le _)
/-- isinstance(e, c), e the caught error, whose class is to be shown -/
def rIsX (K : PySem.W.Frag) (D : Addr) (cls : Value) (d : Option Addr) (a : Addr) : List V → Hp → VK → Prop := fun xs H Q => cls = .ref D ∧ d = none ∧ rIsE K D a xs H Q
theorem call_isX {a D : Addr} {oe : Obj} {cls : Value} {d : Option Addr} {pn : List (Addr × Obj)} (C : ExcC X.K D) (hz : Zc cls d oe) (hf : ∃ vs, oe.data = .fields vs) : CallR (X.suite a ((a, oe) :: pn)) (.builtin "isinstance") (rIsX X.K D cls d a) := by
  intro pins s σ H xs us Q I r h
  obtain ⟨rfl, rfl, h⟩ := h
  exact call_isE C hz hf pins s σ H xs us Q I r h
end
/-- what the text's error classes are: C the one that is raised, S the one above it -/
structure Errs (K : PySem.W.Frag) (mg : Str → Option Value) (C S : Addr) : Prop where
  gP : mg "NoRow" = some (.ref C)
  gS : mg "SipError" = some (.ref S)
  xP : PySem.W.excIn K C [.type "ValueError", .type "Exception", .type "BaseException", .type "object"] "ValueError.__new__" = true
  kP : PySem.W.keepIn K (.ref C) = true
  bP : PySem.W.subIn K (.ref C) (.type "BaseException") = some true
  tP : PySem.W.typeIn K (.ref C) = some (.type "type")
  te : PySem.W.exmOne K (.ref C) (.ref C) = some true
  i1 : PySem.W.kitOne K (.ref C) (.ref S) = some true
  i2 : PySem.W.kitOne K (.ref C) (.type "ValueError") = some true
  ec : ExcC K C

/-! texts of plain signs -/
def Asc (z : Str) : Prop := ∀ c ∈ z.cps.toList, c < 128
theorem asc_append {a b : Str} (ha : Asc a) (hb : Asc b) : Asc (a ++ b) := fun c hc => by
  have e : (a ++ b).cps.toList = a.cps.toList ++ b.cps.toList := tl_append a b
  rw [e] at hc
  exact (List.mem_append.mp hc).elim (ha c) (hb c)
theorem asc_cut {z : Str} (h : Asc z) (lo hi : Option Int) : Asc (cutS z lo hi) := fun c hc => by
  have e : (cutS z lo hi).cps.toList = (z.cps.toList.drop (HT.sIx z.length 0 lo)).take (HT.sIx z.length z.length hi - HT.sIx z.length 0 lo) := rfl
  rw [e] at hc
  exact h c (List.mem_of_mem_drop (List.mem_of_mem_take hc))
theorem up_small : ∀ c : Fin 128, up1 c.val < 128 := by decide +kernel
theorem asc_upper {z : Str} (h : Asc z) : Asc (Txt.upper z) ∧ (Txt.upper z).length = z.length := by
  rw [upper_ascii h]
  refine ⟨fun c hc => ?_, ?_⟩
  · have e : (z.cps.map up1).toList = z.cps.toList.map up1 := Array.toList_map ..
    have hc : c ∈ (z.cps.map up1).toList := hc
    rw [e] at hc
    obtain ⟨b, hb, rfl⟩ := List.mem_map.mp hc
    exact up_small ⟨b, h b hb⟩
  · show (z.cps.map up1).size = z.cps.size
    exact Array.size_map ..
theorem len_append (a b : Str) : (a ++ b).length = a.length + b.length := strLen_append ..
theorem asc_one {c : Nat} (h : c < 128) : Asc ⟨#[c]⟩ := fun x hx => by
  have : x ∈ [c] := hx
  rw [List.mem_singleton.mp this]; exact h

/-! which texts are read, and to what -/
theorem find_fig : ∀ c : Fin 128, Txt.find FIG ⟨#[c.val]⟩ = if c.val ∈ figs then (wor c.val : Int) else -1 := by decide +kernel
theorem index_fig : ∀ c : Fin 128, c.val ∈ figs → Txt.index0 FIG ⟨#[c.val]⟩ = some (wor c.val) := by decide +kernel
def okT (cs : List Nat) : Prop := cs.length % 2 = 0 ∧ ∀ c ∈ cs, c ∈ figs
def rd (cs : List Nat) (i : Nat) : Int := 16 * (wor (cs.getD (2 * i) 0) : Int) + (wor (cs.getD (2 * i + 1) 0) : Int)
def rdL (cs : List Nat) : List Int := (List.range (cs.length / 2)).map (rd cs)
theorem rdL_length (cs : List Nat) : (rdL cs).length = cs.length / 2 := by
  unfold rdL; rw [List.length_map, List.length_range]
theorem rdL_get {cs : List Nat} {i : Nat} (h : i < cs.length / 2) : (rdL cs)[i]? = some (rd cs i) := by
  unfold rdL; rw [List.getElem?_map, List.getElem?_range h]; rfl
theorem get_at {cs : List Nat} {i : Nat} (h : i < cs.length) : atI cs (i : Int) = some (cs.getD i 0) ∧ cs.getD i 0 ∈ cs := by
  have e : cs.getD i 0 = cs[i] := by rw [List.getD_eq_getElem?_getD, List.getElem?_eq_getElem h]; rfl
  rw [e]
  exact ⟨atI_nat (List.getElem?_eq_getElem h), List.getElem_mem h⟩
theorem len_codes (z : Str) : z.length = z.cps.toList.length := by
  show z.cps.size = _
  exact (Array.length_toList ..).symm
def spWorthX (C : Addr) : Sp := fun vs H Q E => ∃ c : Nat, c < 128 ∧ vs = [.str ⟨#[c]⟩] ∧ (c ∈ figs → Q (.int (wor c : Nat)) H) ∧ (c ∉ figs → E (.ref C) none H)
def spReadX (C : Addr) : Sp := fun vs H Q E => ∃ z : Str, vs = [.str z] ∧ Asc z ∧ z.length ≤ 1000 ∧
  (okT z.cps.toList → ∀ (H' : Hp) (p : Addr), H p = none → H' p = some (.lst ((rdL z.cps.toList).map V.int)) → Same H H' → Q (.ref p) H') ∧ (¬ okT z.cps.toList → ∀ H' : Hp, Same H H' → E (.ref C) none H')
def spDueT : Sp := fun vs H Q _ => ∃ z : Str, vs = [.str z] ∧ Asc z ∧ z.length ≤ 1000 ∧
  (okT z.cps.toList → ∀ (H' : Hp) (p : Addr), H p = none → H' p = some (.lst ((rdL z.cps.toList).map V.int)) → Same H H' → Q (.ref p) H') ∧ (¬ okT z.cps.toList → ∀ H' : Hp, Same H H' → Q .non H')
/-- a text drawn from a pool -/
def spDraw : Sp := fun vs H Q _ => ∃ (p : Addr) (n : Int) (o : HO), vs = [.ref p] ∧ H p = some o ∧ PoolO n o ∧ n ≤ 900000000 ∧
  ∀ (H' : Hp) (z : Str) (o' : HO), H' p = some o' → PoolO (n + 100) o' → Kp [p] H H' → Asc z → z.length ≤ 60 → Q (.str z) H'
def spSign : Sp := fun vs H Q _ => ∃ (p : Addr) (n : Int) (o : HO), vs = [.ref p] ∧ H p = some o ∧ PoolO n o ∧ n ≤ 999999000 ∧
  ∀ (c : Nat) (o' : HO), c < 128 → PoolO (n + 1) o' → Q (.str ⟨#[c]⟩) (upd H p o')
def spSpoilt : Sp := fun vs H Q _ => ∃ (p : Addr) (n : Int) (o : HO) (z : Str), vs = [.ref p, .str z] ∧ H p = some o ∧ PoolO n o ∧ n ≤ 999990000 ∧ Asc z ∧ z.length ≤ 100 ∧
  ∀ (y : Str) (o' : HO), Asc y → y.length ≤ z.length + 1 → PoolO (n + 3) o' → Q (.str y) (upd H p o')
def spAskedT : Sp := fun vs H Q _ => ∃ z : Str, vs = [.str z] ∧ Asc z ∧ z.length ≤ 1000 ∧ ∀ H' : Hp, Same H H' → Q (.bl true) H'
def SIGNS : Str := Str.ofString " !\"#$&'()*+,-./0123456789:;<=>?@ABCDEFGHIJKLMNOPQRSTUVWXYZ[\\]^_`abcdefghijklmnopqrstuvwxyz{|}~"
theorem signs_asc : SIGNS.cps.toList.length = 94 ∧ ∀ c ∈ SIGNS.cps.toList, c < 128 := by decide +kernel
def GIF : Str := Str.ofString "fedcba9876543210"
theorem gif_asc : GIF.cps.toList.length = 16 ∧ ∀ c ∈ GIF.cps.toList, c < 128 := by decide +kernel
theorem fig_asc : FIG.cps.toList.length = 16 ∧ ∀ c ∈ FIG.cps.toList, c < 128 := by decide +kernel
theorem str_at {z : Str} {n : Nat} (hz : z.cps.toList.length = n ∧ ∀ c ∈ z.cps.toList, c < 128) {r : Int} (r0 : 0 ≤ r) (r1 : r < n) : ∃ c, c < 128 ∧ atI z.cps.toList r = some c := by
  obtain ⟨j, rfl⟩ := Int.eq_ofNat_of_zero_le r0
  obtain ⟨e, m⟩ := get_at (cs := z.cps.toList) (i := j) (by rw [hz.1]; omega)
  exact ⟨_, hz.2 _ m, e⟩
end Sip
namespace Sip
open PySem PySem.Spec PyProof.Rows L2 TL
theorem cut_codes (z : Str) (lo hi : Option Int) : (cutS z lo hi).length = ((z.cps.toList.drop (HT.sIx z.length 0 lo)).take (HT.sIx z.length z.length hi - HT.sIx z.length 0 lo)).length := by
  rw [len_codes]; rfl
theorem cut_len1 (z : Str) {k : Nat} (h : k ≤ z.length) : (cutS z none (some (k : Int))).length = k := by
  have lc := len_codes z
  rw [cut_codes, HT.sIx_none, HT.sIx_nat, List.length_take, List.length_drop]; omega
theorem cut_len2 (z : Str) {k : Nat} (h : k ≤ z.length) : (cutS z (some (k : Int)) none).length = z.length - k := by
  have lc := len_codes z
  rw [cut_codes, HT.sIx_none, HT.sIx_nat, List.length_take, List.length_drop]; omega
theorem cut_len3 (z : Str) {k : Nat} (h : k ≤ z.length) : (cutS z (some ((k : Nat) + 1 : Int)) none).length ≤ z.length - k := by
  have lc := len_codes z
  rw [show ((k : Nat) + 1 : Int) = ((k + 1 : Nat) : Int) by omega, cut_codes, HT.sIx_none, HT.sIx_nat, List.length_take, List.length_drop]; omega
end Sip
namespace Sip
open PySem PySem.Spec PyProof.Rows L2 TL
theorem all_figs {cs : List Nat} : ((cs.map fun c => decide (c ∈ figs)).all id) = true ↔ ∀ c ∈ cs, c ∈ figs := by
  rw [List.all_eq_true]
  constructor
  · intro h c hc
    exact of_decide_eq_true (h _ (List.mem_map.mpr ⟨c, hc, rfl⟩))
  · intro h x hx
    obtain ⟨c, hc, rfl⟩ := List.mem_map.mp hx
    exact decide_eq_true (h c hc)
end Sip
namespace Sip
open PySem PySem.Spec PyProof.Rows L2 TL
theorem asc_nil : Asc (Str.ofString "") := fun c hc => by
  have e : (Str.ofString "").cps.toList = [] := by decide +kernel
  rw [e] at hc; cases hc
end Sip
namespace Sip
open PySem PySem.Spec PyProof.Rows L2 TL
theorem kit_own {K : PySem.W.Frag} {C S : Addr} (h1 : PySem.W.isClsIn K S = true) (h2 : PySem.W.typeIn K (.ref S) = some (.type "type")) (h3 : PySem.W.subIn K (.ref C) (.ref S) = some true) : PySem.W.kitOne K (.ref C) (.ref S) = some true := by
  have a : ((PySem.W.clsIn K S).isSome && PySem.W.typeIn K (.ref S) == some (.type "type")) = true := by
    have h1' : (PySem.W.clsIn K S).isSome = true := h1
    rw [h1', h2]; rfl
  unfold PySem.W.kitOne PySem.W.kitCls
  split
  · rfl
  · exact (if_pos a).trans h3
theorem kit_bltn {K : PySem.W.Frag} {C : Addr} {T : String} (h1 : PySem.W.kitMeta T = true) (h3 : PySem.W.subIn K (.ref C) (.type T) = some true) : PySem.W.kitOne K (.ref C) (.type T) = some true := by
  unfold PySem.W.kitOne PySem.W.kitCls
  split
  · rfl
  · exact (if_pos h1).trans h3
end Sip
namespace Sip
open PySem PySem.Spec PyProof.Rows L2 TL

/-- a def of the text, whatever its defaults -/
structure FunA (K : PySem.W.Frag) (x qual : Str) (st : Stmt) (f : Addr) (fd : FuncData) : Prop where
  ex : ∃ (oc : Value) (od : Option Addr) (dV kV doc pm : Value) (an : Option Addr) (cdv ct : Value) (osl : Array (Option Value)),
    fd = PySem.W.fnOf x qual (defArgs st) (defBody st) (defScope st) dV kV doc pm an cdv ct ∧ K.lookup f = some ⟨oc, od, .func fd, osl⟩ ∧ PySem.W.codeIn K cdv qual = true
  kp : PySem.W.keepIn K (.ref f) = true
section
variable {P : Program} {w : World} {K : PySem.W.Frag} {mg : Str → Option Value} {base : Heap} {x qual : Str} {st : Stmt} {f : Addr} {fd : FuncData} {N ps : List Str} {k : Nat} {sp : Sp}
theorem FunA.ok (F : FunA K x qual st f fd) (S : FnScope N ps (defScope st)) (len : ∀ vs H Q E, sp vs H Q E → vs.length = ps.length)
    (hb : ∀ (cdv : Value) (A : Around) (outer : List Env) (s : Shared) (H : Hp) (vs : List V) (Q : VK) (E : XK), Room k (A.deeper (envOfC qual (defScope st) s.heap.objs.size f cdv)) → sp vs H Q E →
      ∃ t, PSs (cxOf CX0 P w K mg base N qual (defScope st) f cdv A outer s H E).nox (defBody st) t ∧ t { nx := fun _ H' => Q .non H', rt := Q } (start N vs) H) : FnOk P w K mg base CX0 (k + 1) f fd ps sp := by
  obtain ⟨oc, od, dV, kV, doc, pm, an, cdv, ct, osl, rfl, lk, hcd⟩ := F.ex
  refine fn_of lk hcd S len fun A outer s H vs Q E hr hsp => ?_
  obtain ⟨t, h, q⟩ := hb cdv A outer s H vs Q E hr hsp
  exact ⟨t, h.nox, q⟩
theorem FunA.okX (F : FunA K x qual st f fd) (S : FnScope N ps (defScope st)) (len : ∀ vs H Q E, sp vs H Q E → vs.length = ps.length)
    (hb : ∀ (cdv : Value) (A : Around) (outer : List Env) (s : Shared) (H : Hp) (vs : List V) (Q : VK) (E : XK), Room k (A.deeper (envOfC qual (defScope st) s.heap.objs.size f cdv)) → sp vs H Q E →
      ∃ t, PSs (cxOf (L2.CX P w) P w K mg base N qual (defScope st) f cdv A outer s H E) (defBody st) t ∧ t { nx := fun _ H' => Q .non H', rt := Q } (start N vs) H) : FnOk P w K mg base (L2.CX P w) (k + 1) f fd ps sp := by
  obtain ⟨oc, od, dV, kV, doc, pm, an, cdv, ct, osl, rfl, lk, hcd⟩ := F.ex
  exact fn_of lk hcd S len fun A outer s H vs Q E hr hsp => hb cdv A outer s H vs Q E hr hsp
end
/-- o.m(e, .., k = v, ..) -/
def tMethN (C : Addr) (m : Str) (n j : Nat) (sp : Sp) (gV : List V → List V → List V) (E : XK) (ta : TE) (t tk : TA) : TE := fun σ H Q => ta σ H fun x H1 =>
  ∃ a dx fs, x = .ref a ∧ H1 a = some (.ins C dx fs) ∧ fs.lookup m = none ∧ t σ H1 fun vs H2 => tk σ H2 fun zs H3 => vs.length = n ∧ zs.length = j ∧ sp (gV (x :: vs) zs) H3 Q E
section
variable {X : Cx} {CX : CXT} {k n : Nat} {f C : Addr} {fd : FuncData} {ps ks : List Str} {sp : Sp} {E : XK} {m : Str} {apos pos : Pos} {o e : Expr} {es : List Expr} {kws : List Keyword} {ta : TE} {t tk : TA} {g : List Value → List Value → List Value} {gV : List V → List V → List V}
theorem pe_methN {pl : Sem Bool} (he : PE X o ta) (c : Cls X.K C) (hm : Meth X.K C m f) (F : FnOk X.prog X.w X.K X.mg X.base CX k f fd ps sp) (hr : Room k X.A) (hb : KBn X.K fd ps (n + 1) ks g gV) (hx : Passes CX X E) (ha : PA X (e :: es) t) (hkw : PK X kws tk)
    (hall : (backToKw pos (keywordEach kws X.env)).all (·.1.isSome) = true := by rfl) (hks : (backToKw pos (keywordEach kws X.env)).filterMap (·.1) = ks := by rfl) (hst : starEach (e :: es) X.env = (false, eval e X.env) :: starEach es X.env := by rfl)
    (hpl : ((backTo pos (starEach (e :: es) X.env)).any (·.1) || (backToKw pos (keywordEach kws X.env)).any (·.1.isNone)) = false := by rfl)
    (ht : eval (.Call (.Attribute o m apos) (e :: es) kws pos) X.env = (do
      let ov ← eval o X.env
      standAt apos.atName
      let (f, first) ← holding [ov] (getMethod ov m pl)
      callWith pos f first (backTo pos (starEach (e :: es) X.env)) (backToKw pos (keywordEach kws X.env))) := by rfl) :
    PE X (.Call (.Attribute o m apos) (e :: es) kws pos) (tMethN C m n ks.length sp gV E ta t tk) := by
  refine ⟨fun pins s σ H Q I h => ?_⟩
  refine PySem.W.methodCall_KW (pl := pl) (thn (he.run pins s σ H _ I h) fun u s1 ⟨x, H1, I1, rx, a, dx, fs, ex, ea, l, q⟩ => ?_) ht
  subst ex
  obtain rfl : u = Value.ref a := rx
  refine getmeth_ok I1 ea c hm l ?_
  refine PySem.W.callWith_KW (first := [.ref a]) (h₀ := X.base) I.ok.mod.kin hm.kp hall (thn (ha.run pos pins s1 σ H1 _ I1 q) fun us s2 ⟨vs, H2, I2, r, q2⟩ => ?_) hpl hst
  refine thn (hkw.run pos pins s2 σ H2 _ I2 q2) fun ws s3 ⟨zs, H3, I3, rz, l1, l2, q3⟩ => ⟨I3.kIn, ?_⟩
  rw [hks]
  exact run_fnN (us := .ref a :: us) (vs := .ref a :: vs) F hr hb hx I3 (.cons rfl r) rz (by rw [List.length_cons, l1]) l2 q3
end
/-- fields by name -/
abbrev Fs := List (Str × V)
example (h c d : V) : putF ("cursor" : Str) d ([("held", h), ("cursor", c)] : Fs) = ([("held", h), ("cursor", d)] : Fs) := by kernel_rfl
example (h c d : V) : putF ("cursor" : Str) d ([("held", h)] : Fs) = ([("held", h), ("cursor", d)] : Fs) := by kernel_rfl
end Sip
namespace Sip
open PySem PySem.Spec PyProof.Rows L2 TL
/-- a def of the top, a method of a class -/
structure Dg (K : PySem.W.Frag) (mg : Str → Option Value) (x : Str) (st : Stmt) (f : Addr) (fd : FuncData) : Prop where
  F : FunA K x x st f fd
  g : mg x = some (.ref f)
structure Mf (K : PySem.W.Frag) (C : Addr) (x qual : Str) (st : Stmt) (f : Addr) (fd : FuncData) : Prop where
  F : FunA K x qual st f fd
  m : Meth K C x f
theorem funA_mk {K : PySem.W.Frag} {x qual : Str} {st : Stmt} {f : Addr} {oc : Value} {od an : Option Addr} {osl : Array (Option Value)} {dV kV doc pm cdv ct : Value} (l : K.lookup f = some ⟨oc, od, .func (PySem.W.fnOf x qual (defArgs st) (defBody st) (defScope st) dV kV doc pm an cdv ct), osl⟩)
    (c : PySem.W.codeIn K cdv qual = true) (k : PySem.W.keepIn K (.ref f) = true) : FunA K x qual st f (PySem.W.fnOf x qual (defArgs st) (defBody st) (defScope st) dV kV doc pm an cdv ct) := ⟨⟨oc, od, dV, kV, doc, pm, an, cdv, ct, osl, rfl, l, c⟩, k⟩
end Sip
namespace Sip
open PySem PySem.Spec PyProof.Rows L2 TL

abbrev Piece := Nat × List Int
/-! all pieces laid one behind another -/
def allF (r : List Int) (ps : List Piece) : List Int := ps.foldl (fun acc p => laidF acc p.1 p.2) r
def mostF (m : Nat) (ps : List Piece) : Nat := ps.foldl (fun m p => if 0 < p.2.length then max m (p.1 + p.2.length) else m) m
def stepB (k : Nat) (b : Int) (p : Piece) : Int := if p.1 ≤ k ∧ k < p.1 + p.2.length then p.2.getD (k - p.1) 0 else b
def byteF (b : Int) (k : Nat) (ps : List Piece) : Int := ps.foldl (stepB k) b
theorem laidF_len (r : List Int) (p : Piece) : (laidF r p.1 p.2).length = if 0 < p.2.length then max r.length (p.1 + p.2.length) else r.length := by
  by_cases h : p.2 = []
  · rw [h, laidF_nil]; rfl
  · rw [laidF_length h, if_pos (List.length_pos_iff.mpr h)]
theorem laidF_byte (r : List Int) (p : Piece) (k : Nat) : (laidF r p.1 p.2)[k]?.getD 0 = stepB k (r[k]?.getD 0) p := by
  unfold stepB
  by_cases h : p.2 = []
  · rw [h, laidF_nil, if_neg (by simp)]
  · rw [laidF_getD h, List.getD_eq_getElem?_getD, List.getD_eq_getElem?_getD]
theorem allF_len : ∀ (ps : List Piece) (r : List Int), (allF r ps).length = mostF r.length ps
  | [], _ => rfl
  | p :: q, r => by
    show (allF (laidF r p.1 p.2) q).length = mostF (if 0 < p.2.length then max r.length (p.1 + p.2.length) else r.length) q
    rw [allF_len q, laidF_len]
theorem allF_byte : ∀ (ps : List Piece) (r : List Int) (k : Nat), (allF r ps)[k]?.getD 0 = byteF (r[k]?.getD 0) k ps
  | [], _, _ => rfl
  | p :: q, r, k => by
    show (allF (laidF r p.1 p.2) q)[k]?.getD 0 = byteF (stepB k (r[k]?.getD 0) p) k q
    rw [allF_byte q, laidF_byte]
theorem allF_append (r : List Int) (a b : List Piece) : allF r (a ++ b) = allF (allF r a) b := List.foldl_append
/-- a piece in two parts -/
theorem laidF_parts (r : List Int) (n c : Nat) (d : List Int) (h : c ≤ d.length) : laidF (laidF r n (d.take c)) (n + c) (d.drop c) = laidF r n d := by
  have l1 := laidF_len r (n, d.take c)
  have l2 := laidF_len (laidF r n (d.take c)) (n + c, d.drop c)
  have l3 := laidF_len r (n, d)
  simp only [List.length_take, List.length_drop] at l1 l2 l3
  refine ext_getD ?_ fun k hk => ?_
  · rw [l2, l3, l1]
    split <;> split <;> split <;> omega
  · rw [laidF_byte _ (n + c, d.drop c), laidF_byte r (n, d.take c), laidF_byte r (n, d)]
    unfold stepB
    simp only [List.length_take, List.length_drop, List.getD_eq_getElem?_getD, List.getElem?_drop]
    by_cases h1 : n + c ≤ k ∧ k < n + c + (d.length - c)
    · rw [if_pos h1, if_pos (by omega)]
      congr 2
      omega
    · rw [if_neg h1]
      by_cases h2 : n ≤ k ∧ k < n + min c d.length
      · rw [if_pos h2, if_pos (by omega), List.getElem?_take_of_lt (by omega)]
      · rw [if_neg h2, if_neg (by omega)]
theorem allF_parts (r : List Int) (a b : List Piece) (n c : Nat) (d : List Int) (h : c ≤ d.length) :
    allF r (a ++ [(n, d.take c), (n + c, d.drop c)] ++ b) = allF r (a ++ [(n, d)] ++ b) := by
  rw [allF_append, allF_append, allF_append, allF_append]
  show allF (laidF (laidF (allF r a) n (d.take c)) (n + c) (d.drop c)) b = allF (laidF (allF r a) n d) b
  rw [laidF_parts _ _ _ _ h]
def Small (p : Piece) : Prop := p.1 ≤ 340 ∧ p.2.length ≤ 400 ∧ Bytes p.2
theorem bytes_getD {bs : List Int} (h : Bytes bs) (k : Nat) : 0 ≤ bs[k]?.getD 0 ∧ bs[k]?.getD 0 ≤ 255 := by
  cases e : bs[k]? with
  | none => exact ⟨by decide, by decide⟩
  | some b =>
    obtain ⟨hk, rfl⟩ := List.getElem?_eq_some_iff.mp e
    exact h _ (List.getElem_mem hk)
theorem bytes_of {bs : List Int} (h : ∀ k, k < bs.length → 0 ≤ bs[k]?.getD 0 ∧ bs[k]?.getD 0 ≤ 255) : Bytes bs := fun b hb => by
  obtain ⟨k, hk, rfl⟩ := List.getElem_of_mem hb
  have := h k hk
  rw [List.getElem?_eq_getElem hk] at this
  exact this
theorem laid_bytes {r : List Int} {p : Piece} (hr : Bytes r) (hp : Bytes p.2) : Bytes (laidF r p.1 p.2) := bytes_of fun k _ => by
  rw [laidF_byte]
  unfold stepB
  split
  · rw [List.getD_eq_getElem?_getD]; exact bytes_getD hp _
  · exact bytes_getD hr k
theorem allF_good : ∀ (ps : List Piece) (r : List Int), Bytes r → r.length ≤ 740 → (∀ p ∈ ps, Small p) → Bytes (allF r ps) ∧ (allF r ps).length ≤ 740
  | [], r, hb, hl, _ => ⟨hb, hl⟩
  | p :: q, r, hb, hl, hp => by
    have h1 := hp p (List.mem_cons_self ..)
    refine allF_good q (laidF r p.1 p.2) (laid_bytes hb h1.2.2) ?_ (fun z hz => hp z (List.mem_cons_of_mem _ hz))
    exact laidF_le ⟨hl, by have := h1.1; have := h1.2.1; omega⟩

/-! pieces in the heap -/
def PieceAt (H : Hp) (v : V) (p : Piece) : Prop := ∃ T D : Addr, v = .ref T ∧ H T = some (.tup [.int (p.1 : Nat), .ref D]) ∧ H D = some (.lst (p.2.map V.int))
def Pieces (H : Hp) (vs : List V) (ps : List Piece) : Prop := vs.length = ps.length ∧ ∀ (i : Nat) (v : V) (p : Piece), vs[i]? = some v → ps[i]? = some p → PieceAt H v p
theorem PieceAt.mono {H H' : Hp} {v : V} {p : Piece} (s : Same H H') (h : PieceAt H v p) : PieceAt H' v p := by
  obtain ⟨T, D, e, h1, h2⟩ := h
  exact ⟨T, D, e, s _ _ h1, s _ _ h2⟩
theorem Pieces.mono {H H' : Hp} {vs : List V} {ps : List Piece} (s : Same H H') (h : Pieces H vs ps) : Pieces H' vs ps :=
  ⟨h.1, fun i v p a b => (h.2 i v p a b).mono s⟩
theorem Pieces.at {H : Hp} {vs : List V} {ps : List Piece} {i : Nat} {v : V} (h : Pieces H vs ps) (e : vs[i]? = some v) : ∃ hi : i < ps.length, PieceAt H v ps[i] := by
  have hi : i < ps.length := by
    have := (List.getElem?_eq_some_iff.mp e).1
    rw [h.1] at this; exact this
  exact ⟨hi, h.2 i v _ e (List.getElem?_eq_getElem hi)⟩
theorem Pieces.nil {H : Hp} : Pieces H [] [] := ⟨rfl, fun i v p a => by simp at a⟩
theorem Pieces.append {H : Hp} {vs us : List V} {ps qs : List Piece} (h : Pieces H vs ps) (k : Pieces H us qs) : Pieces H (vs ++ us) (ps ++ qs) := by
  refine ⟨by rw [List.length_append, List.length_append, h.1, k.1], fun i v p a b => ?_⟩
  by_cases hi : i < vs.length
  · rw [List.getElem?_append_left hi] at a
    rw [List.getElem?_append_left (by rw [← h.1]; exact hi)] at b
    exact h.2 i v p a b
  · rw [List.getElem?_append_right (by omega)] at a
    rw [List.getElem?_append_right (by rw [← h.1]; omega), ← h.1] at b
    exact k.2 _ v p a b
theorem Pieces.one {H : Hp} {v : V} {p : Piece} (h : PieceAt H v p) : Pieces H [v] [p] := ⟨rfl, fun i w q a b => by
  cases i with
  | zero =>
    have e1 : v = w := Option.some.inj a
    have e2 : p = q := Option.some.inj b
    rw [← e1, ← e2]; exact h
  | succ i => simp at a⟩
theorem Pieces.take {H : Hp} {vs : List V} {ps : List Piece} (h : Pieces H vs ps) (n : Nat) : Pieces H (vs.take n) (ps.take n) := by
  refine ⟨by rw [List.length_take, List.length_take, h.1], fun i v p a b => ?_⟩
  have hi : i < n := by
    have := (List.getElem?_eq_some_iff.mp a).1
    rw [List.length_take] at this; omega
  rw [List.getElem?_take_of_lt hi] at a b
  exact h.2 i v p a b
theorem Pieces.drop {H : Hp} {vs : List V} {ps : List Piece} (h : Pieces H vs ps) (n : Nat) : Pieces H (vs.drop n) (ps.drop n) := by
  refine ⟨by rw [List.length_drop, List.length_drop, h.1], fun i v p a b => ?_⟩
  rw [List.getElem?_drop] at a b
  exact h.2 _ v p a b
theorem cut_to (xs : List V) (n : Nat) (h : n ≤ xs.length) : cutV xs none (some (n : Int)) = xs.take n := by
  unfold cutV
  rw [HT.sIx_none, HT.sIx_nat, Nat.min_eq_left h]; rfl
theorem cut_from (xs : List V) (n : Nat) (h : n ≤ xs.length) : cutV xs (some (n : Int)) none = xs.drop n := by
  unfold cutV
  rw [HT.sIx_none, HT.sIx_nat, Nat.min_eq_left h]
  exact List.take_of_length_le (by rw [List.length_drop]; omega)
theorem split_at {α : Type} {ps : List α} {i : Nat} (hi : i < ps.length) : ps.take i ++ [ps[i]] ++ ps.drop (i + 1) = ps := by
  rw [List.append_assoc]
  show ps.take i ++ (ps[i] :: ps.drop (i + 1)) = ps
  rw [List.getElem_cons_drop, List.take_append_drop]
theorem foldl_next {α β : Type} (f : β → α → β) (b : β) (xs : List α) (i : Nat) (hi : i < xs.length) : (xs.take (i + 1)).foldl f b = f ((xs.take i).foldl f b) xs[i] := by
  rw [List.take_add_one, List.getElem?_eq_getElem hi, List.foldl_append]; rfl

def spBytesM (K : PySem.W.Frag) : Sp := fun vs H Q _ => ∃ (p m : Addr) (n : Int) (o : HO) (ms : List Int), vs = [.ref p, .ref m] ∧ H p = some o ∧ PoolO n o ∧ n ≤ 900000000 ∧ SqL K H m (ms.map V.int) ∧ p ≠ m ∧ ms ≠ [] ∧ ms.length ≤ 100 ∧ (∀ z ∈ ms, 0 ≤ z ∧ z ≤ 400) ∧
  ∀ (H' : Hp) (q : Addr) (bs : List Int) (o' : HO), H q = none → H' q = some (.lst (bs.map V.int)) → H' p = some o' → PoolO (n + 1000) o' → Kp [p] H H' → (∃ z ∈ ms, (bs.length : Int) = z) → Bytes bs → Q (.ref q) H'
def spDueP (K : PySem.W.Frag) : Sp := fun vs H Q _ => ∃ (a b : Addr) (r : List Int) (us : List V) (ps : List Piece), vs = [.ref a, .ref b] ∧ SqL K H a (r.map V.int) ∧ SqL K H b us ∧ Pieces H us ps ∧ r.length ≤ 740 ∧ Bytes r ∧ (∀ p ∈ ps, Small p) ∧ ps.length ≤ 100 ∧
  ∀ (H' : Hp) (q : Addr), H q = none → H' q = some (.lst ((allF r ps).map V.int)) → Same H H' → Q (.ref q) H'
/-! what stands apart from some places -/
def mask (qs : List Addr) (H : Hp) : Hp := fun b => if b ∈ qs then none else H b
theorem mask_le (qs : List Addr) (H : Hp) : Same (mask qs H) H := fun b o e => by
  unfold mask at e
  split at e
  · cases e
  · exact e
theorem mask_upd {qs : List Addr} {H : Hp} {q : Addr} {o : HO} (h : q ∈ qs) : mask qs (upd H q o) = mask qs H := by
  funext b
  unfold mask
  split
  · rfl
  · next n =>
    have : b ≠ q := fun z => n (by rw [z]; exact h)
    rw [upd_ne this]
theorem mask_kp {qs : List Addr} {H H' : Hp} (k : Kp qs H H') : Same (mask qs H) (mask qs H') := fun b o e => by
  unfold mask at e ⊢
  split at e
  · cases e
  · next n => rw [if_neg n]; exact k b o n e
theorem mask_at {qs : List Addr} {H : Hp} {b : Addr} (h : b ∉ qs) : mask qs H b = H b := if_neg h
theorem Kp.sub {ps qs : List Addr} {H H' : Hp} (k : Kp ps H H') (h : ∀ x ∈ ps, x ∈ qs ∨ H x = none) : Kp qs H H' := fun b o n e => by
  refine k b o (fun z => ?_) e
  rcases h b z with h | h
  · exact n h
  · rw [h] at e; cases e
def Tiny (p : Piece) : Prop := p.1 ≤ 299 ∧ p.2.length ≤ 40 ∧ Bytes p.2
theorem Tiny.small {p : Piece} (h : Tiny p) : Small p := ⟨by have := h.1; omega, by have := h.2.1; omega, h.2.2⟩
end Sip
namespace Sip
open PySem PySem.Spec PyProof.Rows L2 TL

/-! an object with all that is its own (F): what a call may change -/
def Step (F : Addr → Prop) (H : Hp) (F' : Addr → Prop) (H' : Hp) : Prop := (∀ b o, ¬ F b → H b = some o → H' b = some o) ∧ ∀ b, F' b → F b ∨ H b = none
theorem Step.keep {F F' : Addr → Prop} {H H' : Hp} {b : Addr} {o : HO} (s : Step F H F' H') (n : ¬ F b) (e : H b = some o) : H' b = some o ∧ ¬ F' b :=
  ⟨s.1 b o n e, fun z => (s.2 b z).elim n fun q => by rw [q] at e; cases e⟩
/-- own objects made since H0 alone -/
theorem Step.since {F F' : Addr → Prop} {H0 H H' : Hp} (s : Step F H F' H') (a : Same H0 H) (n : ∀ b, F b → H0 b = none) : Same H0 H' ∧ ∀ b, F' b → H0 b = none := by
  refine ⟨fun b o e => s.1 b o (fun z => by rw [n b z] at e; cases e) (a b o e), fun b z => ?_⟩
  rcases s.2 b z with q | q
  · exact n b q
  · exact a.free q
theorem Step.of {F : Addr → Prop} {H H' : Hp} (s : Same H H') : Step F H F H' := ⟨fun b o _ e => s b o e, fun b z => .inl z⟩
theorem Step.trans {F F' F2 : Addr → Prop} {H H' H2 : Hp} (a : Step F H F' H') (b : Step F' H' F2 H2) : Step F H F2 H2 := by
  refine ⟨fun x o n e => b.1 x o (a.keep n e).2 (a.keep n e).1, fun x z => ?_⟩
  rcases b.2 x z with q | q
  · exact a.2 x q
  · by_cases f : F x
    · exact .inl f
    · cases e : H x with
      | none => exact .inr rfl
      | some o => rw [a.1 x o f e] at q; cases q

/-- a plain file in the heap, however it keeps its row: heap, address, what is its own, row, cursor -/
abbrev PP := Hp → Addr → (Addr → Prop) → List Int → Nat → Prop
structure IsPlain (C : Addr) (PA : PP) : Prop where
  loc : ∀ {H H' : Hp} {p : Addr} {F : Addr → Prop} {r : List Int} {c : Nat}, PA H p F r c → (∀ b o, F b → H b = some o → H' b = some o) → PA H' p F r c
  own : ∀ {H : Hp} {p : Addr} {F : Addr → Prop} {r : List Int} {c : Nat}, PA H p F r c → ∀ b, F b → ∃ o, H b = some o
  ins : ∀ {H : Hp} {p : Addr} {F : Addr → Prop} {r : List Int} {c : Nat}, PA H p F r c → ∃ dx fs, H p = some (.ins C dx fs) ∧ ∀ m ∈ (["read", "read_some", "peek", "readline", "write", "seek", "tell", "size", "row", "cut"] : List Str), fs.lookup m = none
theorem IsPlain.same {C : Addr} {PA : PP} (I : IsPlain C PA) {H H' : Hp} {p : Addr} {F : Addr → Prop} {r : List Int} {c : Nat} (h : PA H p F r c) (s : Same H H') : PA H' p F r c := I.loc h fun b o _ e => s b o e
theorem IsPlain.kp {C : Addr} {PA : PP} (I : IsPlain C PA) {H H' : Hp} {qs : List Addr} {p : Addr} {F : Addr → Prop} {r : List Int} {c : Nat} (h : PA H p F r c) (k : Kp qs H H') (n : ∀ q ∈ qs, ¬ F q) : PA H' p F r c :=
  I.loc h fun b o f e => k b o (fun z => n b z f) e
theorem IsPlain.new {C : Addr} {PA : PP} (I : IsPlain C PA) {H : Hp} {q p : Addr} {F : Addr → Prop} {r : List Int} {c : Nat} (h : PA H p F r c) (n : H q = none) : ¬ F q := fun f => by
  obtain ⟨o, e⟩ := I.own h q f
  rw [n] at e; cases e

def spPInit (K : PySem.W.Frag) (C : Addr) (PA : PP) : Sp := fun vs H Q _ => ∃ (p a dx : Addr) (r : List Int) (c : Nat), vs = [.ref p, .ref a, .int c] ∧ H p = some (.ins C dx []) ∧ H dx = some (.own p) ∧ SqL K H a (r.map V.int) ∧ p ≠ a ∧ r.length ≤ 400 ∧ c ≤ 4000 ∧
  ∀ (H' : Hp) (F' : Addr → Prop), PA H' p F' r c → Step (fun b => b = p ∨ b = dx) H F' H' → Q .non H'
def spPTell (PA : PP) : Sp := fun vs H Q _ => ∃ (p : Addr) (F : Addr → Prop) (r : List Int) (c : Nat), vs = [.ref p] ∧ PA H p F r c ∧ Q (.int c) H
def spPSize (PA : PP) : Sp := fun vs H Q _ => ∃ (p : Addr) (F : Addr → Prop) (r : List Int) (c : Nat), vs = [.ref p] ∧ PA H p F r c ∧ Q (.int r.length) H
def spPRow (PA : PP) : Sp := fun vs H Q _ => ∃ (p : Addr) (F : Addr → Prop) (r : List Int) (c : Nat), vs = [.ref p] ∧ PA H p F r c ∧ ∀ (H' : Hp) (q : Addr), H q = none → H' q = some (.lst (r.map V.int)) → Same H H' → Q (.ref q) H'
def spPSeek (PA : PP) : Sp := fun vs H Q _ => ∃ (p : Addr) (F : Addr → Prop) (r : List Int) (c g : Nat) (pl : Int) (st : Str), vs = [.ref p, .int pl, .str st] ∧ PA H p F r c ∧
  ((st = Str.ofString "head" ∧ (g : Int) = pl) ∨ (st = Str.ofString "here" ∧ (g : Int) = c + pl) ∨ (st = Str.ofString "tail" ∧ (g : Int) = r.length + pl)) ∧ g ≤ 4000 ∧ ∀ (H' : Hp) (F' : Addr → Prop), PA H' p F' r g → Step F H F' H' → Q (.int g) H'
def spPCut (PA : PP) : Sp := fun vs H Q _ => ∃ (p : Addr) (F : Addr → Prop) (r : List Int) (c g : Nat) (v : V), vs = [.ref p, v] ∧ PA H p F r c ∧ ((v = .non ∧ g = c) ∨ v = .int g) ∧ g ≤ 4000 ∧ ∀ (H' : Hp) (F' : Addr → Prop), PA H' p F' (r.take g) c → Step F H F' H' → Q .non H'
def spPWrite (PA : PP) : Sp := fun vs H Q _ => ∃ (p b : Addr) (F : Addr → Prop) (r : List Int) (c : Nat) (d : List Int), vs = [.ref p, .ref b] ∧ PA H p F r c ∧ ¬ F b ∧ H b = some (.lst (d.map V.int)) ∧ Bytes d ∧ r.length ≤ 4000 ∧ c ≤ 4000 ∧ d.length ≤ 400 ∧ (laidF r c d).length ≤ 4000 ∧
  ∀ (H' : Hp) (F' : Addr → Prop), PA H' p F' (laidF r c d) (c + d.length) → Step F H F' H' → Q (.int d.length) H'
/-- a place drawn for a row of n bytes -/
def spGoal (K : PySem.W.Frag) : Sp := fun vs H Q _ => ∃ (p x : Addr) (n : Int) (o : HO) (r : List Int), vs = [.ref p, .ref x] ∧ H p = some o ∧ PoolO n o ∧ n ≤ 900000000 ∧ SqL K H x (r.map V.int) ∧ p ≠ x ∧ r.length ≤ 5000 ∧
  ∀ (H' : Hp) (g : Nat) (o' : HO), g ≤ max (r.length + 20) 4000 → H' p = some o' → PoolO (n + 4) o' → Kp [p] H H' → Q (.int g) H'
def spSought (K : PySem.W.Frag) (PA : PP) : Sp := fun vs H Q _ => ∃ (p x : Addr) (F : Addr → Prop) (r : List Int) (c g : Nat) (way : Int), vs = [.ref p, .int way, .int g, .ref x, .int c] ∧ 0 ≤ way ∧ way ≤ 3 ∧ PA H p F r c ∧ SqL K H x (r.map V.int) ∧ g ≤ 4000 ∧
  ∀ (H' : Hp) (F' : Addr → Prop), PA H' p F' r g → Step F H F' H' → Q (.int g) H'
def spCutL (PA : PP) : Sp := fun vs H Q _ => ∃ (p : Addr) (F : Addr → Prop) (r : List Int) (c g : Nat) (way : Int), vs = [.ref p, .int way, .int g] ∧ 0 ≤ way ∧ way ≤ 2 ∧ (way < 2 → g = c) ∧ PA H p F r c ∧ g ≤ 4000 ∧
  ∀ (H' : Hp) (F' : Addr → Prop), PA H' p F' (r.take g) c → Step F H F' H' → Q .non H'
theorem take_cut (r : List Int) (g : Nat) : cutV (r.map V.int) none (some (g : Int)) = (r.take g).map V.int := by
  unfold cutV
  rw [HT.sIx_none, HT.sIx_nat, List.length_map, List.map_take]
  show (r.map V.int).take (min g r.length - 0) = _
  by_cases h : g ≤ r.length
  · rw [Nat.min_eq_left h]; rfl
  · rw [Nat.min_eq_right (by omega), List.take_of_length_le (by rw [List.length_map]; omega), List.take_of_length_le (by rw [List.length_map]; omega)]
theorem drop_cut (r : List Int) (g : Nat) : cutV (r.map V.int) (some (g : Int)) none = (r.drop g).map V.int := by
  unfold cutV
  rw [HT.sIx_none, HT.sIx_nat, List.length_map, List.map_drop]
  by_cases h : g ≤ r.length
  · rw [Nat.min_eq_left h]
    exact List.take_of_length_le (by rw [List.length_drop, List.length_map]; omega)
  · rw [Nat.min_eq_right (by omega), List.drop_of_length_le (by rw [List.length_map]; omega), List.drop_of_length_le (l := r.map V.int) (by rw [List.length_map]; omega)]
    simp
/-- one byte laid over by hand -/
theorem laid_one (r : List Int) (c : Nat) (v : Int) : (r ++ List.replicate (c - r.length) 0).take c ++ [v] ++ r.drop (c + 1) = laidF r c [v] := by
  rw [laidF_cons (by simp)]
  congr 1
  by_cases h : c + 1 ≤ r.length
  · rw [show c - r.length = 0 by omega]; simp
  · rw [List.drop_of_length_le (l := r) (by omega), List.drop_of_length_le]
    rw [List.length_append, List.length_replicate]
    show _ ≤ c + 1
    omega
end Sip
namespace Sip
open PySem PySem.Spec PyProof.Rows L2 TL
/-! a heap by name: what was made, what was written -/
theorem updG {H H' : Hp} {q : Addr} {o : HO} (g : upd H q o = H') (n : H q = none) : H' q = some o ∧ Same H H' := by
  subst g; exact ⟨upd_same, (Kp.new (ps := []) n).same⟩
theorem updK {H H' : Hp} {q : Addr} {o : HO} (g : upd H q o = H') : H' q = some o ∧ Kp [q] H H' := by
  subst g; exact ⟨upd_same, Kp.at (by simp)⟩
theorem neN {H : Hp} {p x : Addr} {o : HO} (n : H p = none) (e : H x = some o) : x ≠ p := ne_of_none e n
theorem neM {H : Hp} {p x : Addr} {o : HO} (n : H x = none) (e : H p = some o) : x ≠ p := (ne_of_none e n).symm
theorem kp1 {H H' : Hp} {p x : Addr} {o : HO} (k : Kp [p] H H') (n : x ≠ p) (e : H x = some o) : H' x = some o := k x o (by simpa using n) e
theorem sm1 {H H' : Hp} {x : Addr} {o : HO} (k : Same H H') (e : H x = some o) : H' x = some o := k x o e
theorem sqS {K : PySem.W.Frag} {H H' : Hp} {a : Addr} {l : List V} (s : Same H H') (h : SqL K H a l) : SqL K H' a l := s.seq h
theorem sqK {K : PySem.W.Frag} {H H' : Hp} {p a : Addr} {l : List V} (s : Kp [p] H H') (n : a ≠ p) (h : SqL K H a l) : SqL K H' a l := s.seq (by simpa using n) h
end Sip
namespace Sip
open PySem PySem.Spec PyProof.Rows L2 TL
theorem mapI_nil : ([] : List V) = List.map V.int [] := rfl
theorem mapI_cons {a : Int} {l : List V} {ms : List Int} (h : l = List.map V.int ms) : V.int a :: l = List.map V.int (a :: ms) := by rw [h]; rfl
theorem sq_lit {K : PySem.W.Frag} {H : Hp} {m : Addr} {l : List V} {ms : List Int} (h : H m = some (.lst l)) (e : l = ms.map V.int) : SqL K H m (ms.map V.int) := by rw [← e]; exact sq_at h
theorem hp_lit {H : Hp} {m : Addr} {l : List V} {ms : List Int} (h : H m = some (.lst l)) (e : l = ms.map V.int) : H m = some (.lst (ms.map V.int)) := by rw [← e]; exact h
end Sip
namespace Sip
open PySem PySem.Spec PyProof.Rows L2 TL
theorem iteFc {b : Bool} {A B : Prop} (e : b = false) (h : B) : if b = true then A else B := by subst e; exact iteF h
theorem iteTc {b : Bool} {A B : Prop} (e : b = true) (h : A) : if b = true then A else B := by subst e; exact iteT h
theorem free1 {H H' : Hp} {l : Addr} (h : H' l = none) (e : Same H H') : H l = none := e.free h
theorem same_tr {H H1 H2 : Hp} (b : Same H1 H2) (a : Same H H1) : Same H H2 := a.trans b
theorem step_sm {H H1 H2 : Hp} {p : Addr} (k : Kp [p] H1 H2) (n : H p = none) (s : Same H H1) : Same H H2 := step_same s n k
end Sip
namespace Sip
open PySem PySem.Spec PyProof.Rows L2 TL
theorem upd_get {H : Hp} {a b : Addr} {o u : HO} (n : b ≠ a) (e : H b = some u) : upd H a o b = some u := by rw [upd_ne n]; exact e
end Sip
namespace Sip
open PySem PySem.Spec PyProof.Rows L2 TL
/-- an object made: the older ones stay, and are not its own -/
theorem made_new {H H5 : Hp} {f dx : Addr} {o1 o2 : HO} {F : Addr → Prop} (st : Step (fun b => b = f ∨ b = dx) (upd (upd H dx o2) f o1) F H5) (nf : H f = none) (nd : H dx = none) : Same H H5 ∧ ∀ b o, H b = some o → ¬ F b := by
  have k : ∀ b o, H b = some o → H5 b = some o ∧ ¬ F b := fun b o e => by
    have bf : b ≠ f := ne_of_none e nf
    have bd : b ≠ dx := ne_of_none e nd
    exact st.keep (fun z => z.elim bf bd) (by rw [upd_ne bf, upd_ne bd]; exact e)
  exact ⟨fun b o e => (k b o e).1, fun b o e => (k b o e).2⟩
end Sip
namespace Sip
open PySem PySem.Spec PyProof.Rows L2 TL
theorem sqA {K : PySem.W.Frag} {H H' : Hp} {a : Addr} {l : List V} (h : SqL K H a l) (s : Same H H') : SqL K H' a l := s.seq h
end Sip
namespace Sip
open PySem PySem.Spec PyProof.Rows L2 TL
theorem sqB {K K' : PySem.W.Frag} {H H' : Hp} {a : Addr} {l : List V} (h : SqL K H a l) (s : Same H H') (e : K = K') : SqL K' H' a l := e ▸ s.seq h
end Sip
namespace Sip
open PySem PySem.Spec PyProof.Rows L2 TL
/-- what may be found by the way (no word over a frame) -/
class Wit (α : Type) : Prop where
  ok : True
instance : Wit V := ⟨trivial⟩
instance : Wit Int := ⟨trivial⟩
instance : Wit Nat := ⟨trivial⟩
instance : Wit Bool := ⟨trivial⟩
instance : Wit HO := ⟨trivial⟩
instance : Wit Str := ⟨trivial⟩
instance : Wit Value := ⟨trivial⟩
instance : Wit (Addr → Prop) := ⟨trivial⟩
instance {α β : Type} [Wit α] [Wit β] : Wit (α × β) := ⟨trivial⟩
instance {α : Type} [Wit α] : Wit (Option α) := ⟨trivial⟩
instance {α : Type} [Wit α] : Wit (List α) := ⟨trivial⟩
theorem exI {α : Type} [Wit α] {p : α → Prop} (a : α) (h : p a) : ∃ x, p x := ⟨a, h⟩
end Sip
namespace Sip
open PySem PySem.Spec PyProof.Rows L2 TL
theorem isi_ii {K : PySem.W.Frag} {v : Int} {H : Hp} {Q : VK} (h : Q (.bl true) H) : rIsi K [.int v, .ty "int"] H Q := ⟨.int v, .ty "int", _, _, true, rfl, .ty "int", .base (.int v), kit_ty (by decide +kernel), h⟩
theorem isi_ib {K : PySem.W.Frag} {v : Int} {H : Hp} {Q : VK} (h : Q (.bl false) H) : rIsi K [.int v, .ty "bool"] H Q := ⟨.int v, .ty "bool", _, _, false, rfl, .ty "bool", .base (.int v), kit_ty (by decide +kernel), h⟩
end Sip
namespace Sip
open PySem PySem.Spec PyProof.Rows L2

/-! del xs[lo:hi] -/
def delL {α : Type} (xs : List α) (a c : Nat) : List α := xs.take a ++ xs.drop (max a c)
theorem sel_filter {α : Type} (sel : Nat → Bool) (a c : Nat) (h : ∀ k, sel k = (decide (a ≤ k) && decide (k < c))) (xs : List α) :
    ∀ j, (xs.zipIdx j).filterMap (fun p => if sel p.2 = true then none else some p.1) = xs.take (a - j) ++ xs.drop (max (a - j) (c - j)) := by
  induction xs with
  | nil => intro j; simp
  | cons x r ih =>
    intro j
    rw [List.zipIdx_cons, List.filterMap_cons]
    have e := h j
    by_cases h1 : a ≤ j
    · by_cases h2 : j < c
      · rw [decide_eq_true h1, decide_eq_true h2] at e
        have e' : sel j = true := e
        simp only [e', if_true]
        rw [ih (j + 1)]
        have : a - j = 0 := by omega
        have : a - (j + 1) = 0 := by omega
        have : c - j = (c - (j + 1)) + 1 := by omega
        simp [*]
      · rw [decide_eq_true h1, decide_eq_false h2] at e
        have e' : ¬ (sel j = true) := by rw [e]; decide
        simp only [if_neg e']
        rw [ih (j + 1)]
        have : a - j = 0 := by omega
        have : a - (j + 1) = 0 := by omega
        have : c - j = 0 := by omega
        have : c - (j + 1) = 0 := by omega
        simp [*]
    · rw [decide_eq_false h1] at e
      have e' : ¬ (sel j = true) := by rw [e]; simp
      simp only [if_neg e']
      rw [ih (j + 1)]
      have e1 : a - j = (a - (j + 1)) + 1 := by omega
      have e2 : max (a - j) (c - j) = max (a - (j + 1)) (c - (j + 1)) + 1 := by omega
      rw [e2, e1, List.take_succ_cons, List.drop_succ_cons]
      rfl
def selF (a c : Nat) (i : Nat) : Bool :=
  if (1 : Int) > 0 then (a : Int) ≤ i && i < (c : Int) && (i - (a : Int)) % 1 == 0
  else (c : Int) < i && i ≤ (a : Int) && ((a : Int) - i) % (-1) == 0
theorem selF_eq (a c k : Nat) : selF a c k = (decide (a ≤ k) && decide (k < c)) := by
  unfold selF
  rw [if_pos (by decide)]
  have : ((k : Int) - (a : Int)) % 1 = 0 := by omega
  rw [this]
  simp
theorem selF_fun (a c : Nat) : (fun xs : Array Value => (List.filterMap (fun x => if selF a c x.snd = true then none else some x.fst) xs.toList.zipIdx).toArray) = fun t => (delL t.toList a c).toArray := by
  funext t
  have := sel_filter (selF a c) a c (selF_eq a c) t.toList 0
  rw [Nat.sub_zero, Nat.sub_zero] at this
  exact congrArg _ this
theorem sel_fun {sel : Nat → Bool} {a c : Nat} (h : ∀ k, sel k = selF a c k) : (fun xs : Array Value => (List.filterMap (fun x => if sel x.snd = true then none else some x.fst) xs.toList.zipIdx).toArray) = fun t => (delL t.toList a c).toArray := by
  have e : sel = selF a c := funext h
  subst e
  exact selF_fun a c
section
variable {pr : Program} {wd : World} {ar : Around} {er : Value → Shared → Prop} {s : Shared}
set_option maxHeartbeats 4000000 in
theorem del_slice {l z : Addr} {old : Array Value} {m a c : Nat} {lo hi : Option Int} {vl vu : Value} {Q : Unit → Shared → Prop}
    (eo : s.heap.get? l = some { cls := .type "list", data := .seq old m })
    (hz : s.heap.IsSliceOf z vl vu .none) (pl : IsPart vl lo) (pu : IsPart vu hi)
    (bd : sliceBounds lo hi none old.size = ((a : Int), (c : Int), 1)) (fit : old.size ≤ sizeLine)
    (k : Q () { s with heap := s.heap.update l (Obj.mapSeq fun t => (delL t.toList a c).toArray) }) :
    wpAny (model pr wd) ar (delItem (.ref l) (.ref z)) Q er s := by
  have lo' : s.heap.IsList l old := PySem.IsL.isList eo
  obtain ⟨oz, gz, cz, dz⟩ := id hz
  have tz : s.TypeIs (.ref z) "slice" := ⟨oz, gz, cz⟩
  refine wpAny_delItem_slot lo'.typeIs (by decide) PySem.F.slot_list_delitem ?_
  refine wpAny_call_entry PySem.F.slot_list_delitem lo'.typeIs PySem.F.entry_list_delitem ?_ (PySem.F.args_list_delitem_2 _ _)
  show wpAny _ _ (Builtin.List.listSubscript? (.ref z) >>= _) _ _ s
  refine wpAny_bind ?_
  unfold Builtin.List.listSubscript?
  refine wpAny_bind (wpAny_specialOf tz slice_no_index ?_)
  simp only [Option.isNone_none, if_true]
  refine wpAny_pure ?_
  show wpAny _ _ (typeOf (.ref z) >>= _) _ _ s
  refine wpAny_bind (wpAny_typeOf tz ?_)
  first
    | rw [if_neg (by decide)]
    | refine PySem.W.KFB.if_not (by decide) ?_
  rw [listSliceParts_eq]
  refine wpAny_bind (wpAny_bind (wpAny_field gz dz (x := .none) rfl (wpAny_bind (wpAny_listPart .none ?_))))
  rw [if_neg (show ¬ ((rawPart none == rawInt 0) = true) from Bool.false_ne_true)]
  refine wpAny_bind (wpAny_field gz dz (x := vl) rfl (wpAny_bind (wpAny_listPart pl ?_)))
  refine wpAny_bind (wpAny_field gz dz (x := vu) rfl (wpAny_bind (wpAny_listPart pu (wpAny_pure ?_))))
  unfold Builtin.List.listItems
  refine wpAny_bind (wpAny_bind (wpAny_seqItems eo rfl (wpAny_pure ?_)))
  have si := (sliceIndices_raw lo hi none old.size (by simp)).trans (congrArg (pure : Int × Int × Int → Sem (Int × Int × Int)) bd)
  refine wpAny_bind (wpAny_of_eq si ?_)
  refine wpAny_bind (wpAny_rule ?_)
  refine wpAny_bind ?_
  unfold Builtin.List.listUpdate
  simp only []
  rw [sel_fun (a := a) (c := c) (fun k => by with_unfolding_all rfl)]
  have zz : ((fun t : Array Value => (delL t.toList a c).toArray) old).size ≤ sizeLine + 1 := by
    show (delL old.toList a c).toArray.size ≤ _
    rw [List.size_toArray]
    unfold delL
    rw [List.length_append, List.length_take, List.length_drop, Array.length_toList]; omega
  refine wpAny_updateSeq (hz := fit) (_hz' := zz) eo rfl (wpAny_bind (wpAny_letGo ?_))
  first
    | with_reducible exact wpAny_pure ⟨.none, rfl, k⟩
    | exact wpAny_bind (wpAny_pure (wpAny_pure ⟨.none, rfl, k⟩))
    | exact wpAny_pure ⟨.none, rfl, k⟩
end
/-- what is left of a list whose part from lo to hi is deleted -/
def delV (xs : List V) (lo hi : Option Int) : List V := delL xs (HT.sIx xs.length 0 lo) (HT.sIx xs.length xs.length hi)
theorem bounds_sIx (lo hi : Option Int) (n : Nat) : sliceBounds lo hi none n = ((HT.sIx n 0 lo : Int), (HT.sIx n n hi : Int), 1) := by
  have f : ∀ (v : Option Int) (d : Nat), d ≤ n → (match v with | none => (d : Int) | some i => max 0 (min (if i < 0 then i + (n : Int) else i) (n : Int))) = (HT.sIx n d v : Int) ∨ (∃ i, v = some i ∧ i < 0 ∧ i + (n : Int) > n) := by
    intro v d hd
    cases v with
    | none => exact .inl rfl
    | some i =>
      left
      show max 0 (min (if i < 0 then i + (n : Int) else i) (n : Int)) = ((if i < 0 then (i + (n : Int)).toNat else min i.toNat n : Nat) : Int)
      split <;> omega
  have f1 := (f lo 0 (by omega)).resolve_right (by rintro ⟨i, _, h1, h2⟩; omega)
  have f2 := (f hi n (by omega)).resolve_right (by rintro ⟨i, _, h1, h2⟩; omega)
  rw [← f1, ← f2]
  unfold sliceBounds
  cases lo <;> cases hi <;> rfl
section
variable {X : Cx} {pos : Pos}
def tDelS (to : TE) (tl th : TO) : TS := fun D σ H => to σ H fun o H1 => tl σ H1 fun lo H2 => th σ H2 fun hi H3 => ∃ (l : Addr) (xs : List V), o = .ref l ∧ H3 l = some (.lst xs) ∧ D.nx σ (upd H3 l (.lst (delV xs lo hi)))
theorem ps_delS {o : Expr} {lo hi : Option Expr} {to : TE} {tl th : TO} {p2 tpos : Pos} (ho : PE X o to) (hl : PO X lo tl) (hh : PO X hi th) : PS X (.Delete [.Subscript o (.Slice lo hi none p2) tpos] pos) (tDelS to tl th) := by
  refine ⟨fun pins s σ H D I h => ?_⟩
  refine wpAny_Delete (wpAny_deleteEach_cons (wpAny_delete_Subscript (thn (ho.run pins s σ H _ I h) fun ov s1 ⟨x, H1, I1, r1, q1⟩ => ?_)))
  refine wpAny_Slice (thn (hl.run pins s1 σ H1 _ I1 q1) fun wl s2 ⟨l, H2, I2, pl, q2⟩ => ?_)
  refine thn (hh.run pins s2 σ H2 _ I2 q2) fun wu s3 ⟨uu, H3, I3, pu, q3⟩ => ?_
  rw [evalPart_none]
  refine wpAny_pure ?_
  obtain ⟨p, xs, rfl, hp, fin⟩ := q3
  cases r1
  have I4 : Inv X pins σ H3 { s3 with heap := s3.heap.push { cls := .type "slice", data := .fields #[wl, wu, .none] } } := I3.kept (t' := s3.toks) fun b ob e => Heap.get?_push_of_some _ e
  obtain ⟨z1, us1, n1, rv1, hz1, e1⟩ := I4.lstM hp
  have L1 := rv1.length
  refine del_slice (a := HT.sIx xs.length 0 l) (c := HT.sIx xs.length xs.length uu) e1 (Heap.IsSliceOf.new ..) pl pu (by rw [List.size_toArray, ← L1]; exact bounds_sIx _ _ _) (by rw [List.size_toArray]; omega) ?_
  refine wpAny_deleteEach_nil ⟨σ, _, ?_, fin⟩
  refine I4.lset (its' := delL us1 (HT.sIx xs.length 0 l) (HT.sIx xs.length xs.length uu)) (t' := s3.toks) hp e1 rfl (Vals.append (rv1.take _) (rv1.drop _)) ?_
  show (delL _ _ _).length ≤ _
  unfold delL
  rw [List.length_append, List.length_take, List.length_drop]
  omega
end
end Sip
namespace Sip
open PySem PySem.Spec PyProof.Rows L2 TL
/-- for i, x in enumerate(xs), the list standing -/
theorem for_enum {K : PySem.W.Frag} {a : Addr} {xs : List V} {g : TG} {tb : TS} {D : Ends} {σ : L2.St} {H : Hp} (Pv : Nat → L2.St → Hp → Prop) (h0 : Pv 0 σ H) (hl : ∀ i σ H, i ≤ xs.length → Pv i σ H → SqL K H a xs)
    (hs : ∀ i x σ H T, xs[i]? = some x → Pv i σ H → H T = none → g (.ref T) σ (upd H T (.tup [.int (i : Nat), x])) fun σ2 H2 => tb { D with nx := Pv (i + 1), ct := Pv (i + 1), bk := D.nx } σ2 H2) (hd : ∀ σ H, Pv xs.length σ H → D.nx σ H) :
    ∃ W : Nat → Nat → L2.St → Hp → Prop, (∃ m, W 0 m σ H) ∧ ∀ i m σ H, W i m σ H →
      ((Ite K a).stop i H ∧ D.nx σ H) ∨ ((Ite K a).go i H ∧ ∃ N : L2.St → Hp → Prop, (∀ σ' H', N σ' H' → ∃ m', m' < m ∧ W (i + 1) m' σ' H') ∧ ∀ x H', (Ite K a).yld i H x H' → g x σ H' fun σ2 H2 => tb { D with nx := N, ct := N, bk := D.nx } σ2 H2) := by
  refine ⟨fun i m σ H => m = xs.length - i ∧ i ≤ xs.length ∧ Pv i σ H, ⟨xs.length, by simp, Nat.zero_le _, h0⟩, ?_⟩
  rintro i m σ H ⟨rfl, hi, p⟩
  have q := hl i σ H hi p
  by_cases hlt : i < xs.length
  · refine .inr ⟨⟨xs, xs[i], q, by simp [hlt]⟩, Pv (i + 1), fun σ' H' p' => ⟨xs.length - (i + 1), by omega, rfl, hlt, p'⟩, fun x H' y => ?_⟩
    obtain ⟨T, y, rfl, nT, rfl, hy⟩ := y
    exact hs i y σ _ T (hy xs q) p nT
  · have e : i = xs.length := by omega
    subst e
    exact .inl ⟨⟨xs, q, Nat.le_refl _⟩, hd σ H p⟩
end Sip
namespace Sip
open PySem PySem.Spec PyProof.Rows L2 TL
section
variable {X : Cx} {e : Expr} {te : TE}
/-- a bound of a slice that may be None -/
def tPartO (te : TE) : TO := fun σ H Q => te σ H fun x H1 => ∃ k : Option Int, x = (match k with | none => .non | some i => .int i) ∧ Q k H1
theorem po_opt (h : PE X e te) : PO X (some e) (tPartO te) := by
  refine ⟨fun pins s σ H Q I hw => ?_⟩
  rw [evalPart_some]
  refine thn (h.run pins s σ H _ I hw) fun u s1 ⟨x, H1, I1, r1, q1⟩ => ?_
  obtain ⟨k, rfl, q⟩ := q1
  cases k with
  | none =>
    cases (show u = Value.none from r1)
    exact ⟨none, H1, I1, .none, q⟩
  | some i =>
    obtain ⟨t, rfl⟩ := (show ∃ t, u = Value.int i t from r1)
    exact ⟨some i, H1, I1, .int i t, q⟩
end
def cntV : Option Nat → V
  | none => .non
  | some n => .int n
def cntI : Option Nat → Option Int
  | none => none
  | some n => some n
theorem cntV_eq (k : Option Nat) : cntV k = (match cntI k with | none => V.non | some i => .int i) := by cases k <;> rfl
def takeO (k : Option Nat) (xs : List Int) : List Int := match k with
  | none => xs
  | some n => xs.take n
theorem cut_O (r : List Int) (k : Option Nat) : cutV (r.map V.int) none (cntI k) = (takeO k r).map V.int := by
  cases k with
  | none =>
    unfold cutV cntI takeO
    rw [HT.sIx_none, HT.sIx_none, List.length_map]
    show (r.map V.int).take (r.length - 0) = _
    exact List.take_of_length_le (by rw [List.length_map]; omega)
  | some n => exact take_cut r n
theorem takeO_len (k : Option Nat) (xs : List Int) : (takeO k xs).length ≤ xs.length := by
  cases k with
  | none => exact Nat.le_refl _
  | some n => show (xs.take n).length ≤ _; rw [List.length_take]; omega
def lineF (xs : List Int) : List Int := xs.take (xs.idxOf 10 + 1)
theorem lineF_no {xs : List Int} (h : (10 : Int) ∉ xs) : lineF xs = xs := by
  unfold lineF
  exact List.take_of_length_le (by rw [List.idxOf_eq_length h]; omega)
theorem idx_take (xs : List Int) (n : Nat) : (xs.take n).idxOf 10 = min (xs.idxOf 10) (xs.take n).length := by
  induction xs generalizing n with
  | nil => simp
  | cons x r ih =>
    cases n with
    | zero => simp
    | succ n =>
      rw [List.take_succ_cons, List.idxOf_cons, List.idxOf_cons, List.length_cons]
      by_cases h : x = 10
      · subst h; simp
      · have : (x == 10) = false := by simpa using h
        rw [this]
        simp only [cond_false]
        rw [ih n]; omega
theorem lineF_take (xs : List Int) (n : Nat) : lineF (xs.take n) = (lineF xs).take n := by
  unfold lineF
  rw [idx_take, List.take_take, List.take_take]
  rw [List.length_take]
  by_cases h : n ≤ xs.length
  · congr 1; omega
  · rw [List.take_of_length_le (l := xs) (by omega : xs.length ≤ n) |>.symm]
    by_cases g : xs.idxOf 10 < xs.length
    · rw [List.take_of_length_le (l := xs) (by omega : xs.length ≤ n)]; congr 1; omega
    · rw [List.take_of_length_le (l := xs) (by omega : xs.length ≤ n)]
      have : xs.idxOf 10 ≤ xs.length := List.idxOf_le_length
      rw [List.take_of_length_le (by omega), List.take_of_length_le (by omega)]
theorem lineF_O (xs : List Int) (k : Option Nat) : lineF (takeO k xs) = takeO k (lineF xs) := by
  cases k with
  | none => rfl
  | some n => exact lineF_take xs n
theorem inV_ten (xs : List Int) (v : Int) : inV (.int v) (xs.map V.int) = decide (v ∈ xs) := by
  unfold inV
  rw [List.any_map]
  rw [Bool.eq_iff_iff, List.any_eq_true, decide_eq_true_iff]
  constructor
  · rintro ⟨x, hx, e⟩
    have e1 : x = v := by
      have : eqV (.int x) (.int v) = true := e
      simpa [eqV] using this
    rw [← e1]; exact hx
  · intro h
    exact ⟨v, h, by show eqV (.int v) (.int v) = true; simp [eqV]⟩
theorem flat_ints (xs : List Int) : (xs.map V.int).all flatV = true := by
  rw [List.all_map, List.all_eq_true]
  intro x _
  rfl
theorem idx_facts {xs : List Int} {v : Int} (h : v ∈ xs) : (xs.map V.int)[xs.idxOf v]? = some (.int v) ∧ ∀ (m : Nat) (z : V), m < xs.idxOf v → (xs.map V.int)[m]? = some z → eqV z (.int v) = false := by
  have hl : xs.idxOf v < xs.length := List.idxOf_lt_length_of_mem h
  refine ⟨?_, fun m z hm hz => ?_⟩
  · rw [List.getElem?_map, List.getElem?_eq_getElem hl, List.getElem_idxOf hl]; rfl
  · rw [List.getElem?_map] at hz
    obtain ⟨y, hy, rfl⟩ := Option.map_eq_some_iff.mp hz
    have : y ≠ v := by
      intro e
      subst e
      have hm' : m < xs.length := by omega
      rw [List.getElem?_eq_getElem hm'] at hy
      have := List.not_of_lt_findIdx (p := (· == y)) (xs := xs) (i := m) hm
      have e2 : xs[m] = y := Option.some.inj hy
      rw [e2] at this
      simp at this
    show eqV (.int y) (.int v) = false
    simpa [eqV] using this
theorem mid_cut (r : List Int) (c n : Nat) : cutV (r.map V.int) (some (c : Int)) (some ((c + n : Nat) : Int)) = ((r.drop c).take n).map V.int := by
  unfold cutV
  rw [HT.sIx_nat, HT.sIx_nat, List.length_map, ← List.map_drop, ← List.map_take]
  congr 1
  by_cases h : c ≤ r.length
  · rw [Nat.min_eq_left h]
    by_cases g : c + n ≤ r.length
    · rw [Nat.min_eq_left g, Nat.add_sub_cancel_left]
    · rw [Nat.min_eq_right (by omega), List.take_of_length_le (by rw [List.length_drop]; omega), List.take_of_length_le (by rw [List.length_drop]; omega)]
  · rw [Nat.min_eq_right (by omega : r.length ≤ c), Nat.min_eq_right (by omega), List.drop_of_length_le (Nat.le_refl _), List.drop_of_length_le (by omega : r.length ≤ c)]
    simp
theorem past_le (r : List Int) (c n m : Nat) (h1 : r.length ≤ m) (h2 : c ≤ m) : c + ((r.drop c).take n).length ≤ m := by
  rw [List.length_take, List.length_drop]; omega
/-! promises of the reading calls -/
def spPPeek (PA : PP) : Sp := fun vs H Q _ => ∃ (p : Addr) (F : Addr → Prop) (r : List Int) (c : Nat) (k : Option Nat), vs = [.ref p, cntV k] ∧ PA H p F r c ∧
  ∀ (H' : Hp) (q : Addr), H q = none → H' q = some (.lst ((takeO k (r.drop c)).map V.int)) → Same H H' → Q (.ref q) H'
def spPRead (PA : PP) : Sp := fun vs H Q _ => ∃ (p : Addr) (F : Addr → Prop) (r : List Int) (c : Nat) (k : Option Nat), vs = [.ref p, cntV k] ∧ PA H p F r c ∧
  ∀ (H' : Hp) (F' : Addr → Prop) (q : Addr), PA H' p F' r (c + (takeO k (r.drop c)).length) → H q = none → ¬ F' q → H' q = some (.lst ((takeO k (r.drop c)).map V.int)) → Step F H F' H' → Q (.ref q) H'
def spPLine (PA : PP) : Sp := fun vs H Q _ => ∃ (p : Addr) (F : Addr → Prop) (r : List Int) (c : Nat) (k : Option Nat), vs = [.ref p, cntV k] ∧ PA H p F r c ∧ r.length ≤ 10000 ∧
  ∀ (H' : Hp) (F' : Addr → Prop) (q : Addr), PA H' p F' r (c + (takeO k (lineF (r.drop c))).length) → H q = none → ¬ F' q → H' q = some (.lst ((takeO k (lineF (r.drop c))).map V.int)) → Step F H F' H' → Q (.ref q) H'
def spFLine (K : PySem.W.Frag) : Sp := fun vs H Q _ => ∃ (a : Addr) (xs : List Int) (k : Option Nat), vs = [.ref a, cntV k] ∧ SqL K H a (xs.map V.int) ∧ xs.length ≤ 10000 ∧
  ∀ (H' : Hp) (q : Addr), H q = none → H' q = some (.lst ((takeO k (lineF xs)).map V.int)) → Same H H' → Q (.ref q) H'
def spCount : Sp := fun vs H Q _ => ∃ k : Option Nat, vs = [cntV k] ∧ Q .non H
def spAhead (PA : PP) : Sp := fun vs H Q _ => ∃ (p : Addr) (F : Addr → Prop) (r : List Int) (c : Nat), vs = [.ref p] ∧ PA H p F r c ∧
  ∀ (H' : Hp) (q : Addr), H q = none → H' q = some (.lst ((r.drop c).map V.int)) → Same H H' → Q (.ref q) H'
def spPassed (PA : PP) : Sp := fun vs H Q _ => ∃ (p t : Addr) (F : Addr → Prop) (r xs : List Int) (c : Nat), vs = [.ref p, .ref t] ∧ PA H p F r c ∧ ¬ F t ∧ H t = some (.lst (xs.map V.int)) ∧
  ∀ (H' : Hp) (F' : Addr → Prop), PA H' p F' r (c + xs.length) → ¬ F' t → H' t = some (.lst (xs.map V.int)) → Step F H F' H' → Q (.ref t) H'
end Sip
namespace Sip
open PySem PySem.Spec PyProof.Rows L2 TL
/-! ### tuples alike -/
section
variable {X : Cx}
def rEqS (K : PySem.W.Frag) : R2 := fun x y H Q => ∃ d, Dp K H x d ∧ Dp K H y d ∧ SeqAt.shaped d = true ∧ Q (.bl true) H
def rNeS (K : PySem.W.Frag) : R2 := fun x y H Q => ∃ d, Dp K H x d ∧ Dp K H y d ∧ SeqAt.shaped d = true ∧ Q (.bl false) H
theorem eqv_same {d : PyData} (h : SeqAt.shaped d = true) : PyData.eqv d d = true := SeqAt.eqv_refl d (SeqAt.canLay_of_shaped h)
theorem op_eqS (hu : X.A.units + 64 < cLine) : OpR X (compareOp .Eq) (rEqS X.K) := by
  intro pins s σ H x y v u Q I rx ry h
  obtain ⟨d, h1, h2, h3, q⟩ := h
  exact op_eqD hu pins s σ H x y v u Q I rx ry ⟨d, d, h1, h2, h3, h3, by rw [eqv_same h3]; exact q⟩
theorem op_neS (hu : X.A.units + 64 < cLine) : OpR X (compareOp .NotEq) (rNeS X.K) := by
  intro pins s σ H x y v u Q I rx ry h
  obtain ⟨d, h1, h2, h3, q⟩ := h
  exact op_neD hu pins s σ H x y v u Q I rx ry ⟨d, d, h1, h2, h3, h3, by rw [eqv_same h3]; exact q⟩
/-- == of two tuples of ints -/
def rEqTI (K : PySem.W.Frag) : R2 := fun x y H Q => ∃ (a b : Addr) (ns ms : List Int), x = .ref a ∧ y = .ref b ∧ SqT K H a (ns.map V.int) ∧ SqT K H b (ms.map V.int) ∧ Q (.bl (decide (ns = ms))) H
theorem lay_ints : ∀ ns : List Int, PyData.canLayAll0 (ns.map PyData.int) = true
  | [] => rfl
  | n :: r => by
    have := lay_ints r
    simp [PyData.canLayAll0, PyData.canLay0, this]
theorem eqv_ints : ∀ ns ms : List Int, PyData.eqvAll (ns.map PyData.int) (ms.map PyData.int) = decide (ns = ms)
  | [], [] => rfl
  | [], _ :: _ => by simp [PyData.eqvAll]
  | _ :: _, [] => by simp [PyData.eqvAll]
  | n :: r, m :: t => by
    show (PyData.eqv (.int n) (.int m) && PyData.eqvAll (r.map PyData.int) (t.map PyData.int)) = _
    rw [eqv_ints r t]
    show ((n == m) && decide (r = t)) = _
    by_cases h : n = m <;> by_cases g : r = t <;> simp [h, g]
end
theorem shaped_ints (ns : List Int) : SeqAt.shaped (.tuple (ns.map PyData.int)) = true := by
  unfold SeqAt.shaped
  rw [Bool.and_eq_true]
  refine ⟨lay_ints ns, decide_eq_true ?_⟩
  have : ∀ ms : List Int, PyData.depthAll (ms.map PyData.int) ≤ 1 := by
    intro ms
    induction ms with
    | nil => simp [PyData.depthAll]
    | cons m r ih => simp [PyData.depthAll, PyData.depth]; try omega
  have h := this ns
  show PyData.depth (.tuple (ns.map PyData.int)) ≤ 64
  simp [PyData.depth]; try omega
section
variable {X : Cx}
theorem op_eqTI (hu : X.A.units + 64 < cLine) : OpR X (compareOp .Eq) (rEqTI X.K) := by
  intro pins s σ H x y v u Q I rx ry h
  obtain ⟨a, b, ns, ms, rfl, rfl, ha, hb, q⟩ := h
  exact op_eqD hu pins s σ H _ _ v u Q I rx ry ⟨.tuple (ns.map PyData.int), .tuple (ms.map PyData.int), .tup ha (dp_ints ns), .tup hb (dp_ints ms), shaped_ints ns, shaped_ints ms, by
    rw [show PyData.eqv (.tuple (ns.map PyData.int)) (.tuple (ms.map PyData.int)) = decide (ns = ms) from eqv_ints ns ms]; exact q⟩
end
theorem dp4 {K : PySem.W.Frag} {H : Hp} {q : Addr} {w : Str} {a b c : Int} (h : SqT K H q [.str w, .int a, .int b, .int c]) : Dp K H (.ref q) (.tuple [.str w, .int a, .int b, .int c]) :=
  .tup h (.cons (.str _) (.cons (.int _) (.cons (.int _) (.cons (.int _) .nil))))
theorem sh4 {w : Str} (h : PyData.strOk w = true) (a b c : Int) : SeqAt.shaped (.tuple [.str w, .int a, .int b, .int c]) = true := by
  simp [SeqAt.shaped, PyData.canLay0, PyData.canLayAll0, PyData.depth, PyData.depthAll, h]
/-! ### the codes -/
inductive Cd
  | plain | steps | wide | turn
def Cd.w : Cd → Str
  | .plain => Str.ofString "plain"
  | .steps => Str.ofString "steps"
  | .wide => Str.ofString "wide"
  | .turn => Str.ofString "turn"
def skipT : List Int → Nat → Int → Nat × Int
  | [], p, s => (p, s)
  | x :: r, p, s => if 128 ≤ x then skipT r (p + 1) (x - 128) else (p, s)
def markW (row : List Int) (p : Nat) : Nat × Int :=
  if (row.drop p).take 2 = [254, 255] then (p + 2, 2) else if (row.drop p).take 2 = [255, 254] then (p + 2, 1) else (p, 2)
def goneF (c : Cd) (row : List Int) (p : Nat) (s : Int) : Nat × Int := match c with
  | .turn => skipT (row.drop p) p s
  | .wide => if s = 0 then markW row p else (p, s)
  | _ => (p, s)
def leadF (x : Int) : Nat × Int :=
  if x < 128 then (1, 0) else if x < 192 then (0, 0) else if x < 224 then (2, 192) else if x < 240 then (3, 224) else if x < 248 then (4, 240) else (0, 0)
def stepsW (n : Int) : List Int :=
  if n < 128 then [n] else if n < 2048 then [192 + n / 64, 128 + n % 64] else if n < 65536 then [224 + n / 4096, 128 + n / 64 % 64, 128 + n % 64]
  else [240 + n / 262144, 128 + n / 4096 % 64, 128 + n / 64 % 64, 128 + n % 64]
def foldS (s : Int) (xs : List Int) : Int := xs.foldl (fun s b => 64 * s + b - 128) s
def stepsAt (xs : List Int) : Int × Nat :=
  let l := leadF (xs.headD 0)
  let wr := xs.take l.1
  let sg := foldS (xs.headD 0 - l.2) (wr.drop 1)
  if stepsW sg = wr then (sg, l.1) else (0, 0)
def signF (c : Cd) (row : List Int) (b : Nat) (s : Int) : Int × Nat := match c with
  | .steps => stepsAt (row.drop b)
  | .wide => if row.length < b + 2 then (0, 0) else if s = 1 then (row.getD b 0 + 256 * row.getD (b + 1) 0, 2) else (256 * row.getD b 0 + row.getD (b + 1) 0, 2)
  | .turn => (128 * s + row.getD b 0, 1)
  | .plain => (row.getD b 0, 1)
def fourV (w : Str) (a : Int) (p : Nat) (s : Int) : List V := [.str w, .int a, .int p, .int s]
def tellF (row : List Int) (p : Nat) (s : Int) (g : Nat × Int) (t : Int × Nat) : List V :=
  if row.length ≤ g.1 then fourV (Str.ofString "end") 0 p s else if t.2 = 0 then fourV (Str.ofString "wrong") 0 (g.1 + 1) g.2 else fourV (Str.ofString "sign") t.1 (g.1 + t.2) g.2
def readF (c : Cd) (row : List Int) (p : Nat) (s : Int) : List V := tellF row p s (goneF c row p s) (signF c row (goneF c row p s).1 (goneF c row p s).2)
theorem readF_shape (c : Cd) (row : List Int) (p : Nat) (s : Int) : ∃ (w : Str) (a : Int) (p' : Nat) (s' : Int), readF c row p s = fourV w a p' s' ∧ PyData.strOk w = true := by
  unfold readF tellF
  split
  · exact ⟨_, _, _, _, rfl, by decide +kernel⟩
  · split
    · exact ⟨_, _, _, _, rfl, by decide +kernel⟩
    · exact ⟨_, _, _, _, rfl, by decide +kernel⟩
/-- two told tuples alike -/
theorem dp_read {K : PySem.W.Frag} {H : Hp} {a b : Addr} {c : Cd} {row : List Int} {p : Nat} {s : Int} (ha : SqT K H a (readF c row p s)) (hb : SqT K H b (readF c row p s)) : ∃ d, Dp K H (.ref a) d ∧ Dp K H (.ref b) d ∧ SeqAt.shaped d = true := by
  obtain ⟨w, x, p', s', e, h⟩ := readF_shape c row p s
  rw [e] at ha hb
  exact ⟨_, dp4 ha, dp4 hb, sh4 h _ _ _⟩
/-! promises -/
def newT (H : Hp) (vs : List V) (Q : VK) : Prop := ∀ (H' : Hp) (q : Addr), H q = none → H' q = some (.tup vs) → Same H H' → Q (.ref q) H'
def spChk : Sp := fun vs H Q _ => ∃ c : Cd, vs = [.str c.w] ∧ ∀ H', Same H H' → Q .non H'
def spBT (K : PySem.W.Frag) : Sp := fun vs H Q _ => ∃ (a : Addr) (row : List Int) (p : Nat) (s : Int), vs = [.ref a, .int p, .int s] ∧ SqL K H a (row.map V.int) ∧ newT H [.int (skipT (row.drop p) p s).1, .int (skipT (row.drop p) p s).2] Q
def spBM (K : PySem.W.Frag) : Sp := fun vs H Q _ => ∃ (a : Addr) (row : List Int) (p : Nat), vs = [.ref a, .int p] ∧ SqL K H a (row.map V.int) ∧ newT H [.int (markW row p).1, .int (markW row p).2] Q
def spGone (K : PySem.W.Frag) : Sp := fun vs H Q _ => ∃ (a : Addr) (row : List Int) (p : Nat) (s : Int) (c : Cd), vs = [.ref a, .int p, .int s, .str c.w] ∧ SqL K H a (row.map V.int) ∧ newT H [.int (goneF c row p s).1, .int (goneF c row p s).2] Q
def spWideAt (K : PySem.W.Frag) : Sp := fun vs H Q _ => ∃ (a : Addr) (row : List Int) (b : Nat) (s : Int), vs = [.ref a, .int b, .int s] ∧ SqL K H a (row.map V.int) ∧ b < row.length ∧ newT H [.int (signF .wide row b s).1, .int (signF .wide row b s).2] Q
def spStepsAt (K : PySem.W.Frag) : Sp := fun vs H Q _ => ∃ (a : Addr) (row : List Int) (b : Nat), vs = [.ref a, .int b] ∧ SqL K H a (row.map V.int) ∧ b < row.length ∧ newT H [.int (stepsAt (row.drop b)).1, .int (stepsAt (row.drop b)).2] Q
def spLead : Sp := fun vs H Q _ => ∃ x : Int, vs = [.int x] ∧ newT H [.int (leadF x).1, .int (leadF x).2] Q
def spStepsW : Sp := fun vs H Q _ => ∃ n : Int, vs = [.int n] ∧ ∀ (H' : Hp) (q : Addr), H q = none → H' q = some (.lst ((stepsW n).map V.int)) → Same H H' → Q (.ref q) H'
def spSignAt (K : PySem.W.Frag) (ok : Cd → Prop) : Sp := fun vs H Q _ => ∃ (a : Addr) (row : List Int) (b : Nat) (s : Int) (c : Cd), vs = [.ref a, .int b, .int s, .str c.w] ∧ ok c ∧ SqL K H a (row.map V.int) ∧ b < row.length ∧ newT H [.int (signF c row b s).1, .int (signF c row b s).2] Q
def spReadS (K : PySem.W.Frag) (ok : Cd → Prop) : Sp := fun vs H Q _ => ∃ (a : Addr) (row : List Int) (p : Nat) (s : Int) (c : Cd), vs = [.ref a, .int p, .int s, .str c.w] ∧ ok c ∧ SqL K H a (row.map V.int) ∧ newT H (readF c row p s) Q
end Sip
namespace Sip
open PySem PySem.Spec PyProof.Rows L2 TL
/-! ### own errors that keep a value -/
/-- __init__(self, f): self.f = f -/
def spErr1 (C : Addr) (f : Str) : Sp := fun vs H Q _ => ∃ (a : Addr) (v : V), vs = [.ref a, v] ∧ H a = some (exo a C none) ∧ ∀ dx, H dx = none → dx ≠ a → Q .non (upd (upd H dx (exd dx [(f, v)])) a (exo a C (some dx)))
/-- what a raise of it asks, once its value stands -/
theorem mk1_fin {C : Addr} {f : Str} {H1 : Hp} {v : V} {Q : XK} (h : ∀ d, H1 d = none → Q (.ref C) (some d) (upd H1 d (.xd [(f, v)]))) :
    [v].length ≤ 1000 ∧ ∀ a, H1 a = none → spErr1 C f (.ref a :: ([v] ++ [])) (upd H1 a (exo a C none))
      (fun v H2 => v = .non ∧ ∃ (d : Addr) (fs : List (Str × V)), H2 a = some (exo a C (some d)) ∧ H2 d = some (exd d fs) ∧ H1 d = none ∧ Q (.ref C) (some d) (upd (del H2 a) d (.xd fs))) (fun _ _ _ => False) := by
  refine ⟨by show 1 ≤ 1000; decide, fun a na => ⟨a, v, rfl, upd_same, fun dx nd ne => ⟨rfl, dx, [(f, v)], upd_same, ?_, ?_, ?_⟩⟩⟩
  · rw [upd_ne ne]; exact upd_same
  · rw [upd_ne ne] at nd; exact nd
  · have nd' : H1 dx = none := by rw [upd_ne ne] at nd; exact nd
    have e : upd (del (upd (upd (upd H1 a (exo a C none)) dx (exd dx [(f, v)])) a (exo a C (some dx))) a) dx (.xd [(f, v)]) = upd H1 dx (.xd [(f, v)]) := by
      funext b
      by_cases hb : b = dx
      · subst hb; rw [upd_same, upd_same]
      · rw [upd_ne hb, upd_ne hb]
        by_cases ha : b = a
        · subst ha; rw [del_same, na]
        · rw [del_ne ha, upd_ne ha, upd_ne hb, upd_ne ha]
    rw [e]
    exact h dx nd'
section
variable {X : Cx}
/-- isinstance(e, c): e is the error that the suite holds, whatever it keeps -/
def rIsO (K : PySem.W.Frag) (cls : Value) (d : Option Addr) (a : Addr) : List V → Hp → VK → Prop := fun xs H Q => ∃ D : Addr, cls = .ref D ∧ ExcC K D ∧ (d = none ∨ ∃ dd fs, d = some dd ∧ H dd = some (.xd fs)) ∧ rIsE K D a xs H Q
theorem inst_of {a D : Addr} {oe : Obj} {d : Option Addr} {H : Hp} {s : Shared} {pins : List (Addr × Obj)} {σ : L2.St} {Y : Cx} (I : Inv Y pins σ H s) (ha : s.heap.get? a = some oe) (hz : Zc (.ref D) d oe) (hf : ∃ vs, oe.data = .fields vs)
    (hd : d = none ∨ ∃ dd fs, d = some dd ∧ H dd = some (.xd fs)) : ∃ od, PySem.W.InstAt s.heap a oe D od := by
  obtain ⟨vs, hv⟩ := hf
  obtain ⟨z1, z2⟩ := hz
  have nc : PySem.W.notCls oe = true := by unfold PySem.W.notCls; rw [hv]
  rcases hd with rfl | ⟨dd, fs, rfl, ed⟩
  · refine ⟨none, ha, z1, nc, ?_⟩
    rw [z2]; trivial
  · have ob : ObjOk Y.prog Y.w H s.heap dd (.xd fs) := I.hok dd _ ed
    obtain ⟨mA, hns, _⟩ := ob
    obtain ⟨od, ho, _⟩ := lookIn_ns hns
    refine ⟨some od, ha, z1, nc, ?_⟩
    rw [z2]; exact ho
theorem call_isO {a : Addr} {oe : Obj} {cls : Value} {d : Option Addr} {pn : List (Addr × Obj)} (hz : Zc cls d oe) (hf : ∃ vs, oe.data = .fields vs) : CallR (X.suite a ((a, oe) :: pn)) (.builtin "isinstance") (rIsO X.K cls d a) := by
  intro pins s σ H xs us Q I r h
  obtain ⟨D, rfl, C, hd, c, cv, b, rfl, hcv, e, q⟩ := h
  obtain ⟨u1, u2, rfl, r1, r2⟩ := vals2 r
  obtain rfl : u1 = Value.ref a := r1
  obtain rfl := hcv _ r2
  obtain ⟨ha, _⟩ := I.pin (a, oe) (List.mem_append_left _ List.mem_cons_self)
  obtain ⟨od, J⟩ := inst_of I ha hz hf hd
  have hcl : (PySem.W.clsIn X.K D).isSome = true := by
    obtain ⟨cd, h1, _⟩ := PySem.W.any_some C.hd
    rw [h1]; rfl
  exact PySem.W.kia_one (PySem.W.kitx_exc hcl C.hg C.hk C.hs C.ha C.hn C.ht C.hm) I.kIn J e (fun z => nomatch z) fun tk => ⟨.bl b, H, I.kept (t' := tk) fun _ _ z => z, rfl, q⟩
/-- e.f of that error -/
def tXf (K : PySem.W.Frag) (f : Str) (a : Addr) (cls : Value) (d : Option Addr) (te : TE) : TE := fun σ H Q => te σ H fun x H1 => ∃ (D dd : Addr) (fs : List (Str × V)) (v : V), x = .ref a ∧ cls = .ref D ∧ ExcC K D ∧ PySem.W.findIn K (.ref D) f = some none ∧ d = some dd ∧ H1 dd = some (.xd fs) ∧ fs.lookup f = some v ∧ Q v H1
theorem pe_xf {f : Str} {a : Addr} {oe : Obj} {cls : Value} {d : Option Addr} {pn : List (Addr × Obj)} {e : Expr} {te : TE} {pos : Pos} (hz : Zc cls d oe) (hf : ∃ vs, oe.data = .fields vs) (he : PE (X.suite a ((a, oe) :: pn)) e te)
    (hb : attributeBase e f X.env (eval e X.env) = eval e X.env := by rfl) : PE (X.suite a ((a, oe) :: pn)) (.Attribute e f pos) (tXf X.K f a cls d te) := by
  refine ⟨fun pins s σ H Q I h => attr_of hb (thn (he.run pins s σ H _ I h) fun u s1 hh => ?_)⟩
  obtain ⟨x, H1, I1, rx, D, dd, fs, v, rfl, rfl, C, no, rfl, ed, lk, q⟩ := hh
  obtain rfl : u = Value.ref a := rx
  obtain ⟨ha, _⟩ := I1.pin (a, oe) (List.mem_append_left _ List.mem_cons_self)
  have ob : ObjOk X.prog X.w H1 s1.heap dd (.xd fs) := I1.hok dd _ ed
  obtain ⟨mA, hns, hr⟩ := ob
  obtain ⟨od, ho, hl⟩ := lookIn_ns hns
  obtain ⟨v', hv', rv⟩ := RelO.some_of (v := v) (o := mA f) (by rw [← lk]; exact hr f)
  obtain ⟨vs, hd⟩ := hf
  have J : PySem.W.InstAt s1.heap a oe D (some od) := by
    refine ⟨ha, hz.1, ?_, ?_⟩
    · unfold PySem.W.notCls; rw [hd]
    · rw [hz.2]; exact ho
  exact HandSPX.exc_get I1.kIn J C.hg C.hk C.hs (PySem.W.findObj_own C.hd no rfl (by rw [hl, hv'])) (handed_of rv) ⟨v, H1, I1.tok _, rv, q⟩
end
/-! ### calls within a try -/
section
variable {X : Cx} {CX : CXT} {k n : Nat} {f : Addr} {fd : FuncData} {ps ks : List Str} {sp : Sp} {E : L2.St → XK} {x : Str} {p pos : Pos} {e : Expr} {es : List Expr} {kws : List Keyword} {t tk : TA} {g : List Value → List Value → List Value} {gV : List V → List V → List V}
def tCallNS (n m : Nat) (sp : Sp) (gV : List V → List V → List V) (E : L2.St → XK) (t tk : TA) : TE := fun σ H Q => t σ H fun vs H1 => tk σ H1 fun zs H2 => vs.length = n ∧ zs.length = m ∧ sp (gV vs zs) H2 Q (E σ)
theorem pe_callNS (F : FnOk X.prog X.w X.K X.mg X.base CX k f fd ps sp) (hr : Room k X.A) (hg : Gl X x) (hm : X.mg x = some (.ref f)) (hk : PySem.W.keepIn X.K (.ref f) = true) (hb : KBn X.K fd ps n ks g gV) (hx : ∀ σ, PassesAt CX X σ (E σ))
    (ha : PA X (e :: es) t) (hkw : PK X kws tk) (hall : (backToKw pos (keywordEach kws X.env)).all (·.1.isSome) = true := by rfl) (hks : (backToKw pos (keywordEach kws X.env)).filterMap (·.1) = ks := by rfl)
    (hdb : (x == ("__debug__" : Str)) = false := by decide) (he : starEach (e :: es) X.env = (false, eval e X.env) :: starEach es X.env := by rfl)
    (hpl : ((backTo pos (starEach (e :: es) X.env)).any (·.1) || (backToKw pos (keywordEach kws X.env)).any (·.1.isNone)) = false := by rfl) :
    PE X (.Call (.Name x p) (e :: es) kws pos) (tCallNS n ks.length sp gV E t tk) := by
  refine ⟨fun pins s σ H Q I h => wpAny_Call_Name_kw (ld_glob I hg hm ?_ hdb)⟩
  refine PySem.W.callWith_KW (h₀ := X.base) I.ok.mod.kin hk hall (thn (ha.run pos pins s σ H _ I h) fun us s1 ⟨vs, H1, I1, r, q⟩ => ?_) hpl he
  refine thn (hkw.run pos pins s1 σ H1 _ I1 q) fun ws s2 w2 => ?_
  obtain ⟨zs, H2, I2, rz, l1, l2, q2⟩ := w2
  refine ⟨I2.kIn, ?_⟩
  rw [hks]
  have bt := hb.to s2 us ws I2.kIn (r.length.symm.trans l1) (rz.length.symm.trans l2)
  refine wpAny_call (codeAny_mono (F.run X.A X.stack s2 H2 ⟨us, ks.zip ws⟩ (g us ws) (gV vs zs) Q (E σ) hr I2.env0 bt (hb.rel r rz) q2) fun out s' hq => ?_)
  match out, hq with
  | .error e, hq => exact hx σ pins H2 s2 e s' I2 hq
  | .ok (.ret u), hq => exact I2.after hq
  | .ok .next, hq => exact hq.elim
  | .ok .brk, hq => exact hq.elim
  | .ok .cont, hq => exact hq.elim
end
/-- a raising callee within a def that lets the error out -/
theorem passX {X : Cx} {E : XK} (tk : Takes X (fun cls d _ H => E cls d H)) : Passes (L2.CX X.prog X.w) X E := fun pins σ H s e s' I c => passes_call tk (fun _ _ _ _ h => h) pins σ H s e s' I c
end Sip
namespace Sip
open PySem PySem.Spec PyProof.Rows L2 TL
theorem kit_ownF {K : PySem.W.Frag} {C S : Addr} (h1 : PySem.W.isClsIn K S = true) (h2 : PySem.W.typeIn K (.ref S) = some (.type "type")) (h0 : PySem.W.subIn K (.ref C) (.ref C) = some true) (h3 : PySem.W.subIn K (.ref C) (.ref S) = some false) : PySem.W.kitOne K (.ref C) (.ref S) = some false := by
  have ne : C ≠ S := fun z => by
    rw [z] at h0 h3
    rw [h0] at h3
    cases h3
  have a : ((PySem.W.clsIn K S).isSome && PySem.W.typeIn K (.ref S) == some (.type "type")) = true := by
    have h1' : (PySem.W.clsIn K S).isSome = true := h1
    rw [h1', h2]; rfl
  unfold PySem.W.kitOne PySem.W.kitCls
  split
  · next h =>
    exfalso
    exact ne (by simpa using h)
  · exact (if_pos a).trans h3
/-- the written class of an own error straight beneath S -/
def IsExcObj (K : PySem.W.Frag) (C S : Addr) : Prop := ∃ nm q N bs bm sn sub ab col dd k0 k1 k2 k3 k5, K.lookup C = some (excClassObj nm q C N bs bm true sn sub ab col dd k0 k1 k2 k3 k5 "ValueError.__new__") ∧ PySem.HandSPX.refsVE bm = true
end Sip
/-! several except clauses, some with a name -/
namespace Sip
open PySem PySem.Spec PyProof.Rows L2 TL
/-- a clause: its class, the slot of its name, its suite -/
abbrev Cl := Value × Option Nat × (Addr → Value → Option Addr → TS)
/-- behind a suite its name is gone -/
def offD (i : Nat) (D : Ends) : Ends where
  nx := fun σ H => D.nx (σ.set i none) H
  rt := D.rt
  bk := fun σ H => D.bk (σ.set i none) H
  ct := fun σ H => D.ct (σ.set i none) H
def suiteW (D : Ends) (ts : Addr → Value → Option Addr → TS) (cls : Value) (d : Option Addr) (σ : L2.St) (H : Hp) (a : Addr) : Option Nat → Prop
  | none => ts a cls d D σ H
  | some i => ts a cls d (offD i D) (σ.set i (some (.ref a))) H
def wMix (K : PySem.W.Frag) (Wo : WX) (D : Ends) : List Cl → WX
  | [] => Wo
  | (c, o, ts) :: r => fun cls d σ H => ∃ b, PySem.W.exmOne K cls c = some b ∧ (b = true → ∀ a, H a = none → suiteW D ts cls d σ H a o) ∧ (b = false → wMix K Wo D r cls d σ H)
/-- the slot of a clause's name -/
def AsOk (X : Cx) : Option Str → Option Nat → Prop
  | none, none => True
  | some n, some i => X.N.Nodup ∧ X.N[i]? = some n ∧ X.env.kindOf n = some .local
  | _, _ => False
abbrev SuiteOk (X : Cx) (su : List Stmt) (ts : Addr → Value → Option Addr → TS) : Prop := ∀ (a : Addr) (oe : Obj) (cls : Value) (d : Option Addr) (pn : List (Addr × Obj)), Zc cls d oe → (∃ vs, oe.data = .fields vs) → PSs (X.suite a ((a, oe) :: pn)) su (ts a cls d)
inductive ClsOk (X : Cx) : List ExceptHandler → List Cl → Prop
  | nil : ClsOk X [] []
  | cons {x : Str} {c : Value} {nm : Option Str} {o : Option Nat} {ts : Addr → Value → Option Addr → TS} {st : Stmt} {su : List Stmt} {q1 q2 : Pos} {hs : List ExceptHandler} {l : List Cl} (hc : Names X x c) (ha : AsOk X nm o) (hsu : SuiteOk X (st :: su) ts) (r : ClsOk X hs l) :
      ClsOk X (.ExceptHandler (some (.Name x q1)) nm (st :: su) q2 :: hs) ((c, o, ts) :: l)
/-- an error that has come to the clauses of a try -/
structure Caught (X : Cx) (pins : List (Addr × Obj)) (a : Addr) (B : Heap) (sI s1 : Shared) (h3 : Heap) (σ : L2.St) (H : Hp) (cls : Value) (d : Option Addr) : Prop where
  ok : X.Ok
  stk : X.stack = X.env :: X.outer
  frm : X.env.frame = some X.env.locals
  inv : Inv X pins σ H sI
  nb : ∀ b o, sI.heap.get? b = some o → b ∉ frs X.stack → B.get? b = some o
  up : sI.heap.UpToSlots h3
  fl : HandSPX.FlyingZ B (X.env :: X.outer) a (Zc cls d) h3
  na : H a = none
  nL : a ≠ X.env.locals
  nF : a ∉ X.fs
  os : s1.os = sI.os
  ag : AllBare s1.gens
section
variable {X : Cx} {pins : List (Addr × Obj)} {a : Addr} {B : Heap} {sI s1 : Shared} {h3 : Heap} {σ : L2.St} {H : Hp} {cls : Value} {d : Option Addr} {D : Ends} {Wo : WX}
theorem Caught.at (C : Caught X pins a B sI s1 h3 σ H cls d) {h4 : Heap} (f : HandSPX.FlyingZ B (X.env :: X.outer) a (Zc cls d) h4) (u : h3.UpToSlots h4) : Inv X pins σ H { s1 with heap := h4 } :=
  C.inv.landed (s' := { s1 with heap := h4 }) (by have := C.nb; exact this) f.1 (C.up.trans u) C.os C.ag
/-- no clause takes it -/
theorem Caught.none (C : Caught X pins a B sI s1 h3 σ H cls d) (tk : Takes X Wo) (w : Wo cls d σ H) : wpAny (model X.prog X.w) X.A (handleBy (.ref a) X.env []) (SP X pins D) X.xe { s1 with heap := h3 } := by
  have C2 := C
  obtain ⟨_, _, _, _, _, T, _, _, he, _, hd, h1, _⟩ := C2.fl
  have go : wpAny (model X.prog X.w) X.A (setFlight (.ref a) X.env.frame) (fun _ s4 => wpAny (model X.prog X.w) X.A (throw (.ref a) : Sem Flow) (SP X pins D) X.xe s4) X.xe { s1 with heap := h3 } := by
    rw [C.frm]
    exact HandSPX.setFlight_upZ C.fl fun h4 held u4 => wpAny_throw (tk _ _ ⟨a, B, sI, pins, σ, H, cls, d, rfl, C.inv, C.nb, C.up.trans u4, .inr (.inr (by rw [C.stk]; exact held)), C.na, C.os, C.ag, w⟩)
  refine wpAny_handleBy_nil ?_
  unfold PySem.passOn
  refine wpAny_bind (wpAny_field he hd h1 ?_)
  have nn : ¬ ((Value.ref T == Value.none) = true) := by simp
  rw [if_neg nn]
  first | exact wpAny_bind (wpAny_pure (wpAny_bind go)) | exact wpAny_bind go
theorem caught_go (C : Caught X pins a B sI s1 h3 σ H cls d) (tk : Takes X Wo) : ∀ {hs : List ExceptHandler} {l : List Cl}, ClsOk X hs l → wMix X.K Wo D l cls d σ H → wpAny (model X.prog X.w) X.A (handleBy (.ref a) X.env hs) (SP X pins D) X.xe { s1 with heap := h3 } := by
  intro hs l hk
  induction hk with
  | nil => exact fun w => C.none tk w
  | @cons x c nm o ts st su q1 q2 hs2 l2 hc ha hsu r ih =>
    rintro ⟨b, hb, yes, no⟩
    have J3 := C.at C.fl (Heap.UpToSlots.refl _)
    obtain ⟨oe, vs, he, hz, hd⟩ := C.fl.there
    have S3 := J3.suite he hd C.na C.nL C.nF
    refine wpAny_handleBy_cons (codeAny_handlers_test ?_) (by intro q; cases q)
    have knows : PySem.W.Looks (model X.prog X.w) h3 (typeOf (.ref a)) cls := fun _ _ _ _ k q => wpAny_typeOf_ref (k _ _ he) (by rw [hz.1]; exact q)
    have look := PySem.W.exm_one (M := model X.prog X.w) J3.kIn knows hb
    have named : ∀ {Q E : Value → Shared → Prop}, Q c { s1 with heap := h3 } → wpAny (model X.prog X.w) (X.A.mark (some (.ref a))) (eval (.Name x q1) X.env) Q E { s1 with heap := h3 } := fun q => by
      rcases hc with ⟨g1, g2, m1 | ⟨m1, m2, m3⟩⟩
      · exact ld_glob (X := X.suite a ((a, oe) :: (X.pn ++ pins))) S3 g1 m1 q g2
      · exact ld_blt (X := X.suite a ((a, oe) :: (X.pn ++ pins))) S3 g1 m1 m2 q m3 g2
    refine named (look.here ?_)
    cases b with
    | false => exact ih (no rfl)
    | true =>
      cases nm with
      | none =>
        cases o with
        | some i => exact ha.elim
        | none =>
          refine codeAny_handlers_suite (HandSPX.lands_againZ C.fl fun h4 f4 u4 => ?_)
          obtain ⟨oe4, _, e4, z4, d4⟩ := f4.there
          have S4 := (C.at f4 u4).suite e4 d4 C.na C.nL C.nF
          refine wpAny_mono ((hsu a oe4 cls d (X.pn ++ pins) z4 ⟨_, d4⟩).run [] _ _ H _ S4 (yes rfl a C.na)) (fun f s6 hp => ?_) fun _ _ z => z.elim
          match f, hp with
          | .next, ⟨_, _, S6, q6⟩ => exact ⟨_, _, S6.unsuite C.ok, q6⟩
          | .brk, ⟨_, _, S6, q6⟩ => exact ⟨_, _, S6.unsuite C.ok, q6⟩
          | .cont, ⟨_, _, S6, q6⟩ => exact ⟨_, _, S6.unsuite C.ok, q6⟩
          | .ret _, ⟨_, _, _, S6, r6, q6⟩ => exact ⟨_, _, _, S6.unsuite C.ok, r6, q6⟩
      | some n =>
        cases o with
        | none => exact ha.elim
        | some i =>
          obtain ⟨hN, hi, hl⟩ := ha
          refine codeAny_handlers_suite_as (HandSPX.lands_againZ C.fl fun h4 f4 u4 => ?_)
          obtain ⟨oe4, _, e4, z4, d4⟩ := f4.there
          have S4 := (C.at f4 u4).suite e4 d4 C.na C.nL C.nF
          refine store_ok (X := X.suite a ((a, oe4) :: (X.pn ++ pins))) (v := .ref a) S4 hN hi (.inl hl) rfl (fun s5 S5 => ?_) (.inr hl)
          refine wpAny_mono ((hsu a oe4 cls d (X.pn ++ pins) z4 ⟨_, d4⟩).run [] s5 _ H _ S5 (yes rfl a C.na)) (fun f s6 hp => ?_) fun _ _ z => z.elim
          have off : ∀ {σ6 : L2.St} {H6 : Hp} {Q : Shared → Prop}, Inv (X.suite a ((a, oe4) :: (X.pn ++ pins))) [] σ6 H6 s6 → (∀ s7, Inv X pins (σ6.set i none) H6 s7 → Q s7) → wpAny (model X.prog X.w) X.A (do bindName X.env n .none; unbindBehindTheSuite X.env n q2) (fun _ s7 => Q s7) X.xe s6 :=
            fun S6 hq => gone_ok (S6.unsuite C.ok) hN hi hl hq
          match f, hp with
          | .next, ⟨_, _, S6, q6⟩ => exact off S6 fun _ J7 => ⟨_, _, J7, q6⟩
          | .brk, ⟨_, _, S6, q6⟩ => exact off S6 fun _ J7 => ⟨_, _, J7, q6⟩
          | .cont, ⟨_, _, S6, q6⟩ => exact off S6 fun _ J7 => ⟨_, _, J7, q6⟩
          | .ret _, ⟨_, _, _, S6, r6, q6⟩ => exact off S6 fun _ J7 => ⟨_, _, _, J7, r6, q6⟩
/-- try: .. except X: .. except Y as n: .. -/
theorem ps_try_mix {body : List Stmt} {h0 : ExceptHandler} {hs : List ExceptHandler} {l : List Cl} {pos : Pos} {tb : WX → TS} (stk : X.stack = X.env :: X.outer) (frm : X.env.frame = some X.env.locals) (tk : Takes X Wo)
    (hb : ∀ (W : WX) (pn : List (Addr × Obj)) (xe : Value → Shared → Prop), Takes (X.tr pn xe) W → PassesOwn (model X.prog X.w) X.A X.env xe → PSs (X.tr pn xe) body (tb W)) (hh : ClsOk X (h0 :: hs) l) :
    PS X (.Try body (h0 :: hs) [] [] pos) (fun D σ H => tb (wMix X.K Wo D l) D σ H) := by
  refine ⟨fun pins s σ H D I h => wpAny_Try_except ?_⟩
  have ok := I.ok
  have fr : X.A.frames = some (X.env :: X.outer) := by rw [ok.frames, stk]
  have run := (hb (wMix X.K Wo D l) (X.pn ++ pins) (fun e t1 => wpAny (model X.prog X.w) X.A (noteFrame e X.env) (fun _ t2 => wpAny (model X.prog X.w) X.A (setFlight e none) (fun _ t3 => wpAny (model X.prog X.w) X.A (handleBy e X.env (h0 :: hs)) (SP X pins D) X.xe t3) X.xe t2) X.xe t1) ?_ PassesOwn.looking).run [] s σ H D (I.toTry _) h
  · refine wpAny_mono run (fun f s1 hp => ?_) fun _ _ he => he
    match f, hp with
    | .next, ⟨_, _, J, q⟩ => exact wpAny_execs_nil ⟨_, _, J.ofTry ok, q⟩
    | .brk, ⟨_, _, J, q⟩ => exact ⟨_, _, J.ofTry ok, q⟩
    | .cont, ⟨_, _, J, q⟩ => exact ⟨_, _, J.ofTry ok, q⟩
    | .ret _, ⟨_, _, _, J, r, q⟩ => exact ⟨_, _, _, J.ofTry ok, r, q⟩
  · rintro u s1 ⟨a, B, sI, pins2, σ2, H2, cls, d, rfl, J2, nb, up, sky, na, os, ag, w⟩
    have sky2 : Sky B (X.env :: X.outer) a (Zc cls d) X.env.locals s1.heap := by rw [← stk]; exact sky
    refine Sky.land Zc.steady fr frm sky2 fun h3 f3 u3 => ?_
    obtain ⟨oe, vs, he, _, hd⟩ := f3.there
    have far : a ∉ frs (X.env :: X.outer) := fun m => by
      obtain ⟨_, o2, e2, nf⟩ := f3.2.2.1.mem m
      rw [he] at e2; cases e2
      exact nf _ hd
    have nL : a ≠ X.env.locals := fun z => far (List.mem_filterMap.mpr ⟨X.env, List.mem_cons_self, by rw [frm, z]⟩)
    have nF : a ∉ X.fs := fun m => by
      obtain ⟨e, h1, h2⟩ := List.mem_filterMap.mp m
      exact far (List.mem_filterMap.mpr ⟨e, List.mem_cons_of_mem _ h1, h2⟩)
    exact caught_go ⟨ok, stk, frm, J2.ofTry ok, nb, up.trans u3, f3, na, nL, nF, os, ag⟩ tk hh w
end
/-- a promise that raises nothing, where one that may raise is asked; two promises of one def -/
theorem FnOk.lift {P : Program} {w : World} {K : PySem.W.Frag} {mg : Str → Option Value} {base : Heap} {CX : CXT} {k : Nat} {f : Addr} {fd : FuncData} {ps : List Str} {sp : Sp} (F : FnOk P w K mg base CX0 k f fd ps sp) : FnOk P w K mg base CX k f fd ps sp :=
  ⟨F.len, fun A outer s H args us vs Q E hr he hb hv h => codeAny_mono (F.run A outer s H args us vs Q E hr he hb hv h) fun r s2 q => match r, q with
    | .ok (.ret _), q => q⟩
theorem FnOk.or {P : Program} {w : World} {K : PySem.W.Frag} {mg : Str → Option Value} {base : Heap} {CX : CXT} {k : Nat} {f : Addr} {fd : FuncData} {ps : List Str} {sp sq : Sp} (F : FnOk P w K mg base CX k f fd ps sp) (G : FnOk P w K mg base CX k f fd ps sq) :
    FnOk P w K mg base CX k f fd ps (fun vs H Q E => sp vs H Q E ∨ sq vs H Q E) :=
  ⟨fun vs H Q E h => h.elim (F.len vs H Q E) (G.len vs H Q E), fun A outer s H args us vs Q E hr he hb hv h => h.elim (F.run A outer s H args us vs Q E hr he hb hv) (G.run A outer s H args us vs Q E hr he hb hv)⟩
end Sip
/-! classes that stand upon another one: a base's def called by its name; a try whose body raises nothing -/
namespace Sip
open PySem PySem.Spec PyProof.Rows L2 TL
/-- C.m(e, ..) where C is a class and m a def of it -/
def tCfn (C : Addr) (sp : Sp) (dvs : List V) (E : XK) (ta : TE) (t : TA) : TE := fun σ H Q => ta σ H fun x H1 => x = .ref C ∧ t σ H1 fun vs H2 => sp (vs ++ dvs) H2 Q E
section
variable {X : Cx} {CX : CXT} {k n : Nat} {f C : Addr} {mc : Value} {fd : FuncData} {ps ks : List Str} {sp : Sp} {E : XK} {m : Str} {apos pos : Pos} {o e : Expr} {es : List Expr} {ta : TE} {t : TA} {dvs : List V} {ds : List Value}
theorem pe_cfn {pl : Sem Bool} (he : PE X o ta) (r : ClX.CRead X.K C mc) (at_ : PySem.W.findCls X.K (.ref C) mc m = some (.val (.ref f))) (hk : PySem.W.keepIn X.K (.ref f) = true) (F : FnOk X.prog X.w X.K X.mg X.base CX k f fd ps sp) (hr : Room k X.A) (hb : Binds X.K fd ps ds) (hd : Vals dvs ds) (hx : Passes CX X E) (ha : PA X (e :: es) t)
    (hst : starEach (e :: es) X.env = (false, eval e X.env) :: starEach es X.env := by rfl) (hpl : ((backTo pos (starEach es X.env)).any (·.1)) = false := by rfl)
    (ht : eval (.Call (.Attribute o m apos) (e :: es) [] pos) X.env = (do
      let ov ← eval o X.env
      standAt apos.atName
      let (f, first) ← holding [ov] (getMethod ov m pl)
      callWith pos f first (backTo pos (starEach (e :: es) X.env)) (backToKw pos (keywordEach [] X.env))) := by rfl) :
    PE X (.Call (.Attribute o m apos) (e :: es) [] pos) (tCfn C sp dvs E ta t) := by
  refine ⟨fun pins s σ H Q I h => ?_⟩
  refine PySem.W.methodCall_KW (pl := pl) (thn (he.run pins s σ H _ I h) fun u s1 ⟨x, H1, I1, rx, ex, q⟩ => ?_) ht
  subst ex
  obtain rfl : u = Value.ref C := rx
  refine PySem.W.method_cls I1.kIn r.ga (PySem.W.cls_value I1.kIn r.rd at_ rfl ?_)
  refine PySem.W.callWith_K (h₀ := X.base) I.ok.mod.kin hk (thn (ha.run pos pins _ σ H1 _ (I1.tok _) q) fun us s2 ⟨vs, H2, I2, rv, q2⟩ => ⟨I2.kIn, ?_⟩) hst hpl
  exact run_fn F hr hb hd hx I2 rv q2
end
section
variable {X : Cx}
/-- try: .. except C: .. where nothing is raised -/
theorem ps_try_calm {body : List Stmt} {h0 : ExceptHandler} {hs : List ExceptHandler} {pos : Pos} {tb : TS}
    (hb : ∀ (pn : List (Addr × Obj)) (xe : Value → Shared → Prop), PassesOwn (model X.prog X.w) X.A X.env xe → PSs (X.tr pn xe) body tb) :
    PS X (.Try body (h0 :: hs) [] [] pos) tb := by
  refine ⟨fun pins s σ H D I h => wpAny_Try_except ?_⟩
  have ok := I.ok
  have run := (hb (X.pn ++ pins) (fun e t1 => wpAny (model X.prog X.w) X.A (noteFrame e X.env) (fun _ t2 => wpAny (model X.prog X.w) X.A (setFlight e none) (fun _ t3 => wpAny (model X.prog X.w) X.A (handleBy e X.env (h0 :: hs)) (SP X pins D) X.xe t3) X.xe t2) X.xe t1) PassesOwn.looking).run [] s σ H D (I.toTry _) h
  refine wpAny_mono run (fun f s1 hp => ?_) fun _ _ he => he
  match f, hp with
  | .next, ⟨_, _, J, q⟩ => exact wpAny_execs_nil ⟨_, _, J.ofTry ok, q⟩
  | .brk, ⟨_, _, J, q⟩ => exact ⟨_, _, J.ofTry ok, q⟩
  | .cont, ⟨_, _, J, q⟩ => exact ⟨_, _, J.ofTry ok, q⟩
  | .ret _, ⟨_, _, _, J, r, q⟩ => exact ⟨_, _, _, J.ofTry ok, r, q⟩
end
end Sip
namespace Sip
open PySem PySem.Spec PyProof.Rows L2 TL
/-- o.m() where o is of one of two classes -/
def tMethOr (C1 C2 : Addr) (m : Str) (sp1 sp2 : Sp) (d1 d2 : List V) (E : XK) (ta : TE) : TE := fun σ H Q => ta σ H fun x H1 =>
  (∃ a dx fs, x = .ref a ∧ H1 a = some (.ins C1 dx fs) ∧ fs.lookup m = none ∧ sp1 (x :: d1) H1 Q E) ∨ ∃ a dx fs, x = .ref a ∧ H1 a = some (.ins C2 dx fs) ∧ fs.lookup m = none ∧ sp2 (x :: d2) H1 Q E
section
variable {X : Cx} {CX : CXT} {k1 k2 : Nat} {f1 f2 C1 C2 : Addr} {fd1 fd2 : FuncData} {ps1 ps2 : List Str} {sp1 sp2 : Sp} {E : XK} {m : Str} {apos pos : Pos} {o : Expr} {ta : TE} {dv1 dv2 : List V} {ds1 ds2 : List Value}
theorem pe_meth0or {pl : Sem Bool} (he : PE X o ta) (c1 : Cls X.K C1) (m1 : Meth X.K C1 m f1) (F1 : FnOk X.prog X.w X.K X.mg X.base CX k1 f1 fd1 ps1 sp1) (r1 : Room k1 X.A) (b1 : Binds X.K fd1 ps1 ds1) (h1 : Vals dv1 ds1)
    (c2 : Cls X.K C2) (m2 : Meth X.K C2 m f2) (F2 : FnOk X.prog X.w X.K X.mg X.base CX k2 f2 fd2 ps2 sp2) (r2 : Room k2 X.A) (b2 : Binds X.K fd2 ps2 ds2) (h2 : Vals dv2 ds2) (hx : Passes CX X E)
    (ht : eval (.Call (.Attribute o m apos) [] [] pos) X.env = (do
      let ov ← eval o X.env
      standAt apos.atName
      let (f, first) ← holding [ov] (getMethod ov m pl)
      callWith pos f first (backTo pos (starEach [] X.env)) (backToKw pos (keywordEach [] X.env))) := by rfl) :
    PE X (.Call (.Attribute o m apos) [] [] pos) (tMethOr C1 C2 m sp1 sp2 dv1 dv2 E ta) := by
  refine ⟨fun pins s σ H Q I h => ?_⟩
  refine PySem.W.methodCall_KW (pl := pl) (thn (he.run pins s σ H _ I h) fun u s1 ⟨x, H1, I1, rx, q⟩ => ?_) ht
  rcases q with ⟨a, dx, fs, ex, ea, l, q⟩ | ⟨a, dx, fs, ex, ea, l, q⟩
  · subst ex
    obtain rfl : u = Value.ref a := rx
    refine getmeth_ok I1 ea c1 m1 l ?_
    refine PySem.W.callWith_K0 (first := [.ref a]) I1.kIn m1.kp ?_
    exact run_fn (us := [.ref a]) (vs := [.ref a]) F1 r1 b1 h1 hx I1 (.cons rfl .nil) q
  · subst ex
    obtain rfl : u = Value.ref a := rx
    refine getmeth_ok I1 ea c2 m2 l ?_
    refine PySem.W.callWith_K0 (first := [.ref a]) I1.kIn m2.kp ?_
    exact run_fn (us := [.ref a]) (vs := [.ref a]) F2 r2 b2 h2 hx I1 (.cons rfl .nil) q
end
end Sip
/-! the notes of a raw; a pipe with its two ends -/
namespace Sip
open PySem PySem.Spec PyProof.Rows L2 TL
/-- a thing that a note holds -/
inductive Tg
  | i (n : Int) | s (w : Str) | l (xs : List Int)
structure Nt where
  w : Str
  p : Nat
  h : Tg
  c : Tg
def tgOk : Tg → Prop
  | .s w => PyData.strOk w = true
  | _ => True
def NtOk (n : Nt) : Prop := PyData.strOk n.w = true ∧ tgOk n.h ∧ tgOk n.c
def TgAt (H : Hp) (G : Addr → Prop) (v : V) : Tg → Prop
  | .i n => v = .int n
  | .s w => v = .str w
  | .l xs => ∃ a, v = .ref a ∧ G a ∧ H a = some (.lst (xs.map V.int))
def NtAt (H : Hp) (G : Addr → Prop) (v : V) (n : Nt) : Prop := ∃ t hv cv, v = .ref t ∧ G t ∧ H t = some (.tup [.str n.w, .int n.p, hv, cv]) ∧ TgAt H G hv n.h ∧ TgAt H G cv n.c ∧ NtOk n
def Nts (H : Hp) (G : Addr → Prop) : List V → List Nt → Prop
  | [], [] => True
  | v :: vs, n :: ns => NtAt H G v n ∧ Nts H G vs ns
  | _, _ => False
theorem TgAt.keep {H H' : Hp} {G G' : Addr → Prop} {v : V} {t : Tg} (h : TgAt H G v t) (k : ∀ b o, G b → H b = some o → H' b = some o) (g : ∀ b, G b → G' b) : TgAt H' G' v t := by
  cases t with
  | i n => exact h
  | s w => exact h
  | l xs => obtain ⟨a, e, ga, ha⟩ := h; exact ⟨a, e, g a ga, k a _ ga ha⟩
theorem NtAt.keep {H H' : Hp} {G G' : Addr → Prop} {v : V} {n : Nt} (h : NtAt H G v n) (k : ∀ b o, G b → H b = some o → H' b = some o) (g : ∀ b, G b → G' b) : NtAt H' G' v n := by
  obtain ⟨t, hv, cv, e, gt, ht, a, b, c⟩ := h
  exact ⟨t, hv, cv, e, g t gt, k t _ gt ht, a.keep k g, b.keep k g, c⟩
theorem Nts.keep {H H' : Hp} {G G' : Addr → Prop} (k : ∀ b o, G b → H b = some o → H' b = some o) (g : ∀ b, G b → G' b) : ∀ {vs : List V} {ns : List Nt}, Nts H G vs ns → Nts H' G' vs ns
  | [], [], _ => trivial
  | v :: vs, n :: ns, ⟨a, b⟩ => ⟨a.keep k g, Nts.keep k g b⟩
theorem Nts.snoc {H : Hp} {G : Addr → Prop} {v : V} {n : Nt} (h : NtAt H G v n) : ∀ {vs : List V} {ns : List Nt}, Nts H G vs ns → Nts H G (vs ++ [v]) (ns ++ [n])
  | [], [], _ => ⟨h, trivial⟩
  | v :: vs, n :: ns, ⟨a, b⟩ => ⟨a, Nts.snoc h b⟩
theorem Nts.len {H : Hp} {G : Addr → Prop} : ∀ {vs : List V} {ns : List Nt}, Nts H G vs ns → vs.length = ns.length
  | [], [], _ => rfl
  | v :: vs, n :: ns, ⟨a, b⟩ => congrArg (· + 1) (Nts.len b)
theorem Nts.at {H : Hp} {G : Addr → Prop} : ∀ {vs : List V} {ns : List Nt} {i : Nat} {v : V}, Nts H G vs ns → vs[i]? = some v → ∃ n, ns[i]? = some n ∧ NtAt H G v n
  | v :: vs, n :: ns, 0, x, ⟨a, b⟩, e => by cases e; exact ⟨n, rfl, a⟩
  | v :: vs, n :: ns, i + 1, x, ⟨a, b⟩, e => by
    obtain ⟨m, h1, h2⟩ := Nts.at b (i := i) (v := x) (by simpa using e)
    exact ⟨m, by simpa using h1, h2⟩
def tgD : Tg → PyData
  | .i n => .int n
  | .s w => .str w
  | .l xs => .list (xs.map .int)
def ntD (n : Nt) : PyData := .tuple [.str n.w, .int n.p, tgD n.h, tgD n.c]
def ntsD (ns : List Nt) : PyData := .list (ns.map ntD)
theorem TgAt.dp {K : PySem.W.Frag} {H : Hp} {G : Addr → Prop} {v : V} {t : Tg} (h : TgAt H G v t) : Dp K H v (tgD t) := by
  cases t with
  | i n => cases (show v = _ from h); exact .int _
  | s w => cases (show v = _ from h); exact .str _
  | l xs => obtain ⟨a, e, ga, ha⟩ := h; subst e; exact dp_lst (sq_at ha)
theorem NtAt.dp {K : PySem.W.Frag} {H : Hp} {G : Addr → Prop} {v : V} {n : Nt} (h : NtAt H G v n) : Dp K H v (ntD n) := by
  obtain ⟨t, hv, cv, e, gt, ht, a, b, c⟩ := h
  subst e
  exact .tup (.inl (.inl ht)) (.cons (.str _) (.cons (.int _) (.cons a.dp (.cons b.dp .nil))))
theorem Nts.dpA {K : PySem.W.Frag} {H : Hp} {G : Addr → Prop} : ∀ {vs : List V} {ns : List Nt}, Nts H G vs ns → DpAll K H vs (ns.map ntD)
  | [], [], _ => .nil
  | v :: vs, n :: ns, ⟨a, b⟩ => .cons a.dp b.dpA
theorem Nts.dp {K : PySem.W.Frag} {H : Hp} {G : Addr → Prop} {vs : List V} {ns : List Nt} {q : Addr} (h : Nts H G vs ns) (e : H q = some (.lst vs)) : Dp K H (.ref q) (ntsD ns) := .lst (sq_at e) h.dpA
theorem tg_lay {t : Tg} (h : tgOk t) : (tgD t).canLay0 = true := by
  cases t with
  | i n => rfl
  | s w => exact h
  | l xs =>
    show PyData.canLayAll0 (xs.map PyData.int) = true
    exact lay_ints xs
theorem ints_depth : ∀ xs : List Int, PyData.depthAll (xs.map PyData.int) = 0
  | [] => rfl
  | x :: xs => by
    show max (PyData.depth (.int x)) (PyData.depthAll (xs.map PyData.int)) = 0
    rw [ints_depth xs]; rfl
theorem tg_depth (t : Tg) : (tgD t).depth ≤ 1 := by
  cases t with
  | i n => exact Nat.zero_le _
  | s w => exact Nat.zero_le _
  | l xs =>
    show PyData.depthAll (xs.map PyData.int) + 1 ≤ 1
    rw [ints_depth]; exact Nat.le_refl _
theorem nt_lay {n : Nt} (h : NtOk n) : (ntD n).canLay0 = true := by
  obtain ⟨a, b, c⟩ := h
  show PyData.canLayAll0 [.str n.w, .int n.p, tgD n.h, tgD n.c] = true
  simp [PyData.canLayAll0, PyData.canLay0, a, tg_lay b, tg_lay c]
theorem nt_depth (n : Nt) : (ntD n).depth ≤ 2 := by
  show PyData.depthAll [.str n.w, .int n.p, tgD n.h, tgD n.c] + 1 ≤ 2
  have h := tg_depth n.h
  have c := tg_depth n.c
  simp [PyData.depthAll, PyData.depth]
  omega
theorem nts_lay : ∀ {ns : List Nt}, (∀ n ∈ ns, NtOk n) → PyData.canLayAll0 (ns.map ntD) = true ∧ PyData.depthAll (ns.map ntD) ≤ 2
  | [], _ => ⟨rfl, Nat.zero_le _⟩
  | n :: ns, h => by
    obtain ⟨a, b⟩ := nts_lay (ns := ns) (fun m hm => h m (List.mem_cons_of_mem _ hm))
    refine ⟨?_, ?_⟩
    · show ((ntD n).canLay0 && PyData.canLayAll0 (ns.map ntD)) = true
      rw [nt_lay (h n List.mem_cons_self), a]; rfl
    · show max (ntD n).depth (PyData.depthAll (ns.map ntD)) ≤ 2
      have := nt_depth n
      omega
theorem Nts.ok {H : Hp} {G : Addr → Prop} : ∀ {vs : List V} {ns : List Nt}, Nts H G vs ns → ∀ n ∈ ns, NtOk n
  | [], [], _, n, h => nomatch h
  | v :: vs, m :: ns, ⟨a, b⟩, n, h => by
    rcases List.mem_cons.mp h with e | e
    · subst e; obtain ⟨_, _, _, _, _, _, _, _, c⟩ := a; exact c
    · exact Nts.ok b n e
theorem two_nts {a b : List Nt} (ha : ∀ n ∈ a, NtOk n) (hb : ∀ n ∈ b, NtOk n) : SeqAt.shaped (.list [ntsD a, ntsD b]) = true := by
  obtain ⟨a1, a2⟩ := nts_lay ha
  obtain ⟨b1, b2⟩ := nts_lay hb
  unfold SeqAt.shaped
  have e1 : (ntsD a).canLay0 = true := a1
  have e2 : (ntsD b).canLay0 = true := b1
  have d1 : (ntsD a).depth ≤ 3 := Nat.succ_le_succ a2
  have d2 : (ntsD b).depth ≤ 3 := Nat.succ_le_succ b2
  simp [PyData.canLay0, PyData.canLayAll0, PyData.depth, PyData.depthAll, e1, e2]
  omega
/-! ### the pipe -/
structure Pst where
  R : Nat
  ws : List Int
  si : Nat
  so : Nat
  bi : Bool
  bo : Bool
  ni : List Nt
  no : List Nt
structure Pad where
  p : Addr
  w : Addr
  ei : Addr
  eo : Addr
  li : Addr
  lo : Addr
def pifs (w ei eo : Addr) (R : Nat) : Fs := [("room", .int R), ("within", .ref w), ("into_end", .ref ei), ("out_end", .ref eo)]
def efs (s : Nat) (b : Bool) (l p : Addr) : Fs := [("can_seek", .bl false), ("spot", .int s), ("barred", .bl b), ("notes", .ref l), ("pipe", .ref p)]
structure PipeIn (CP CI CO : Addr) (H : Hp) (A : Pad) (S : Pst) (dp di dq : Addr) (vi vo : List V) (G : Addr → Prop) : Prop where
  hp : H A.p = some (.ins CP dp (pifs A.w A.ei A.eo S.R))
  hw : H A.w = some (.lst (S.ws.map V.int))
  hi : H A.ei = some (.ins CI di (efs S.si S.bi A.li A.p))
  ho : H A.eo = some (.ins CO dq (efs S.so S.bo A.lo A.p))
  hli : H A.li = some (.lst vi)
  hlo : H A.lo = some (.lst vo)
  ni : Nts H G vi S.ni
  no : Nts H G vo S.no
  al : ∀ b, G b → ∃ o, H b = some o
  ag : ∀ b, G b → b ≠ A.p ∧ b ≠ A.w ∧ b ≠ A.ei ∧ b ≠ A.eo ∧ b ≠ A.li ∧ b ≠ A.lo
  d1 : A.p ≠ A.ei
  d2 : A.p ≠ A.eo
  d3 : A.ei ≠ A.eo
  d4 : A.w ≠ A.li
  d5 : A.w ≠ A.lo
  d6 : A.li ≠ A.lo
def Own6 (A : Pad) (b : Addr) : Prop := b = A.p ∨ b = A.w ∨ b = A.ei ∨ b = A.eo ∨ b = A.li ∨ b = A.lo
def PipeAt (CP CI CO : Addr) (H : Hp) (A : Pad) (F : Addr → Prop) (S : Pst) : Prop := ∃ dp di dq vi vo G, PipeIn CP CI CO H A S dp di dq vi vo G ∧ ∀ b, F b ↔ Own6 A b ∨ G b
section
variable {CP CI CO : Addr} {H H' : Hp} {A : Pad} {S : Pst} {dp di dq : Addr} {vi vo : List V} {G F : Addr → Prop}
theorem lst_ins {C d : Addr} {a b : Addr} {xs : List V} {fs : List (Str × V)} (h1 : H a = some (.lst xs)) (h2 : H b = some (.ins C d fs)) : a ≠ b := ne_of h1 h2 (by intro z; cases z)
theorem PipeIn.nes (h : PipeIn CP CI CO H A S dp di dq vi vo G) : A.w ≠ A.p ∧ A.w ≠ A.ei ∧ A.w ≠ A.eo ∧ A.li ≠ A.p ∧ A.li ≠ A.ei ∧ A.li ≠ A.eo ∧ A.lo ≠ A.p ∧ A.lo ≠ A.ei ∧ A.lo ≠ A.eo :=
  ⟨lst_ins h.hw h.hp, lst_ins h.hw h.hi, lst_ins h.hw h.ho, lst_ins h.hli h.hp, lst_ins h.hli h.hi, lst_ins h.hli h.ho, lst_ins h.hlo h.hp, lst_ins h.hlo h.hi, lst_ins h.hlo h.ho⟩
theorem PipeAt.loc (h : PipeAt CP CI CO H A F S) (k : ∀ b o, F b → H b = some o → H' b = some o) : PipeAt CP CI CO H' A F S := by
  obtain ⟨dp, di, dq, vi, vo, G, I, hF⟩ := h
  have o6 : ∀ {b o}, Own6 A b → H b = some o → H' b = some o := fun {b o} z e => k b o ((hF b).mpr (.inl z)) e
  have kg : ∀ b o, G b → H b = some o → H' b = some o := fun b o z e => k b o ((hF b).mpr (.inr z)) e
  exact ⟨dp, di, dq, vi, vo, G, ⟨o6 (.inl rfl) I.hp, o6 (.inr (.inl rfl)) I.hw, o6 (.inr (.inr (.inl rfl))) I.hi, o6 (.inr (.inr (.inr (.inl rfl)))) I.ho, o6 (.inr (.inr (.inr (.inr (.inl rfl))))) I.hli, o6 (.inr (.inr (.inr (.inr (.inr rfl))))) I.hlo,
    I.ni.keep kg (fun _ z => z), I.no.keep kg (fun _ z => z), fun b z => (I.al b z).elim fun o e => ⟨o, kg b o z e⟩, I.ag, I.d1, I.d2, I.d3, I.d4, I.d5, I.d6⟩, hF⟩
theorem PipeAt.same (h : PipeAt CP CI CO H A F S) (s : Same H H') : PipeAt CP CI CO H' A F S := h.loc fun b o _ e => s b o e
theorem PipeAt.kp {qs : List Addr} (h : PipeAt CP CI CO H A F S) (k : Kp qs H H') (n : ∀ q ∈ qs, ¬ F q) : PipeAt CP CI CO H' A F S := h.loc fun b o f e => k b o (fun z => n b z f) e
theorem PipeAt.own (h : PipeAt CP CI CO H A F S) : ∀ b, F b → ∃ o, H b = some o := by
  obtain ⟨dp, di, dq, vi, vo, G, I, hF⟩ := h
  intro b z
  rcases (hF b).mp z with (rfl | rfl | rfl | rfl | rfl | rfl) | z
  · exact ⟨_, I.hp⟩
  · exact ⟨_, I.hw⟩
  · exact ⟨_, I.hi⟩
  · exact ⟨_, I.ho⟩
  · exact ⟨_, I.hli⟩
  · exact ⟨_, I.hlo⟩
  · exact I.al b z
theorem PipeAt.new {q : Addr} (h : PipeAt CP CI CO H A F S) (n : H q = none) : ¬ F q := fun f => by
  obtain ⟨o, e⟩ := h.own q f
  rw [n] at e; cases e
/-- what lies within is put anew -/
theorem PipeIn.setw (I : PipeIn CP CI CO H A S dp di dq vi vo G) (xs : List Int) : PipeIn CP CI CO (upd H A.w (.lst (xs.map V.int))) A { S with ws := xs } dp di dq vi vo G := by
  obtain ⟨n1, n2, n3, n4, n5, n6, n7, n8, n9⟩ := I.nes
  have kg : ∀ b o, G b → H b = some o → (upd H A.w (.lst (xs.map V.int))) b = some o := fun b o z e => by rw [upd_ne (I.ag b z).2.1]; exact e
  exact ⟨by rw [upd_ne n1.symm]; exact I.hp, upd_same, by rw [upd_ne n2.symm]; exact I.hi, by rw [upd_ne n3.symm]; exact I.ho, by rw [upd_ne I.d4.symm]; exact I.hli, by rw [upd_ne I.d5.symm]; exact I.hlo,
    I.ni.keep kg (fun _ z => z), I.no.keep kg (fun _ z => z), fun b z => (I.al b z).elim fun o e => ⟨o, kg b o z e⟩, I.ag, I.d1, I.d2, I.d3, I.d4, I.d5, I.d6⟩
theorem PipeIn.seti (I : PipeIn CP CI CO H A S dp di dq vi vo G) (s : Nat) (b : Bool) : PipeIn CP CI CO (upd H A.ei (.ins CI di (efs s b A.li A.p))) A { S with si := s, bi := b } dp di dq vi vo G := by
  obtain ⟨n1, n2, n3, n4, n5, n6, n7, n8, n9⟩ := I.nes
  have kg : ∀ x o, G x → H x = some o → (upd H A.ei (.ins CI di (efs s b A.li A.p))) x = some o := fun x o z e => by rw [upd_ne (I.ag x z).2.2.1]; exact e
  exact ⟨by rw [upd_ne I.d1]; exact I.hp, by rw [upd_ne n2]; exact I.hw, upd_same, by rw [upd_ne I.d3.symm]; exact I.ho, by rw [upd_ne n5]; exact I.hli, by rw [upd_ne n8]; exact I.hlo,
    I.ni.keep kg (fun _ z => z), I.no.keep kg (fun _ z => z), fun b z => (I.al b z).elim fun o e => ⟨o, kg b o z e⟩, I.ag, I.d1, I.d2, I.d3, I.d4, I.d5, I.d6⟩
theorem PipeIn.seto (I : PipeIn CP CI CO H A S dp di dq vi vo G) (s : Nat) (b : Bool) : PipeIn CP CI CO (upd H A.eo (.ins CO dq (efs s b A.lo A.p))) A { S with so := s, bo := b } dp di dq vi vo G := by
  obtain ⟨n1, n2, n3, n4, n5, n6, n7, n8, n9⟩ := I.nes
  have kg : ∀ x o, G x → H x = some o → (upd H A.eo (.ins CO dq (efs s b A.lo A.p))) x = some o := fun x o z e => by rw [upd_ne (I.ag x z).2.2.2.1]; exact e
  exact ⟨by rw [upd_ne I.d2]; exact I.hp, by rw [upd_ne n3]; exact I.hw, by rw [upd_ne I.d3]; exact I.hi, upd_same, by rw [upd_ne n6]; exact I.hli, by rw [upd_ne n9]; exact I.hlo,
    I.ni.keep kg (fun _ z => z), I.no.keep kg (fun _ z => z), fun b z => (I.al b z).elim fun o e => ⟨o, kg b o z e⟩, I.ag, I.d1, I.d2, I.d3, I.d4, I.d5, I.d6⟩
/-- a note more: its tuple new, its lists G0 handed over -/
theorem PipeIn.notei (I : PipeIn CP CI CO H A S dp di dq vi vo G) {t : Addr} {n : Nt} {hv cv : V} {G0 : Addr → Prop} (nt : H t = none) (h0 : TgAt H G0 hv n.h) (c0 : TgAt H G0 cv n.c) (ok : NtOk n) (ep : n.p = S.si) (a0 : ∀ b, G0 b → ∃ o, H b = some o) (n0 : ∀ b, G0 b → ¬ Own6 A b) :
    PipeIn CP CI CO (upd (upd H t (.tup [.str n.w, .int S.si, hv, cv])) A.li (.lst (vi ++ [.ref t]))) A { S with ni := S.ni ++ [n] } dp di dq (vi ++ [.ref t]) vo (fun b => G b ∨ b = t ∨ G0 b) := by
  obtain ⟨n1, n2, n3, n4, n5, n6, n7, n8, n9⟩ := I.nes
  have ne : ∀ {b o}, H b = some o → b ≠ t := fun {b o} e => ne_of_none e nt
  have kp : ∀ b o, b ≠ A.li → H b = some o → (upd (upd H t (.tup [.str n.w, .int S.si, hv, cv])) A.li (.lst (vi ++ [.ref t]))) b = some o := fun b o z e => by rw [upd_ne z, upd_ne (ne e)]; exact e
  have kg : ∀ b o, G b → H b = some o → (upd (upd H t (.tup [.str n.w, .int S.si, hv, cv])) A.li (.lst (vi ++ [.ref t]))) b = some o := fun b o z e => kp b o (I.ag b z).2.2.2.2.1 e
  have k0 : ∀ b o, G0 b → H b = some o → (upd (upd H t (.tup [.str n.w, .int S.si, hv, cv])) A.li (.lst (vi ++ [.ref t]))) b = some o := fun b o z e => kp b o (fun y => n0 b z (.inr (.inr (.inr (.inr (.inl y)))))) e
  have tl : t ≠ A.li := (ne I.hli).symm
  refine ⟨kp _ _ n4.symm I.hp, kp _ _ I.d4 I.hw, kp _ _ n5.symm I.hi, kp _ _ n6.symm I.ho, upd_same, kp _ _ I.d6.symm I.hlo, Nts.snoc ⟨t, hv, cv, rfl, .inr (.inl rfl), ?_, h0.keep k0 (fun _ z => .inr (.inr z)), c0.keep k0 (fun _ z => .inr (.inr z)), ok⟩ (I.ni.keep kg (fun _ z => .inl z)), I.no.keep kg (fun _ z => .inl z), ?_, ?_, I.d1, I.d2, I.d3, I.d4, I.d5, I.d6⟩
  · rw [upd_ne tl, upd_same, ep]
  · rintro b (z | rfl | z)
    · exact (I.al b z).elim fun o e => ⟨o, kg b o z e⟩
    · exact ⟨_, by rw [upd_ne tl]; exact upd_same⟩
    · exact (a0 b z).elim fun o e => ⟨o, k0 b o z e⟩
  · rintro b (z | rfl | z)
    · exact I.ag b z
    · exact ⟨(ne I.hp).symm, (ne I.hw).symm, (ne I.hi).symm, (ne I.ho).symm, (ne I.hli).symm, (ne I.hlo).symm⟩
    · have h := n0 b z
      exact ⟨fun y => h (.inl y), fun y => h (.inr (.inl y)), fun y => h (.inr (.inr (.inl y))), fun y => h (.inr (.inr (.inr (.inl y)))), fun y => h (.inr (.inr (.inr (.inr (.inl y))))), fun y => h (.inr (.inr (.inr (.inr (.inr y)))))⟩
theorem PipeIn.noteo (I : PipeIn CP CI CO H A S dp di dq vi vo G) {t : Addr} {n : Nt} {hv cv : V} {G0 : Addr → Prop} (nt : H t = none) (h0 : TgAt H G0 hv n.h) (c0 : TgAt H G0 cv n.c) (ok : NtOk n) (ep : n.p = S.so) (a0 : ∀ b, G0 b → ∃ o, H b = some o) (n0 : ∀ b, G0 b → ¬ Own6 A b) :
    PipeIn CP CI CO (upd (upd H t (.tup [.str n.w, .int S.so, hv, cv])) A.lo (.lst (vo ++ [.ref t]))) A { S with no := S.no ++ [n] } dp di dq vi (vo ++ [.ref t]) (fun b => G b ∨ b = t ∨ G0 b) := by
  obtain ⟨n1, n2, n3, n4, n5, n6, n7, n8, n9⟩ := I.nes
  have ne : ∀ {b o}, H b = some o → b ≠ t := fun {b o} e => ne_of_none e nt
  have kp : ∀ b o, b ≠ A.lo → H b = some o → (upd (upd H t (.tup [.str n.w, .int S.so, hv, cv])) A.lo (.lst (vo ++ [.ref t]))) b = some o := fun b o z e => by rw [upd_ne z, upd_ne (ne e)]; exact e
  have kg : ∀ b o, G b → H b = some o → (upd (upd H t (.tup [.str n.w, .int S.so, hv, cv])) A.lo (.lst (vo ++ [.ref t]))) b = some o := fun b o z e => kp b o (I.ag b z).2.2.2.2.2 e
  have k0 : ∀ b o, G0 b → H b = some o → (upd (upd H t (.tup [.str n.w, .int S.so, hv, cv])) A.lo (.lst (vo ++ [.ref t]))) b = some o := fun b o z e => kp b o (fun y => n0 b z (.inr (.inr (.inr (.inr (.inr y)))))) e
  have tl : t ≠ A.lo := (ne I.hlo).symm
  refine ⟨kp _ _ n7.symm I.hp, kp _ _ I.d5 I.hw, kp _ _ n8.symm I.hi, kp _ _ n9.symm I.ho, kp _ _ I.d6 I.hli, upd_same, I.ni.keep kg (fun _ z => .inl z), Nts.snoc ⟨t, hv, cv, rfl, .inr (.inl rfl), ?_, h0.keep k0 (fun _ z => .inr (.inr z)), c0.keep k0 (fun _ z => .inr (.inr z)), ok⟩ (I.no.keep kg (fun _ z => .inl z)), ?_, ?_, I.d1, I.d2, I.d3, I.d4, I.d5, I.d6⟩
  · rw [upd_ne tl, upd_same, ep]
  · rintro b (z | rfl | z)
    · exact (I.al b z).elim fun o e => ⟨o, kg b o z e⟩
    · exact ⟨_, by rw [upd_ne tl]; exact upd_same⟩
    · exact (a0 b z).elim fun o e => ⟨o, k0 b o z e⟩
  · rintro b (z | rfl | z)
    · exact I.ag b z
    · exact ⟨(ne I.hp).symm, (ne I.hw).symm, (ne I.hi).symm, (ne I.ho).symm, (ne I.hli).symm, (ne I.hlo).symm⟩
    · have h := n0 b z
      exact ⟨fun y => h (.inl y), fun y => h (.inr (.inl y)), fun y => h (.inr (.inr (.inl y))), fun y => h (.inr (.inr (.inr (.inl y)))), fun y => h (.inr (.inr (.inr (.inr (.inl y))))), fun y => h (.inr (.inr (.inr (.inr (.inr y)))))⟩
/-- one of the six is stored to -/
theorem own_one {x : Addr} {o : HO} (hF : ∀ b, F b ↔ Own6 A b ∨ G b) (hx : Own6 A x) : Step F H F (upd H x o) := ⟨fun b o nf e => by
  have n : b ≠ x := fun z => nf ((hF b).mpr (.inl (by rw [z]; exact hx)))
  rw [upd_ne n]; exact e, fun b z => .inl z⟩
end
end Sip
/-! calls within a try whose last parameters keep their defaults; parts of values -/
namespace Sip
open PySem PySem.Spec PyProof.Rows L2 TL
theorem vals_cut : ∀ {zs : List V} {ws : List Value} (i n : Nat), Vals zs ws → Vals ((zs.drop i).take n) ((ws.drop i).take n)
  | [], [], i, n, .nil => by simp; exact .nil
  | z :: zs, w :: ws, 0, 0, .cons h t => .nil
  | z :: zs, w :: ws, 0, n + 1, .cons h t => .cons h (vals_cut 0 n t)
  | z :: zs, w :: ws, i + 1, n, .cons h t => vals_cut i n t
section
variable {X : Cx} {CX : CXT} {k n : Nat} {f : Addr} {fd : FuncData} {ps : List Str} {sp : Sp} {E : L2.St → XK} {x : Str} {p pos : Pos} {e : Expr} {es : List Expr} {t : TA} {ds : List Value} {dvs : List V}
def tCallDS (sp : Sp) (dvs : List V) (E : L2.St → XK) (t : TA) : TE := fun σ H Q => t σ H fun vs H1 => sp (vs ++ dvs) H1 Q (E σ)
theorem pe_callDS (F : FnOk X.prog X.w X.K X.mg X.base CX k f fd ps sp) (hr : Room k X.A) (hg : Gl X x) (hm : X.mg x = some (.ref f)) (hk : PySem.W.keepIn X.K (.ref f) = true) (hb : Binds X.K fd ps ds) (hd : Vals dvs ds) (hx : ∀ σ, PassesAt CX X σ (E σ))
    (ha : PA X (e :: es) t) (hdb : (x == ("__debug__" : Str)) = false := by decide) (he : starEach (e :: es) X.env = (false, eval e X.env) :: starEach es X.env := by rfl)
    (hpl : ((backTo pos (starEach es X.env)).any (·.1)) = false := by rfl) :
    PE X (.Call (.Name x p) (e :: es) [] pos) (tCallDS sp dvs E t) := by
  refine ⟨fun pins s σ H Q I h => wpAny_Call_Name_kw (ld_glob I hg hm ?_ hdb)⟩
  refine PySem.W.callWith_K (h₀ := X.base) I.ok.mod.kin hk (thn (ha.run pos pins s σ H _ I h) fun us s1 w1 => ?_) he hpl
  obtain ⟨vs, H1, I1, r, q⟩ := w1
  refine ⟨I1.kIn, ?_⟩
  have rv : Vals (vs ++ dvs) (us ++ ds) := Vals.append r hd
  have ln : (us ++ ds).length = ps.length := rv.length.symm.trans (F.len _ _ _ _ q)
  have bt := hb s1 us I1.kIn ln
  refine wpAny_call (codeAny_mono (F.run X.A X.stack s1 H1 ⟨us, []⟩ (us ++ ds) (vs ++ dvs) Q (E σ) hr I1.env0 bt rv q) fun out s' hq => ?_)
  match out, hq with
  | .error e, hq => exact hx σ pins H1 s1 e s' I1 hq
  | .ok (.ret u), hq => exact I1.after hq
  | .ok .next, hq => exact hq.elim
  | .ok .brk, hq => exact hq.elim
  | .ok .cont, hq => exact hq.elim
end
end Sip
/-! defs that raise nothing, called also where an error is handled -/
theorem L2H.RoomH.units {k : Nat} {A : PySem.Around} (r : L2H.RoomH k A) : A.units + 64 < PySem.cLine := by have := r.un; omega
namespace Sip
open PySem PySem.Spec PyProof.Rows L2 TL L2H
/-- a promise that is kept whatever is handled; nothing is raised -/
structure FnC (P : Program) (w : World) (K : PySem.W.Frag) (mg : Str → Option Value) (base : Heap) (k : Nat) (f : Addr) (fd : FuncData) (ps : List Str) (sp : Sp) : Prop where
  len : ∀ vs H Q E, sp vs H Q E → vs.length = ps.length
  run : ∀ (A : Around) (outer : List Env) (s : Shared) (H : Hp) (args : Args) (us : List Value) (vs : List V) (Q : VK) (E : XK), RoomH k A →
    Env0 P w K mg base A outer s H → BindsTo s fd args (ps.zip us) → Vals vs us → sp vs H Q E → codeAny (model P w) A (.call (.ref f) args) (CR CX0 outer P w H s Q E) s
/-- the context of its body -/
def cxC (P : Program) (w : World) (K : PySem.W.Frag) (mg : Str → Option Value) (base : Heap) (N : List Str) (qual : Str) (scope : Scope) (f : Addr) (cd : Value) (A : Around) (outer : List Env) (s : Shared) (H : Hp) (E : XK) : Cx :=
  { cxOf CX0 P w K mg base N qual scope f cd A outer s H E with calm := false }
section
variable {P : Program} {w : World} {K : PySem.W.Frag} {mg : Str → Option Value} {base : Heap} {x qual : Str} {st : Stmt} {f : Addr} {fd : FuncData} {N ps : List Str} {k : Nat} {sp : Sp}
theorem FnC.ok (F : FnC P w K mg base k f fd ps sp) : FnOk P w K mg base CX0 k f fd ps sp := ⟨F.len, fun A outer s H args us vs Q E hr => F.run A outer s H args us vs Q E (roomH_of hr)⟩
theorem FunA.okC (F : FunA K x qual st f fd) (S : FnScope N ps (defScope st)) (len : ∀ vs H Q E, sp vs H Q E → vs.length = ps.length)
    (hb : ∀ (cdv : Value) (A : Around) (outer : List Env) (s : Shared) (H : Hp) (vs : List V) (Q : VK) (E : XK), RoomH k (A.deeper (envOfC qual (defScope st) s.heap.objs.size f cdv)) → sp vs H Q E →
      ∃ t, PSs (cxC P w K mg base N qual (defScope st) f cdv A outer s H E).nox (defBody st) t ∧ t { nx := fun _ H' => Q .non H', rt := Q } (start N vs) H) : FnC P w K mg base (k + 1) f fd ps sp := by
  obtain ⟨oc, od, dV, kV, doc, pm, an, cdv, ct, osl, rfl, lk, hcd⟩ := F.ex
  refine ⟨len, fun A outer s H args us vs Q E hr e0 hbd r hsp => ?_⟩
  have keep : ∀ b o, base.get? b = some o → s.heap.get? b = some o := fun b o e => (e0.bs b o e).1
  have KX := e0.mod.kin.keeps keep
  refine codeAny_call_function hr.depth (KX _ _ lk) rfl S.co S.gen rfl (PySem.W.codeRec_of KX hcd) (hbd _ _ _ _ (wpAny_newFunctionEnv_cells S.kind (fun y hy => ?_) fun env he s1 z => ?_))
  · rcases S.par y.1 (List.of_mem_zip hy).1 with q | q
    · exact .inl q
    · exact .inr ⟨q, PySem.W.cellsFrom_some _ _ _ (.inl q)⟩
  subst he
  obtain ⟨t, ht, hq⟩ := hb cdv A outer s H vs Q E (hr.deeper _) hsp
  have ht := ht.nox
  have e1 : Env0 P w K mg base { A with handled := none } outer s H := ⟨e0.frames, e0.mod, e0.bs, e0.bsz, e0.funs, e0.frf, e0.hok, e0.bare⟩
  have I0 := inv_start (CX := CX0) (N := N) (E := E) (A := { A with handled := none }) S rfl e1 (len _ _ _ _ hsp) r z
  have o := I0.ok
  have I : Inv (cxC P w K mg base N qual (defScope st) f cdv A outer s H E) [] (start N vs) H s1 :=
    ⟨⟨o.mod, o.kind, o.glob, o.blt, o.above, o.inj, o.has, o.cab, (fun z => Bool.noConfusion (show false = true from z)), Around.frames_deeper e0.frames, .inr ⟨rfl, rfl⟩, o.exf, o.bs, o.bsz, o.noex, o.exfs, o.funs, o.frf⟩, I0.os, I0.bare, I0.base, I0.loc, I0.cell, I0.free, I0.freeC, I0.pin, I0.hok, I0.len⟩
  refine ⟨(e0.mod.nolimit.keeps keep).keeps z.toInCall.keep, codeAny_func (wpAny_mono (ht.run [] s1 _ H _ I hq) (fun fl s' hs => ?_) fun _ _ h => h)⟩
  cases fl with
  | ret u =>
    obtain ⟨v, _, H', J, rv, q⟩ := hs
    exact ⟨v, H', J.os, J.bare, J.base, J.hok, rv, q⟩
  | next =>
    obtain ⟨_, H', J, q⟩ := hs
    exact ⟨.non, H', J.os, J.bare, J.base, J.hok, rfl, q⟩
  | brk => exact (hs.choose_spec.choose_spec.2 : False).elim
  | cont => exact (hs.choose_spec.choose_spec.2 : False).elim
end
section
variable {X : Cx} {k : Nat} {f C : Addr} {fd : FuncData} {ps : List Str} {sp : Sp} {dvs : List V} {ds : List Value} {E : XK} {x m : Str} {p pos apos : Pos} {o e : Expr} {es : List Expr} {ta : TE} {t : TA}
theorem run_fnC {pins : List (Addr × Obj)} {σ : L2.St} {H : Hp} {s : Shared} {Q : VK} {us : List Value} {vs : List V} (F : FnC X.prog X.w X.K X.mg X.base k f fd ps sp) (hr : RoomH k X.A) (hb : Binds X.K fd ps ds) (hd : Vals dvs ds)
    (I : Inv X pins σ H s) (r : Vals vs us) (h : sp (vs ++ dvs) H Q E) : wpAny (model X.prog X.w) X.A (call (.ref f) us) (EP X pins σ Q) X.xe s := by
  have r2 : Vals (vs ++ dvs) (us ++ ds) := r.append hd
  refine wpAny_call (codeAny_mono (F.run X.A X.stack s H ⟨us, []⟩ (us ++ ds) (vs ++ dvs) Q E hr I.env0 (hb s us I.kIn (by rw [← r2.length]; exact F.len _ _ _ _ h)) r2 h) fun r s' hq => ?_)
  match r, hq with
  | .ok (.ret u), hq => exact I.after hq
theorem pe_callC (F : FnC X.prog X.w X.K X.mg X.base k f fd ps sp) (hr : RoomH k X.A) (hg : Gl X x) (hm : X.mg x = some (.ref f)) (hk : PySem.W.keepIn X.K (.ref f) = true) (hb : Binds X.K fd ps ds) (hd : Vals dvs ds)
    (ha : PA X (e :: es) t) (n1 : (x == ("__debug__" : Str)) = false := by decide) (n2 : starEach (e :: es) X.env = (false, eval e X.env) :: starEach es X.env := by rfl) (n3 : (backTo pos (starEach es X.env)).any (·.1) = false := by rfl) :
    PE X (.Call (.Name x p) (e :: es) [] pos) (tCall sp dvs E t) := by
  refine ⟨fun pins s σ H Q I h => wpAny_Call_Name_kw (ld_glob I hg hm (PySem.W.callWith_K (h₀ := X.base) I.ok.mod.kin hk (thn (ha.run pos pins s σ H _ I h) fun us s1 ⟨vs, H1, I1, r, q⟩ => ⟨I1.kIn, ?_⟩) n2 n3) n1)⟩
  exact run_fnC F hr hb hd I1 r q
theorem pe_methC {pl : Sem Bool} (he : PE X o ta) (c : Cls X.K C) (hm : Meth X.K C m f) (F : FnC X.prog X.w X.K X.mg X.base k f fd ps sp) (hr : RoomH k X.A) (hb : Binds X.K fd ps ds) (hd : Vals dvs ds) (ha : PA X (e :: es) t)
    (hst : starEach (e :: es) X.env = (false, eval e X.env) :: starEach es X.env := by rfl) (hpl : (backTo pos (starEach es X.env)).any (·.1) = false := by rfl)
    (ht : eval (.Call (.Attribute o m apos) (e :: es) [] pos) X.env = (do
      let ov ← eval o X.env
      standAt apos.atName
      let (f, first) ← holding [ov] (getMethod ov m pl)
      callWith pos f first (backTo pos (starEach (e :: es) X.env)) (backToKw pos (keywordEach [] X.env))) := by rfl) :
    PE X (.Call (.Attribute o m apos) (e :: es) [] pos) (tMeth C m sp dvs E ta t) := by
  refine ⟨fun pins s σ H Q I h => ?_⟩
  refine PySem.W.methodCall_KW (pl := pl) (thn (he.run pins s σ H _ I h) fun u s1 ⟨x, H1, I1, rx, a, dx, fs, ex, ea, l, q⟩ => ?_) ht
  subst ex
  obtain rfl : u = Value.ref a := rx
  refine getmeth_ok I1 ea c hm l ?_
  refine PySem.W.callWith_K (first := [.ref a]) (h₀ := X.base) I.ok.mod.kin hm.kp (thn (ha.run pos pins s1 σ H1 _ I1 q) fun us s2 ⟨vs, H2, I2, r, q2⟩ => ⟨I2.kIn, ?_⟩) hst hpl
  exact run_fnC (us := .ref a :: us) (vs := .ref a :: vs) F hr hb hd I2 (.cons rfl r) q2
end
end Sip
namespace Sip
open PySem PySem.Spec PyProof.Rows L2 TL L2H
theorem roomM {k : Nat} {A : Around} {v : Value} (r : Room k A) : RoomH k (A.mark (some v)) := ⟨r.dp, r.un⟩
section
variable {X : Cx} {CX : CXT} {k : Nat} {f C : Addr} {fd : FuncData} {ps : List Str} {sp : Sp} {E : L2.St → XK} {m : Str} {pos apos : Pos} {o e : Expr} {es : List Expr} {ta : TE} {t : TA}
/-- o.m(e, ..) within a try -/
theorem pe_methT {pl : Sem Bool} (he : PE X o ta) (c : Cls X.K C) (hm : Meth X.K C m f) (F : FnOk X.prog X.w X.K X.mg X.base CX k f fd ps sp) (hr : Room k X.A) (hb : Binds X.K fd ps []) (hx : ∀ σ, PassesAt CX X σ (E σ)) (ha : PA X (e :: es) t)
    (hst : starEach (e :: es) X.env = (false, eval e X.env) :: starEach es X.env := by rfl) (hpl : (backTo pos (starEach es X.env)).any (·.1) = false := by rfl)
    (ht : eval (.Call (.Attribute o m apos) (e :: es) [] pos) X.env = (do
      let ov ← eval o X.env
      standAt apos.atName
      let (f, first) ← holding [ov] (getMethod ov m pl)
      callWith pos f first (backTo pos (starEach (e :: es) X.env)) (backToKw pos (keywordEach [] X.env))) := by rfl) :
    PE X (.Call (.Attribute o m apos) (e :: es) [] pos) (tMethH C m sp E ta t) := by
  refine ⟨fun pins s σ H Q I h => ?_⟩
  refine PySem.W.methodCall_KW (pl := pl) (thn (he.run pins s σ H _ I h) fun u s1 ⟨x, H1, I1, rx, a, dx, fs, ex, ea, l, q⟩ => ?_) ht
  subst ex
  obtain rfl : u = Value.ref a := rx
  refine getmeth_ok I1 ea c hm l ?_
  refine PySem.W.callWith_K (first := [.ref a]) (h₀ := X.base) I.ok.mod.kin hm.kp (thn (ha.run pos pins s1 σ H1 _ I1 q) fun us s2 ⟨vs, H2, I2, r, q2⟩ => ⟨I2.kIn, ?_⟩) hst hpl
  exact run_fnS (us := .ref a :: us) (vs := .ref a :: vs) F hr hb (hx σ) I2 (.cons rfl r) q2
end
/-- __init__(self, f, g): self.f = f; self.g = g -/
def spErr2 (C : Addr) (f g : Str) : Sp := fun vs H Q _ => ∃ (a : Addr) (v u : V), vs = [.ref a, v, u] ∧ H a = some (exo a C none) ∧ ∀ dx, H dx = none → dx ≠ a → Q .non (upd (upd H dx (exd dx [(g, u), (f, v)])) a (exo a C (some dx)))
theorem mk2_fin {C : Addr} {f g : Str} {H1 : Hp} {v u : V} {Q : XK} (h : ∀ d, H1 d = none → Q (.ref C) (some d) (upd H1 d (.xd [(g, u), (f, v)]))) :
    [v].length ≤ 1000 ∧ ∀ a, H1 a = none → spErr2 C f g (.ref a :: ([v] ++ [u])) (upd H1 a (exo a C none))
      (fun v H2 => v = .non ∧ ∃ (d : Addr) (fs : List (Str × V)), H2 a = some (exo a C (some d)) ∧ H2 d = some (exd d fs) ∧ H1 d = none ∧ Q (.ref C) (some d) (upd (del H2 a) d (.xd fs))) (fun _ _ _ => False) := by
  refine ⟨by show 1 ≤ 1000; decide, fun a na => ⟨a, v, u, rfl, upd_same, fun dx nd ne => ⟨rfl, dx, [(g, u), (f, v)], upd_same, ?_, ?_, ?_⟩⟩⟩
  · rw [upd_ne ne]; exact upd_same
  · rw [upd_ne ne] at nd; exact nd
  · have nd' : H1 dx = none := by rw [upd_ne ne] at nd; exact nd
    have e : upd (del (upd (upd (upd H1 a (exo a C none)) dx (exd dx [(g, u), (f, v)])) a (exo a C (some dx))) a) dx (.xd [(g, u), (f, v)]) = upd H1 dx (.xd [(g, u), (f, v)]) := by
      funext b
      by_cases hb : b = dx
      · subst hb; rw [upd_same, upd_same]
      · rw [upd_ne hb, upd_ne hb]
        by_cases ha : b = a
        · subst ha; rw [del_same, na]
        · rw [del_ne ha, upd_ne ha, upd_ne hb, upd_ne ha]
    rw [e]
    exact h dx nd'
end Sip
/-! a caught error is lent to a def -/
namespace Sip
open PySem PySem.Spec PyProof.Rows L2 TL
abbrev SuiteOkB (X : Cx) (su : List Stmt) (ts : Addr → Value → Option Addr → TS) : Prop := ∀ (a : Addr) (oe : Obj) (cls : Value) (d : Option Addr) (pn : List (Addr × Obj)), Zc cls d oe → (∃ vs, oe.data = .fields vs) → X.base.get? a = none → PSs (X.suite a ((a, oe) :: pn)) su (ts a cls d)
inductive ClsOkB (X : Cx) : List ExceptHandler → List Cl → Prop
  | nil : ClsOkB X [] []
  | cons {x : Str} {c : Value} {nm : Option Str} {o : Option Nat} {ts : Addr → Value → Option Addr → TS} {st : Stmt} {su : List Stmt} {q1 q2 : Pos} {hs : List ExceptHandler} {l : List Cl} (hc : Names X x c) (ha : AsOk X nm o) (hsu : SuiteOkB X (st :: su) ts) (r : ClsOkB X hs l) :
      ClsOkB X (.ExceptHandler (some (.Name x q1)) nm (st :: su) q2 :: hs) ((c, o, ts) :: l)
section
variable {X : Cx} {pins : List (Addr × Obj)} {a : Addr} {B : Heap} {sI s1 : Shared} {h3 : Heap} {σ : L2.St} {H : Hp} {cls : Value} {d : Option Addr} {D : Ends} {Wo : WX}
/-- it is none of the module's things -/
theorem caught_nobase (C : Caught X pins a B sI s1 h3 σ H cls d) : X.base.get? a = none := by
  cases q : X.base.get? a with
  | none => rfl
  | some o =>
    have h1 := C.inv.bk a o q
    have nf : a ∉ frs X.stack := by
      rw [C.stk]
      intro m
      obtain ⟨e, h2, h3⟩ := List.mem_filterMap.mp m
      rcases List.mem_cons.mp h2 with rfl | h2
      · rw [C.frm] at h3; exact C.nL (Option.some.inj h3).symm
      · exact C.nF (List.mem_filterMap.mpr ⟨e, h2, h3⟩)
    have h2 := C.nb a o h1 nf
    rw [C.fl.2.1] at h2; cases h2
theorem caught_goB (C : Caught X pins a B sI s1 h3 σ H cls d) (tk : Takes X Wo) : ∀ {hs : List ExceptHandler} {l : List Cl}, ClsOkB X hs l → wMix X.K Wo D l cls d σ H → wpAny (model X.prog X.w) X.A (handleBy (.ref a) X.env hs) (SP X pins D) X.xe { s1 with heap := h3 } := by
  intro hs l hk
  induction hk with
  | nil => exact fun w => C.none tk w
  | @cons x c nm o ts st su q1 q2 hs2 l2 hc ha hsu r ih =>
    rintro ⟨b, hb, yes, no⟩
    have J3 := C.at C.fl (Heap.UpToSlots.refl _)
    have nbase := caught_nobase C
    obtain ⟨oe, vs, he, hz, hd⟩ := C.fl.there
    have S3 := J3.suite he hd C.na C.nL C.nF
    refine wpAny_handleBy_cons (codeAny_handlers_test ?_) (by intro q; cases q)
    have knows : PySem.W.Looks (model X.prog X.w) h3 (typeOf (.ref a)) cls := fun _ _ _ _ k q => wpAny_typeOf_ref (k _ _ he) (by rw [hz.1]; exact q)
    have look := PySem.W.exm_one (M := model X.prog X.w) J3.kIn knows hb
    have named : ∀ {Q E : Value → Shared → Prop}, Q c { s1 with heap := h3 } → wpAny (model X.prog X.w) (X.A.mark (some (.ref a))) (eval (.Name x q1) X.env) Q E { s1 with heap := h3 } := fun q => by
      rcases hc with ⟨g1, g2, m1 | ⟨m1, m2, m3⟩⟩
      · exact ld_glob (X := X.suite a ((a, oe) :: (X.pn ++ pins))) S3 g1 m1 q g2
      · exact ld_blt (X := X.suite a ((a, oe) :: (X.pn ++ pins))) S3 g1 m1 m2 q m3 g2
    refine named (look.here ?_)
    cases b with
    | false => exact ih (no rfl)
    | true =>
      cases nm with
      | none =>
        cases o with
        | some i => exact ha.elim
        | none =>
          refine codeAny_handlers_suite (HandSPX.lands_againZ C.fl fun h4 f4 u4 => ?_)
          obtain ⟨oe4, _, e4, z4, d4⟩ := f4.there
          have S4 := (C.at f4 u4).suite e4 d4 C.na C.nL C.nF
          refine wpAny_mono ((hsu a oe4 cls d (X.pn ++ pins) z4 ⟨_, d4⟩ nbase).run [] _ _ H _ S4 (yes rfl a C.na)) (fun f s6 hp => ?_) fun _ _ z => z.elim
          match f, hp with
          | .next, ⟨_, _, S6, q6⟩ => exact ⟨_, _, S6.unsuite C.ok, q6⟩
          | .brk, ⟨_, _, S6, q6⟩ => exact ⟨_, _, S6.unsuite C.ok, q6⟩
          | .cont, ⟨_, _, S6, q6⟩ => exact ⟨_, _, S6.unsuite C.ok, q6⟩
          | .ret _, ⟨_, _, _, S6, r6, q6⟩ => exact ⟨_, _, _, S6.unsuite C.ok, r6, q6⟩
      | some n =>
        cases o with
        | none => exact ha.elim
        | some i =>
          obtain ⟨hN, hi, hl⟩ := ha
          refine codeAny_handlers_suite_as (HandSPX.lands_againZ C.fl fun h4 f4 u4 => ?_)
          obtain ⟨oe4, _, e4, z4, d4⟩ := f4.there
          have S4 := (C.at f4 u4).suite e4 d4 C.na C.nL C.nF
          refine store_ok (X := X.suite a ((a, oe4) :: (X.pn ++ pins))) (v := .ref a) S4 hN hi (.inl hl) rfl (fun s5 S5 => ?_) (.inr hl)
          refine wpAny_mono ((hsu a oe4 cls d (X.pn ++ pins) z4 ⟨_, d4⟩ nbase).run [] s5 _ H _ S5 (yes rfl a C.na)) (fun f s6 hp => ?_) fun _ _ z => z.elim
          have off : ∀ {σ6 : L2.St} {H6 : Hp} {Q : Shared → Prop}, Inv (X.suite a ((a, oe4) :: (X.pn ++ pins))) [] σ6 H6 s6 → (∀ s7, Inv X pins (σ6.set i none) H6 s7 → Q s7) → wpAny (model X.prog X.w) X.A (do bindName X.env n .none; unbindBehindTheSuite X.env n q2) (fun _ s7 => Q s7) X.xe s6 :=
            fun S6 hq => gone_ok (S6.unsuite C.ok) hN hi hl hq
          match f, hp with
          | .next, ⟨_, _, S6, q6⟩ => exact off S6 fun _ J7 => ⟨_, _, J7, q6⟩
          | .brk, ⟨_, _, S6, q6⟩ => exact off S6 fun _ J7 => ⟨_, _, J7, q6⟩
          | .cont, ⟨_, _, S6, q6⟩ => exact off S6 fun _ J7 => ⟨_, _, J7, q6⟩
          | .ret _, ⟨_, _, _, S6, r6, q6⟩ => exact off S6 fun _ J7 => ⟨_, _, _, J7, r6, q6⟩
/-- try: .. except X: .. except Y as n: .. -/
theorem ps_try_mixB {body : List Stmt} {h0 : ExceptHandler} {hs : List ExceptHandler} {l : List Cl} {pos : Pos} {tb : WX → TS} (stk : X.stack = X.env :: X.outer) (frm : X.env.frame = some X.env.locals) (tk : Takes X Wo)
    (hb : ∀ (W : WX) (pn : List (Addr × Obj)) (xe : Value → Shared → Prop), Takes (X.tr pn xe) W → PassesOwn (model X.prog X.w) X.A X.env xe → PSs (X.tr pn xe) body (tb W)) (hh : ClsOkB X (h0 :: hs) l) :
    PS X (.Try body (h0 :: hs) [] [] pos) (fun D σ H => tb (wMix X.K Wo D l) D σ H) := by
  refine ⟨fun pins s σ H D I h => wpAny_Try_except ?_⟩
  have ok := I.ok
  have fr : X.A.frames = some (X.env :: X.outer) := by rw [ok.frames, stk]
  have run := (hb (wMix X.K Wo D l) (X.pn ++ pins) (fun e t1 => wpAny (model X.prog X.w) X.A (noteFrame e X.env) (fun _ t2 => wpAny (model X.prog X.w) X.A (setFlight e none) (fun _ t3 => wpAny (model X.prog X.w) X.A (handleBy e X.env (h0 :: hs)) (SP X pins D) X.xe t3) X.xe t2) X.xe t1) ?_ PassesOwn.looking).run [] s σ H D (I.toTry _) h
  · refine wpAny_mono run (fun f s1 hp => ?_) fun _ _ he => he
    match f, hp with
    | .next, ⟨_, _, J, q⟩ => exact wpAny_execs_nil ⟨_, _, J.ofTry ok, q⟩
    | .brk, ⟨_, _, J, q⟩ => exact ⟨_, _, J.ofTry ok, q⟩
    | .cont, ⟨_, _, J, q⟩ => exact ⟨_, _, J.ofTry ok, q⟩
    | .ret _, ⟨_, _, _, J, r, q⟩ => exact ⟨_, _, _, J.ofTry ok, r, q⟩
  · rintro u s1 ⟨a, B, sI, pins2, σ2, H2, cls, d, rfl, J2, nb, up, sky, na, os, ag, w⟩
    have sky2 : Sky B (X.env :: X.outer) a (Zc cls d) X.env.locals s1.heap := by rw [← stk]; exact sky
    refine Sky.land Zc.steady fr frm sky2 fun h3 f3 u3 => ?_
    obtain ⟨oe, vs, he, _, hd⟩ := f3.there
    have far : a ∉ frs (X.env :: X.outer) := fun m => by
      obtain ⟨_, o2, e2, nf⟩ := f3.2.2.1.mem m
      rw [he] at e2; cases e2
      exact nf _ hd
    have nL : a ≠ X.env.locals := fun z => far (List.mem_filterMap.mpr ⟨X.env, List.mem_cons_self, by rw [frm, z]⟩)
    have nF : a ∉ X.fs := fun m => by
      obtain ⟨e, h1, h2⟩ := List.mem_filterMap.mp m
      exact far (List.mem_filterMap.mpr ⟨e, List.mem_cons_of_mem _ h1, h2⟩)
    exact caught_goB ⟨ok, stk, frm, J2.ofTry ok, nb, up.trans u3, f3, na, nL, nF, os, ag⟩ tk hh w
end

/-- a caught error while a def has it -/
def lentE (o : Obj) : HO := .frz o (.ext fun _ => True)
section
variable {Y : Cx} {pins : List (Addr × Obj)} {σ : L2.St} {H : Hp} {s s' : Shared} {a : Addr} {oe : Obj}
theorem lent_ok {P : Program} {w : World} {h : Heap} (ha : h.get? a = some oe) (hok : HOk P w H h) (na : H a = none) : HOk P w (upd H a (lentE oe)) h := fun b u e => by
  by_cases hb : b = a
  · subst hb; rw [upd_same] at e; cases e
    exact ⟨ha, trivial, ⟨oe, ha⟩, fun _ _ _ _ => trivial⟩
  · rw [upd_ne hb] at e
    exact (hok b u e).stay (fun _ _ _ q => q) (fun c q => by rw [upd_ne (ne_of_none q na)]; exact q) fun c xs q => by rw [upd_ne (ne_of_none q na)]; exact q
theorem lent_env (I : Inv Y pins σ H s) (hp : (a, oe) ∈ Y.pn ++ pins) (nb : Y.base.get? a = none) : Env0 Y.prog Y.w Y.K Y.mg Y.base Y.A Y.stack s (upd H a (lentE oe)) := by
  obtain ⟨ha, na, nL, nF, _⟩ := I.pin _ hp
  have e := I.env0
  refine ⟨e.frames, e.mod, fun b o q => ⟨(e.bs b o q).1, ?_⟩, e.bsz, e.funs, fun b hb => ?_, lent_ok ha e.hok na, e.bare⟩
  · rw [upd_ne (fun z => by rw [z, nb] at q; cases q)]; exact (e.bs b o q).2
  · have : b ≠ a := fun z => by
      subst z
      rcases I.ok.stk with h | ⟨h, hf⟩
      · rw [h] at hb; exact nF hb
      · rw [h] at hb
        obtain ⟨e, h2, h3⟩ := List.mem_filterMap.mp hb
        rcases List.mem_cons.mp h2 with rfl | h2
        · rw [hf] at h3; exact nL (Option.some.inj h3).symm
        · exact nF (List.mem_filterMap.mpr ⟨e, h2, h3⟩)
    rw [upd_ne this]; exact e.frf b hb
theorem lent_back {Q : VK} {u : Value} (I : Inv Y pins σ H s) (hp : (a, oe) ∈ Y.pn ++ pins) (h : CE Y.stack Y.prog Y.w (upd H a (lentE oe)) s (fun v H2 => Q v (del H2 a)) u s') : CE Y.stack Y.prog Y.w H s Q u s' := by
  obtain ⟨ha, na, nL, nF, _⟩ := I.pin _ hp
  obtain ⟨v, H', os, bare, un, hok, r, q⟩ := h
  have eH : H' a = some (lentE oe) := un.frzs a oe _ upd_same
  have ea : s'.heap.get? a = some oe := (hok a _ eH).1
  have nst : a ∉ frs Y.stack := fun hb => by
    rcases I.ok.stk with h | ⟨h, hf⟩
    · rw [h] at hb; exact nF hb
    · rw [h] at hb
      obtain ⟨e, h2, h3⟩ := List.mem_filterMap.mp hb
      rcases List.mem_cons.mp h2 with rfl | h2
      · rw [hf] at h3; exact nL (Option.some.inj h3).symm
      · exact nF (List.mem_filterMap.mpr ⟨e, h2, h3⟩)
  refine ⟨v, del H' a, os, bare, ⟨fun b o e n hb hx => ?_, fun b o e n hb hx => ?_, fun b o e n hx => ?_, fun b o e hx => un.there b o e hx, fun b xs e => ?_, fun b o u e => ?_, fun b ps e => ?_⟩, fun b o e => ?_, r, q⟩
  · by_cases z : b = a
    · subst z; rw [ha] at e; cases e; exact ea
    · exact un.keep b o e (by rw [upd_ne z]; exact n) hb hx
  · have z : b ≠ a := fun z => nst (by rw [← z]; exact hb)
    exact un.slot b o e (by rw [upd_ne z]; exact n) hb hx
  · by_cases z : b = a
    · subst z; exact del_same
    · rw [del_ne z]; exact un.free b o e (by rw [upd_ne z]; exact n) hx
  · have z : b ≠ a := ne_of_none e na
    rw [del_ne z]; exact un.tups b xs (by rw [upd_ne z]; exact e)
  · have z : b ≠ a := ne_of_none e na
    rw [del_ne z]; exact un.frzs b o u (by rw [upd_ne z]; exact e)
  · have z : b ≠ a := ne_of_none e na
    rw [del_ne z]; exact un.tbls b ps (by rw [upd_ne z]; exact e)
  · by_cases z : b = a
    · subst z; rw [del_same] at e; cases e
    · rw [del_ne z] at e
      exact (hok b o e).stay (fun _ _ _ q => q) (fun c q => by rw [del_ne (fun z => by rw [z, eH] at q; cases q)]; exact q) fun c xs q => by rw [del_ne (fun z => by rw [z, eH] at q; cases q)]; exact q
end
section
variable {X : Cx} {CX : CXT} {k : Nat} {f : Addr} {fd : FuncData} {ps : List Str} {sp : Sp} {x : Str} {p pos : Pos} {e : Expr} {te : TE}
def one1 (P : V → Hp → Prop) : List V → Hp → Prop
  | [x], H => P x H
  | _, _ => False
/-- f(e) in a suite: e is the error that the suite holds -/
def tCallE (sp : Sp) (a : Addr) (cls : Value) (d : Option Addr) (te : TE) : TE := fun σ H Q => te σ H fun x H1 => x = .ref a ∧ (H1 a = none → ∀ o, Zc cls d o → (∃ vs, o.data = .fields vs) → sp [.ref a] (upd H1 a (lentE o)) (fun v H2 => Q v (del H2 a)) (fun _ _ _ => False))
theorem pe_callE {a : Addr} {oe : Obj} {cls : Value} {d : Option Addr} {pn : List (Addr × Obj)} (F : FnC X.prog X.w X.K X.mg X.base k f fd ps sp) (hr : L2H.RoomH k (X.suite a ((a, oe) :: pn)).A) (hg : Gl (X.suite a ((a, oe) :: pn)) x) (hm : X.mg x = some (.ref f)) (hk : PySem.W.keepIn X.K (.ref f) = true) (hb : Binds X.K fd ps [])
    (hz : Zc cls d oe) (hf : ∃ vs, oe.data = .fields vs) (hnb : X.base.get? a = none) (he0 : PE (X.suite a ((a, oe) :: pn)) e te)
    (hdb : (x == ("__debug__" : Str)) = false := by decide) (he : starEach [e] X.env = (false, eval e X.env) :: starEach [] X.env := by rfl) (hpl : (backTo pos (starEach [] X.env)).any (·.1) = false := by rfl) :
    PE (X.suite a ((a, oe) :: pn)) (.Call (.Name x p) [e] [] pos) (tCallE sp a cls d te) := by
  refine ⟨fun pins s σ H Q I h => ?_⟩
  refine wpAny_Call_Name_kw (ld_glob I hg hm ?_ hdb)
  have ha : PA (X.suite a ((a, oe) :: pn)) [e] (tCons te tNil) := pa_cons he0 pa_nil (hs := he)
  have h' : tCons te tNil σ H (one1 fun x H1 => x = .ref a ∧ (H1 a = none → ∀ o, Zc cls d o → (∃ vs, o.data = .fields vs) → sp [.ref a] (upd H1 a (lentE o)) (fun v H2 => Q v (del H2 a)) (fun _ _ _ => False))) := h
  refine PySem.W.callWith_K (h₀ := X.base) I.ok.mod.kin hk (thn (ha.run pos pins s σ H _ I h') fun us s1 ⟨vs, H1, I1, r, q⟩ => ⟨I1.kIn, ?_⟩) he hpl
  match vs, q with
  | [x], q =>
  obtain ⟨rfl, q⟩ := q
  have hp : (a, oe) ∈ (X.suite a ((a, oe) :: pn)).pn ++ pins := List.mem_append_left _ List.mem_cons_self
  have na := (I1.pin _ hp).2.1
  have q := q na oe hz hf
  have hl : us.length = ps.length := by rw [← r.length]; exact F.len _ _ _ _ q
  have b := hb s1 us I1.kIn (by rw [List.append_nil]; exact hl)
  rw [List.append_nil] at b
  refine wpAny_call (codeAny_mono (F.run _ _ s1 _ ⟨us, []⟩ us _ _ _ hr (lent_env I1 hp hnb) b r q) fun r s' hq => ?_)
  match r, hq with
  | .error e, hq => exact hq.elim
  | .ok (.ret u), hq => exact I1.after (lent_back I1 hp hq)
  | .ok .next, hq => exact hq.elim
  | .ok .brk, hq => exact hq.elim
  | .ok .cont, hq => exact hq.elim
/-- isinstance of it, in the def that has it -/
def rIsL (K : PySem.W.Frag) : List V → Hp → VK → Prop := fun xs H Q => ∃ (a D : Addr) (o : Obj) (d : Option Addr), H a = some (lentE o) ∧ Zc (.ref D) d o ∧ (∃ vs, o.data = .fields vs) ∧ ExcC K D ∧ (d = none ∨ ∃ dd fs, d = some dd ∧ H dd = some (.xd fs)) ∧ rIsE K D a xs H Q
theorem call_isL : CallR X (.builtin "isinstance") (rIsL X.K) := by
  intro pins s σ H xs us Q I r h
  obtain ⟨a, D, o, d, eo, hz, hf, C, hd, c, cv, b, rfl, hcv, e, q⟩ := h
  obtain ⟨u1, u2, rfl, r1, r2⟩ := vals2 r
  obtain rfl : u1 = Value.ref a := r1
  obtain rfl := hcv _ r2
  have ha : s.heap.get? a = some o := (I.hok a _ eo).1
  obtain ⟨od, J⟩ := inst_of I ha hz hf hd
  have hcl : (PySem.W.clsIn X.K D).isSome = true := by
    obtain ⟨cd, h1, _⟩ := PySem.W.any_some C.hd
    rw [h1]; rfl
  exact PySem.W.kia_one (PySem.W.kitx_exc hcl C.hg C.hk C.hs C.ha C.hn C.ht C.hm) I.kIn J e (fun z => nomatch z) fun tk => ⟨.bl b, H, I.kept (t' := tk) fun _ _ z => z, rfl, q⟩
/-- list.count of flat things -/
def rCntV (K : PySem.W.Frag) : V → List V → Hp → VK → Prop := fun x xs H Q => ∃ (a : Addr) (ys : List V) (y : V), x = V.ref a ∧ xs = [y] ∧ SqL K H a ys ∧ flatV y = true ∧ ys.all flatV = true ∧ Q (.int (ys.countP fun z => eqV z y : Nat)) H
theorem cnt_eq {y : V} : ∀ {ys : List V} {us : List Value}, Vals ys us → ys.all flatV = true → us.countP (eqU y) = ys.countP fun z => eqV z y
  | _, _, .nil, _ => rfl
  | _, _, .cons r t, h => by
    rw [List.all_cons, Bool.and_eq_true] at h
    rw [List.countP_cons, List.countP_cons, cnt_eq t h.2, eqU_of r h.1]
theorem mt_countV : MtR X "list.count" (rCntV X.K) := by
  intro pins s σ H x xs v us Q I rx rxs h
  obtain ⟨a, ys, y, rfl, rfl, hs, fy, fys, q⟩ := h
  cases rx
  cases rxs with
  | cons ry rt =>
    rename_i uy ut
    cases rt
    obtain ⟨its, rv, ⟨⟨cls, dd, data, sl⟩, n, ho, hc, hdn, hd⟩, hlen⟩ := I.list hs
    simp only at hc hd
    subst hc hd
    refine call_meets PySem.F.slot_list_count ⟨_, ho, rfl⟩ PySem.F.entry_list_count (PySem.F.args_list_count_2 _ _)
      (SeqAt.list_countAt a its.toArray n dd sl uy (eqU y)) ⟨ho, fun u' hu' => mem_eqAt ry fy rv fys u' (by simpa using hu'), ?_⟩
    have ec : its.toArray.toList.countP (eqU y) = ys.countP fun z => eqV z y := cnt_eq rv fys
    refine ⟨.int (ys.countP fun z => eqV z y : Nat), H, I.tok _, ⟨s.toks, ?_⟩, q⟩
    show Value.int ((its.toArray.toList.countP (eqU y) : Nat) : Int) s.toks = Value.int ((ys.countP fun z => eqV z y : Nat) : Int) s.toks
    rw [ec]
end
end Sip
/-! except C: ..; raise -/
namespace Sip
open PySem PySem.Spec PyProof.Rows L2 TL
/-- a caught error that stands to be raised again: its class, its traceback at T -/
structure Ag (X : Cx) (a : Addr) (oe : Obj) (T : Addr) (oT : Obj) (cls : Value) (d : Option Addr) (pn : List (Addr × Obj)) : Prop where
  ok : X.Ok
  hz : Zc cls d oe
  dat : ∃ vs, oe.data = .fields vs ∧ vs[1]? = some (.ref T)
  tb : ∃ ts, oT.data = .fields ts ∧ ts[3]? = some .none
  ne : T ≠ a
  old : ∀ b o, X.s_0.heap.get? b = some o → b ∉ X.ex → b ≠ a ∧ b ≠ T
  pns : ∀ p ∈ X.pn, p ∈ pn ∧ p.1 ≠ a ∧ p.1 ≠ T
section
variable {X : Cx} {a T : Addr} {oe oT : Obj} {cls : Value} {d : Option Addr} {pn : List (Addr × Obj)} {Wout : WX} {rp : Pos}
abbrev agX (X : Cx) (a : Addr) (oe : Obj) (T : Addr) (oT : Obj) (pn : List (Addr × Obj)) : Cx := L2H.suiteX X a ((a, oe) :: (T, oT) :: pn)
/-- a bare raise in the suite -/
theorem ps_again (stk : X.stack = X.env :: X.outer) (frm : X.env.frame = some X.env.locals) (tk : Takes X Wout) (g : Ag X a oe T oT cls d pn) : PS (agX X a oe T oT pn) (.Raise none none rp) (fun _ σ H => Wout cls d σ H) := by
  refine ⟨fun pins s σ H D I h => wpAny_Raise_bare ?_⟩
  obtain ⟨ha, na, aL, aF, _⟩ := I.pin (a, oe) (List.mem_append_left _ List.mem_cons_self)
  obtain ⟨hT, nT, TL, TF, _⟩ := I.pin (T, oT) (List.mem_append_left _ (List.mem_cons_of_mem _ List.mem_cons_self))
  dsimp only at ha na aL aF hT nT TL TF
  obtain ⟨vs, hd, h1⟩ := g.dat
  obtain ⟨ts, hdT, h3⟩ := g.tb
  have sz : 3 < ts.size := (Array.getElem?_eq_some_iff.mp h3).1
  suffices go : X.xe (.ref a) { s with heap := s.heap.update T (Obj.mapFields (·.setIfInBounds 3 (rawInt X.env.locals))) } by
    unfold raiseBare raiseStmt
    dsimp only
    refine wpAny_bind (wpAny_handled ?_)
    show wpAny _ _ (match (some (Value.ref a) : Option Value) with | _ => _) _ _ _
    dsimp only
    refine wpAny_bind (wpAny_rule ?_)
    refine wpAny_bind (wpAny_field ha hd h1 ?_)
    rw [if_neg (show ¬ ((Value.ref T == Value.none) = true) from by simp)]
    rw [show (agX X a oe T oT pn).env.frame = some X.env.locals from frm]
    first
      | exact wpAny_bind (setFlight_tb (fr := some X.env.locals) ha hd h1 hT hdT sz (wpAny_throw go))
      | exact wpAny_bind (wpAny_pure (wpAny_bind (setFlight_tb (fr := some X.env.locals) ha hd h1 hT hdT sz (wpAny_throw go))))
  have two : ∀ b, b ≠ a → b ≠ T → b ∉ [a, T] := fun b x y => by simp [x, y]
  have hid : ∀ b o, s.heap.get? b = some o → b ≠ a → b ≠ T → (PySem.W.hideAll s.heap [a, T]).get? b = some o := fun b o e x y => PySem.W.hideAll_get _ e (two b x y)
  have off : ∀ b o, (PySem.W.hideAll s.heap [a, T]).get? b = some o → b ≠ a ∧ b ≠ T := fun b o e => by
    constructor
    · rintro rfl; rw [PySem.W.hideAll_none _ (by simp)] at e; cases e
    · rintro rfl; rw [PySem.W.hideAll_none _ (by simp)] at e; cases e
  have cel : ∀ c v, s.heap.IsCell c v → (PySem.W.hideAll s.heap [a, T]).IsCell c v := fun c v ⟨o, ho, hc⟩ => by
    refine ⟨o, hid c o ho ?_ ?_, hc⟩
    · rintro rfl; rw [ha] at ho; cases ho; rw [hd] at hc; cases hc
    · rintro rfl; rw [hT] at ho; cases ho; rw [hdT] at hc; cases hc
  have J : Inv X [] σ H { s with heap := PySem.W.hideAll s.heap [a, T] } := by
    refine ⟨g.ok, I.os, I.bare, ⟨fun b o e n hb hx => ?_, fun b o e n hb hx => ?_, I.base.free, fun b o e hx => ?_, I.base.tups, I.base.frzs, I.base.tbls⟩, ?_, fun x c e => ?_, I.free, I.freeC, fun p hp => ?_, fun b u e => ?_, I.len⟩
    · exact hid b o (I.base.keep b o e n hb hx) (g.old b o e hx).1 (g.old b o e hx).2
    · obtain ⟨sl, q⟩ := I.base.slot b o e n hb hx
      exact ⟨sl, hid b _ q (g.old b o e hx).1 (g.old b o e hx).2⟩
    · obtain ⟨o', q⟩ := I.base.there b o e hx
      exact ⟨o', hid b _ q (g.old b o e hx).1 (g.old b o e hx).2⟩
    · obtain ⟨m, ⟨o, es, ep, ho, r⟩, hl⟩ := I.loc
      refine ⟨m, ⟨o, es, ep, hid _ o ho aL.symm TL.symm, r⟩, fun i x v e1 e2 e3 => ?_⟩
      obtain ⟨u, ru, lk⟩ := hl i x v e1 e2 e3
      refine ⟨u, ru, ?_⟩
      rcases lk with lk | ⟨k, c, e, ic⟩
      · exact .inl lk
      · exact .inr ⟨k, c, e, cel c _ ic⟩
    · obtain ⟨v, ic⟩ := I.cell x c e
      exact ⟨v, cel c v ic⟩
    · rw [List.append_nil] at hp
      obtain ⟨p1, p2, p3⟩ := g.pns p hp
      obtain ⟨q1, q2⟩ := I.pin p (List.mem_append_left _ (List.mem_cons_of_mem _ (List.mem_cons_of_mem _ p1)))
      exact ⟨hid _ _ q1 p2 p3, q2⟩
    · refine (I.hok b u e).stay (fun c v hc q => ?_) (fun _ q => q) fun _ _ q => q
      rcases hc with rfl | hc
      · exact hid _ _ q (ne_of_none e na) (ne_of_none e nT)
      · exact hid _ _ q (ne_of_none hc na) (ne_of_none hc nT)
  have upT : ∀ b o, b ≠ T → s.heap.get? b = some o → (s.heap.update T (Obj.mapFields (·.setIfInBounds 3 (rawInt X.env.locals)))).get? b = some o := fun b o x e => (Heap.get?_update_other _ _ (Ne.symm x)).trans e
  refine tk _ _ ⟨a, PySem.W.hideAll s.heap (a :: T :: frs X.stack), _, [], σ, H, cls, d, rfl, J, fun b o e nb => ?_, fun b o e _ => ⟨o.slots, upT b o (off b o e).2 (PySem.W.of_hideAll _ e)⟩, .inr (.inr ⟨fun b o e => ?_, PySem.W.hideAll_none _ (by simp), ?_, ?_⟩), na, rfl, I.bare, h⟩
  · refine PySem.W.hideAll_get _ (PySem.W.of_hideAll _ e) fun m => ?_
    rcases List.mem_cons.mp m with z | m
    · exact (off b o e).1 z
    rcases List.mem_cons.mp m with z | m
    · exact (off b o e).2 z
    · exact nb m
  · refine upT b o (fun z => ?_) (PySem.W.of_hideAll _ e)
    rw [z, PySem.W.hideAll_none _ (by simp)] at e; cases e
  · refine Heap.FunFrames.of_keeps (fun b o e nf => ⟨o, upT b o (fun z => ?_) e, rfl⟩) (funFrames_none (show s.heap.FunFrames X.base X.stack from I.stack) fun b hb => PySem.W.hideAll_none _ (List.mem_cons_of_mem _ (List.mem_cons_of_mem _ hb)))
    rw [z, hT] at e; cases e
    exact nf _ hdT
  · exact ⟨oe, vs, T, _, _, upT a oe g.ne.symm ha, g.hz, hd, h1, PySem.W.hideAll_none _ (by simp), g.ne, Heap.get?_update_self _ hT (Obj.isFreed_of_fields (Obj.data_mapFields hdT _)), Obj.data_mapFields hdT _, by simp [sz]⟩
end
end Sip
namespace Sip
open PySem PySem.Spec PyProof.Rows L2 TL
section
variable {X : Cx} {x : Str} {c : Value} {body : List Stmt} {b₀ : Stmt} {suite : List Stmt} {np pos pos' : Pos} {tb : WX → TS} {ts : Addr → Value → Option Addr → TS} {Wout : WX}
theorem stk_in {X : Cx} (stk : X.stack = X.env :: X.outer) (frm : X.env.frame = some X.env.locals) {a : Addr} (nL : a ≠ X.env.locals) (nF : a ∉ X.fs) : a ∉ frs X.stack := by
  rw [stk]
  intro m
  obtain ⟨e, h2, h3⟩ := List.mem_filterMap.mp m
  rcases List.mem_cons.mp h2 with rfl | h2
  · rw [frm] at h3; exact nL (Option.some.inj h3).symm
  · exact nF (List.mem_filterMap.mpr ⟨e, h2, h3⟩)
theorem okX {X : Cx} (ok : X.Ok) (a : Addr) (pn : List (Addr × Obj)) : (L2H.suiteX X a pn).Ok :=
  ⟨ok.mod, ok.kind, ok.glob, ok.blt, ok.above, ok.inj, ok.has, ok.cab, (fun z => absurd (show false = true from z) Bool.false_ne_true), ok.frames, ok.stk, ok.exf, ok.bs, ok.bsz, ok.noex, ok.exfs, ok.funs, ok.frf⟩
/-- try: .. except C: .. (a suite that may raise the error again) -/
theorem ps_try_again (stk : X.stack = X.env :: X.outer) (frm : X.env.frame = some X.env.locals) (hc : Names X x c) (hpa : ∀ hd : Option Value, PassesOwnAt (model X.prog X.w) (X.A.mark hd) X.A X.env X.xe) (tk : Takes X Wout)
    (hb : ∀ (W : WX) (pn : List (Addr × Obj)) (xe : Value → Shared → Prop), Takes (X.tr pn xe) W → PassesOwn (model X.prog X.w) X.A X.env xe → PSs (X.tr pn xe) body (tb W))
    (hsu : ∀ (a : Addr) (oe : Obj) (T : Addr) (oT : Obj) (cls : Value) (d : Option Addr) (pn : List (Addr × Obj)), Ag X a oe T oT cls d pn → PSs (agX X a oe T oT pn) (b₀ :: suite) (ts a cls d)) :
    PS X (.Try body [.ExceptHandler (some (.Name x np)) none (b₀ :: suite) pos'] [] [] pos) (fun D σ H => tb (wOnly X.K c ts Wout D) D σ H) := by
  refine ⟨fun pins s σ H D I h => wpAny_Try_except ?_⟩
  have ok := I.ok
  have fr : X.A.frames = some (X.env :: X.outer) := by rw [ok.frames, stk]
  have run := (hb (wOnly X.K c ts Wout D) (X.pn ++ pins) (fun e t1 => wpAny (model X.prog X.w) X.A (noteFrame e X.env) (fun _ t2 => wpAny (model X.prog X.w) X.A (setFlight e none) (fun _ t3 => wpAny (model X.prog X.w) X.A (handleBy e X.env [.ExceptHandler (some (.Name x np)) none (b₀ :: suite) pos']) (SP X pins D) X.xe t3) X.xe t2) X.xe t1) ?_ PassesOwn.looking).run [] s σ H D (I.toTry _) h
  · refine wpAny_mono run (fun f s1 hp => ?_) fun _ _ he => he
    match f, hp with
    | .next, ⟨_, _, J, q⟩ => exact wpAny_execs_nil ⟨_, _, J.ofTry ok, q⟩
    | .brk, ⟨_, _, J, q⟩ => exact ⟨_, _, J.ofTry ok, q⟩
    | .cont, ⟨_, _, J, q⟩ => exact ⟨_, _, J.ofTry ok, q⟩
    | .ret _, ⟨_, _, _, J, r, q⟩ => exact ⟨_, _, _, J.ofTry ok, r, q⟩
  · rintro u s1 ⟨a, B, sI, pins2, σ2, H2, cls, d, rfl, J2, nb, up, sky, na, os, ag, b, hb1, yes, no⟩
    have sky2 : Sky B (X.env :: X.outer) a (Zc cls d) X.env.locals s1.heap := by rw [← stk]; exact sky
    refine Sky.land Zc.steady fr frm sky2 fun h3 f3 u3 => ?_
    obtain ⟨oe, vs, he, hz, hd⟩ := f3.there
    have far : a ∉ frs (X.env :: X.outer) := fun m => by
      obtain ⟨_, o2, e2, nf⟩ := f3.2.2.1.mem m
      rw [he] at e2; cases e2
      exact nf _ hd
    have nL : a ≠ X.env.locals := fun z => far (List.mem_filterMap.mpr ⟨X.env, List.mem_cons_self, by rw [frm, z]⟩)
    have nF : a ∉ X.fs := fun m => by
      obtain ⟨e, h1, h2⟩ := List.mem_filterMap.mp m
      exact far (List.mem_filterMap.mpr ⟨e, List.mem_cons_of_mem _ h1, h2⟩)
    have C : Caught X pins a B sI s1 h3 σ2 H2 cls d := ⟨ok, stk, frm, J2.ofTry ok, nb, up.trans u3, f3, na, nL, nF, os, ag⟩
    have J3 := C.at C.fl (Heap.UpToSlots.refl _)
    have S3 := J3.suite he hd C.na C.nL C.nF
    refine wpAny_handleBy_cons (codeAny_handlers_test ?_) (by intro q; cases q)
    have knows : PySem.W.Looks (model X.prog X.w) h3 (typeOf (.ref a)) cls := fun _ _ _ _ k q => wpAny_typeOf_ref (k _ _ he) (by rw [hz.1]; exact q)
    have look := PySem.W.exm_one (M := model X.prog X.w) J3.kIn knows hb1
    have named : ∀ {Q E : Value → Shared → Prop}, Q c { s1 with heap := h3 } → wpAny (model X.prog X.w) (X.A.mark (some (.ref a))) (eval (.Name x np) X.env) Q E { s1 with heap := h3 } := fun q => by
      rcases hc with ⟨g1, g2, m1 | ⟨m1, m2, m3⟩⟩
      · exact ld_glob (X := X.suite a ((a, oe) :: (X.pn ++ pins))) S3 g1 m1 q g2
      · exact ld_blt (X := X.suite a ((a, oe) :: (X.pn ++ pins))) S3 g1 m1 m2 q m3 g2
    refine named (look.here ?_)
    cases b with
    | false => exact C.none tk (no rfl)
    | true =>
      refine codeAny_handlers_suite (HandSPX.lands_againZ C.fl fun h4 f4 u4 => ?_)
      have J4 := C.at f4 u4
      obtain ⟨k1, k2, k3, oe4, vs4, T, oT, tss, e4, z4, d4, v4, bT, Ta, eT, dT, t3⟩ := id f4
      have farT : T ∉ frs X.stack := fun m => by
        rw [stk] at m
        obtain ⟨_, o2, e2, nf⟩ := f4.2.2.1.mem m
        rw [eT] at e2; cases e2
        exact nf _ dT
      have TL : T ≠ X.env.locals := fun z => farT (by rw [stk]; exact List.mem_filterMap.mpr ⟨X.env, List.mem_cons_self, by rw [frm, z]⟩)
      have TF : T ∉ X.fs := fun m => by
        obtain ⟨e, h1, h2⟩ := List.mem_filterMap.mp m
        exact farT (by rw [stk]; exact List.mem_filterMap.mpr ⟨e, List.mem_cons_of_mem _ h1, h2⟩)
      have farA : a ∉ frs X.stack := by rw [stk]; exact far
      -- what stood ahead of the error is neither it nor its traceback
      have away : ∀ b o, sI.heap.get? b = some o → b ≠ a ∧ b ≠ T := fun b o e => by
        constructor
        · rintro rfl
          have := nb b o e farA
          rw [k2] at this; cases this
        · rintro rfl
          have := nb b o e farT
          rw [bT] at this; cases this
      have I2 : Inv X pins σ2 H2 sI := J2.ofTry ok
      have nT : H2 T = none := by
        cases q : H2 T with
        | none => rfl
        | some u =>
          obtain ⟨o, e⟩ := objOk_get (I2.hok T u q)
          exact absurd rfl (away T o e).2
      have G : Ag X a oe4 T oT cls d (X.pn ++ pins) := ⟨ok, z4, ⟨vs4, d4, v4⟩, ⟨tss, dT, t3⟩, Ta, fun b o e hx => by
        obtain ⟨o', q⟩ := I2.base.there b o e hx
        exact away b o' q, fun p hp => ⟨List.mem_append_left _ hp, away _ _ (I2.pin p (List.mem_append_left _ hp)).1⟩⟩
      have S4 : Inv (agX X a oe4 T oT (X.pn ++ pins)) [] σ2 H2 { s1 with heap := h4 } := by
        refine ⟨okX ok _ _, J4.os, J4.bare, J4.base, J4.loc, J4.cell, J4.free, J4.freeC, fun p hp => ?_, J4.hok, J4.len⟩
        rw [List.append_nil] at hp
        rcases List.mem_cons.mp hp with e | hp
        · rw [e]; exact ⟨e4, na, nL, nF, fun v z => by have z' : oe4.data = .cell v := z; rw [d4] at z'; cases z'⟩
        rcases List.mem_cons.mp hp with e | hp
        · rw [e]; exact ⟨eT, nT, TL, TF, fun v z => by have z' : oT.data = .cell v := z; rw [dT] at z'; cases z'⟩
        · exact J4.pin p hp
      refine wpAny_mono ((hsu a oe4 T oT cls d (X.pn ++ pins) G).run [] _ _ H2 _ S4 (yes rfl a na)) (fun f s6 hp => ?_) fun e6 s6 z => hpa (some (.ref a)) e6 s6 z
      have back : ∀ {σ6 : L2.St} {H6 : Hp}, Inv (agX X a oe4 T oT (X.pn ++ pins)) [] σ6 H6 s6 → Inv X pins σ6 H6 s6 := fun S6 => ⟨ok, S6.os, S6.bare, S6.base, S6.loc, S6.cell, S6.free, S6.freeC, fun p hp => S6.pin p (List.mem_append_left _ (List.mem_cons_of_mem _ (List.mem_cons_of_mem _ hp))), S6.hok, S6.len⟩
      match f, hp with
      | .next, ⟨_, _, S6, q6⟩ => exact ⟨_, _, back S6, q6⟩
      | .brk, ⟨_, _, S6, q6⟩ => exact ⟨_, _, back S6, q6⟩
      | .cont, ⟨_, _, S6, q6⟩ => exact ⟨_, _, back S6, q6⟩
      | .ret _, ⟨_, _, _, S6, r6, q6⟩ => exact ⟨_, _, _, back S6, r6, q6⟩
end
end Sip
/-! a device -/
namespace Sip
open PySem PySem.Spec PyProof.Rows L2 TL
structure Dad where
  d : Addr
  c : Addr
  p : Addr
  l : Addr
structure Dst where
  seek : Bool
  spot : Nat
  bar : Bool
  ns : List Nt
  cells : List Int
  plan : List Int
  used : Nat
def dfs (A : Dad) (seek : Bool) (spot : Nat) (bar : Bool) (used : Nat) : Fs := [("can_seek", .bl seek), ("spot", .int spot), ("barred", .bl bar), ("notes", .ref A.l), ("cells", .ref A.c), ("plan", .ref A.p), ("used", .int used)]
structure DevIn (CD : Addr) (H : Hp) (A : Dad) (S : Dst) (dd : Addr) (vs : List V) (G : Addr → Prop) : Prop where
  hd : H A.d = some (.ins CD dd (dfs A S.seek S.spot S.bar S.used))
  hc : H A.c = some (.lst (S.cells.map V.int))
  hp : H A.p = some (.lst (S.plan.map V.int))
  hl : H A.l = some (.lst vs)
  nn : Nts H G vs S.ns
  al : ∀ b, G b → ∃ o, H b = some o
  ag : ∀ b, G b → b ≠ A.d ∧ b ≠ A.c ∧ b ≠ A.p ∧ b ≠ A.l
  d1 : A.c ≠ A.p
  d2 : A.c ≠ A.l
  d3 : A.p ≠ A.l
def Own4 (A : Dad) (b : Addr) : Prop := b = A.d ∨ b = A.c ∨ b = A.p ∨ b = A.l
def DevAt (CD : Addr) (H : Hp) (A : Dad) (F : Addr → Prop) (S : Dst) : Prop := ∃ dd vs G, DevIn CD H A S dd vs G ∧ ∀ b, F b ↔ Own4 A b ∨ G b
section
variable {CD : Addr} {H H' : Hp} {A : Dad} {S : Dst} {dd : Addr} {vs : List V} {G F : Addr → Prop}
theorem DevIn.nes (h : DevIn CD H A S dd vs G) : A.c ≠ A.d ∧ A.p ≠ A.d ∧ A.l ≠ A.d := ⟨lst_ins h.hc h.hd, lst_ins h.hp h.hd, lst_ins h.hl h.hd⟩
theorem DevAt.loc (h : DevAt CD H A F S) (k : ∀ b o, F b → H b = some o → H' b = some o) : DevAt CD H' A F S := by
  obtain ⟨dd, vs, G, I, hF⟩ := h
  have o4 : ∀ {b o}, Own4 A b → H b = some o → H' b = some o := fun {b o} z e => k b o ((hF b).mpr (.inl z)) e
  have kg : ∀ b o, G b → H b = some o → H' b = some o := fun b o z e => k b o ((hF b).mpr (.inr z)) e
  exact ⟨dd, vs, G, ⟨o4 (.inl rfl) I.hd, o4 (.inr (.inl rfl)) I.hc, o4 (.inr (.inr (.inl rfl))) I.hp, o4 (.inr (.inr (.inr rfl))) I.hl, I.nn.keep kg (fun _ z => z), fun b z => (I.al b z).elim fun o e => ⟨o, kg b o z e⟩, I.ag, I.d1, I.d2, I.d3⟩, hF⟩
theorem DevAt.same (h : DevAt CD H A F S) (s : Same H H') : DevAt CD H' A F S := h.loc fun b o _ e => s b o e
theorem DevAt.kp {qs : List Addr} (h : DevAt CD H A F S) (k : Kp qs H H') (n : ∀ q ∈ qs, ¬ F q) : DevAt CD H' A F S := h.loc fun b o f e => k b o (fun z => n b z f) e
theorem DevAt.own (h : DevAt CD H A F S) : ∀ b, F b → ∃ o, H b = some o := by
  obtain ⟨dd, vs, G, I, hF⟩ := h
  intro b z
  rcases (hF b).mp z with (rfl | rfl | rfl | rfl) | z
  · exact ⟨_, I.hd⟩
  · exact ⟨_, I.hc⟩
  · exact ⟨_, I.hp⟩
  · exact ⟨_, I.hl⟩
  · exact I.al b z
theorem DevAt.new {q : Addr} (h : DevAt CD H A F S) (n : H q = none) : ¬ F q := fun f => by
  obtain ⟨o, e⟩ := h.own q f
  rw [n] at e; cases e
/-- its own fields are put anew -/
theorem DevIn.setd (I : DevIn CD H A S dd vs G) (spot : Nat) (bar : Bool) (used : Nat) : DevIn CD (upd H A.d (.ins CD dd (dfs A S.seek spot bar used))) A { S with spot := spot, bar := bar, used := used } dd vs G := by
  obtain ⟨n1, n2, n3⟩ := I.nes
  have kg : ∀ x o, G x → H x = some o → (upd H A.d (.ins CD dd (dfs A S.seek spot bar used))) x = some o := fun x o z e => by rw [upd_ne (I.ag x z).1]; exact e
  exact ⟨upd_same, by rw [upd_ne n1]; exact I.hc, by rw [upd_ne n2]; exact I.hp, by rw [upd_ne n3]; exact I.hl, I.nn.keep kg (fun _ z => z), fun b z => (I.al b z).elim fun o e => ⟨o, kg b o z e⟩, I.ag, I.d1, I.d2, I.d3⟩
/-- the row, in its list -/
theorem DevIn.setc (I : DevIn CD H A S dd vs G) (xs : List Int) : DevIn CD (upd H A.c (.lst (xs.map V.int))) A { S with cells := xs } dd vs G := by
  obtain ⟨n1, n2, n3⟩ := I.nes
  have kg : ∀ x o, G x → H x = some o → (upd H A.c (.lst (xs.map V.int))) x = some o := fun x o z e => by rw [upd_ne (I.ag x z).2.1]; exact e
  exact ⟨by rw [upd_ne n1.symm]; exact I.hd, upd_same, by rw [upd_ne I.d1.symm]; exact I.hp, by rw [upd_ne I.d2.symm]; exact I.hl, I.nn.keep kg (fun _ z => z), fun b z => (I.al b z).elim fun o e => ⟨o, kg b o z e⟩, I.ag, I.d1, I.d2, I.d3⟩
/-- the row, in another list c -/
theorem DevIn.newc (I : DevIn CD H A S dd vs G) {c : Addr} {xs : List Int} (hc : H c = some (.lst (xs.map V.int))) (nF : ¬ (Own4 A c ∨ G c)) :
    DevIn CD (upd H A.d (.ins CD dd (dfs { A with c := c } S.seek S.spot S.bar S.used))) { A with c := c } { S with cells := xs } dd vs G := by
  obtain ⟨n1, n2, n3⟩ := I.nes
  have cd : c ≠ A.d := fun z => nF (.inl (.inl z))
  have kg : ∀ x o, G x → H x = some o → (upd H A.d (.ins CD dd (dfs { A with c := c } S.seek S.spot S.bar S.used))) x = some o := fun x o z e => by rw [upd_ne (I.ag x z).1]; exact e
  exact ⟨upd_same, by rw [upd_ne cd]; exact hc, by show (upd H A.d _) A.p = _; rw [upd_ne n2]; exact I.hp, by show (upd H A.d _) A.l = _; rw [upd_ne n3]; exact I.hl, I.nn.keep kg (fun _ z => z), fun b z => (I.al b z).elim fun o e => ⟨o, kg b o z e⟩,
    fun b z => ⟨(I.ag b z).1, fun y => nF (.inr (by rw [← show b = c from y]; exact z)), (I.ag b z).2.2.1, (I.ag b z).2.2.2⟩, fun z => nF (.inl (.inr (.inr (.inl z)))), fun z => nF (.inl (.inr (.inr (.inr z)))), I.d3⟩
/-- a note more: its tuple new, its lists G0 handed over -/
theorem DevIn.note (I : DevIn CD H A S dd vs G) {t : Addr} {n : Nt} {hv cv : V} {G0 : Addr → Prop} (nt : H t = none) (h0 : TgAt H G0 hv n.h) (c0 : TgAt H G0 cv n.c) (ok : NtOk n) (ep : n.p = S.spot) (a0 : ∀ b, G0 b → ∃ o, H b = some o) (n0 : ∀ b, G0 b → ¬ Own4 A b) :
    DevIn CD (upd (upd H t (.tup [.str n.w, .int S.spot, hv, cv])) A.l (.lst (vs ++ [.ref t]))) A { S with ns := S.ns ++ [n] } dd (vs ++ [.ref t]) (fun b => G b ∨ b = t ∨ G0 b) := by
  obtain ⟨n1, n2, n3⟩ := I.nes
  have ne : ∀ {b o}, H b = some o → b ≠ t := fun {b o} e => ne_of_none e nt
  have kp : ∀ b o, b ≠ A.l → H b = some o → (upd (upd H t (.tup [.str n.w, .int S.spot, hv, cv])) A.l (.lst (vs ++ [.ref t]))) b = some o := fun b o z e => by rw [upd_ne z, upd_ne (ne e)]; exact e
  have kg : ∀ b o, G b → H b = some o → (upd (upd H t (.tup [.str n.w, .int S.spot, hv, cv])) A.l (.lst (vs ++ [.ref t]))) b = some o := fun b o z e => kp b o (I.ag b z).2.2.2 e
  have k0 : ∀ b o, G0 b → H b = some o → (upd (upd H t (.tup [.str n.w, .int S.spot, hv, cv])) A.l (.lst (vs ++ [.ref t]))) b = some o := fun b o z e => kp b o (fun y => n0 b z (.inr (.inr (.inr y)))) e
  have tl : t ≠ A.l := (ne I.hl).symm
  refine ⟨kp _ _ n3.symm I.hd, kp _ _ I.d2 I.hc, kp _ _ I.d3 I.hp, upd_same, Nts.snoc ⟨t, hv, cv, rfl, .inr (.inl rfl), ?_, h0.keep k0 (fun _ z => .inr (.inr z)), c0.keep k0 (fun _ z => .inr (.inr z)), ok⟩ (I.nn.keep kg (fun _ z => .inl z)), ?_, ?_, I.d1, I.d2, I.d3⟩
  · rw [upd_ne tl, upd_same, ep]
  · rintro b (z | rfl | z)
    · exact (I.al b z).elim fun o e => ⟨o, kg b o z e⟩
    · exact ⟨_, by rw [upd_ne tl]; exact upd_same⟩
    · exact (a0 b z).elim fun o e => ⟨o, k0 b o z e⟩
  · rintro b (z | rfl | z)
    · exact I.ag b z
    · exact ⟨(ne I.hd).symm, (ne I.hc).symm, (ne I.hp).symm, (ne I.hl).symm⟩
    · have h := n0 b z
      exact ⟨fun y => h (.inl y), fun y => h (.inr (.inl y)), fun y => h (.inr (.inr (.inl y))), fun y => h (.inr (.inr (.inr y)))⟩
theorem own_dev {x : Addr} {o : HO} (hF : ∀ b, F b ↔ Own4 A b ∨ G b) (hx : Own4 A x) : Step F H F (upd H x o) := ⟨fun b o nf e => by
  have n : b ≠ x := fun z => nf ((hF b).mpr (.inl (by rw [z]; exact hx)))
  rw [upd_ne n]; exact e, fun b z => .inl z⟩
theorem dfs_seek (A : Dad) (k : Bool) (s : Nat) (b : Bool) (u : Nat) : (dfs A k s b u).lookup ("can_seek" : Str) = some (.bl k) := by unfold dfs; kernel_rfl
theorem dfs_spot (A : Dad) (k : Bool) (s : Nat) (b : Bool) (u : Nat) : (dfs A k s b u).lookup ("spot" : Str) = some (.int s) := by unfold dfs; kernel_rfl
theorem dfs_barred (A : Dad) (k : Bool) (s : Nat) (b : Bool) (u : Nat) : (dfs A k s b u).lookup ("barred" : Str) = some (.bl b) := by unfold dfs; kernel_rfl
theorem dfs_notes (A : Dad) (k : Bool) (s : Nat) (b : Bool) (u : Nat) : (dfs A k s b u).lookup ("notes" : Str) = some (.ref A.l) := by unfold dfs; kernel_rfl
theorem dfs_cells (A : Dad) (k : Bool) (s : Nat) (b : Bool) (u : Nat) : (dfs A k s b u).lookup ("cells" : Str) = some (.ref A.c) := by unfold dfs; kernel_rfl
theorem dfs_plan (A : Dad) (k : Bool) (s : Nat) (b : Bool) (u : Nat) : (dfs A k s b u).lookup ("plan" : Str) = some (.ref A.p) := by unfold dfs; kernel_rfl
theorem dfs_used (A : Dad) (k : Bool) (s : Nat) (b : Bool) (u : Nat) : (dfs A k s b u).lookup ("used" : Str) = some (.int u) := by unfold dfs; kernel_rfl
theorem dfs_put_s (A : Dad) (k : Bool) (s r : Nat) (b : Bool) (u : Nat) : putF ("spot" : Str) (.int r) (dfs A k s b u) = dfs A k r b u := by unfold dfs; kernel_rfl
theorem dfs_put_b (A : Dad) (k : Bool) (s : Nat) (b c : Bool) (u : Nat) : putF ("barred" : Str) (.bl c) (dfs A k s b u) = dfs A k s c u := by unfold dfs; kernel_rfl
theorem dfs_put_u (A : Dad) (k : Bool) (s : Nat) (b : Bool) (u v : Nat) : putF ("used" : Str) (.int v) (dfs A k s b u) = dfs A k s b v := by unfold dfs; kernel_rfl
theorem dfs_put_c (A : Dad) (k : Bool) (s : Nat) (b : Bool) (u : Nat) (c : Addr) : putF ("cells" : Str) (.ref c) (dfs A k s b u) = dfs { A with c := c } k s b u := by unfold dfs; kernel_rfl
theorem dfs_few (A : Dad) (k : Bool) (s : Nat) (b : Bool) (u : Nat) : (dfs A k s b u).length < 1000 := by show 7 < 1000; decide
theorem dfs_no (A : Dad) (k : Bool) (s : Nat) (b : Bool) (u : Nat) : ∀ m ∈ (["take", "put", "go", "cut", "shut", "place", "size", "seeks", "is_shut", "log", "log_behind", "note", "check_open", "check_seeks", "may_take", "may_put", "may_cut", "give", "accept", "move", "trim", "extent", "grow", "content", "left", "allowed"] : List Str), (dfs A k s b u).lookup m = none := by
  intro m hm
  simp only [List.mem_cons, List.mem_nil_iff, or_false] at hm
  unfold dfs
  rcases hm with rfl | rfl | rfl | rfl | rfl | rfl | rfl | rfl | rfl | rfl | rfl | rfl | rfl | rfl | rfl | rfl | rfl | rfl | rfl | rfl | rfl | rfl | rfl | rfl | rfl | rfl <;> kernel_rfl
end
end Sip
/-! a heap in pieces that have nothing in common -/
namespace Sip
open PySem PySem.Spec PyProof.Rows L2 TL
inductive Ch
  | pt (a : Addr) (o : HO)
  | ab (P : Hp → (Addr → Prop) → Prop)
def Ch.P : Ch → Hp → (Addr → Prop) → Prop
  | .pt a o => fun H F => H a = some o ∧ ∀ b, F b ↔ b = a
  | .ab P => P
/-- the piece is there, at just these places, whatever else is changed -/
def Ch.On (c : Ch) (H : Hp) (F : Addr → Prop) : Prop := (∀ H', (∀ b o, F b → H b = some o → H' b = some o) → c.P H' F) ∧ ∀ b, F b → ∃ o, H b = some o
def SatF (H : Hp) : List Ch → (Addr → Prop) → Prop
  | [], F => ∀ b, ¬ F b
  | c :: cs, F => ∃ F1 F2, c.On H F1 ∧ SatF H cs F2 ∧ (∀ b, F1 b → ¬ F2 b) ∧ ∀ b, F b ↔ F1 b ∨ F2 b
def Sat (H : Hp) (cs : List Ch) : Prop := ∃ F, SatF H cs F
inductive Pull (c : Ch) : List Ch → List Ch → Prop
  | hd {cs} : Pull c (c :: cs) cs
  | tl {d cs cs1} : Pull c cs cs1 → Pull c (d :: cs) (d :: cs1)
inductive Pk : List Ch → List Ch → Prop
  | nil {cs} : Pk cs cs
  | cons {c cs cs1 ds} : Pull c cs cs1 → Pk cs1 ds → Pk cs (c :: ds)
  | drop {c cs ds} : Pk cs ds → Pk (c :: cs) ds
section
variable {H H' H1 : Hp} {c d : Ch} {cs ds cs1 : List Ch} {F F1 F2 : Addr → Prop} {a b l p : Addr} {o o' o1 : HO}
theorem Ch.On.here (h : c.On H F) : c.P H F := h.1 H fun _ _ _ e => e
theorem Ch.On.keep (h : c.On H F) (k : ∀ b o, F b → H b = some o → H' b = some o) : c.On H' F :=
  ⟨fun H2 k2 => h.1 H2 fun b o f e => k2 b o f (k b o f e), fun b f => (h.2 b f).elim fun o e => ⟨o, k b o f e⟩⟩
theorem SatF.own : ∀ {cs : List Ch} {F : Addr → Prop}, SatF H cs F → ∀ b, F b → ∃ o, H b = some o
  | [], F, h, b, f => (h b f).elim
  | c :: cs, F, ⟨F1, F2, h1, h2, _, u⟩, b, f => ((u b).mp f).elim (h1.2 b) (SatF.own h2 b)
theorem SatF.keep : ∀ {cs : List Ch} {F : Addr → Prop}, SatF H cs F → (∀ b o, F b → H b = some o → H' b = some o) → SatF H' cs F
  | [], F, h, _ => h
  | c :: cs, F, ⟨F1, F2, h1, h2, d, u⟩, k => ⟨F1, F2, h1.keep fun b o f e => k b o ((u b).mpr (.inl f)) e, SatF.keep h2 fun b o f e => k b o ((u b).mpr (.inr f)) e, d, u⟩
theorem SatF.perm {cs ds : List Ch} (p : cs.Perm ds) : ∀ {F : Addr → Prop}, SatF H cs F → SatF H ds F := by
  induction p with
  | nil => exact fun h => h
  | cons x _ ih => exact fun ⟨F1, F2, h1, h2, d, u⟩ => ⟨F1, F2, h1, ih h2, d, u⟩
  | swap x y l =>
    rintro F ⟨F1, F2, h1, ⟨F3, F4, h3, h4, d2, u2⟩, d, u⟩
    refine ⟨F3, fun b => F1 b ∨ F4 b, h3, ⟨F1, F4, h1, h4, fun b f g => d b f ((u2 b).mpr (.inr g)), fun _ => Iff.rfl⟩, fun b f g => ?_, fun b => ?_⟩
    · exact g.elim (fun g => d b g ((u2 b).mpr (.inl f))) (d2 b f)
    · rw [u b, u2 b]
      constructor
      · rintro (x | x | x)
        · exact .inr (.inl x)
        · exact .inl x
        · exact .inr (.inr x)
      · rintro (x | x | x)
        · exact .inr (.inl x)
        · exact .inl x
        · exact .inr (.inr x)
  | trans _ _ i1 i2 => exact fun h => i2 (i1 h)
theorem Pull.perm : ∀ {cs cs1 : List Ch}, Pull c cs cs1 → cs.Perm (c :: cs1)
  | _, _, .hd => .refl _
  | _, _, .tl (d := d) h => (List.Perm.cons d h.perm).trans (.swap _ _ _)
theorem Sat.perm (h : Sat H cs) (p : cs.Perm ds) : Sat H ds := h.elim fun F h => ⟨F, h.perm p⟩
theorem Sat.tl (h : Sat H (c :: cs)) : Sat H cs := by
  obtain ⟨F, F1, F2, _, h, _⟩ := h
  exact ⟨F2, h⟩
theorem Sat.pull (h : Sat H cs) (p : Pull c cs cs1) : Sat H (c :: cs1) := h.perm p.perm
theorem SatF.cons {F : Addr → Prop} (h : Sat H (c :: cs)) : ∃ F1 F2, c.On H F1 ∧ SatF H cs F2 ∧ ∀ b, F1 b → ¬ F2 b := by
  obtain ⟨F, F1, F2, h1, h2, d, _⟩ := h
  exact ⟨F1, F2, h1, h2, d⟩
theorem Sat.mk (h1 : c.On H F1) (h2 : SatF H cs F2) (d : ∀ b, F1 b → ¬ F2 b) : Sat H (c :: cs) := ⟨fun b => F1 b ∨ F2 b, F1, F2, h1, h2, d, fun _ => Iff.rfl⟩
/-- a piece is opened: whatever is done to it alone -/
theorem Sat.opn (h : Sat H (c :: cs)) : ∃ F, c.On H F ∧ ∀ c' F' H', (∀ b o, ¬ F b → H b = some o → H' b = some o) → (∀ b, F' b → F b ∨ H b = none) → c'.On H' F' → Sat H' (c' :: cs) := by
  obtain ⟨F, F1, F2, h1, h2, d, u⟩ := h
  refine ⟨F1, h1, fun c' F' H' k f o => Sat.mk o (h2.keep fun b o g e => k b o (fun x => d b x g) e) fun b x g => ?_⟩
  rcases f b x with y | y
  · exact d b y g
  · obtain ⟨o, e⟩ := h2.own b g
    rw [y] at e; cases e
theorem Pk.satF : ∀ {cs ds : List Ch}, Pk cs ds → ∀ {F : Addr → Prop}, SatF H cs F → ∃ F', SatF H ds F' ∧ ∀ b, F' b → F b
  | _, _, .nil, F, h => ⟨F, h, fun _ z => z⟩
  | _, _, .cons p q, F, h => by
    obtain ⟨F1, F2, h1, h2, d, u⟩ := h.perm p.perm
    obtain ⟨F3, h3, s⟩ := q.satF h2
    exact ⟨fun b => F1 b ∨ F3 b, ⟨F1, F3, h1, h3, fun b x y => d b x (s b y), fun _ => Iff.rfl⟩, fun b z => (u b).mpr (z.imp id (s b))⟩
  | _, _, .drop q, F, ⟨F1, F2, _, h2, _, u⟩ => by
    obtain ⟨F3, h3, s⟩ := q.satF h2
    exact ⟨F3, h3, fun b z => (u b).mpr (.inr (s b z))⟩
theorem Sat.pk (h : Sat H cs) (p : Pk cs ds) : Sat H ds := by
  obtain ⟨F, h⟩ := h
  obtain ⟨F', h', _⟩ := p.satF h
  exact ⟨F', h'⟩
theorem On.pt (h : H a = some o) : (Ch.pt a o).On H (fun b => b = a) := ⟨fun H' k => ⟨k a o rfl h, fun _ => Iff.rfl⟩, fun b z => ⟨o, by rw [show b = a from z]; exact h⟩⟩
theorem Sat.get (h : Sat H cs) (p : Pull (.pt a o) cs cs1) : H a = some o := by
  obtain ⟨F, F1, F2, h1, _⟩ := h.pull p
  exact h1.here.1
theorem Sat.alloc (h : Sat H cs) (n : H l = none) (g : upd H l o = H1) : Sat H1 (.pt l o :: cs) := by
  obtain ⟨F, h⟩ := h
  subst g
  refine Sat.mk (On.pt upd_same) (h.keep fun b o f e => ?_) fun b z f => ?_
  · rw [upd_ne (ne_of_none e n)]; exact e
  · obtain ⟨o, e⟩ := h.own b f
    rw [show b = l from z, n] at e; cases e
theorem Sat.put (h : Sat H (.pt a o :: cs)) (g : upd H a o' = H1) : Sat H1 (.pt a o' :: cs) := by
  obtain ⟨F, h1, k⟩ := h.opn
  subst g
  have hF := h1.here.2
  refine k _ (fun b => b = a) _ (fun b o n e => ?_) (fun b z => .inl ((hF b).mpr z)) (On.pt upd_same)
  rw [upd_ne (fun z => n ((hF b).mpr z))]; exact e
theorem Sat.same (h : Sat H cs) (s : Same H H') : Sat H' cs := h.elim fun F h => ⟨F, h.keep fun b o _ e => s b o e⟩
theorem Sat.fresh (h : Sat H cs) (s : Same H H') (n : H l = none) (e : H' l = some o) : Sat H' (.pt l o :: cs) := by
  obtain ⟨F, h⟩ := h
  refine Sat.mk (On.pt e) (h.keep fun b o _ e => s b o e) fun b z f => ?_
  obtain ⟨o, e⟩ := h.own b f
  rw [show b = l from z, n] at e; cases e
theorem Sat.ne2 (h : Sat H (.pt a o :: .pt b o' :: cs)) : a ≠ b := by
  obtain ⟨F, F1, F2, h1, ⟨F3, F4, h3, _, _, u⟩, d, _⟩ := h
  intro z
  exact d a ((h1.here.2 a).mpr rfl) ((u a).mpr (.inl ((h3.here.2 a).mpr z)))
theorem SatF.split : ∀ {ds : List Ch} {F : Addr → Prop}, SatF H (ds ++ cs) F → ∃ F1 F2, SatF H ds F1 ∧ SatF H cs F2 ∧ (∀ b, F1 b → ¬ F2 b) ∧ ∀ b, F b ↔ F1 b ∨ F2 b
  | [], F, h => ⟨fun _ => False, F, fun _ z => z, h, fun _ z => z.elim, fun b => ⟨.inr, fun z => z.elim (fun z => z.elim) id⟩⟩
  | c :: ds, F, ⟨F1, F2, h1, h2, d, u⟩ => by
    obtain ⟨F3, F4, h3, h4, d2, u2⟩ := SatF.split h2
    refine ⟨fun b => F1 b ∨ F3 b, F4, ⟨F1, F3, h1, h3, fun b x y => d b x ((u2 b).mpr (.inl y)), fun _ => Iff.rfl⟩, h4, fun b x y => ?_, fun b => ?_⟩
    · exact x.elim (fun x => d b x ((u2 b).mpr (.inr y))) fun x => d2 b x y
    · rw [u b, u2 b, or_assoc]
theorem SatF.join : ∀ {ds : List Ch} {F1 F2 : Addr → Prop}, SatF H ds F1 → SatF H cs F2 → (∀ b, F1 b → ¬ F2 b) → SatF H (ds ++ cs) (fun b => F1 b ∨ F2 b)
  | [], F1, F2, h1, h2, d => by
    have e : (fun b => F1 b ∨ F2 b) = F2 := funext fun b => propext ⟨fun z => z.elim (fun z => (h1 b z).elim) id, .inr⟩
    rw [e]; exact h2
  | c :: ds, F, F2, ⟨F3, F4, h3, h4, d, u⟩, h2, d2 => ⟨F3, fun b => F4 b ∨ F2 b, h3, SatF.join h4 h2 (fun b x y => d2 b ((u b).mpr (.inr x)) y), fun b x y => y.elim (d b x) (d2 b ((u b).mpr (.inl x))), fun b => by show F b ∨ F2 b ↔ F3 b ∨ F4 b ∨ F2 b; rw [u b, or_assoc]⟩
/-- pieces of which only some word is known -/
def exC {α : Type} (P : α → Prop) (f : α → List Ch) : Ch := .ab fun H F => ∃ x, P x ∧ SatF H (f x) F
theorem On.exC {α : Type} {P : α → Prop} {f : α → List Ch} {x : α} (hP : P x) (h : SatF H (f x) F) : (exC P f).On H F := ⟨fun H' k => ⟨x, hP, h.keep k⟩, h.own⟩
theorem Sat.exE {α : Type} {P : α → Prop} {f : α → List Ch} (h : Sat H (exC P f :: cs)) : ∃ x, P x ∧ Sat H (f x ++ cs) := by
  obtain ⟨F, F1, F2, h1, h2, d, u⟩ := h
  obtain ⟨x, hP, h3⟩ := h1.here
  exact ⟨x, hP, _, h3.join h2 d⟩
theorem Sat.exI {α : Type} {P : α → Prop} {f : α → List Ch} (x : α) (hP : P x) (h : Sat H (f x ++ cs)) : Sat H (exC P f :: cs) := by
  obtain ⟨F, h⟩ := h
  obtain ⟨F1, F2, h1, h2, d, u⟩ := h.split
  exact Sat.mk (On.exC hP h1) h2 d
/-- a whole group opened -/
theorem Sat.opnL {ds : List Ch} (h : Sat H (ds ++ cs)) : ∃ F, SatF H ds F ∧ ∀ ds' F' H', Step F H F' H' → SatF H' ds' F' → Sat H' (ds' ++ cs) := by
  obtain ⟨F, h⟩ := h
  obtain ⟨F1, F2, h1, h2, d, u⟩ := h.split
  refine ⟨F1, h1, fun ds' F' H' st o => ⟨_, o.join (h2.keep fun b o g e => st.1 b o (fun x => d b x g) e) fun b x g => ?_⟩⟩
  rcases st.2 b x with y | y
  · exact d b y g
  · obtain ⟨o, e⟩ := h2.own b g
    rw [y] at e; cases e
theorem SatF.one (h : c.On H F) : SatF H [c] F := ⟨F, fun _ => False, h, fun _ z => z, fun _ _ z => z, fun b => ⟨.inl, fun z => z.elim id fun z => z.elim⟩⟩
theorem SatF.of1 (h : SatF H [c] F) : c.On H F := by
  obtain ⟨F1, F2, h1, h2, d, u⟩ := h
  have e : F1 = F := funext fun b => propext ⟨fun z => (u b).mpr (.inl z), fun z => ((u b).mp z).elim id fun z => (h2 b z).elim⟩
  rw [← e]; exact h1
/-- the law's pool -/
def poolC (p : Addr) (n : Int) : Ch := exC (fun o => PoolO n o) fun o => [.pt p o]
theorem Sat.pool {n : Int} (h : Sat H (poolC p n :: cs)) : ∃ o, H p = some o ∧ PoolO n o := by
  obtain ⟨o, hP, h⟩ := h.exE
  exact ⟨o, h.get .hd, hP⟩
theorem Sat.poolp {n m : Int} (h : Sat H (poolC p n :: cs)) (hP : PoolO m o) (g : upd H p o = H1) : Sat H1 (poolC p m :: cs) := by
  obtain ⟨o, _, h⟩ := h.exE
  exact Sat.exI _ hP (Sat.put h g)
theorem Sat.poolup {n m : Int} (h : Sat H (poolC p n :: cs)) (l : n ≤ m) : Sat H (poolC p m :: cs) := by
  obtain ⟨o, hP, h⟩ := h.exE
  exact Sat.exI o (hP.up l) h
/-- a list that the library may hold -/
def scrC (K : PySem.W.Frag) (a : Addr) (xs : List V) : Ch := .ab fun H F => SqL K H a xs ∧ ((∀ b, F b ↔ b = a) ∨ ∀ b, ¬ F b)
theorem Sat.scr {K : PySem.W.Frag} {xs : List V} (h : Sat H cs) (p : Pull (scrC K a xs) cs cs1) : SqL K H a xs := by
  obtain ⟨F, F1, F2, h1, _⟩ := h.pull p
  exact h1.here.1
theorem Sat.scr0 {K : PySem.W.Frag} {xs : List V} (h : SqL K H a xs) : Sat H [scrC K a xs] := by
  cases e : H a with
  | some o => exact ⟨_, SatF.one (F := fun b => b = a) ⟨fun H' k => ⟨by
      rcases h with (h | ⟨u, h⟩) | h
      · exact .inl (.inl (k a _ rfl h))
      · exact .inl (.inr ⟨u, k a _ rfl h⟩)
      · exact .inr h, .inl fun _ => Iff.rfl⟩, fun b z => ⟨o, by rw [show b = a from z]; exact e⟩⟩⟩
  | none => exact ⟨_, SatF.one (F := fun _ => False) ⟨fun H' k => ⟨by
      rcases h with (h | ⟨u, h⟩) | h
      · rw [e] at h; cases h
      · rw [e] at h; cases h
      · exact .inr h, .inr fun _ z => z⟩, fun b z => z.elim⟩⟩
/-- lists of which nothing but their length is known -/
def jkC (m : Nat) (zs : List Addr) : Ch := .ab fun H F => (∀ z ∈ zs, ∃ xs, H z = some (.lst xs) ∧ xs.length ≤ m) ∧ ∀ b, F b ↔ b ∈ zs
theorem On.jk {m : Nat} {zs : List Addr} (h : ∀ z ∈ zs, ∃ xs, H z = some (.lst xs) ∧ xs.length ≤ m) : (jkC m zs).On H (fun b => b ∈ zs) :=
  ⟨fun H' k => ⟨fun z hz => by obtain ⟨xs, e, l⟩ := h z hz; exact ⟨xs, k z _ hz e, l⟩, fun _ => Iff.rfl⟩, fun b hb => by obtain ⟨xs, e, l⟩ := h b hb; exact ⟨_, e⟩⟩
theorem Sat.jk0 {m : Nat} (h : Sat H cs) : Sat H (jkC m [] :: cs) := by
  obtain ⟨F, h⟩ := h
  exact Sat.mk (On.jk (fun z hz => by cases hz)) h (fun b z => by cases z)
theorem Sat.jk1 {m : Nat} {zs : List Addr} {xs : List V} (h : Sat H (.pt a (.lst xs) :: jkC m zs :: cs)) (l : xs.length ≤ m) : Sat H (jkC m (a :: zs) :: cs) := by
  obtain ⟨F, F1, F2, h1, ⟨F3, F4, h3, h4, d2, u2⟩, d, u⟩ := h
  have e1 := h1.here.2
  have e3 := h3.here.2
  refine Sat.mk (On.jk (fun z hz => ?_)) h4 (fun b z => ?_)
  · rcases List.mem_cons.mp hz with rfl | hz
    · exact ⟨xs, h1.here.1, l⟩
    · exact h3.here.1 z hz
  · rcases List.mem_cons.mp z with rfl | z
    · exact fun w => d b ((e1 b).mpr rfl) ((u2 b).mpr (.inr w))
    · exact d2 b ((e3 b).mpr z)
theorem Sat.jkup {m n : Nat} {zs : List Addr} (h : Sat H (jkC m zs :: cs)) (l : m ≤ n) : Sat H (jkC n zs :: cs) := by
  obtain ⟨F, F1, F2, h1, h2, d, u⟩ := h
  have e1 := h1.here.2
  refine Sat.mk (On.jk (fun z hz => ?_)) h2 (fun b z => d b ((e1 b).mpr z))
  obtain ⟨xs, e, lx⟩ := h1.here.1 z hz
  exact ⟨xs, e, by omega⟩
theorem Sat.jksub {m : Nat} {zs ys : List Addr} (h : Sat H (jkC m zs :: cs)) (s : ∀ y ∈ ys, y ∈ zs) : Sat H (jkC m ys :: cs) := by
  obtain ⟨F, F1, F2, h1, h2, d, u⟩ := h
  have e1 := h1.here.2
  exact Sat.mk (On.jk (fun z hz => h1.here.1 z (s z hz))) h2 (fun b z => d b ((e1 b).mpr (s b z)))
theorem Sat.jkadd {m : Nat} {zs ys : List Addr} (h : Sat H (jkC m zs :: jkC m ys :: cs)) : Sat H (jkC m (zs ++ ys) :: cs) := by
  obtain ⟨F, F1, F2, h1, ⟨F3, F4, h3, h4, d2, u2⟩, d, u⟩ := h
  have e1 := h1.here.2
  have e3 := h3.here.2
  refine Sat.mk (On.jk (fun z hz => ?_)) h4 (fun b z => ?_)
  · rcases List.mem_append.mp hz with hz | hz
    · exact h1.here.1 z hz
    · exact h3.here.1 z hz
  · rcases List.mem_append.mp z with z | z
    · exact fun w => d b ((e1 b).mpr z) ((u2 b).mpr (.inr w))
    · exact d2 b ((e3 b).mpr z)
/-- one of them, and what is put in its place -/
theorem Sat.jkE {m : Nat} {zs : List Addr} (h : Sat H (jkC m zs :: cs)) {z : Addr} (hz : z ∈ zs) : ∃ xs, H z = some (.lst xs) ∧ xs.length ≤ m ∧ ∀ xs' H1, xs'.length ≤ m + 1 → upd H z (.lst xs') = H1 → Sat H1 (jkC (m + 1) zs :: cs) := by
  obtain ⟨F, h1, k⟩ := h.opn
  obtain ⟨xs, e, lx⟩ := h1.here.1 z hz
  have hF := h1.here.2
  refine ⟨xs, e, lx, fun xs' H1 l g => ?_⟩
  subst g
  refine k _ (fun b => b ∈ zs) _ (fun b o n e => ?_) (fun b y => .inl ((hF b).mpr y)) (On.jk fun y hy => ?_)
  · rw [upd_ne (fun y => n ((hF b).mpr (by rw [y]; exact hz)))]; exact e
  · by_cases yz : y = z
    · rw [yz]; exact ⟨xs', upd_same, l⟩
    · obtain ⟨ys, ey, ly⟩ := h1.here.1 y hy
      exact ⟨ys, by rw [upd_ne yz]; exact ey, by omega⟩
/-- a device -/
def devC (CD d : Addr) (S : Dst) : Ch := .ab fun H F => ∃ A : Dad, A.d = d ∧ DevAt CD H A F S
theorem On.dev {CD : Addr} {A : Dad} {S : Dst} (h : DevAt CD H A F S) : (devC CD A.d S).On H F := ⟨fun H' k => ⟨A, rfl, h.loc k⟩, h.own⟩
theorem Sat.dev {CD d : Addr} {S : Dst} (h : Sat H (devC CD d S :: cs)) : ∃ A F, A.d = d ∧ DevAt CD H A F S ∧ ∀ ds' F' H', Step F H F' H' → SatF H' ds' F' → Sat H' (ds' ++ cs) := by
  obtain ⟨F, h1, k⟩ := Sat.opnL (ds := [devC CD d S]) h
  obtain ⟨A, e, hA⟩ := h1.of1.here
  exact ⟨A, F, e, hA, k⟩
/-- a told log -/
def ntsC (q : Addr) (ns : List Nt) : Ch := .ab fun H F => ∃ vs G, H q = some (.lst vs) ∧ Nts H G vs ns ∧ ¬ G q ∧ (∀ b, G b → ∃ o, H b = some o) ∧ ∀ b, F b ↔ b = q ∨ G b
theorem On.nts {q : Addr} {ns : List Nt} {vs : List V} {G : Addr → Prop} (e : H q = some (.lst vs)) (h : Nts H G vs ns) (n : ¬ G q) (al : ∀ b, G b → ∃ o, H b = some o) : (ntsC q ns).On H (fun b => b = q ∨ G b) :=
  ⟨fun H' k => ⟨vs, G, k q _ (.inl rfl) e, h.keep (fun b o z e => k b o (.inr z) e) (fun _ z => z), n, fun b z => (al b z).elim fun o e => ⟨o, k b o (.inr z) e⟩, fun _ => Iff.rfl⟩, fun b z => z.elim (fun z => ⟨.lst vs, by rw [z]; exact e⟩) (al b)⟩
theorem Sat.nts {q : Addr} {ns : List Nt} (h : Sat H cs) (p : Pull (ntsC q ns) cs cs1) : ∃ vs G, H q = some (.lst vs) ∧ Nts H G vs ns := by
  obtain ⟨F, F1, F2, h1, _⟩ := h.pull p
  obtain ⟨vs, G, e, N, _⟩ := h1.here
  exact ⟨vs, G, e, N⟩
end
end Sip
namespace Sip
open PySem PySem.Spec PyProof.Rows L2 TL

abbrev DQ := Hp → Dad → (Addr → Prop) → Dst → Prop
def spLeft (PA : DQ) : Sp := fun vs H Q _ => ∃ (A : Dad) (F : Addr → Prop) (S : Dst), vs = [.ref A.d] ∧ PA H A F S ∧ Q (.int ((S.plan.length : Int) - S.used)) H
def DstOk (S : Dst) : Prop := S.used ≤ S.plan.length ∧ S.plan.length ≤ 100000 ∧ S.ns.length ≤ 100000
/-- the number that an ask uses, if one is left -/
def planN (S : Dst) : Option Int := S.plan[S.used]?
def usedS (S : Dst) : Dst := if S.used < S.plan.length then { S with used := S.used + 1 } else S
/-- how many of so many an ask may have -/
def mayF (S : Dst) (n : Int) : Int := match planN S with | none => n | some k => min n k
/-- a fault of this number flies: the device stands so -/
def FaultTo (PA : DQ) (E : XK) (C : Addr) (H : Hp) (A : Dad) (F : Addr → Prop) (S : Dst) (n : Int) : Prop := ∀ (H' : Hp) (F' : Addr → Prop) (d : Addr), PA H' A F' S → H d = none → H' d = some (.xd [("taken", .int 0), ("number", .int n)]) → ¬ F' d → Step F H F' H' → E (.ref C) (some d) H'
theorem usedS_cells (S : Dst) : (usedS S).cells = S.cells := by unfold usedS; split <;> rfl
theorem usedS_spot (S : Dst) : (usedS S).spot = S.spot := by unfold usedS; split <;> rfl
theorem usedS_ok {S : Dst} (h : DstOk S) : DstOk (usedS S) := by
  obtain ⟨h1, h2, h3⟩ := h
  unfold usedS
  split
  · exact ⟨by show S.used + 1 ≤ S.plan.length; omega, h2, h3⟩
  · exact ⟨h1, h2, h3⟩
theorem noted (S : Dst) (w : Str) (h c : Tg) : ({ usedS S with ns := (usedS S).ns ++ [⟨w, (usedS S).spot, h, c⟩] } : Dst) = { usedS S with ns := S.ns ++ [⟨w, S.spot, h, c⟩] } := by unfold usedS; split <;> rfl
theorem may_nn {S : Dst} {n : Nat} (h : ∀ k, planN S = some k → 0 ≤ k) : 0 ≤ mayF S n := by
  unfold mayF
  cases e : planN S with
  | none => show (0 : Int) ≤ n; omega
  | some k => have := h k e; show 0 ≤ min (n : Int) k; omega
theorem new_of {F F' : Addr → Prop} {H H' : Hp} {z : Addr} (st : Step F H F' H') (h : ∀ b, F b → H' b ≠ none) (nz : H' z = none) : H z = none := by
  cases e : H z with
  | none => rfl
  | some o =>
    have := st.1 z o (fun f => h z f nz) e
    rw [nz] at this; cases this
theorem DevAt.some {CD : Addr} {H : Hp} {A : Dad} {F : Addr → Prop} {S : Dst} (h : DevAt CD H A F S) : ∀ b, F b → H b ≠ none := fun b f z => h.new z f
def spAllowed (PA : DQ) (C : Addr) : Sp := fun vs H Q E => ∃ (A : Dad) (F : Addr → Prop) (S : Dst) (n : Int), vs = [.ref A.d, .int n] ∧ PA H A F S ∧ DstOk S ∧
  ((∀ k, planN S = some k → 0 ≤ k) → ∀ H', PA H' A F (usedS S) → Step F H F H' → Q (.int (mayF S n)) H') ∧
  (∀ k, planN S = some k → k < 0 → FaultTo PA E C H A F (usedS S) (-k))
theorem at_map {xs : List Int} {i : Nat} {k : Int} (h : xs[i]? = some k) : atI (xs.map V.int) (i : Int) = some (.int k) := atI_nat (by rw [List.getElem?_map, h]; rfl)
def spNoteD (PA : DQ) : Sp := fun vs H Q _ => ∃ (A : Dad) (w : Str) (hv cv : V) (F G0 : Addr → Prop) (S : Dst) (h c : Tg), vs = [.ref A.d, .str w, hv, cv] ∧ PA H A F S ∧ DstOk S ∧ TgAt H G0 hv h ∧ TgAt H G0 cv c ∧ NtOk ⟨w, S.spot, h, c⟩ ∧ (∀ b, G0 b → ¬ F b) ∧ (∀ b, G0 b → ∃ o, H b = some o) ∧
  ∀ (H' : Hp) (F' : Addr → Prop), PA H' A F' { S with ns := S.ns ++ [⟨w, S.spot, h, c⟩] } → (∀ b o, ¬ F b → H b = some o → H' b = some o) → (∀ b, F' b → F b ∨ G0 b ∨ H b = none) → Q .non H'

def spOpenD (PA : DQ) : Sp := fun vs H Q _ => ∃ (A : Dad) (F : Addr → Prop) (S : Dst), vs = [.ref A.d] ∧ PA H A F S ∧ S.bar = false ∧ Q .non H
def spMaytD (PA : DQ) : Sp := fun vs H Q _ => ∃ (A : Dad) (F : Addr → Prop) (S : Dst), vs = [.ref A.d] ∧ PA H A F S ∧ Q .non H
/-- the bytes that a take of so many tells -/
def takenF (S : Dst) (n : Int) : List Int := (S.cells.drop S.spot).take (mayF S n).toNat
def spGiveD (PA : DQ) (C : Addr) : Sp := fun vs H Q E => ∃ (A : Dad) (F : Addr → Prop) (S : Dst) (n : Nat), vs = [.ref A.d, .int n] ∧ PA H A F S ∧ DstOk S ∧
  ((∀ k, planN S = some k → 0 ≤ k) → ∀ (H' : Hp) (q : Addr), PA H' A F (usedS S) → (mayF S n ≠ 0 → H q = none ∧ H' q = some (.lst ((takenF S n).map V.int))) → Step F H F H' → Q (if mayF S n = 0 then .non else .ref q) H') ∧
  (∀ k, planN S = some k → k < 0 → FaultTo PA E C H A F (usedS S) (-k))
/-- how a take leaves it -/
def tookS (S : Dst) (n : Int) : Dst := if mayF S n = 0 then { usedS S with ns := S.ns ++ [⟨Str.ofString "take", S.spot, .i n, .s (Str.ofString "stall")⟩] } else { usedS S with spot := S.spot + (takenF S n).length, ns := S.ns ++ [⟨Str.ofString "take", S.spot, .i n, .l (takenF S n)⟩] }
def spTakeD (PA : DQ) (C : Addr) : Sp := fun vs H Q E => ∃ (A : Dad) (F : Addr → Prop) (S : Dst) (n : Nat), vs = [.ref A.d, .int n] ∧ PA H A F S ∧ DstOk S ∧ S.bar = false ∧
  ((∀ k, planN S = some k → 0 ≤ k) → ∀ (H' : Hp) (F' : Addr → Prop) (q : Addr), PA H' A F' (tookS S n) → (mayF S n ≠ 0 → H q = none ∧ H' q = some (.lst ((takenF S n).map V.int)) ∧ ¬ F' q) → Step F H F' H' → Q (if mayF S n = 0 then .non else .ref q) H') ∧
  (∀ k, planN S = some k → k < 0 → FaultTo PA E C H A F { usedS S with ns := S.ns ++ [⟨Str.ofString "take", S.spot, .i n, .s (Str.ofString "fault")⟩] } (-k))
theorem del_from (r : List Int) (n : Nat) : delV (r.map V.int) (some (n : Int)) none = (r.take n).map V.int := by
  unfold delV delL
  rw [HT.sIx_none, HT.sIx_nat, List.length_map, List.map_take]
  by_cases h : n ≤ r.length
  · rw [Nat.min_eq_left h]; simp; omega
  · rw [Nat.min_eq_right (by omega), List.take_of_length_le (l := r.map V.int) (i := n) (by rw [List.length_map]; omega)]; simp
def goneS (S : Dst) (w : Str) (n : Nat) : Dst := { usedS S with ns := S.ns ++ [⟨w, S.spot, .i n, .s (Str.ofString "fault")⟩] }
def spGoD (PA : DQ) (C : Addr) : Sp := fun vs H Q E => ∃ (A : Dad) (F : Addr → Prop) (S : Dst) (n : Nat), vs = [.ref A.d, .int n] ∧ PA H A F S ∧ DstOk S ∧ S.bar = false ∧ S.seek = true ∧ n ≤ 4000 ∧
  ((∀ k, planN S = some k → 0 ≤ k) → ∀ (H' : Hp) (F' : Addr → Prop), PA H' A F' { usedS S with spot := n, ns := S.ns ++ [⟨Str.ofString "go", S.spot, .i n, .i 0⟩] } → Step F H F' H' → Q .non H') ∧
  (∀ k, planN S = some k → k < 0 → FaultTo PA E C H A F (goneS S (Str.ofString "go") n) (-k))
def spCutD (PA : DQ) (C : Addr) : Sp := fun vs H Q E => ∃ (A : Dad) (F : Addr → Prop) (S : Dst) (n : Nat), vs = [.ref A.d, .int n] ∧ PA H A F S ∧ DstOk S ∧ S.bar = false ∧ S.seek = true ∧ n ≤ 4000 ∧
  ((∀ k, planN S = some k → 0 ≤ k) → ∀ (H' : Hp) (F' : Addr → Prop), PA H' A F' { usedS S with cells := S.cells.take n, ns := S.ns ++ [⟨Str.ofString "cut", S.spot, .i n, .i 0⟩] } → Step F H F' H' → Q .non H') ∧
  (∀ k, planN S = some k → k < 0 → FaultTo PA E C H A F (goneS S (Str.ofString "cut") n) (-k))
theorem noted_c (S : Dst) (xs : List Int) (w : Str) (h c : Tg) : ({ ({ usedS S with cells := xs } : Dst) with ns := (usedS S).ns ++ [⟨w, (usedS S).spot, h, c⟩] } : Dst) = { usedS S with cells := xs, ns := S.ns ++ [⟨w, S.spot, h, c⟩] } := by unfold usedS; split <;> rfl
/-- how many bytes a put of so many takes -/
def putN (S : Dst) (ds : List Int) : Nat := (mayF S (ds.length : Int)).toNat
def laidS (S : Dst) (ds : List Int) : List Int := laidF S.cells S.spot (ds.take (putN S ds))
def spAcceptD (PA : DQ) (C : Addr) : Sp := fun vs H Q E => ∃ (A : Dad) (d : Addr) (F : Addr → Prop) (S : Dst) (ds : List Int), vs = [.ref A.d, .ref d] ∧ PA H A F S ∧ DstOk S ∧ ¬ F d ∧ H d = some (.lst (ds.map V.int)) ∧ S.cells.length ≤ 10000 ∧ S.spot ≤ 4400 ∧ ds.length ≤ 4400 ∧
  ((∀ k, planN S = some k → 0 ≤ k) → ∀ (H' : Hp) (c : Addr) (F' : Addr → Prop), PA H' { A with c := c } F' { usedS S with cells := laidS S ds } → Step F H F' H' → Q (if putN S ds = 0 then .non else .int (putN S ds)) H') ∧
  (∀ k, planN S = some k → k < 0 → FaultTo PA E C H A F (usedS S) (-k))
def spMaypD (PA : DQ) : Sp := fun vs H Q _ => ∃ (A : Dad) (d : Addr) (F : Addr → Prop) (S : Dst) (ds : List Int), vs = [.ref A.d, .ref d] ∧ PA H A F S ∧ H d = some (.lst (ds.map V.int)) ∧ (S.seek = true → S.cells.length ≤ 4000 ∧ S.spot + ds.length ≤ 4000) ∧ Q .non H
def putS (S : Dst) (ds : List Int) : Dst := { usedS S with cells := laidS S ds, spot := S.spot + putN S ds, ns := S.ns ++ [⟨Str.ofString "put", S.spot, .l ds, if putN S ds = 0 then .s (Str.ofString "stall") else .i (putN S ds)⟩] }
theorem putS_stall {S : Dst} {ds : List Int} (h0 : putN S ds = 0) : putS S ds = { usedS S with cells := laidS S ds, ns := S.ns ++ [⟨Str.ofString "put", S.spot, .l ds, .s (Str.ofString "stall")⟩] } := by
  unfold putS
  rw [h0, if_pos rfl]
  unfold usedS
  split <;> rfl
def spPutD (PA : DQ) (C : Addr) : Sp := fun vs H Q E => ∃ (A : Dad) (d : Addr) (F : Addr → Prop) (S : Dst) (ds : List Int), vs = [.ref A.d, .ref d] ∧ PA H A F S ∧ DstOk S ∧ S.bar = false ∧ H d = some (.lst (ds.map V.int)) ∧ (S.seek = true → S.cells.length ≤ 4000 ∧ S.spot + ds.length ≤ 4000) ∧ S.cells.length ≤ 10000 ∧ S.spot ≤ 4400 ∧ ds.length ≤ 4400 ∧
  ((∀ k, planN S = some k → 0 ≤ k) → ∀ (H' : Hp) (c : Addr) (F' : Addr → Prop), PA H' { A with c := c } F' (putS S ds) → Step F H F' H' → Q (if putN S ds = 0 then .non else .int (putN S ds)) H') ∧
  (∀ k, planN S = some k → k < 0 → FaultTo PA E C H A F { usedS S with ns := S.ns ++ [⟨Str.ofString "put", S.spot, .l ds, .s (Str.ofString "fault")⟩] } (-k))
def spLenC : Sp := fun vs H Q _ => ∃ v : Int, vs = [.int v] ∧ v ≤ 4000 ∧ Q .non H
def spExtD (PA : DQ) : Sp := fun vs H Q _ => ∃ (A : Dad) (F : Addr → Prop) (S : Dst), vs = [.ref A.d] ∧ PA H A F S ∧ Q (.int S.cells.length) H
def spSeeksD (PA : DQ) : Sp := fun vs H Q _ => ∃ (A : Dad) (F : Addr → Prop) (S : Dst), vs = [.ref A.d] ∧ PA H A F S ∧ S.seek = true ∧ Q .non H
def spContD (PA : DQ) : Sp := fun vs H Q _ => ∃ (A : Dad) (F : Addr → Prop) (S : Dst), vs = [.ref A.d] ∧ PA H A F S ∧ ∀ (H' : Hp) (q : Addr), H q = none → H' q = some (.lst (S.cells.map V.int)) → Same H H' → Q (.ref q) H'
def spMoveD (PA : DQ) (C : Addr) : Sp := fun vs H Q E => ∃ (A : Dad) (F : Addr → Prop) (S : Dst) (n : Int), vs = [.ref A.d, .int n] ∧ PA H A F S ∧ DstOk S ∧
  ((∀ k, planN S = some k → 0 ≤ k) → ∀ H', PA H' A F (usedS S) → Step F H F H' → Q .non H') ∧ (∀ k, planN S = some k → k < 0 → FaultTo PA E C H A F (usedS S) (-k))
def spTrimD (PA : DQ) (C : Addr) : Sp := fun vs H Q E => ∃ (A : Dad) (F : Addr → Prop) (S : Dst) (n : Nat), vs = [.ref A.d, .int n] ∧ PA H A F S ∧ DstOk S ∧
  ((∀ k, planN S = some k → 0 ≤ k) → ∀ H', PA H' A F { usedS S with cells := S.cells.take n } → Step F H F H' → Q .non H') ∧ (∀ k, planN S = some k → k < 0 → FaultTo PA E C H A F (usedS S) (-k))
theorem cut_0 (xs : List V) : cutV xs (some 0) none = xs := by
  unfold cutV
  rw [HT.sIx_none, show ((0 : Int)) = ((0 : Nat) : Int) from rfl, HT.sIx_nat]
  simp
def spOwnC : Sp := fun vs H Q _ => ∃ (v : V) (t : Tg) (G : Addr → Prop), vs = [v] ∧ TgAt H G v t ∧ ∀ (H' : Hp) (v' : V), TgAt H' (fun b => H b = none) v' t → Same H H' → Q v' H'
/-- a log is told: all of it new -/
def LogTo (H : Hp) (Q : VK) (ns : List Nt) : Prop := ∀ (H' : Hp) (q : Addr) (vs : List V) (G : Addr → Prop), H q = none → ¬ G q → H' q = some (.lst vs) → Nts H' G vs ns → (∀ b, G b → H b = none) → Same H H' → Q (.ref q) H'

def spLogD (PA : DQ) : Sp := fun vs H Q _ => ∃ (A : Dad) (F : Addr → Prop) (S : Dst), vs = [.ref A.d] ∧ PA H A F S ∧ DstOk S ∧ LogTo H Q S.ns
def spLogbD (PA : DQ) : Sp := fun vs H Q _ => ∃ (A : Dad) (F : Addr → Prop) (S : Dst), vs = [.ref A.d, .int 0] ∧ PA H A F S ∧ DstOk S ∧ LogTo H Q S.ns

def spGrowD (PA : DQ) : Sp := fun vs H Q _ => ∃ (A : Dad) (d : Addr) (F : Addr → Prop) (S : Dst) (ds : List Int), vs = [.ref A.d, .ref d] ∧ PA H A F S ∧ ¬ F d ∧ H d = some (.lst (ds.map V.int)) ∧ (S.seek = true → S.cells.length + ds.length ≤ 4000) ∧ S.cells.length + ds.length ≤ 100000 ∧
  ∀ H', PA H' A F { S with cells := S.cells ++ ds } → Step F H F H' → Q .non H'

theorem dfs_new (A : Dad) (k : Bool) : putF ("used" : Str) (.int 0) (putF ("plan" : Str) (.ref A.p) (putF ("cells" : Str) (.ref A.c) (putF ("notes" : Str) (.ref A.l) (putF ("barred" : Str) (.bl false) (putF ("spot" : Str) (.int 0) (putF ("can_seek" : Str) (.bl k) [])))))) = dfs A k 0 false 0 := by unfold dfs; kernel_rfl
def spRInitB (K : PySem.W.Frag) : Sp := fun vs H Q _ => ∃ (e C dx : Addr) (k : Bool), vs = [.ref e, .bl k] ∧ H e = some (.ins C dx []) ∧ Cls K C ∧ NoAttr K C "can_seek" ∧ NoAttr K C "spot" ∧ NoAttr K C "barred" ∧ NoAttr K C "notes" ∧
  ∀ (H' : Hp) (l : Addr), H l = none → H' l = some (.lst []) → H' e = some (.ins C dx (putF ("notes" : Str) (.ref l) (putF ("barred" : Str) (.bl false) (putF ("spot" : Str) (.int 0) (putF ("can_seek" : Str) (.bl k) []))))) → Kp [e] H H' → Q .non H'
def spDInit (CD : Addr) (PA : DQ) : Sp := fun vs H Q _ => ∃ (d dd a p : Addr) (k : Bool) (row plan : List Int), vs = [.ref d, .ref a, .ref p, .bl k] ∧ H d = some (.ins CD dd []) ∧ H a = some (.lst (row.map V.int)) ∧ H p = some (.lst (plan.map V.int)) ∧
  ∀ (H' : Hp) (A : Dad) (F : Addr → Prop), A.d = d → PA H' A F ⟨k, 0, false, [], row, plan, 0⟩ → Step (fun b => b = d ∨ b = dd) H F H' → Q .non H'
end Sip
/-! promises over a heap in pieces: the draws, the device -/
namespace Sip
open PySem PySem.Spec PyProof.Rows L2 TL
section
variable {H H' H1 : Hp} {c d : Ch} {cs ds cs1 R : List Ch} {F F1 F2 F' : Addr → Prop} {a b l p q : Addr} {o o' o1 : HO} {vs : List V} {Q : VK} {E : XK} {CD C x dx : Addr} {S : Dst}
theorem Pk.none : ∀ cs : List Ch, Pk cs []
  | [] => .nil
  | c :: cs => .drop (Pk.none cs)
theorem Step.add (st : Step F H F' H') (n : H q = none) : Step F H (fun b => F' b ∨ b = q) H' := ⟨st.1, fun b z => z.elim (st.2 b) fun y => .inr (by rw [y]; exact n)⟩
theorem SatF.two (h1 : c.On H F1) (h2 : d.On H F2) (n : ∀ b, F1 b → ¬ F2 b) : SatF H [c, d] (fun b => F1 b ∨ F2 b) := ⟨F1, F2, h1, SatF.one h2, n, fun _ => Iff.rfl⟩
/-- an object made -/
theorem Sat.make (h : Sat H cs) (n : H x = none) (m : H dx = none) (ne : dx ≠ x) (g : upd (upd H dx o') x o = H1) : Sat H1 (.pt x o :: .pt dx o' :: cs) := by
  have h1 := h.alloc m rfl (o := o')
  exact h1.alloc (by rw [upd_ne ne.symm]; exact n) g
def spTakeS : Sp := fun vs H Q _ => ∃ (p : Addr) (n wide : Int) (R : List Ch), vs = [.ref p, .int wide] ∧ Sat H (poolC p n :: R) ∧ n ≤ 1000000000 ∧ 0 < wide ∧ wide < 1073741824 ∧
  ∀ (r : Nat) (H' : Hp), (r : Int) < wide → Sat H' (poolC p (n + 1) :: R) → Q (.int r) H'
theorem spTakeS.to (h : spTakeS vs H Q E) : spTake vs H Q E := by
  obtain ⟨p, n, wide, R, rfl, h, a, b, c, q⟩ := h
  obtain ⟨o, e, P⟩ := h.pool
  refine ⟨p, n, wide, o, rfl, e, P, a, b, c, fun r o' r0 r1 P' => ?_⟩
  obtain ⟨k, rfl⟩ := Int.eq_ofNat_of_zero_le r0
  exact q k _ r1 (h.poolp P' rfl)
def spPoolS (K : PySem.W.Frag) : Sp := fun vs H Q _ => ∃ (a : Addr) (ns : List Int) (i : Int) (R : List Ch), vs = [.ref a, .int i] ∧ Sat H (scrC K a (ns.map V.int) :: R) ∧ ns.length ≤ 63 ∧ 0 ≤ i ∧ i ≤ 1000 ∧
  ∀ (p : Addr) (H' : Hp), Sat H' (poolC p (1000 * i) :: scrC K a (ns.map V.int) :: R) → Q (.ref p) H'
theorem spPoolS.to {K : PySem.W.Frag} (h : spPoolS K vs H Q E) : spPool K vs H Q E := by
  obtain ⟨a, ns, i, R, rfl, h, a1, b, c, q⟩ := h
  exact ⟨a, ns, i, rfl, h.scr .hd, a1, b, c, fun p o np P => q p _ (Sat.exI o P (h.alloc np rfl))⟩
/-- a call that changes the pool alone and makes one list -/
theorem Sat.kp1 {n m : Int} (h : Sat H (poolC p n :: R)) (k : Kp [p] H H') (nb : H b = none) (eb : H' b = some o) (ep : H' p = some o1) (hP : PoolO m o1) : Sat H' (poolC p m :: .pt b o :: R) := by
  obtain ⟨o2, hP2, h⟩ := h.exE
  obtain ⟨F, h1, kk⟩ := Sat.opnL (ds := [.pt p o2]) h
  have e1 := h1.of1.here
  have pb : p ≠ b := fun z => by rw [← z, e1.1] at nb; cases nb
  refine Sat.exI o1 hP (kk [.pt p o1, .pt b o] (fun x => x = p ∨ x = b) H' ⟨fun x o n e => k x o (by simpa using fun z => n ((e1.2 x).mpr z)) e, fun x z => ?_⟩ (SatF.two (On.pt ep) (On.pt eb) fun x y z => pb (y.symm.trans z)))
  rcases z with rfl | rfl
  · exact .inl ((e1.2 _).mpr rfl)
  · exact .inr nb
def spRowL : Sp := fun vs H Q _ => ∃ (p : Addr) (n N : Int) (o : HO), vs = [.ref p, .int N] ∧ H p = some o ∧ PoolO n o ∧ n ≤ 900000000 ∧ 0 ≤ N ∧ N ≤ 400 ∧
  ∀ (H' : Hp) (b : Addr) (bs : List Int) (o' : HO), H b = none → H' b = some (.lst (bs.map V.int)) → H' p = some o' → PoolO (n + 1000) o' → Kp [p] H H' → (bs.length : Int) ≤ N → Bytes bs → Q (.ref b) H'
def spRowS : Sp := fun vs H Q _ => ∃ (p : Addr) (n N : Int) (R : List Ch), vs = [.ref p, .int N] ∧ Sat H (poolC p n :: R) ∧ n ≤ 900000000 ∧ 0 ≤ N ∧ N ≤ 400 ∧
  ∀ (H' : Hp) (b : Addr) (bs : List Int), Sat H' (poolC p (n + 1000) :: .pt b (.lst (bs.map V.int)) :: R) → (bs.length : Int) ≤ N → Bytes bs → Q (.ref b) H'
theorem spRowS.to (h : spRowS vs H Q E) : spRowL vs H Q E := by
  obtain ⟨p, n, N, R, rfl, h, a, b, c, q⟩ := h
  obtain ⟨o, e, P⟩ := h.pool
  exact ⟨p, n, N, o, rfl, e, P, a, b, c, fun H' b bs o' nb eb ep hP k lb hb => q H' b bs (h.kp1 k nb eb ep hP) lb hb⟩
def spPlanL : Sp := fun vs H Q _ => ∃ (p : Addr) (n N tr : Int) (o : HO), vs = [.ref p, .int N, .int tr] ∧ H p = some o ∧ PoolO n o ∧ n ≤ 900000000 ∧ 0 ≤ N ∧ N ≤ 200 ∧
  ∀ (H' : Hp) (b : Addr) (ns : List Int) (o' : HO), H b = none → H' b = some (.lst (ns.map V.int)) → H' p = some o' → PoolO (n + 1000) o' → Kp [p] H H' → (ns.length : Int) ≤ N → Q (.ref b) H'
def spPlanS : Sp := fun vs H Q _ => ∃ (p : Addr) (n N tr : Int) (R : List Ch), vs = [.ref p, .int N, .int tr] ∧ Sat H (poolC p n :: R) ∧ n ≤ 900000000 ∧ 0 ≤ N ∧ N ≤ 200 ∧
  ∀ (H' : Hp) (b : Addr) (ns : List Int), Sat H' (poolC p (n + 1000) :: .pt b (.lst (ns.map V.int)) :: R) → (ns.length : Int) ≤ N → Q (.ref b) H'
theorem spPlanS.to (h : spPlanS vs H Q E) : spPlanL vs H Q E := by
  obtain ⟨p, n, N, tr, R, rfl, h, a, b, c, q⟩ := h
  obtain ⟨o, e, P⟩ := h.pool
  exact ⟨p, n, N, tr, o, rfl, e, P, a, b, c, fun H' b bs o' nb eb ep hP k lb => q H' b bs (h.kp1 k nb eb ep hP) lb⟩
def spLaidW : Sp := fun vs H Q _ => ∃ (a b : Addr) (r ds : List Int) (n : Nat), vs = [.ref a, .int n, .ref b] ∧ H a = some (.lst (r.map V.int)) ∧ H b = some (.lst (ds.map V.int)) ∧ r.length ≤ 100000 ∧ n ≤ 100000 ∧ ds.length ≤ 100000 ∧
  ∀ (H' : Hp) (q : Addr), H q = none → H' q = some (.lst ((laidF r n ds).map V.int)) → Same H H' → Q (.ref q) H'
def spLaidS : Sp := fun vs H Q _ => ∃ (a b : Addr) (r ds : List Int) (n : Nat) (R : List Ch), vs = [.ref a, .int n, .ref b] ∧ Sat H R ∧ H a = some (.lst (r.map V.int)) ∧ H b = some (.lst (ds.map V.int)) ∧ r.length ≤ 100000 ∧ n ≤ 100000 ∧ ds.length ≤ 100000 ∧
  ∀ (H' : Hp) (q : Addr), Sat H' (.pt q (.lst ((laidF r n ds).map V.int)) :: R) → Q (.ref q) H'
theorem spLaidS.to (h : spLaidS vs H Q E) : spLaidW vs H Q E := by
  obtain ⟨a, b, r, ds, n, R, rfl, h, ha, hb, l1, l2, l3, q⟩ := h
  exact ⟨a, b, r, ds, n, rfl, ha, hb, l1, l2, l3, fun H' z nz ez s => q H' z (h.fresh s nz ez)⟩
/-! the device's calls -/
def devMs : List Str := ["take", "put", "go", "cut", "shut", "place", "size", "seeks", "is_shut", "log", "log_behind", "note", "check_open", "check_seeks", "may_take", "may_put", "may_cut", "give", "accept", "move", "trim", "extent", "grow", "content", "left", "allowed"]
theorem meth_dev {m : Str} {G : Prop} (h : Sat H (devC CD a S :: R)) (hm : m ∈ devMs) (g : G) : ∃ (x dx : Addr) (fs : List (Str × V)), V.ref a = .ref x ∧ H x = some (.ins CD dx fs) ∧ fs.lookup m = none ∧ G := by
  obtain ⟨A, F, rfl, ⟨dd, ws, G, I, hF⟩, k⟩ := h.dev
  exact ⟨A.d, dd, _, rfl, I.hd, dfs_no _ _ _ _ _ m hm, g⟩
theorem SatF.dev1 {A : Dad} (h : DevAt CD H A F S) : SatF H [devC CD A.d S] F := SatF.one (On.dev h)
theorem SatF.dev2 {A : Dad} (h : DevAt CD H A F S) (e : H q = some o) (n : ¬ F q) : SatF H [devC CD A.d S, .pt q o] (fun b => F b ∨ b = q) := SatF.two (On.dev h) (On.pt e) fun b x y => n (by rw [← show b = q from y]; exact x)
/-- a fault flies: the device stands so -/
def FaultS (CD : Addr) (E : XK) (C d : Addr) (R : List Ch) (S : Dst) (n : Int) : Prop := ∀ (H' : Hp) (e : Addr), Sat H' (devC CD d S :: .pt e (.xd [("taken", .int 0), ("number", .int n)]) :: R) → E (.ref C) (some e) H'
def Good (S : Dst) : Prop := ∀ k, planN S = some k → 0 ≤ k
theorem faultS {A : Dad} {n : Int} (k : ∀ ds' F' H', Step F H F' H' → SatF H' ds' F' → Sat H' (ds' ++ R)) (h : FaultS CD E C A.d R S n) : FaultTo (DevAt CD) E C H A F S n := fun H' F' e hA n0 he ne st =>
  h H' e (k [_, _] _ H' (st.add n0) (SatF.dev2 hA he ne))
def noteS (S : Dst) (w : Str) (h c : Tg) : Dst := { usedS S with ns := S.ns ++ [⟨w, S.spot, h, c⟩] }
def spTakeDS (CD C : Addr) : Sp := fun vs H Q E => ∃ (d : Addr) (S : Dst) (n : Nat) (R : List Ch), vs = [.ref d, .int n] ∧ Sat H (devC CD d S :: R) ∧ DstOk S ∧ S.bar = false ∧
  (Good S → mayF S n = 0 → ∀ H', Sat H' (devC CD d (tookS S n) :: R) → Q .non H') ∧
  (Good S → mayF S n ≠ 0 → ∀ (H' : Hp) (q : Addr), Sat H' (.pt q (.lst ((takenF S n).map V.int)) :: devC CD d (tookS S n) :: R) → Q (.ref q) H') ∧
  (∀ k, planN S = some k → k < 0 → FaultS CD E C d R (noteS S (Str.ofString "take") (.i n) (.s (Str.ofString "fault"))) (-k))
theorem spTakeDS.to (h : spTakeDS CD C vs H Q E) : spTakeD (DevAt CD) C vs H Q E := by
  obtain ⟨d, S, n, R, rfl, h, ok, hb, q1, q2, qe⟩ := h
  obtain ⟨A, F, rfl, hA, k⟩ := h.dev
  refine ⟨A, F, S, n, rfl, hA, ok, hb, fun good H' F' q hA' hq st => ?_, fun m em hm => faultS k (qe m em hm)⟩
  by_cases h0 : mayF S n = 0
  · rw [if_pos h0]; exact q1 good h0 H' (k _ _ H' st (SatF.dev1 hA'))
  · rw [if_neg h0]
    obtain ⟨nq, eq, nF⟩ := hq h0
    exact q2 good h0 H' q ((k [_, _] _ H' (st.add nq) (SatF.dev2 hA' eq nF)).pull (.tl .hd))
def spGoDS (CD C : Addr) : Sp := fun vs H Q E => ∃ (d : Addr) (S : Dst) (n : Nat) (R : List Ch), vs = [.ref d, .int n] ∧ Sat H (devC CD d S :: R) ∧ DstOk S ∧ S.bar = false ∧ S.seek = true ∧ n ≤ 4000 ∧
  (Good S → ∀ H', Sat H' (devC CD d { noteS S (Str.ofString "go") (.i n) (.i 0) with spot := n } :: R) → Q .non H') ∧
  (∀ k, planN S = some k → k < 0 → FaultS CD E C d R (noteS S (Str.ofString "go") (.i n) (.s (Str.ofString "fault"))) (-k))
theorem spGoDS.to (h : spGoDS CD C vs H Q E) : spGoD (DevAt CD) C vs H Q E := by
  obtain ⟨d, S, n, R, rfl, h, ok, hb, hs, hn, q1, qe⟩ := h
  obtain ⟨A, F, rfl, hA, k⟩ := h.dev
  exact ⟨A, F, S, n, rfl, hA, ok, hb, hs, hn, fun good H' F' hA' st => q1 good H' (k _ _ H' st (SatF.dev1 hA')), fun m em hm => faultS k (qe m em hm)⟩
def spCutDS (CD C : Addr) : Sp := fun vs H Q E => ∃ (d : Addr) (S : Dst) (n : Nat) (R : List Ch), vs = [.ref d, .int n] ∧ Sat H (devC CD d S :: R) ∧ DstOk S ∧ S.bar = false ∧ S.seek = true ∧ n ≤ 4000 ∧
  (Good S → ∀ H', Sat H' (devC CD d { noteS S (Str.ofString "cut") (.i n) (.i 0) with cells := S.cells.take n } :: R) → Q .non H') ∧
  (∀ k, planN S = some k → k < 0 → FaultS CD E C d R (noteS S (Str.ofString "cut") (.i n) (.s (Str.ofString "fault"))) (-k))
theorem spCutDS.to (h : spCutDS CD C vs H Q E) : spCutD (DevAt CD) C vs H Q E := by
  obtain ⟨d, S, n, R, rfl, h, ok, hb, hs, hn, q1, qe⟩ := h
  obtain ⟨A, F, rfl, hA, k⟩ := h.dev
  exact ⟨A, F, S, n, rfl, hA, ok, hb, hs, hn, fun good H' F' hA' st => q1 good H' (k _ _ H' st (SatF.dev1 hA')), fun m em hm => faultS k (qe m em hm)⟩
def PutFit (S : Dst) (ds : List Int) : Prop := (S.seek = true → S.cells.length ≤ 4000 ∧ S.spot + ds.length ≤ 4000) ∧ S.cells.length ≤ 10000 ∧ S.spot ≤ 4400 ∧ ds.length ≤ 4400
def spPutDS (CD C : Addr) : Sp := fun vs H Q E => ∃ (d l : Addr) (S : Dst) (ds : List Int) (R : List Ch), vs = [.ref d, .ref l] ∧ Sat H (devC CD d S :: R) ∧ H l = some (.lst (ds.map V.int)) ∧ DstOk S ∧ S.bar = false ∧ PutFit S ds ∧
  (Good S → ∀ H', Sat H' (devC CD d (putS S ds) :: R) → Q (if putN S ds = 0 then .non else .int (putN S ds)) H') ∧
  (∀ k, planN S = some k → k < 0 → FaultS CD E C d R (noteS S (Str.ofString "put") (.l ds) (.s (Str.ofString "fault"))) (-k))
theorem spPutDS.to (h : spPutDS CD C vs H Q E) : spPutD (DevAt CD) C vs H Q E := by
  obtain ⟨d, l, S, ds, R, rfl, h, hl, ok, hb, ⟨p1, p2, p3, p4⟩, q1, qe⟩ := h
  obtain ⟨A, F, rfl, hA, k⟩ := h.dev
  exact ⟨A, l, F, S, ds, rfl, hA, ok, hb, hl, p1, p2, p3, p4, fun good H' c F' hA' st => q1 good H' (k _ _ H' st (SatF.dev1 (A := { A with c := c }) hA')), fun m em hm => faultS k (qe m em hm)⟩
def spContDS (CD : Addr) : Sp := fun vs H Q _ => ∃ (d : Addr) (S : Dst) (R : List Ch), vs = [.ref d] ∧ Sat H (devC CD d S :: R) ∧ ∀ (H' : Hp) (q : Addr), Sat H' (.pt q (.lst (S.cells.map V.int)) :: devC CD d S :: R) → Q (.ref q) H'
theorem spContDS.to (h : spContDS CD vs H Q E) : spContD (DevAt CD) vs H Q E := by
  obtain ⟨d, S, R, rfl, h, q⟩ := h
  obtain ⟨A, F, rfl, hA, k⟩ := h.dev
  exact ⟨A, F, S, rfl, hA, fun H' z nz ez s => q H' z (h.fresh s nz ez)⟩
def spGrowDS (CD : Addr) : Sp := fun vs H Q _ => ∃ (d l : Addr) (S : Dst) (ds : List Int) (R : List Ch), vs = [.ref d, .ref l] ∧ Sat H (devC CD d S :: .pt l (.lst (ds.map V.int)) :: R) ∧ (S.seek = true → S.cells.length + ds.length ≤ 4000) ∧ S.cells.length + ds.length ≤ 100000 ∧
  ∀ H', Sat H' (devC CD d { S with cells := S.cells ++ ds } :: .pt l (.lst (ds.map V.int)) :: R) → Q .non H'
theorem spGrowDS.to (h : spGrowDS CD vs H Q E) : spGrowD (DevAt CD) vs H Q E := by
  obtain ⟨d, l, S, ds, R, rfl, h, l1, l2, q⟩ := h
  have hl := h.get (a := l) (.tl .hd)
  have nF : ∀ F, (∃ A : Dad, A.d = d ∧ DevAt CD H A F S) → True := fun _ _ => trivial
  obtain ⟨F0, F, F2, h1, ⟨F3, F4, h3, h4, d2, u2⟩, dj, u⟩ := h
  obtain ⟨A, rfl, hA⟩ := h1.here
  have nl : ¬ F l := fun z => dj l z ((u2 l).mpr (.inl ((h3.here.2 l).mpr rfl)))
  refine ⟨A, l, F, S, ds, rfl, hA, nl, hl, l1, l2, fun H' hA' st => q H' ?_⟩
  have h5 : SatF H (.pt l (.lst (ds.map V.int)) :: R) F2 := ⟨F3, F4, h3, h4, d2, u2⟩
  exact Sat.mk (On.dev hA') (h5.keep fun b o g e => st.1 b o (fun z => dj b z g) e) dj
theorem Nts.shrink {G : Addr → Prop} : ∀ {vs : List V} {ns : List Nt}, Nts H G vs ns → Nts H (fun b => G b ∧ ∃ o, H b = some o) vs ns
  | [], [], _ => trivial
  | v :: vs, n :: ns, ⟨⟨t, hv, cv, e, g, ht, h1, h2, h3⟩, r⟩ => ⟨⟨t, hv, cv, e, ⟨g, _, ht⟩, ht, by
      cases n with
      | mk w p h c => cases h with
        | i n => exact h1
        | s w => exact h1
        | l xs => obtain ⟨a, e, ga, ha⟩ := h1; exact ⟨a, e, ⟨ga, _, ha⟩, ha⟩, by
      cases n with
      | mk w p h c => cases c with
        | i n => exact h2
        | s w => exact h2
        | l xs => obtain ⟨a, e, ga, ha⟩ := h2; exact ⟨a, e, ⟨ga, _, ha⟩, ha⟩, h3⟩, Nts.shrink r⟩
def spLogDS (CD : Addr) : Sp := fun vs H Q _ => ∃ (d : Addr) (S : Dst) (R : List Ch), vs = [.ref d] ∧ Sat H (devC CD d S :: R) ∧ DstOk S ∧ ∀ (H' : Hp) (q : Addr), Sat H' (ntsC q S.ns :: devC CD d S :: R) → Q (.ref q) H'
theorem spLogDS.to (h : spLogDS CD vs H Q E) : spLogD (DevAt CD) vs H Q E := by
  obtain ⟨d, S, R, rfl, h, ok, q⟩ := h
  obtain ⟨A, F, rfl, hA, k⟩ := h.dev
  refine ⟨A, F, S, rfl, hA, ok, fun H' z vs G nz ng ez N g0 s => q H' z ?_⟩
  obtain ⟨F9, h⟩ := h
  refine Sat.mk (On.nts ez N.shrink (fun y => ng y.1) (fun b y => y.2)) (h.keep fun b o _ e => s b o e) fun b y f => ?_
  obtain ⟨o, e⟩ := h.own b f
  rcases y with rfl | y
  · rw [nz] at e; cases e
  · rw [g0 b y.1] at e; cases e
def dst0 (k : Bool) (row plan : List Int) : Dst := ⟨k, 0, false, [], row, plan, 0⟩
def spDInitS (CD : Addr) : Sp := fun vs H Q _ => ∃ (d dd a p : Addr) (k : Bool) (row plan : List Int) (R : List Ch), vs = [.ref d, .ref a, .ref p, .bl k] ∧ Sat H (.pt d (.ins CD dd []) :: .pt dd (.own d) :: R) ∧ H a = some (.lst (row.map V.int)) ∧ H p = some (.lst (plan.map V.int)) ∧
  ∀ H' : Hp, Sat H' (devC CD d (dst0 k row plan) :: R) → Q .non H'
theorem spDInitS.to (h : spDInitS CD vs H Q E) : spDInit CD (DevAt CD) vs H Q E := by
  obtain ⟨d, dd, a, p, k, row, plan, R, rfl, h, ha, hp, q⟩ := h
  refine ⟨d, dd, a, p, k, row, plan, rfl, h.get .hd, ha, hp, fun H' A F e hA st => q H' ?_⟩
  subst e
  obtain ⟨F1, h1, kk⟩ := Sat.opnL (ds := [.pt A.d (.ins CD dd []), .pt dd (.own A.d)]) h
  obtain ⟨F2, F3, h2, h3, _, u⟩ := h1
  have e2 := h2.here.2
  have e3 := h3.of1.here.2
  have eF : (fun b => b = A.d ∨ b = dd) = F1 := funext fun b => propext (by rw [u b, e2 b, e3 b])
  rw [eF] at st
  exact kk _ _ H' st (SatF.dev1 hA)
end
end Sip
/-! the laws' own device: a dict with its row, plan and notes; what comes of an ask -/
namespace Sip
open PySem PySem.Spec PyProof.Rows L2 TL
def ntsK (q : Addr) (ns : List Nt) (ks : List (Addr × List Int)) : Ch := .ab fun H F => ∃ vs G, H q = some (.lst vs) ∧ Nts H G vs ns ∧ ¬ G q ∧ (∀ b, G b → ∃ o, H b = some o) ∧ (∀ x ∈ ks, G x.1 ∧ H x.1 = some (.lst (x.2.map V.int))) ∧ ∀ b, F b ↔ b = q ∨ G b
def tgF (v : V) (t : Tg) : Addr → Prop := fun b => match t, v with
  | .l _, .ref a => b = a
  | _, _ => False
def tgC (v : V) (t : Tg) : Ch := .ab fun H F => F = tgF v t ∧ TgAt H F v t
def kn (v : V) (t : Tg) : List (Addr × List Int) := match v, t with
  | .ref a, .l xs => [(a, xs)]
  | _, _ => []
section
variable {H H' H1 : Hp} {c d : Ch} {cs ds cs1 R : List Ch} {F F1 F2 F' : Addr → Prop} {a b l p q t : Addr} {o o' o1 : HO} {vs : List V} {Q : VK} {E : XK} {CD C x dx : Addr} {S : Dst} {ns : List Nt} {ks : List (Addr × List Int)}
theorem On.ntsK {G : Addr → Prop} (e : H q = some (.lst vs)) (h : Nts H G vs ns) (n : ¬ G q) (al : ∀ b, G b → ∃ o, H b = some o) (kk : ∀ x ∈ ks, G x.1 ∧ H x.1 = some (.lst (x.2.map V.int))) : (ntsK q ns ks).On H (fun b => b = q ∨ G b) :=
  ⟨fun H' k => ⟨vs, G, k q _ (.inl rfl) e, h.keep (fun b o z e => k b o (.inr z) e) (fun _ z => z), n, fun b z => (al b z).elim fun o e => ⟨o, k b o (.inr z) e⟩, fun x hx => ⟨(kk x hx).1, k _ _ (.inr (kk x hx).1) (kk x hx).2⟩, fun _ => Iff.rfl⟩, fun b z => z.elim (fun z => ⟨.lst vs, by rw [z]; exact e⟩) (al b)⟩
theorem Sat.ntsk (h : Sat H cs) (p : Pull (ntsK q ns ks) cs cs1) : ∃ vs G, H q = some (.lst vs) ∧ Nts H G vs ns := by
  obtain ⟨F, F1, F2, h1, _⟩ := h.pull p
  obtain ⟨vs, G, e, N, _⟩ := h1.here
  exact ⟨vs, G, e, N⟩
theorem Sat.kget {xs : List Int} (h : Sat H cs) (p : Pull (ntsK q ns ks) cs cs1) (m : (a, xs) ∈ ks) : H a = some (.lst (xs.map V.int)) := by
  obtain ⟨F, F1, F2, h1, _⟩ := h.pull p
  obtain ⟨vs, G, e, N, _, _, kk, _⟩ := h1.here
  exact (kk _ m).2
theorem Sat.ksub {js : List (Addr × List Int)} (h : Sat H (ntsK q ns ks :: cs)) (s : ∀ x ∈ js, x ∈ ks) : Sat H (ntsK q ns js :: cs) := by
  obtain ⟨F, F1, F2, h1, h2, d, u⟩ := h
  obtain ⟨vs, G, e, N, n, al, kk, hF⟩ := h1.here
  exact Sat.mk (On.ntsK e N n al (fun x hx => kk x (s x hx))) h2 (fun b z => d b ((hF b).mpr z))
theorem Sat.nts0 (h : Sat H (.pt q (.lst []) :: cs)) : Sat H (ntsK q [] [] :: cs) := by
  obtain ⟨F, F1, F2, h1, h2, d, u⟩ := h
  obtain ⟨e, hF⟩ := h1.here
  exact Sat.mk (On.ntsK (G := fun _ => False) e trivial (fun z => z) (fun _ z => z.elim) (fun x hx => by cases hx)) h2 (fun b z => d b ((hF b).mpr (z.elim id fun z => z.elim)))
theorem On.tg {v : V} {t : Tg} (h : TgAt H (tgF v t) v t) : (tgC v t).On H (tgF v t) := by
  refine ⟨fun H' k => ⟨rfl, h.keep k (fun _ z => z)⟩, fun b z => ?_⟩
  cases t with
  | i n => exact absurd z (by unfold tgF; simp)
  | s n => exact absurd z (by unfold tgF; simp)
  | l xs =>
    obtain ⟨a, rfl, ga, ha⟩ := h
    exact ⟨_, by rw [show b = a from z]; exact ha⟩
theorem Sat.tgl {xs : List Int} (h : Sat H (.pt a (.lst (xs.map V.int)) :: cs)) : Sat H (tgC (.ref a) (.l xs) :: cs) := by
  obtain ⟨F, F1, F2, h1, h2, d, u⟩ := h
  obtain ⟨e, hF⟩ := h1.here
  exact Sat.mk (On.tg ⟨a, rfl, rfl, e⟩) h2 (fun b z => d b ((hF b).mpr z))
theorem Sat.tgi (n : Int) (h : Sat H cs) : Sat H (tgC (.int n) (.i n) :: cs) := by
  obtain ⟨F, h⟩ := h
  exact Sat.mk (On.tg (show TgAt H _ (.int n) (.i n) from rfl)) h (fun b z => absurd z (by unfold tgF; simp))
theorem Sat.tgs (w : Str) (h : Sat H cs) : Sat H (tgC (.str w) (.s w) :: cs) := by
  obtain ⟨F, h⟩ := h
  exact Sat.mk (On.tg (show TgAt H _ (.str w) (.s w) from rfl)) h (fun b z => absurd z (by unfold tgF; simp))
theorem Sat.tgE {xs : List Int} {v : V} (h : Sat H (tgC v (.l xs) :: cs)) : ∃ a, v = .ref a ∧ Sat H (.pt a (.lst (xs.map V.int)) :: cs) := by
  obtain ⟨F, F1, F2, h1, h2, d, u⟩ := h
  obtain ⟨eF, a, rfl, ga, ha⟩ := h1.here
  exact ⟨a, rfl, Sat.mk (On.pt ha) h2 (fun b z => d b (by rw [eF]; exact z))⟩
theorem Sat.tgiE {n : Int} {v : V} (h : Sat H (tgC v (.i n) :: cs)) : v = .int n ∧ Sat H cs := by
  obtain ⟨F, F1, F2, h1, h2, d, u⟩ := h
  exact ⟨h1.here.2, F2, h2⟩
theorem Sat.tgsE {w : Str} {v : V} (h : Sat H (tgC v (.s w) :: cs)) : v = .str w ∧ Sat H cs := by
  obtain ⟨F, F1, F2, h1, h2, d, u⟩ := h
  exact ⟨h1.here.2, F2, h2⟩
theorem kn_at {v : V} {t : Tg} {x : Addr × List Int} (hx : x ∈ kn v t) : tgF v t x.1 ∧ ∀ H F, TgAt H F v t → H x.1 = some (.lst (x.2.map V.int)) := by
  cases t with
  | i n => cases v <;> cases hx
  | s n => cases v <;> cases hx
  | l xs =>
    cases v with
    | ref a =>
      cases (List.mem_singleton.mp hx)
      refine ⟨rfl, fun H F h => ?_⟩
      obtain ⟨a', e, _, ha⟩ := h
      cases e
      exact ha
    | _ => cases hx
/-- a note more -/
theorem Sat.note {n : Nt} {hv cv : V} (h : Sat H (ntsK q ns ks :: tgC hv n.h :: tgC cv n.c :: cs)) (ok : NtOk n) : ∃ vs, H q = some (.lst vs) ∧ vs.length = ns.length ∧ ∀ t H1, H t = none →
    upd (upd H t (.tup [.str n.w, .int n.p, hv, cv])) q (.lst (vs ++ [.ref t])) = H1 → Sat H1 (ntsK q (ns ++ [n]) (kn hv n.h ++ (kn cv n.c ++ ks)) :: cs) := by
  obtain ⟨F, h1, k⟩ := Sat.opnL (ds := [ntsK q ns ks, tgC hv n.h, tgC cv n.c]) h
  obtain ⟨FA, FB, hA, ⟨FC, FD, hC, hD, dC, uC⟩, dA, uA⟩ := h1
  have hD := hD.of1
  obtain ⟨vs, G, e, N, nq, al, kk, hF⟩ := hA.here
  obtain ⟨rfl, hT⟩ := hC.here
  obtain ⟨rfl, hU⟩ := hD.here
  refine ⟨vs, e, N.len, fun t H1 nt g => ?_⟩
  subst g
  have ne : ∀ {b o}, H b = some o → b ≠ t := fun {b o} e => ne_of_none e nt
  have tq : t ≠ q := (ne e).symm
  have kq : ∀ b o, b ≠ q → H b = some o → (upd (upd H t (.tup [.str n.w, .int n.p, hv, cv])) q (.lst (vs ++ [.ref t]))) b = some o := fun b o z e => by rw [upd_ne z, upd_ne (ne e)]; exact e
  have Cq : ∀ b, tgF hv n.h b → b ≠ q := fun b z y => dA q ((hF q).mpr (.inl rfl)) ((uC q).mpr (.inl (by rw [← y]; exact z)))
  have Dq : ∀ b, tgF cv n.c b → b ≠ q := fun b z y => dA q ((hF q).mpr (.inl rfl)) ((uC q).mpr (.inr (by rw [← y]; exact z)))
  have Gq : ∀ b, G b → b ≠ q := fun b z y => nq (by rw [← y]; exact z)
  refine k [_] (fun b => b = q ∨ (G b ∨ b = t ∨ tgF hv n.h b ∨ tgF cv n.c b)) _ ⟨fun b o nb e => ?_, fun b z => ?_⟩ (SatF.one (On.ntsK (G := fun b => G b ∨ b = t ∨ tgF hv n.h b ∨ tgF cv n.c b) upd_same (Nts.snoc ⟨t, hv, cv, rfl, .inr (.inl rfl), ?_, ?_, ?_, ok⟩ (N.keep (fun b o z e => kq b o (Gq b z) e) (fun _ z => .inl z))) ?_ ?_ ?_))
  · exact kq b o (fun y => nb ((uA b).mpr (.inl ((hF b).mpr (.inl y))))) e
  · rcases z with z | z | z | z | z
    · exact .inl ((uA b).mpr (.inl ((hF b).mpr (.inl z))))
    · exact .inl ((uA b).mpr (.inl ((hF b).mpr (.inr z))))
    · exact .inr (by rw [z]; exact nt)
    · exact .inl ((uA b).mpr (.inr ((uC b).mpr (.inl z))))
    · exact .inl ((uA b).mpr (.inr ((uC b).mpr (.inr z))))
  · rw [upd_ne tq, upd_same]
  · exact hT.keep (fun b o z e => kq b o (Cq b z) e) (fun _ z => .inr (.inr (.inl z)))
  · exact hU.keep (fun b o z e => kq b o (Dq b z) e) (fun _ z => .inr (.inr (.inr z)))
  · rintro (z | z | z | z)
    · exact nq z
    · exact tq z.symm
    · exact Cq q z rfl
    · exact Dq q z rfl
  · rintro b (z | z | z | z)
    · exact (al b z).elim fun o e => ⟨o, kq b o (Gq b z) e⟩
    · exact ⟨_, by rw [z, upd_ne tq, upd_same]⟩
    · exact (hC.2 b z).elim fun o e => ⟨o, kq b o (Cq b z) e⟩
    · exact (hD.2 b z).elim fun o e => ⟨o, kq b o (Dq b z) e⟩
  · intro x hx
    rcases List.mem_append.mp hx with hx | hx
    · obtain ⟨h1, h2⟩ := kn_at hx
      exact ⟨.inr (.inr (.inl h1)), kq _ _ (Cq _ h1) (h2 _ _ hT)⟩
    · rcases List.mem_append.mp hx with hx | hx
      · obtain ⟨h1, h2⟩ := kn_at hx
        exact ⟨.inr (.inr (.inr h1)), kq _ _ (Dq _ h1) (h2 _ _ hU)⟩
      · exact ⟨.inl (kk x hx).1, kq _ _ (Gq _ (kk x hx).1) (kk x hx).2⟩
/-- the law's own device -/
def mK (rw pl no : Addr) (s : Nat) : List (Key × V) := [(Sum.inr (Str.ofString "row"), .ref rw), (Sum.inr (Str.ofString "spot"), .int s), (Sum.inr (Str.ofString "plan"), .ref pl), (Sum.inr (Str.ofString "notes"), .ref no)]
def modC (m : Addr) (S : Dst) (ks : List (Addr × List Int)) : Ch := exC (fun _ : Addr × Addr × Addr => True) fun x => [.pt m (.dK (mK x.1 x.2.1 x.2.2 S.spot)), .pt x.1 (.lst (S.cells.map V.int)), .pt x.2.1 (.lst (S.plan.map V.int)), ntsK x.2.2 S.ns ks]
theorem Sat.mod {m : Addr} (h : Sat H (modC m S ks :: cs)) : ∃ rw pl no, Sat H (.pt m (.dK (mK rw pl no S.spot)) :: .pt rw (.lst (S.cells.map V.int)) :: .pt pl (.lst (S.plan.map V.int)) :: ntsK no S.ns ks :: cs) := by
  obtain ⟨⟨rw, pl, no⟩, _, h⟩ := h.exE
  exact ⟨rw, pl, no, h⟩
theorem Sat.modI {m rw pl no : Addr} (h : Sat H (.pt m (.dK (mK rw pl no S.spot)) :: .pt rw (.lst (S.cells.map V.int)) :: .pt pl (.lst (S.plan.map V.int)) :: ntsK no S.ns ks :: cs)) : Sat H (modC m S ks :: cs) := Sat.exI (rw, pl, no) trivial h
theorem Sat.modsub {m : Addr} {js : List (Addr × List Int)} (h : Sat H (modC m S ks :: cs)) (s : ∀ x ∈ js, x ∈ ks) : Sat H (modC m S js :: cs) := by
  obtain ⟨rw, pl, no, h⟩ := h.mod
  have h := (h.pull (.tl (.tl (.tl .hd)))).ksub s
  exact Sat.modI (rw := rw) (pl := pl) (no := no) (h.pk (.cons (.tl .hd) (.cons (.tl .hd) (.cons (.tl .hd) .nil))))
theorem Sat.modget {m : Addr} {xs : List Int} (h : Sat H cs) (p : Pull (modC m S ks) cs cs1) (i : (a, xs) ∈ ks) : H a = some (.lst (xs.map V.int)) := by
  obtain ⟨rw, pl, no, h⟩ := (h.pull p).mod
  exact h.kget (.tl (.tl (.tl .hd))) i
theorem mK_row (rw pl no : Addr) (s : Nat) : valV (mK rw pl no s) (Sum.inr (Str.ofString "row")) = some (.ref rw) := by unfold mK; kernel_rfl
theorem mK_spot (rw pl no : Addr) (s : Nat) : valV (mK rw pl no s) (Sum.inr (Str.ofString "spot")) = some (.int s) := by unfold mK; kernel_rfl
theorem mK_plan (rw pl no : Addr) (s : Nat) : valV (mK rw pl no s) (Sum.inr (Str.ofString "plan")) = some (.ref pl) := by unfold mK; kernel_rfl
theorem mK_notes (rw pl no : Addr) (s : Nat) : valV (mK rw pl no s) (Sum.inr (Str.ofString "notes")) = some (.ref no) := by unfold mK; kernel_rfl
theorem mK_prow (rw pl no r : Addr) (s : Nat) : putK (mK rw pl no s) (Sum.inr (Str.ofString "row")) (.ref r) = mK r pl no s := by unfold mK; kernel_rfl
theorem mK_pspot (rw pl no : Addr) (s r : Nat) : putK (mK rw pl no s) (Sum.inr (Str.ofString "spot")) (.int r) = mK rw pl no r := by unfold mK; kernel_rfl
/-- reading and writing an entry -/
theorem mget {m rw pl no : Addr} {s : Nat} {k : Str} {v : V} (e : H m = some (.dK (mK rw pl no s))) (g : valV (mK rw pl no s) (Sum.inr k) = some v) : DGet H m (.str k) (some v) := by
  rw [← g]; exact DGet.k (k := Sum.inr k) e
theorem mput {m rw pl no : Addr} {s : Nat} {k : Str} {v : V} {kvs : List (Key × V)} (e : H m = some (.dK (mK rw pl no s))) (g : putK (mK rw pl no s) (Sum.inr k) v = kvs) : DPut H m (.str k) v (upd H m (.dK kvs)) := by
  rw [← g]; exact DPut.k (k := Sum.inr k) e (by show (4 : Nat) < sizeLine; rw [sizeLine_eq]; decide)
end
/-! what comes of an ask -/
inductive Ask
  | take (n : Nat) | put (ds : List Int) | go (n : Nat) | cut (n : Nat)
def Ask.w : Ask → Str
  | .take _ => Str.ofString "take" | .put _ => Str.ofString "put" | .go _ => Str.ofString "go" | .cut _ => Str.ofString "cut"
def Ask.h : Ask → Tg
  | .take n => .i n | .put ds => .l ds | .go n => .i n | .cut n => .i n
def badN (S : Dst) : Bool := match planN S with
  | some k => decide (k < 0)
  | none => false
def goodT (S : Dst) : Ask → Tg
  | .take n => if mayF S n = 0 then .s (Str.ofString "stall") else .l (takenF S n)
  | .put ds => if putN S ds = 0 then .s (Str.ofString "stall") else .i (putN S ds)
  | _ => .i 0
def cameT (S : Dst) (a : Ask) : Tg := if badN S = true then .s (Str.ofString "fault") else goodT S a
def goodS (S : Dst) : Ask → Dst
  | .take n => tookS S n
  | .put ds => putS S ds
  | .go n => { noteS S (Str.ofString "go") (.i n) (.i 0) with spot := n }
  | .cut n => { noteS S (Str.ofString "cut") (.i n) (.i 0) with cells := S.cells.take n }
def doneS (S : Dst) (a : Ask) : Dst := if badN S = true then noteS S a.w a.h (.s (Str.ofString "fault")) else goodS S a
theorem badN_iff {S : Dst} : badN S = true ↔ ∃ k, planN S = some k ∧ k < 0 := by
  unfold badN
  cases e : planN S with
  | none => simp
  | some k => simp
theorem good_of {S : Dst} (h : badN S = false) : Good S := fun k ek => by
  unfold badN at h
  rw [ek] at h
  have := of_decide_eq_false h
  omega
theorem usedS_ns (S : Dst) : (usedS S).ns = S.ns := by unfold usedS; split <;> rfl
theorem usedS_plan (S : Dst) : (usedS S).plan = S.plan := by unfold usedS; split <;> rfl
theorem usedS_seek (S : Dst) : (usedS S).seek = S.seek := by unfold usedS; split <;> rfl
theorem usedS_bar (S : Dst) : (usedS S).bar = S.bar := by unfold usedS; split <;> rfl
theorem doneS_used (S : Dst) (a : Ask) : (doneS S a).used = (usedS S).used ∧ (doneS S a).plan = S.plan ∧ (doneS S a).seek = S.seek ∧ (doneS S a).bar = S.bar ∧ (doneS S a).ns = S.ns ++ [⟨a.w, S.spot, a.h, cameT S a⟩] := by
  unfold doneS cameT
  cases hb : badN S with
  | true => exact ⟨rfl, usedS_plan S, usedS_seek S, usedS_bar S, rfl⟩
  | false =>
    rw [if_neg (by simp), if_neg (by simp)]
    cases a with
    | take n =>
      show (tookS S n).used = _ ∧ (tookS S n).plan = _ ∧ (tookS S n).seek = _ ∧ (tookS S n).bar = _ ∧ (tookS S n).ns = S.ns ++ [⟨_, _, _, if mayF S n = 0 then _ else _⟩]
      unfold tookS
      by_cases h : mayF S n = 0
      · rw [if_pos h, if_pos h]; exact ⟨rfl, usedS_plan S, usedS_seek S, usedS_bar S, rfl⟩
      · rw [if_neg h, if_neg h]; exact ⟨rfl, usedS_plan S, usedS_seek S, usedS_bar S, rfl⟩
    | put ds => exact ⟨rfl, usedS_plan S, usedS_seek S, usedS_bar S, rfl⟩
    | go n => exact ⟨rfl, usedS_plan S, usedS_seek S, usedS_bar S, rfl⟩
    | cut n => exact ⟨rfl, usedS_plan S, usedS_seek S, usedS_bar S, rfl⟩
/-- each ask so far has used a number -/
def UsedOk (S : Dst) : Prop := S.used = min S.ns.length S.plan.length
theorem UsedOk.done {S : Dst} (h : UsedOk S) (a : Ask) : UsedOk (doneS S a) := by
  obtain ⟨h1, h2, h3, h4, h5⟩ := doneS_used S a
  unfold UsedOk at *
  rw [h1, h2, h5, List.length_append]
  show _ = min (_ + 1) _
  unfold usedS
  split
  · show S.used + 1 = _; omega
  · omega
theorem UsedOk.plan {S : Dst} (h : UsedOk S) : planN S = S.plan[S.ns.length]? := by
  unfold planN
  by_cases l : S.ns.length < S.plan.length
  · rw [h, Nat.min_eq_left (by omega)]
  · rw [h, Nat.min_eq_right (by omega), List.getElem?_eq_none (by omega), List.getElem?_eq_none (by omega)]
end Sip
/-! a part of the heap as it is, by itself -/
namespace Sip
open PySem PySem.Spec PyProof.Rows L2 TL
def frC (M : Hp) : Ch := .ab fun H F => (∀ b o, M b = some o → H b = some o) ∧ ∀ b, F b ↔ ∃ o, M b = some o
section
variable {H H' H1 M : Hp} {c d : Ch} {cs ds cs1 R : List Ch} {F F1 F2 F' : Addr → Prop} {a b l p q t z : Addr} {o o' o1 : HO} {vs : List V} {ns : List Nt} {ks : List (Addr × List Int)}
theorem On.fr (h : ∀ b o, M b = some o → H b = some o) : (frC M).On H (fun b => ∃ o, M b = some o) :=
  ⟨fun H' k => ⟨fun b o e => k b o ⟨o, e⟩ (h b o e), fun _ => Iff.rfl⟩, fun b ⟨o, e⟩ => ⟨o, h b o e⟩⟩
theorem Sat.frz {P : Hp → (Addr → Prop) → Prop} (h : Sat H (.ab P :: cs)) : ∃ M F, Sat H (frC M :: cs) ∧ P M F := by
  obtain ⟨F, F1, F2, h1, h2, d, u⟩ := h
  classical
  refine ⟨fun b => if F1 b then H b else none, F1, ?_, ?_⟩
  · refine Sat.mk (On.fr fun b o e => ?_) h2 fun b ⟨o, e⟩ => ?_
    · by_cases f : F1 b
      · rw [if_pos f] at e; exact e
      · rw [if_neg f] at e; cases e
    · by_cases f : F1 b
      · exact d b f
      · rw [if_neg f] at e; cases e
  · refine h1.1 _ fun b o f e => ?_
    show (if F1 b then H b else none) = some o
    rw [if_pos f]; exact e
theorem Sat.fr (h : Sat H cs) (p : Pull (frC M) cs cs1) (e : M b = some o) : H b = some o := by
  obtain ⟨F, F1, F2, h1, _⟩ := h.pull p
  exact h1.here.1 b o e
theorem Sat.frjk {m : Nat} {zs : List Addr} (h : Sat H (frC M :: cs)) (k : ∀ z ∈ zs, ∃ xs, M z = some (.lst xs) ∧ xs.length ≤ m) : Sat H (jkC m zs :: cs) := by
  obtain ⟨F, F1, F2, h1, h2, d, u⟩ := h
  have e1 := h1.here
  refine Sat.mk (On.jk fun z hz => ?_) h2 fun b hb => ?_
  · obtain ⟨xs, e, l⟩ := k z hz
    exact ⟨xs, e1.1 _ _ e, l⟩
  · obtain ⟨xs, e, l⟩ := k b hb
    exact d b ((e1.2 b).mpr ⟨_, e⟩)
theorem Sat.ntsf (h : Sat H (ntsC q ns :: cs)) : ∃ M vs G, Sat H (frC M :: cs) ∧ M q = some (.lst vs) ∧ Nts M G vs ns := by
  obtain ⟨M, F, hM, vs, G, e, N, _⟩ := h.frz
  exact ⟨M, vs, G, hM, e, N⟩
theorem Sat.ntsjk {m : Nat} (h : Sat H (ntsC q ns :: cs)) (l : ns.length ≤ m) : Sat H (jkC m [q] :: cs) := by
  obtain ⟨M, vs, G, hM, e, N⟩ := h.ntsf
  exact hM.frjk fun z hz => by
    rw [List.mem_singleton.mp hz]
    exact ⟨vs, e, by rw [N.len]; exact l⟩
end
end Sip
namespace Sip
open PySem PySem.Spec PyProof.Rows L2 TL
def topS (i : Nat) : Stmt := PySem.Challenge.pw_sipstack_k10_device_told_lists.main.body.getD i (.Pass ⟨0, 0, 0, 0⟩)
abbrev s_iFault : Stmt := inClass (topS 5) 0
abbrev N_iFault : List Str := ["self", "number", "taken"]
abbrev P_iFault : List Str := ["self", "number", "taken"]
theorem sc_iFault : FnScope N_iFault P_iFault (defScope s_iFault) := ⟨rfl, rfl, rfl, by decide +kernel, rfl, by decide +kernel, by decide +kernel⟩
abbrev s_clen : Stmt := topS 9
abbrev N_clen : List Str := ["length"]
abbrev P_clen : List Str := ["length"]
theorem sc_clen : FnScope N_clen P_clen (defScope s_clen) := ⟨rfl, rfl, rfl, by decide +kernel, rfl, by decide +kernel, by decide +kernel⟩
abbrev s_ocopy : Stmt := topS 12
abbrev N_ocopy : List Str := ["thing"]
abbrev P_ocopy : List Str := ["thing"]
theorem sc_ocopy : FnScope N_ocopy P_ocopy (defScope s_ocopy) := ⟨rfl, rfl, rfl, by decide +kernel, rfl, by decide +kernel, by decide +kernel⟩
abbrev s_laid : Stmt := topS 14
abbrev N_laid : List Str := ["row", "place", "data", "told"]
abbrev P_laid : List Str := ["row", "place", "data"]
theorem sc_laid : FnScope N_laid P_laid (defScope s_laid) := ⟨rfl, rfl, rfl, by decide +kernel, rfl, by decide +kernel, by decide +kernel⟩
abbrev s_rinit : Stmt := inClass (topS 11) 0
abbrev N_rinit : List Str := ["self", "can_seek"]
abbrev P_rinit : List Str := ["self", "can_seek"]
theorem sc_rinit : FnScope N_rinit P_rinit (defScope s_rinit) := ⟨rfl, rfl, rfl, by decide +kernel, rfl, by decide +kernel, by decide +kernel⟩
abbrev s_dinit : Stmt := inClass (topS 17) 0
abbrev N_dinit : List Str := ["self", "content", "plan", "seeks"]
abbrev P_dinit : List Str := ["self", "content", "plan", "seeks"]
theorem sc_dinit : FnScope N_dinit P_dinit (defScope s_dinit) := ⟨rfl, rfl, rfl, by decide +kernel, rfl, by decide +kernel, by decide +kernel⟩
abbrev s_dgrow : Stmt := inClass (topS 17) 1
abbrev N_dgrow : List Str := ["self", "data"]
abbrev P_dgrow : List Str := ["self", "data"]
theorem sc_dgrow : FnScope N_dgrow P_dgrow (defScope s_dgrow) := ⟨rfl, rfl, rfl, by decide +kernel, rfl, by decide +kernel, by decide +kernel⟩
abbrev s_dcontent : Stmt := inClass (topS 17) 2
abbrev N_dcontent : List Str := ["self"]
abbrev P_dcontent : List Str := ["self"]
theorem sc_dcontent : FnScope N_dcontent P_dcontent (defScope s_dcontent) := ⟨rfl, rfl, rfl, by decide +kernel, rfl, by decide +kernel, by decide +kernel⟩
abbrev s_dleft : Stmt := inClass (topS 17) 3
abbrev N_dleft : List Str := ["self"]
abbrev P_dleft : List Str := ["self"]
theorem sc_dleft : FnScope N_dleft P_dleft (defScope s_dleft) := ⟨rfl, rfl, rfl, by decide +kernel, rfl, by decide +kernel, by decide +kernel⟩
abbrev s_dgive : Stmt := inClass (topS 17) 7
abbrev N_dgive : List Str := ["self", "many", "most"]
abbrev P_dgive : List Str := ["self", "many"]
theorem sc_dgive : FnScope N_dgive P_dgive (defScope s_dgive) := ⟨rfl, rfl, rfl, by decide +kernel, rfl, by decide +kernel, by decide +kernel⟩
abbrev s_daccept : Stmt := inClass (topS 17) 8
abbrev N_daccept : List Str := ["self", "data", "most"]
abbrev P_daccept : List Str := ["self", "data"]
theorem sc_daccept : FnScope N_daccept P_daccept (defScope s_daccept) := ⟨rfl, rfl, rfl, by decide +kernel, rfl, by decide +kernel, by decide +kernel⟩
abbrev s_dmove : Stmt := inClass (topS 17) 9
abbrev N_dmove : List Str := ["self", "place"]
abbrev P_dmove : List Str := ["self", "place"]
theorem sc_dmove : FnScope N_dmove P_dmove (defScope s_dmove) := ⟨rfl, rfl, rfl, by decide +kernel, rfl, by decide +kernel, by decide +kernel⟩
abbrev s_dtrim : Stmt := inClass (topS 17) 10
abbrev N_dtrim : List Str := ["self", "size"]
abbrev P_dtrim : List Str := ["self", "size"]
theorem sc_dtrim : FnScope N_dtrim P_dtrim (defScope s_dtrim) := ⟨rfl, rfl, rfl, by decide +kernel, rfl, by decide +kernel, by decide +kernel⟩
abbrev s_dextent : Stmt := inClass (topS 17) 11
abbrev N_dextent : List Str := ["self"]
abbrev P_dextent : List Str := ["self"]
theorem sc_dextent : FnScope N_dextent P_dextent (defScope s_dextent) := ⟨rfl, rfl, rfl, by decide +kernel, rfl, by decide +kernel, by decide +kernel⟩
abbrev s_dallowed : Stmt := inClass (topS 17) 12
abbrev N_dallowed : List Str := ["self", "many", "number"]
abbrev P_dallowed : List Str := ["self", "many"]
theorem sc_dallowed : FnScope N_dallowed P_dallowed (defScope s_dallowed) := ⟨rfl, rfl, rfl, by decide +kernel, rfl, by decide +kernel, by decide +kernel⟩
abbrev s_dtake : Stmt := inClass (topS 11) 1
abbrev N_dtake : List Str := ["self", "many", "came"]
abbrev P_dtake : List Str := ["self", "many"]
theorem sc_dtake : FnScope N_dtake P_dtake (defScope s_dtake) := ⟨rfl, rfl, rfl, by decide +kernel, rfl, by decide +kernel, by decide +kernel⟩
abbrev s_dput : Stmt := inClass (topS 11) 2
abbrev N_dput : List Str := ["self", "data", "handed", "took"]
abbrev P_dput : List Str := ["self", "data"]
theorem sc_dput : FnScope N_dput P_dput (defScope s_dput) := ⟨rfl, rfl, rfl, by decide +kernel, rfl, by decide +kernel, by decide +kernel⟩
abbrev s_dgo : Stmt := inClass (topS 11) 3
abbrev N_dgo : List Str := ["self", "place"]
abbrev P_dgo : List Str := ["self", "place"]
theorem sc_dgo : FnScope N_dgo P_dgo (defScope s_dgo) := ⟨rfl, rfl, rfl, by decide +kernel, rfl, by decide +kernel, by decide +kernel⟩
abbrev s_dcut : Stmt := inClass (topS 11) 4
abbrev N_dcut : List Str := ["self", "size"]
abbrev P_dcut : List Str := ["self", "size"]
theorem sc_dcut : FnScope N_dcut P_dcut (defScope s_dcut) := ⟨rfl, rfl, rfl, by decide +kernel, rfl, by decide +kernel, by decide +kernel⟩
abbrev s_dnote : Stmt := inClass (topS 11) 12
abbrev N_dnote : List Str := ["self", "word", "handed", "came"]
abbrev P_dnote : List Str := ["self", "word", "handed", "came"]
theorem sc_dnote : FnScope N_dnote P_dnote (defScope s_dnote) := ⟨rfl, rfl, rfl, by decide +kernel, rfl, by decide +kernel, by decide +kernel⟩
abbrev s_dopen : Stmt := inClass (topS 11) 13
abbrev N_dopen : List Str := ["self"]
abbrev P_dopen : List Str := ["self"]
theorem sc_dopen : FnScope N_dopen P_dopen (defScope s_dopen) := ⟨rfl, rfl, rfl, by decide +kernel, rfl, by decide +kernel, by decide +kernel⟩
abbrev s_dseeks : Stmt := inClass (topS 11) 14
abbrev N_dseeks : List Str := ["self"]
abbrev P_dseeks : List Str := ["self"]
theorem sc_dseeks : FnScope N_dseeks P_dseeks (defScope s_dseeks) := ⟨rfl, rfl, rfl, by decide +kernel, rfl, by decide +kernel, by decide +kernel⟩
abbrev s_dmayt : Stmt := inClass (topS 11) 15
abbrev N_dmayt : List Str := ["self"]
abbrev P_dmayt : List Str := ["self"]
theorem sc_dmayt : FnScope N_dmayt P_dmayt (defScope s_dmayt) := ⟨rfl, rfl, rfl, by decide +kernel, rfl, by decide +kernel, by decide +kernel⟩
abbrev s_dmayp : Stmt := inClass (topS 11) 16
abbrev N_dmayp : List Str := ["self", "data"]
abbrev P_dmayp : List Str := ["self", "data"]
theorem sc_dmayp : FnScope N_dmayp P_dmayp (defScope s_dmayp) := ⟨rfl, rfl, rfl, by decide +kernel, rfl, by decide +kernel, by decide +kernel⟩
abbrev s_dmayc : Stmt := inClass (topS 11) 17
abbrev N_dmayc : List Str := ["self"]
abbrev P_dmayc : List Str := ["self"]
theorem sc_dmayc : FnScope N_dmayc P_dmayc (defScope s_dmayc) := ⟨rfl, rfl, rfl, by decide +kernel, rfl, by decide +kernel, by decide +kernel⟩
abbrev s_dlog : Stmt := inClass (topS 11) 10
abbrev N_dlog : List Str := ["self"]
abbrev P_dlog : List Str := ["self"]
theorem sc_dlog : FnScope N_dlog P_dlog (defScope s_dlog) := ⟨rfl, rfl, rfl, by decide +kernel, rfl, by decide +kernel, by decide +kernel⟩
abbrev s_dlogb : Stmt := inClass (topS 11) 11
abbrev N_dlogb : List Str := ["self", "many", "word", "place", "handed", "came"]
abbrev P_dlogb : List Str := ["self", "many"]
theorem sc_dlogb : FnScope N_dlogb P_dlogb (defScope s_dlogb) := ⟨rfl, rfl, rfl, by decide +kernel, rfl, by decide +kernel, by decide +kernel⟩
abbrev s_pool : Stmt := topS 19
abbrev N_pool : List Str := ["_law_script", "_law_at", "_law_cell", "_law_digits"]
abbrev P_pool : List Str := ["_law_script", "_law_at"]
theorem sc_pool : FnScope N_pool P_pool (defScope s_pool) := ⟨rfl, rfl, rfl, by decide +kernel, rfl, by decide +kernel, by decide +kernel⟩
abbrev s_take : Stmt := topS 20
abbrev N_take : List Str := ["_law_pool_here", "_law_wide", "_law_found", "_law_seed"]
abbrev P_take : List Str := ["_law_pool_here", "_law_wide"]
theorem sc_take : FnScope N_take P_take (defScope s_take) := ⟨rfl, rfl, rfl, by decide +kernel, rfl, by decide +kernel, by decide +kernel⟩
abbrev s_lrow : Stmt := topS 21
abbrev N_lrow : List Str := ["_law_pool_here", "_law_most", "_law_row_here", "_law_k", "_law_way"]
abbrev P_lrow : List Str := ["_law_pool_here", "_law_most"]
theorem sc_lrow : FnScope N_lrow P_lrow (defScope s_lrow) := ⟨rfl, rfl, rfl, by decide +kernel, rfl, by decide +kernel, by decide +kernel⟩
abbrev s_lplan : Stmt := topS 22
abbrev N_lplan : List Str := ["_law_pool_here", "_law_most", "_law_troubles", "_law_numbers", "_law_k", "_law_way"]
abbrev P_lplan : List Str := ["_law_pool_here", "_law_most", "_law_troubles"]
theorem sc_lplan : FnScope N_lplan P_lplan (defScope s_lplan) := ⟨rfl, rfl, rfl, by decide +kernel, rfl, by decide +kernel, by decide +kernel⟩
abbrev s_llaid : Stmt := topS 23
abbrev N_llaid : List Str := ["_law_row_here", "_law_place", "_law_data", "_law_found"]
abbrev P_llaid : List Str := ["_law_row_here", "_law_place", "_law_data"]
theorem sc_llaid : FnScope N_llaid P_llaid (defScope s_llaid) := ⟨rfl, rfl, rfl, by decide +kernel, rfl, by decide +kernel, by decide +kernel⟩
abbrev s_ldevice : Stmt := topS 24
abbrev N_ldevice : List Str := ["_law_row_here", "_law_numbers"]
abbrev P_ldevice : List Str := ["_law_row_here", "_law_numbers"]
theorem sc_ldevice : FnScope N_ldevice P_ldevice (defScope s_ldevice) := ⟨rfl, rfl, rfl, by decide +kernel, rfl, by decide +kernel, by decide +kernel⟩
abbrev s_lasked : Stmt := topS 25
abbrev N_lasked : List Str := ["_law_m", "_law_word", "_law_handed", "_law_number", "_law_spot", "_law_came"]
abbrev P_lasked : List Str := ["_law_m", "_law_word", "_law_handed"]
theorem sc_lasked : FnScope N_lasked P_lasked (defScope s_lasked) := ⟨rfl, rfl, rfl, by decide +kernel, rfl, by decide +kernel, by decide +kernel⟩
abbrev s_ldeed : Stmt := topS 26
abbrev N_ldeed : List Str := ["_law_pool_here", "_law_m", "_law_way"]
abbrev P_ldeed : List Str := ["_law_pool_here", "_law_m"]
theorem sc_ldeed : FnScope N_ldeed P_ldeed (defScope s_ldeed) := ⟨rfl, rfl, rfl, by decide +kernel, rfl, by decide +kernel, by decide +kernel⟩
abbrev s_lanswer : Stmt := topS 27
abbrev N_lanswer : List Str := ["_law_m", "_law_word", "_law_handed", "_law_came"]
abbrev P_lanswer : List Str := ["_law_m", "_law_word", "_law_handed"]
theorem sc_lanswer : FnScope N_lanswer P_lanswer (defScope s_lanswer) := ⟨rfl, rfl, rfl, by decide +kernel, rfl, by decide +kernel, by decide +kernel⟩
abbrev s_lspoil : Stmt := topS 28
abbrev N_lspoil : List Str := ["_law_some", "_law_way"]
abbrev P_lspoil : List Str := ["_law_some", "_law_way"]
theorem sc_lspoil : FnScope N_lspoil P_lspoil (defScope s_lspoil) := ⟨rfl, rfl, rfl, by decide +kernel, rfl, by decide +kernel, by decide +kernel⟩
abbrev s_ltold : Stmt := topS 29
abbrev N_ltold : List Str := ["_law_device_here", "_law_word", "_law_handed", "_law_found", "e"]
abbrev P_ltold : List Str := ["_law_device_here", "_law_word", "_law_handed"]
theorem sc_ltold : FnScope N_ltold P_ltold (defScope s_ltold) := ⟨rfl, rfl, rfl, by decide +kernel, rfl, by decide +kernel, by decide +kernel⟩
abbrev s_llogrows : Stmt := topS 30
abbrev N_llogrows : List Str := ["_law_device_here", "_law_found", "_law_word", "_law_place", "_law_handed", "_law_came", "_law_one"]
abbrev P_llogrows : List Str := ["_law_device_here"]
theorem sc_llogrows : FnScope N_llogrows P_llogrows (defScope s_llogrows) := ⟨rfl, rfl, rfl, by decide +kernel, rfl, by decide +kernel, by decide +kernel⟩
abbrev s_law : Stmt := topS 31
abbrev N_law : List Str := ["_law_script", "_law_pool_here", "_law_row_here", "_law_numbers", "_law_m", "_law_device_here", "_law_spare", "_law_k", "_law_word", "_law_handed", "_law_due", "_law_given", "_law_found", "_law_data"]
abbrev P_law : List Str := ["_law_script"]
theorem sc_law : FnScope N_law P_law (defScope s_law) := ⟨rfl, rfl, rfl, by decide +kernel, rfl, by decide +kernel, by decide +kernel⟩

def spDeviceS : Sp := fun vs H Q _ => ∃ (a b : Addr) (r ps : List Int) (R : List Ch), vs = [.ref a, .ref b] ∧ Sat H (.pt a (.lst (r.map V.int)) :: .pt b (.lst (ps.map V.int)) :: R) ∧
  ∀ (H' : Hp) (m : Addr), Sat H' (modC m (dst0 true r ps) [] :: .pt a (.lst (r.map V.int)) :: .pt b (.lst (ps.map V.int)) :: R) → Q (.ref m) H'
def numF (S : Dst) : Int := (planN S).getD 1000000000
def AskOk : Ask → Prop
  | .take n => 1 ≤ n ∧ n ≤ 1000000000
  | .put ds => ds ≠ [] ∧ ds.length ≤ 4400
  | _ => True
def TgV (v : V) : Tg → Prop
  | .i n => v = .int n
  | .s w => v = .str w
  | .l _ => ∃ a, v = .ref a
theorem numF_some {S : Dst} {k : Int} (h : planN S = some k) : numF S = k := by unfold numF; rw [h]; rfl
theorem numF_none {S : Dst} (h : planN S = none) : numF S = 1000000000 := by unfold numF; rw [h]; rfl
theorem num_bad {S : Dst} : badN S = true ↔ numF S < 0 := by
  unfold badN numF
  cases planN S with
  | none => simp
  | some k => simp
theorem num_may {S : Dst} {n : Nat} (h : n ≤ 1000000000) : (if numF S < (n : Int) then numF S else (n : Int)) = mayF S n := by
  unfold numF mayF
  cases planN S with
  | none => show (if (1000000000 : Int) < (n : Int) then _ else _) = (n : Int); rw [if_neg (by omega)]
  | some k => show (if k < (n : Int) then k else (n : Int)) = min (n : Int) k; split <;> omega
theorem done_bad {S : Dst} {a : Ask} (h : numF S < 0) : doneS S a = noteS S a.w a.h (.s (Str.ofString "fault")) ∧ cameT S a = .s (Str.ofString "fault") := by
  have hb := num_bad.mpr h
  exact ⟨if_pos hb, if_pos hb⟩
theorem done_good {S : Dst} {a : Ask} (h : ¬ numF S < 0) : doneS S a = goodS S a ∧ cameT S a = goodT S a := by
  have hb : ¬ badN S = true := fun z => h (num_bad.mp z)
  exact ⟨if_neg hb, if_neg hb⟩
theorem noteS_cells (S : Dst) (w : Str) (h c : Tg) : (noteS S w h c).cells = S.cells := usedS_cells S
theorem noteS_spot (S : Dst) (w : Str) (h c : Tg) : (noteS S w h c).spot = S.spot := usedS_spot S
theorem num_zero {S : Dst} (h : numF S = 0) : planN S = some 0 := by
  unfold numF at h
  cases e : planN S with
  | none => rw [e] at h; exact absurd h (by decide)
  | some k => rw [e] at h; cases (show k = 0 from h); rfl
theorem may_zero {S : Dst} (h : numF S = 0) (n : Nat) : mayF S n = 0 := by unfold mayF; rw [num_zero h]; show min (n : Int) 0 = 0; omega
theorem put_zero {S : Dst} (h : numF S = 0) (ds : List Int) : putN S ds = 0 := by unfold putN; rw [may_zero h]; rfl
theorem took_stall {S : Dst} {n : Nat} (h : mayF S n = 0) : (tookS S n).cells = S.cells ∧ (tookS S n).spot = S.spot := by
  unfold tookS; rw [if_pos h]; exact ⟨usedS_cells S, usedS_spot S⟩
theorem took_some {S : Dst} {n : Nat} (h : mayF S n ≠ 0) : (tookS S n).cells = S.cells ∧ (tookS S n).spot = S.spot + (takenF S n).length := by
  unfold tookS; rw [if_neg h]; exact ⟨usedS_cells S, rfl⟩
theorem puts_stall {S : Dst} {ds : List Int} (h : putN S ds = 0) : (putS S ds).cells = S.cells ∧ (putS S ds).spot = S.spot := by
  unfold putS laidS; rw [h, List.take_zero, laidF_nil]; exact ⟨rfl, rfl⟩
theorem may_pos {S : Dst} {n : Nat} (h : ¬ numF S < 0) (h0 : numF S ≠ 0) (hn : 1 ≤ n) : 0 < mayF S n := by
  unfold mayF numF at *
  cases e : planN S with
  | none => show (0 : Int) < (n : Int); omega
  | some k => rw [e] at h h0; have h : ¬ k < 0 := h; have h0 : k ≠ 0 := h0; show 0 < min (n : Int) k; omega
def spAskedS : Sp := fun vs H Q _ => ∃ (m : Addr) (S : Dst) (a : Ask) (hv : V) (ks : List (Addr × List Int)) (R : List Ch), vs = [.ref m, .str a.w, hv] ∧ Sat H (modC m S ks :: tgC hv a.h :: R) ∧ UsedOk S ∧ S.ns.length ≤ 100000 ∧ S.plan.length ≤ 100000 ∧ S.cells.length ≤ 90000 ∧ S.spot ≤ 90000 ∧ AskOk a ∧
  ∀ (H' : Hp) (cv : V), Sat H' (modC m (doneS S a) (kn hv a.h ++ (kn cv (cameT S a) ++ ks)) :: R) → TgV cv (cameT S a) → Q cv H'
theorem askw_ok (a : Ask) : PyData.strOk a.w = true := by cases a <;> (show PyData.strOk (Str.ofString _) = true; decide +kernel)
theorem askh_ok (a : Ask) : tgOk a.h := by cases a <;> trivial
theorem stall_ok : PyData.strOk (Str.ofString "stall") = true := by decide +kernel
theorem fault_ok : PyData.strOk (Str.ofString "fault") = true := by decide +kernel
theorem came_ok (S : Dst) (a : Ask) : tgOk (cameT S a) := by
  unfold cameT
  split
  · exact fault_ok
  · cases a with
    | take n => show tgOk (if _ then _ else _); split; exact stall_ok; trivial
    | put ds => show tgOk (if _ then _ else _); split; exact stall_ok; trivial
    | go n => trivial
    | cut n => trivial
theorem in_take : (if false = true then !inV (V.str (Str.ofString "take")) [V.str (Str.ofString "take"), V.str (Str.ofString "put")] else inV (V.str (Str.ofString "take")) [V.str (Str.ofString "take"), V.str (Str.ofString "put")]) = true := by decide +kernel
theorem in_put : (if false = true then !inV (V.str (Str.ofString "put")) [V.str (Str.ofString "take"), V.str (Str.ofString "put")] else inV (V.str (Str.ofString "put")) [V.str (Str.ofString "take"), V.str (Str.ofString "put")]) = true := by decide +kernel
theorem in_go : (if false = true then !inV (V.str (Str.ofString "go")) [V.str (Str.ofString "take"), V.str (Str.ofString "put")] else inV (V.str (Str.ofString "go")) [V.str (Str.ofString "take"), V.str (Str.ofString "put")]) = false := by decide +kernel
theorem in_cut : (if false = true then !inV (V.str (Str.ofString "cut")) [V.str (Str.ofString "take"), V.str (Str.ofString "put")] else inV (V.str (Str.ofString "cut")) [V.str (Str.ofString "take"), V.str (Str.ofString "put")]) = false := by decide +kernel
theorem w_put_take : decide (V.str (Str.ofString "put") = V.str (Str.ofString "take")) = false := by decide +kernel
theorem w_go_take : decide (V.str (Str.ofString "go") = V.str (Str.ofString "take")) = false := by decide +kernel
theorem w_go_put : decide (V.str (Str.ofString "go") = V.str (Str.ofString "put")) = false := by decide +kernel
theorem w_cut_take : decide (V.str (Str.ofString "cut") = V.str (Str.ofString "take")) = false := by decide +kernel
theorem w_cut_put : decide (V.str (Str.ofString "cut") = V.str (Str.ofString "put")) = false := by decide +kernel
theorem w_cut_go : decide (V.str (Str.ofString "cut") = V.str (Str.ofString "go")) = false := by decide +kernel
theorem good_take0 {S : Dst} {n : Nat} (h : mayF S n = 0) : (goodS S (.take n)).cells = S.cells ∧ (goodS S (.take n)).spot = S.spot ∧ goodT S (.take n) = .s (Str.ofString "stall") := ⟨(took_stall h).1, (took_stall h).2, if_pos h⟩
theorem good_take1 {S : Dst} {n : Nat} (h : mayF S n ≠ 0) : (goodS S (.take n)).cells = S.cells ∧ (goodS S (.take n)).spot = S.spot + (takenF S n).length ∧ goodT S (.take n) = .l (takenF S n) := ⟨(took_some h).1, (took_some h).2, if_neg h⟩
theorem good_put0 {S : Dst} {ds : List Int} (h : putN S ds = 0) : (goodS S (.put ds)).cells = S.cells ∧ (goodS S (.put ds)).spot = S.spot ∧ goodT S (.put ds) = .s (Str.ofString "stall") := ⟨(puts_stall h).1, (puts_stall h).2, if_pos h⟩
theorem good_put1 {S : Dst} {ds : List Int} (h : putN S ds ≠ 0) : (goodS S (.put ds)).cells = laidF S.cells S.spot (ds.take (putN S ds)) ∧ (goodS S (.put ds)).spot = S.spot + putN S ds ∧ goodT S (.put ds) = .i (putN S ds) := ⟨rfl, rfl, if_neg h⟩
theorem good_go {S : Dst} {n : Nat} : (goodS S (.go n)).cells = S.cells ∧ (goodS S (.go n)).spot = n ∧ goodT S (.go n) = .i 0 := ⟨usedS_cells S, rfl, rfl⟩
theorem good_cut {S : Dst} {n : Nat} : (goodS S (.cut n)).cells = S.cells.take n ∧ (goodS S (.cut n)).spot = S.spot ∧ goodT S (.cut n) = .i 0 := ⟨rfl, usedS_spot S, rfl⟩
theorem take_cutV (S : Dst) (n : Nat) (hm : 0 < mayF S n) : cutV (S.cells.map V.int) (some (S.spot : Int)) (some ((S.spot : Int) + mayF S n)) = (takenF S n).map V.int := by
  have h9 := Int.toNat_of_nonneg (Int.le_of_lt hm)
  unfold takenF
  rw [← mid_cut, Int.natCast_add, h9]
/-- what a drawn ask may be -/
def DeedOk (S : Dst) : Ask → Prop
  | .take n => 1 ≤ n ∧ n ≤ 400
  | .put ds => ds ≠ [] ∧ ds.length ≤ 10
  | .go n => n ≤ S.cells.length + 5
  | .cut n => n ≤ S.cells.length + 3
theorem DeedOk.ask {S : Dst} {a : Ask} (h : DeedOk S a) : AskOk a := by
  cases a with
  | take n => exact ⟨h.1, by have := h.2; omega⟩
  | put ds => exact ⟨h.1, by have := h.2; omega⟩
  | go n => trivial
  | cut n => trivial
def spDeedS : Sp := fun vs H Q _ => ∃ (p m : Addr) (n : Int) (S : Dst) (ks : List (Addr × List Int)) (R : List Ch), vs = [.ref p, .ref m] ∧ Sat H (poolC p n :: modC m S ks :: R) ∧ n ≤ 800000000 ∧ S.cells.length ≤ 100000 ∧
  ∀ (H' : Hp) (t : Addr) (a : Ask) (hv : V), Sat H' (.pt t (.tup [.str a.w, hv]) :: poolC p (n + 2000) :: modC m S ks :: tgC hv a.h :: R) → DeedOk S a → Q (.ref t) H'
def ansW (S : Dst) : Str := if badN S = true then Str.ofString "fault" else Str.ofString "told"
def okV (S : Dst) (a : Ask) (v : V) : V := match a with
  | .take n => if mayF S n = 0 then .non else v
  | .put ds => if putN S ds = 0 then .non else v
  | _ => .non
def ansV (S : Dst) (a : Ask) (v : V) : V := if badN S = true then .int (-numF S) else okV S a v
def spAnswerS : Sp := fun vs H Q _ => ∃ (m : Addr) (S : Dst) (a : Ask) (hv : V) (ks : List (Addr × List Int)) (R : List Ch), vs = [.ref m, .str a.w, hv] ∧ Sat H (modC m S ks :: tgC hv a.h :: R) ∧ UsedOk S ∧ S.ns.length ≤ 100000 ∧ S.plan.length ≤ 100000 ∧ S.cells.length ≤ 90000 ∧ S.spot ≤ 90000 ∧ AskOk a ∧
  ∀ (H' : Hp) (t : Addr) (cv : V), Sat H' (.pt t (.tup [.str (ansW S), ansV S a cv]) :: modC m (doneS S a) (kn hv a.h ++ (kn cv (cameT S a) ++ ks)) :: R) → TgV cv (cameT S a) → Q (.ref t) H'
theorem Sat.camed {K : PySem.W.Frag} {H : Hp} {cs cs1 : List Ch} {m : Addr} {S S' : Dst} {a : Ask} {hv cv : V} {ks : List (Addr × List Int)} (h : Sat H cs) (p : Pull (modC m S' (kn hv a.h ++ (kn cv (cameT S a) ++ ks))) cs cs1) (tv : TgV cv (cameT S a)) : Dp K H cv (tgD (cameT S a)) := by
  have hk : ∀ x ∈ kn cv (cameT S a), H x.1 = some (.lst (x.2.map V.int)) := fun x hx => h.modget p (List.mem_append_right _ (List.mem_append_left _ hx))
  generalize cameT S a = t at *
  cases t with
  | i n => cases (show cv = _ from tv); exact .int _
  | s w => cases (show cv = _ from tv); exact .str _
  | l xs =>
    obtain ⟨z, rfl⟩ := tv
    exact dp_lst (sq_at (hk (z, xs) (List.mem_singleton.mpr rfl)))
theorem tg_shaped {t : Tg} (h : tgOk t) : SeqAt.shaped (tgD t) = true := by
  unfold SeqAt.shaped
  have := tg_depth t
  simp [tg_lay h]
  omega
theorem eqv_fault {S : Dst} {a : Ask} : PyData.eqv (tgD (cameT S a)) (.str (Str.ofString "fault")) = badN S := by
  unfold cameT
  cases hb : badN S with
  | true => rw [if_pos rfl]; show PyData.eqv (.str (Str.ofString "fault")) (.str (Str.ofString "fault")) = true; decide +kernel
  | false =>
    rw [if_neg (by simp)]
    have e1 : PyData.eqv (.str (Str.ofString "stall")) (.str (Str.ofString "fault")) = false := by decide +kernel
    cases a with
    | take n => show PyData.eqv (tgD (if _ then _ else _)) _ = false; split; exact e1; rfl
    | put ds => show PyData.eqv (tgD (if _ then _ else _)) _ = false; split; exact e1; rfl
    | go n => rfl
    | cut n => rfl
theorem in_tgo : (if false = true then !inV (V.str (Str.ofString "take")) [V.str (Str.ofString "go"), V.str (Str.ofString "cut")] else inV (V.str (Str.ofString "take")) [V.str (Str.ofString "go"), V.str (Str.ofString "cut")]) = false := by decide +kernel
theorem in_pgo : (if false = true then !inV (V.str (Str.ofString "put")) [V.str (Str.ofString "go"), V.str (Str.ofString "cut")] else inV (V.str (Str.ofString "put")) [V.str (Str.ofString "go"), V.str (Str.ofString "cut")]) = false := by decide +kernel
theorem in_ggo : (if false = true then !inV (V.str (Str.ofString "go")) [V.str (Str.ofString "go"), V.str (Str.ofString "cut")] else inV (V.str (Str.ofString "go")) [V.str (Str.ofString "go"), V.str (Str.ofString "cut")]) = true := by decide +kernel
theorem in_cgo : (if false = true then !inV (V.str (Str.ofString "cut")) [V.str (Str.ofString "go"), V.str (Str.ofString "cut")] else inV (V.str (Str.ofString "cut")) [V.str (Str.ofString "go"), V.str (Str.ofString "cut")]) = true := by decide +kernel
theorem fstr_shaped : SeqAt.shaped (.str (Str.ofString "fault")) = true := by decide +kernel
theorem sstr_shaped : SeqAt.shaped (.str (Str.ofString "stall")) = true := by decide +kernel
theorem eqv_stall {S : Dst} {a : Ask} (hb : badN S = false) : PyData.eqv (tgD (cameT S a)) (.str (Str.ofString "stall")) = (match a with | .take n => decide (mayF S n = 0) | .put ds => decide (putN S ds = 0) | _ => false) := by
  unfold cameT
  rw [hb, if_neg (by simp)]
  have e1 : PyData.eqv (.str (Str.ofString "stall")) (.str (Str.ofString "stall")) = true := by decide +kernel
  cases a with
  | take n =>
    show PyData.eqv (tgD (if _ then _ else _)) _ = decide _
    by_cases h : mayF S n = 0
    · rw [if_pos h, decide_eq_true h]; exact e1
    · rw [if_neg h, decide_eq_false h]; rfl
  | put ds =>
    show PyData.eqv (tgD (if _ then _ else _)) _ = decide _
    by_cases h : putN S ds = 0
    · rw [if_pos h, decide_eq_true h]; exact e1
    · rw [if_neg h, decide_eq_false h]; rfl
  | go n => rfl
  | cut n => rfl
/-- what an ask of the device tells -/
def toldT (S : Dst) (a : Ask) : Option Tg := if badN S = true then some (.i (-numF S)) else match a with
  | .take n => if mayF S n = 0 then none else some (.l (takenF S n))
  | .put ds => if putN S ds = 0 then none else some (.i (putN S ds))
  | _ => none
def toC (v : V) : Option Tg → Ch
  | none => exC (fun _ : Unit => v = .non) (fun _ => [])
  | some t => tgC v t
def optD : Option Tg → PyData
  | none => .none
  | some t => tgD t
def ansD (S : Dst) (a : Ask) : PyData := .tuple [.str (ansW S), optD (toldT S a)]
theorem Sat.toN {H : Hp} {cs : List Ch} (h : Sat H cs) : Sat H (toC .non none :: cs) := Sat.exI () rfl h
theorem Sat.tgD {K : PySem.W.Frag} {H : Hp} {cs cs1 : List Ch} {v : V} {t : Tg} (h : Sat H cs) (p : Pull (tgC v t) cs cs1) : Dp K H v (tgD t) := by
  obtain ⟨F, F1, F2, h1, _⟩ := h.pull p
  exact h1.here.2.dp
theorem Sat.toD {K : PySem.W.Frag} {H : Hp} {cs cs1 : List Ch} {v : V} {o : Option Tg} (h : Sat H cs) (p : Pull (toC v o) cs cs1) : Dp K H v (optD o) := by
  cases o with
  | none =>
    obtain ⟨_, e, _⟩ := (h.pull p).exE
    rw [e]; exact .non
  | some t => exact h.tgD p
/-- what the handed thing is -/
def HandV (H : Hp) (v : V) : Tg → Prop
  | .i n => v = .int n
  | .s w => v = .str w
  | .l xs => ∃ l, v = .ref l ∧ H l = some (.lst (xs.map V.int))
def FitOk (S : Dst) : Ask → Prop
  | .take n => 1 ≤ n
  | .put ds => ds ≠ [] ∧ PutFit S ds
  | .go n => n ≤ 4000
  | .cut n => n ≤ 4000
def spToldS (CD : Addr) : Sp := fun vs H Q _ => ∃ (d : Addr) (S : Dst) (a : Ask) (hv : V) (R : List Ch), vs = [.ref d, .str a.w, hv] ∧ Sat H (devC CD d S :: R) ∧ HandV H hv a.h ∧ DstOk S ∧ S.bar = false ∧ S.seek = true ∧ FitOk S a ∧
  ∀ (H' : Hp) (t : Addr) (v : V), Sat H' (.pt t (.tup [.str (ansW S), v]) :: toC v (toldT S a) :: devC CD d (doneS S a) :: R) → Q (.ref t) H'
theorem Good.bad {S : Dst} (h : Good S) : badN S = false := by
  cases hb : badN S with
  | false => rfl
  | true =>
    obtain ⟨k, ek, hk⟩ := badN_iff.mp hb
    have := h k ek
    omega
theorem told_good {S : Dst} {a : Ask} (h : Good S) : ansW S = Str.ofString "told" ∧ doneS S a = goodS S a := by
  have hb := h.bad
  exact ⟨if_neg (by rw [hb]; simp), if_neg (by rw [hb]; simp)⟩
theorem told_bad {S : Dst} {a : Ask} {k : Int} (ek : planN S = some k) (hk : k < 0) : ansW S = Str.ofString "fault" ∧ doneS S a = noteS S a.w a.h (.s (Str.ofString "fault")) ∧ toldT S a = some (.i (-k)) := by
  have hb : badN S = true := badN_iff.mpr ⟨k, ek, hk⟩
  exact ⟨if_pos hb, if_pos hb, by unfold toldT; rw [if_pos hb, numF_some ek]⟩
theorem toldT_take0 {S : Dst} {n : Nat} (h : Good S) (h0 : mayF S n = 0) : toldT S (.take n) = none := by unfold toldT; rw [if_neg (by rw [h.bad]; simp)]; exact if_pos h0
theorem toldT_take1 {S : Dst} {n : Nat} (h : Good S) (h0 : mayF S n ≠ 0) : toldT S (.take n) = some (.l (takenF S n)) := by unfold toldT; rw [if_neg (by rw [h.bad]; simp)]; exact if_neg h0
theorem toldT_put0 {S : Dst} {ds : List Int} (h : Good S) (h0 : putN S ds = 0) : toldT S (.put ds) = none := by unfold toldT; rw [if_neg (by rw [h.bad]; simp)]; exact if_pos h0
theorem toldT_put1 {S : Dst} {ds : List Int} (h : Good S) (h0 : putN S ds ≠ 0) : toldT S (.put ds) = some (.i (putN S ds)) := by unfold toldT; rw [if_neg (by rw [h.bad]; simp)]; exact if_neg h0
theorem toldT_go {S : Dst} {n : Nat} (h : Good S) : toldT S (.go n) = none := by unfold toldT; rw [if_neg (by rw [h.bad]; simp)]
theorem toldT_cut {S : Dst} {n : Nat} (h : Good S) : toldT S (.cut n) = none := by unfold toldT; rw [if_neg (by rw [h.bad]; simp)]

def spSpoilS : Sp := fun vs H Q _ => ∃ (z : Addr) (w : Int) (m0 : Nat) (zs : List Addr) (R : List Ch), vs = [.ref z, .int w] ∧ Sat H (jkC m0 zs :: R) ∧ z ∈ zs ∧ m0 ≤ 1000000 ∧ ∀ H', Sat H' (jkC (m0 + 1) zs :: R) → Q .non H'

def tgL (v : V) : Tg → List V
  | .l _ => [v]
  | _ => []
def tgB (m : Nat) : Tg → Prop
  | .l xs => xs.length ≤ m
  | _ => True
def isL : Tg → Bool
  | .l _ => true
  | _ => false
theorem isl_ty {K : PySem.W.Frag} {H M : Hp} {G : Addr → Prop} {v : V} {t : Tg} (h : TgAt M G v t) (e : ∀ b o, M b = some o → H b = some o) : ∃ u, TyX K H v u ∧ PySem.W.kitOne K u (.type "list") = some (isL t) := by
  cases t with
  | i n => cases (show v = _ from h); exact ⟨_, .base (.int n), show _ = some false from kit_ty (by decide +kernel)⟩
  | s n => cases (show v = _ from h); exact ⟨_, .base (.str n), show _ = some false from kit_ty (by decide +kernel)⟩
  | l xs =>
    obtain ⟨a, rfl, ga, ha⟩ := h
    exact ⟨_, .base (.lst (e _ _ ha)), show _ = some true from kit_ty (by decide +kernel)⟩
def spLogRowsS (CD : Addr) : Sp := fun vs H Q _ => ∃ (d : Addr) (S : Dst) (m : Nat) (R : List Ch), vs = [.ref d] ∧ Sat H (devC CD d S :: R) ∧ DstOk S ∧ (∀ n ∈ S.ns, tgB m n.h ∧ tgB m n.c) ∧ ∀ (H' : Hp) (q : Addr) (zs : List Addr), Sat H' (.pt q (.lst (zs.map V.ref)) :: jkC m zs :: devC CD d S :: R) → zs.length ≤ 2 * S.ns.length → Q (.ref q) H'
theorem tg_cases {M : Hp} {G : Addr → Prop} {v : V} {t : Tg} {m : Nat} (h : TgAt M G v t) (b : tgB m t) : (∃ zs : List Addr, tgL v t = zs.map V.ref ∧ zs.length ≤ 1 ∧ ∀ z ∈ zs, ∃ xs, M z = some (.lst xs) ∧ xs.length ≤ m) := by
  cases t with
  | i n => exact ⟨[], rfl, Nat.zero_le _, fun z hz => by cases hz⟩
  | s n => exact ⟨[], rfl, Nat.zero_le _, fun z hz => by cases hz⟩
  | l xs =>
    obtain ⟨a, rfl, ga, ha⟩ := h
    exact ⟨[a], rfl, Nat.le_refl _, fun z hz => by rw [List.mem_singleton.mp hz]; exact ⟨_, ha, by rw [List.length_map]; exact b⟩⟩

structure Lim (n c s : Nat) (S : Dst) : Prop where
  uo : UsedOk S
  sk : S.seek = true
  br : S.bar = false
  pl : S.plan.length ≤ 400
  ns : S.ns.length ≤ n
  cl : S.cells.length ≤ c
  sp : S.spot ≤ s
  nb : ∀ n ∈ S.ns, tgB 1000 n.h ∧ tgB 1000 n.c
theorem Lim.ok {n c s : Nat} {S : Dst} (h : Lim n c s S) (l : n ≤ 100000) : DstOk S := ⟨by rw [h.uo]; omega, by have := h.pl; omega, by have := h.ns; omega⟩
theorem Lim.up {n c s n' c' s' : Nat} {S : Dst} (h : Lim n c s S) (l1 : n ≤ n') (l2 : c ≤ c') (l3 : s ≤ s') : Lim n' c' s' S := ⟨h.uo, h.sk, h.br, h.pl, by have := h.ns; omega, by have := h.cl; omega, by have := h.sp; omega, h.nb⟩
theorem taken_len (S : Dst) (n : Int) : (takenF S n).length ≤ S.cells.length - S.spot := by unfold takenF; rw [List.length_take, List.length_drop]; omega
theorem putN_le (S : Dst) (ds : List Int) : putN S ds ≤ ds.length := by
  unfold putN mayF
  cases planN S with
  | none => show ((ds.length : Int)).toNat ≤ _; omega
  | some k => show (min (ds.length : Int) k).toNat ≤ _; omega
theorem done_lim {S : Dst} {a : Ask} (d : DeedOk S a) : (doneS S a).cells.length ≤ max S.cells.length (S.spot + 10) ∧ (doneS S a).spot ≤ max (S.spot + 10) (S.cells.length + 5) := by
  by_cases hb : numF S < 0
  · rw [(done_bad (a := a) hb).1, noteS_cells, noteS_spot]; omega
  · rw [(done_good (a := a) hb).1]
    cases a with
    | take n =>
      by_cases h : mayF S n = 0
      · rw [(good_take0 h).1, (good_take0 h).2.1]; omega
      · rw [(good_take1 h).1, (good_take1 h).2.1]
        have := taken_len S n
        omega
    | put ds =>
      have dl := d.2
      by_cases h : putN S ds = 0
      · rw [(good_put0 h).1, (good_put0 h).2.1]; omega
      · rw [(good_put1 h).1, (good_put1 h).2.1]
        have := putN_le S ds
        refine ⟨laidF_le ⟨by omega, ?_⟩, by omega⟩
        rw [List.length_take]; omega
    | go n =>
      have dn : n ≤ S.cells.length + 5 := d
      rw [good_go.1, good_go.2.1]; omega
    | cut n => rw [good_cut.1, good_cut.2.1, List.length_take]; omega
theorem Lim.done {n c s : Nat} {S : Dst} {a : Ask} (h : Lim n c s S) (d : DeedOk S a) (lc : c ≤ 1000) : Lim (n + 1) (max c (s + 10)) (max (s + 10) (c + 5)) (doneS S a) := by
  obtain ⟨h1, h2, h3, h4, h5⟩ := doneS_used S a
  obtain ⟨d1, d2⟩ := done_lim d
  have i1 := h.cl
  have i2 := h.sp
  refine ⟨h.uo.done a, by rw [h3]; exact h.sk, by rw [h4]; exact h.br, by rw [h2]; exact h.pl, ?_, by omega, by omega, ?_⟩
  · rw [h5, List.length_append]; have := h.ns; show _ + 1 ≤ _; omega
  · rw [h5]
    intro m hm
    rcases List.mem_append.mp hm with z | z
    · exact h.nb m z
    · rw [List.mem_singleton.mp z]
      constructor
      · show tgB 1000 a.h
        cases a with
        | put ds => have := d.2; show ds.length ≤ 1000; omega
        | _ => trivial
      · show tgB 1000 (cameT S a)
        unfold cameT
        split
        · trivial
        · cases a with
          | take k => show tgB 1000 (if _ then _ else _); split; trivial; have := taken_len S k; show (takenF S k).length ≤ 1000; omega
          | put ds => show tgB 1000 (if _ then _ else _); split <;> trivial
          | _ => trivial
theorem Lim.grow {n c s : Nat} {S : Dst} (h : Lim n c s S) (ds : List Int) (l : ds.length ≤ 5) : Lim n (c + 5) s { S with cells := S.cells ++ ds } := ⟨h.uo, h.sk, h.br, h.pl, h.ns, by show (S.cells ++ ds).length ≤ _; rw [List.length_append]; have := h.cl; omega, h.sp, h.nb⟩
theorem Lim.fit {n c s : Nat} {S : Dst} {a : Ask} (h : Lim n c s S) (d : DeedOk S a) (lc : c ≤ 3000) (ls : s ≤ 3000) : FitOk S a := by
  have i1 := h.cl
  have i2 := h.sp
  cases a with
  | take k => exact d.1
  | put ds => exact ⟨d.1, fun _ => ⟨by omega, by have := d.2; omega⟩, by omega, by omega, by have := d.2; omega⟩
  | go k => have : k ≤ S.cells.length + 5 := d; show k ≤ 4000; omega
  | cut k => have : k ≤ S.cells.length + 3 := d; show k ≤ 4000; omega
theorem Sat.tgV {H : Hp} {cs cs1 : List Ch} {v : V} {t : Tg} (h : Sat H cs) (p : Pull (tgC v t) cs cs1) : TgV v t := by
  obtain ⟨F, F1, F2, h1, _⟩ := h.pull p
  have hT := h1.here.2
  cases t with
  | i n => exact hT
  | s n => exact hT
  | l xs => obtain ⟨a, e, _⟩ := hT; exact ⟨a, e⟩
theorem Sat.jkapp {H : Hp} {cs : List Ch} {m : Nat} {zs : List Addr} {a : Addr} {xs : List V} (h : Sat H (.pt a (.lst xs) :: jkC m zs :: cs)) (l : xs.length ≤ m) : Sat H (jkC m (zs ++ [a]) :: cs) :=
  (h.jk1 l).jksub fun y hy => by
    rcases List.mem_append.mp hy with z | z
    · exact List.mem_cons_of_mem _ z
    · rw [List.mem_singleton.mp z]; exact List.mem_cons_self
theorem cut_refs (zz : List Addr) (lo hi : Option Int) : ∃ ws : List Addr, cutV (zz.map V.ref) lo hi = ws.map V.ref ∧ (∀ w ∈ ws, w ∈ zz) ∧ ws.length ≤ zz.length := by
  refine ⟨_, by unfold cutV; rw [← List.map_drop, ← List.map_take], fun w hw => List.mem_of_mem_drop (List.mem_of_mem_take hw), ?_⟩
  rw [List.length_take, List.length_drop]; omega
theorem er_map : ∀ (zs : List Addr) (r : Nat), (zs.map V.ref).eraseIdx r = (zs.eraseIdx r).map V.ref
  | [], _ => rfl
  | z :: zs, 0 => rfl
  | z :: zs, r + 1 => by show V.ref z :: (zs.map V.ref).eraseIdx r = _; rw [er_map zs r]; rfl
theorem due_dp {K : PySem.W.Frag} {H : Hp} {cs cs1 : List Ch} {m : Addr} {S S' : Dst} {a : Ask} {hv cv : V} {ks : List (Addr × List Int)} (h : Sat H cs) (p : Pull (modC m S' (kn hv a.h ++ (kn cv (cameT S a) ++ ks))) cs cs1) (tv : TgV cv (cameT S a)) : Dp K H (ansV S a cv) (optD (toldT S a)) := by
  have hd := h.camed (K := K) p tv
  unfold ansV toldT
  cases hb : badN S with
  | true => exact .int _
  | false =>
    rw [if_neg (by simp), if_neg (by simp)]
    rw [show cameT S a = goodT S a from if_neg (by rw [hb]; simp)] at hd
    cases a with
    | take n =>
      show Dp K H (if mayF S n = 0 then .non else cv) (optD (if mayF S n = 0 then none else some (.l (takenF S n))))
      have hd : Dp K H cv (tgD (if mayF S n = 0 then _ else _)) := hd
      by_cases h0 : mayF S n = 0
      · rw [if_pos h0, if_pos h0]; exact .non
      · rw [if_neg h0] at hd; rw [if_neg h0, if_neg h0]; exact hd
    | put ds =>
      show Dp K H (if putN S ds = 0 then .non else cv) (optD (if putN S ds = 0 then none else some (.i (putN S ds))))
      have hd : Dp K H cv (tgD (if putN S ds = 0 then _ else _)) := hd
      by_cases h0 : putN S ds = 0
      · rw [if_pos h0, if_pos h0]; exact .non
      · rw [if_neg h0] at hd; rw [if_neg h0, if_neg h0]; exact hd
    | go n => exact .non
    | cut n => exact .non
theorem ansW_ok (S : Dst) : PyData.strOk (ansW S) = true := by unfold ansW; split; exact fault_ok; decide +kernel
theorem told_ok (S : Dst) (a : Ask) : (optD (toldT S a)).canLay0 = true ∧ (optD (toldT S a)).depth ≤ 1 := by
  have hT : ∀ o : Option Tg, (∀ t, o = some t → tgOk t) → (optD o).canLay0 = true ∧ (optD o).depth ≤ 1 := fun o h => by
    cases o with
    | none => exact ⟨rfl, by decide⟩
    | some t => exact ⟨tg_lay (h t rfl), tg_depth t⟩
  refine hT _ fun t e => ?_
  unfold toldT at e
  split at e
  · cases e; trivial
  · cases a with
    | take n =>
      have e : (if mayF S n = 0 then none else some (Tg.l (takenF S n))) = some t := e
      split at e
      · cases e
      · cases e; trivial
    | put ds =>
      have e : (if putN S ds = 0 then none else some (Tg.i (putN S ds))) = some t := e
      split at e
      · cases e
      · cases e; trivial
    | go n => cases e
    | cut n => cases e
theorem ans_shaped (S : Dst) (a : Ask) : SeqAt.shaped (ansD S a) = true := by
  obtain ⟨h1, h2⟩ := told_ok S a
  unfold SeqAt.shaped ansD
  simp [PyData.canLay0, PyData.canLayAll0, PyData.depth, PyData.depthAll, h1, ansW_ok S]
  omega
theorem log_shaped {ns : List Nt} (h : ∀ n ∈ ns, NtOk n) : SeqAt.shaped (ntsD ns) = true := by
  obtain ⟨h1, h2⟩ := nts_lay h
  unfold SeqAt.shaped ntsD
  simp [PyData.canLay0, PyData.depth, h1]
  omega
theorem w_notput {a : Ask} (h : ∀ ds, a ≠ .put ds) : decide (V.str a.w = V.str (Str.ofString "put")) = false := by
  cases a with
  | take n => show decide (V.str (Str.ofString "take") = V.str (Str.ofString "put")) = false; decide +kernel
  | put ds => exact absurd rfl (h ds)
  | go n => exact w_go_put
  | cut n => exact w_cut_put
theorem not_put_hand {H : Hp} {a : Ask} {hv : V} (h : ∀ ds, a ≠ .put ds) (tv : TgV hv a.h) : HandV H hv a.h := by
  cases a with
  | take n => exact tv
  | put ds => exact absurd rfl (h ds)
  | go n => exact tv
  | cut n => exact tv
/-- isinstance(v, list) of what was told -/
def isO : Option Tg → Bool
  | some (.l _) => true
  | _ => false
theorem to_ty {K : PySem.W.Frag} {H : Hp} {cs cs1 : List Ch} {v : V} {o : Option Tg} (h : Sat H cs) (p : Pull (toC v o) cs cs1) : ∃ u, TyX K H v u ∧ PySem.W.kitOne K u (.type "list") = some (isO o) := by
  cases o with
  | none =>
    obtain ⟨_, e, _⟩ := (h.pull p).exE
    rw [e]; exact ⟨_, .base .non, show _ = some false from kit_ty (by decide +kernel)⟩
  | some t =>
    obtain ⟨F, F1, F2, h1, _⟩ := h.pull p
    have hT := h1.here.2
    cases t with
    | i n => cases (show v = _ from hT); exact ⟨_, .base (.int n), show _ = some false from kit_ty (by decide +kernel)⟩
    | s n => cases (show v = _ from hT); exact ⟨_, .base (.str n), show _ = some false from kit_ty (by decide +kernel)⟩
    | l xs =>
      obtain ⟨a, rfl, ga, ha⟩ := hT
      exact ⟨_, .base (.lst ha), show _ = some true from kit_ty (by decide +kernel)⟩
theorem told_l {S : Dst} {a : Ask} {xs : List Int} (h : toldT S a = some (.l xs)) : xs.length ≤ S.cells.length := by
  unfold toldT at h
  split at h
  · cases h
  · cases a with
    | take n =>
      have h : (if mayF S n = 0 then none else some (Tg.l (takenF S n))) = some (.l xs) := h
      split at h
      · cases h
      · cases h; have := taken_len S n; omega
    | put ds =>
      have h : (if putN S ds = 0 then none else some (Tg.i (putN S ds))) = some (.l xs) := h
      split at h
      · cases h
      · cases h
    | go n => cases h
    | cut n => cases h
structure Tx (K : PySem.W.Frag) (mg : Str → Option Value) where
  C_Device : Addr
  C_Raw : Addr
  C_SipError : Addr
  C_Fault : Addr
  f_iFault : Addr
  fd_iFault : FuncData
  D_iFault : FunA K "__init__" "Fault.__init__" s_iFault f_iFault fd_iFault
  f_clen : Addr
  fd_clen : FuncData
  D_clen : Dg K mg "check_length" s_clen f_clen fd_clen
  f_ocopy : Addr
  fd_ocopy : FuncData
  D_ocopy : Dg K mg "own_copy" s_ocopy f_ocopy fd_ocopy
  f_laid : Addr
  fd_laid : FuncData
  D_laid : Dg K mg "laid" s_laid f_laid fd_laid
  f_rinit : Addr
  fd_rinit : FuncData
  D_rinit : Mf K C_Raw "__init__" "Raw.__init__" s_rinit f_rinit fd_rinit
  f_dinit : Addr
  fd_dinit : FuncData
  D_dinit : Mf K C_Device "__init__" "Device.__init__" s_dinit f_dinit fd_dinit
  f_dgrow : Addr
  fd_dgrow : FuncData
  D_dgrow : Mf K C_Device "grow" "Device.grow" s_dgrow f_dgrow fd_dgrow
  f_dcontent : Addr
  fd_dcontent : FuncData
  D_dcontent : Mf K C_Device "content" "Device.content" s_dcontent f_dcontent fd_dcontent
  f_dleft : Addr
  fd_dleft : FuncData
  D_dleft : Mf K C_Device "left" "Device.left" s_dleft f_dleft fd_dleft
  f_dgive : Addr
  fd_dgive : FuncData
  D_dgive : Mf K C_Device "give" "Device.give" s_dgive f_dgive fd_dgive
  f_daccept : Addr
  fd_daccept : FuncData
  D_daccept : Mf K C_Device "accept" "Device.accept" s_daccept f_daccept fd_daccept
  f_dmove : Addr
  fd_dmove : FuncData
  D_dmove : Mf K C_Device "move" "Device.move" s_dmove f_dmove fd_dmove
  f_dtrim : Addr
  fd_dtrim : FuncData
  D_dtrim : Mf K C_Device "trim" "Device.trim" s_dtrim f_dtrim fd_dtrim
  f_dextent : Addr
  fd_dextent : FuncData
  D_dextent : Mf K C_Device "extent" "Device.extent" s_dextent f_dextent fd_dextent
  f_dallowed : Addr
  fd_dallowed : FuncData
  D_dallowed : Mf K C_Device "allowed" "Device.allowed" s_dallowed f_dallowed fd_dallowed
  f_dtake : Addr
  fd_dtake : FuncData
  D_dtake : Mf K C_Device "take" "Raw.take" s_dtake f_dtake fd_dtake
  f_dput : Addr
  fd_dput : FuncData
  D_dput : Mf K C_Device "put" "Raw.put" s_dput f_dput fd_dput
  f_dgo : Addr
  fd_dgo : FuncData
  D_dgo : Mf K C_Device "go" "Raw.go" s_dgo f_dgo fd_dgo
  f_dcut : Addr
  fd_dcut : FuncData
  D_dcut : Mf K C_Device "cut" "Raw.cut" s_dcut f_dcut fd_dcut
  f_dnote : Addr
  fd_dnote : FuncData
  D_dnote : Mf K C_Device "note" "Raw.note" s_dnote f_dnote fd_dnote
  f_dopen : Addr
  fd_dopen : FuncData
  D_dopen : Mf K C_Device "check_open" "Raw.check_open" s_dopen f_dopen fd_dopen
  f_dseeks : Addr
  fd_dseeks : FuncData
  D_dseeks : Mf K C_Device "check_seeks" "Raw.check_seeks" s_dseeks f_dseeks fd_dseeks
  f_dmayt : Addr
  fd_dmayt : FuncData
  D_dmayt : Mf K C_Device "may_take" "Raw.may_take" s_dmayt f_dmayt fd_dmayt
  f_dmayp : Addr
  fd_dmayp : FuncData
  D_dmayp : Mf K C_Device "may_put" "Raw.may_put" s_dmayp f_dmayp fd_dmayp
  f_dmayc : Addr
  fd_dmayc : FuncData
  D_dmayc : Mf K C_Device "may_cut" "Raw.may_cut" s_dmayc f_dmayc fd_dmayc
  f_dlog : Addr
  fd_dlog : FuncData
  D_dlog : Mf K C_Device "log" "Raw.log" s_dlog f_dlog fd_dlog
  f_dlogb : Addr
  fd_dlogb : FuncData
  D_dlogb : Mf K C_Device "log_behind" "Raw.log_behind" s_dlogb f_dlogb fd_dlogb
  f_pool : Addr
  fd_pool : FuncData
  D_pool : Dg K mg "_law_pool" s_pool f_pool fd_pool
  f_take : Addr
  fd_take : FuncData
  D_take : Dg K mg "_law_take" s_take f_take fd_take
  f_lrow : Addr
  fd_lrow : FuncData
  D_lrow : Dg K mg "_law_row" s_lrow f_lrow fd_lrow
  f_lplan : Addr
  fd_lplan : FuncData
  D_lplan : Dg K mg "_law_plan" s_lplan f_lplan fd_lplan
  f_llaid : Addr
  fd_llaid : FuncData
  D_llaid : Dg K mg "_law_laid" s_llaid f_llaid fd_llaid
  f_ldevice : Addr
  fd_ldevice : FuncData
  D_ldevice : Dg K mg "_law_device" s_ldevice f_ldevice fd_ldevice
  f_lasked : Addr
  fd_lasked : FuncData
  D_lasked : Dg K mg "_law_asked" s_lasked f_lasked fd_lasked
  f_ldeed : Addr
  fd_ldeed : FuncData
  D_ldeed : Dg K mg "_law_deed" s_ldeed f_ldeed fd_ldeed
  f_lanswer : Addr
  fd_lanswer : FuncData
  D_lanswer : Dg K mg "_law_answer" s_lanswer f_lanswer fd_lanswer
  f_lspoil : Addr
  fd_lspoil : FuncData
  D_lspoil : Dg K mg "_law_spoil" s_lspoil f_lspoil fd_lspoil
  f_ltold : Addr
  fd_ltold : FuncData
  D_ltold : Dg K mg "_law_told" s_ltold f_ltold fd_ltold
  f_llogrows : Addr
  fd_llogrows : FuncData
  D_llogrows : Dg K mg "_law_log_rows" s_llogrows f_llogrows fd_llogrows
  f_law : Addr
  fd_law : FuncData
  D_law : Dg K mg "law" s_law f_law fd_law
  cl_Device : Cls K C_Device
  g_Device : mg "Device" = some (.ref C_Device)
  mk_Device : Mk K C_Device f_dinit
  n_Device_can_seek : NoAttr K C_Device "can_seek"
  n_Device_spot : NoAttr K C_Device "spot"
  n_Device_barred : NoAttr K C_Device "barred"
  n_Device_notes : NoAttr K C_Device "notes"
  n_Device_cells : NoAttr K C_Device "cells"
  n_Device_plan : NoAttr K C_Device "plan"
  n_Device_used : NoAttr K C_Device "used"
  g_Raw : mg "Raw" = some (.ref C_Raw)
  cr_Raw : ClX.CRead K C_Raw (.type "type")
  cv_rinit : PySem.W.findCls K (.ref C_Raw) (.type "type") "__init__" = some (.val (.ref f_rinit))
  g_SipError : mg "SipError" = some (.ref C_SipError)
  g_Fault : mg "Fault" = some (.ref C_Fault)
  o_Fault : OexC K C_Fault
  e_Fault : ExcC K C_Fault
  n_Fault : PySem.W.findIn K (.ref C_Fault) "number" = some none
  n2_Fault : PySem.W.findIn K (.ref C_Fault) "taken" = some none
  ini_Fault : PySem.W.findIn K (.ref C_Fault) "__init__" = some (some (.ref f_iFault))
  tI_Fault : PySem.W.typeIn K (.ref f_iFault) = some (.type "function")
  te_Fault : PySem.W.exmOne K (.ref C_Fault) (.ref C_SipError) = some true
  te_Fault_Fault : PySem.W.exmOne K (.ref C_Fault) (.ref C_Fault) = some true
  bb_clen : Binds K fd_clen P_clen []
  bb_daccept : Binds K fd_daccept P_daccept []
  bb_dallowed : Binds K fd_dallowed P_dallowed []
  bb_dcontent : Binds K fd_dcontent P_dcontent []
  bb_dcut : Binds K fd_dcut P_dcut []
  bb_dextent : Binds K fd_dextent P_dextent []
  bb_dgive : Binds K fd_dgive P_dgive []
  bb_dgo : Binds K fd_dgo P_dgo []
  bb_dgrow : Binds K fd_dgrow P_dgrow []
  bb_dleft : Binds K fd_dleft P_dleft []
  bb_dlog : Binds K fd_dlog P_dlog []
  bb_dlogb : Binds K fd_dlogb P_dlogb []
  bb_dmayc : Binds K fd_dmayc P_dmayc []
  bb_dmayp : Binds K fd_dmayp P_dmayp []
  bb_dmayt : Binds K fd_dmayt P_dmayt []
  bb_dmove : Binds K fd_dmove P_dmove []
  bb_dnote : Binds K fd_dnote P_dnote []
  bb_dopen : Binds K fd_dopen P_dopen []
  bb_dput : Binds K fd_dput P_dput []
  bb_dseeks : Binds K fd_dseeks P_dseeks []
  bb_dtake : Binds K fd_dtake P_dtake []
  bb_dtrim : Binds K fd_dtrim P_dtrim []
  bb_laid : Binds K fd_laid P_laid []
  bb_lanswer : Binds K fd_lanswer P_lanswer []
  bb_lasked : Binds K fd_lasked P_lasked []
  bb_ldeed : Binds K fd_ldeed P_ldeed []
  bb_ldevice : Binds K fd_ldevice P_ldevice []
  bb_llaid : Binds K fd_llaid P_llaid []
  bb_llogrows : Binds K fd_llogrows P_llogrows []
  bb_lplan : Binds K fd_lplan P_lplan []
  bb_lrow : Binds K fd_lrow P_lrow []
  bb_lspoil : Binds K fd_lspoil P_lspoil []
  bb_ltold : Binds K fd_ltold P_ltold []
  bb_ocopy : Binds K fd_ocopy P_ocopy []
  bb_pool : Binds K fd_pool P_pool []
  bb_rinit : Binds K fd_rinit P_rinit []
  bb_take : Binds K fd_take P_take []
  ds_iFault_1 : List Value
  v_iFault_1 : Vals [.int 0] ds_iFault_1
  b_iFault_1 : Binds K fd_iFault P_iFault ds_iFault_1
  kv_dinit_1_plan : List Value
  kb_dinit_1_plan : KBn K fd_dinit P_dinit 2 ["plan"] (fun us ws => us ++ ws ++ kv_dinit_1_plan) (fun vs zs => vs ++ zs ++ [.bl true])
  t_LONGEST : Tok
  c_LONGEST : mg "LONGEST" = some (.int 4000 t_LONGEST)
  m_list : mg "list" = none
  m_len : mg "len" = none
  m_range : mg "range" = none
  m_max : mg "max" = none
  m_min : mg "min" = none
  m_isinstance : mg "isinstance" = none
  m_int : mg "int" = none
  m_bool : mg "bool" = none
local macro_rules | `(tactic| walk_at "pu") => `(tactic| first | with_reducible exact Pull.hd | (with_reducible apply Pull.tl; walk_at "pu"))
local macro_rules | `(tactic| walk_at "pt") => `(tactic| first | with_reducible exact Pk.nil | exact Pk.none _ | (with_reducible apply Pk.drop; walk_at "pt"))
local macro_rules | `(tactic| walk_at "pk") => `(tactic| first | with_reducible exact Pk.nil | (with_reducible apply Pk.cons; (focus walk_at "pu"); (focus walk_at "pk")) | walk_at "pt")
section
variable {P : Program} {w : World} {K : PySem.W.Frag} {mg : Str → Option Value} {base : Heap}

theorem ok_pool (T : Tx K mg) : FnOk P w K mg base CX0 1 T.f_pool T.fd_pool P_pool (spPool K) := by
  have sz : sizeLine = 16777216 := sizeLine_eq
  refine T.D_pool.F.ok sc_pool (fun vs H Q E h => ?_) (fun cdv A outer s H vs Q E hr h => ?_)
  · obtain ⟨a, ns, i, rfl, _⟩ := h
    rfl
  · obtain ⟨a, ns, i, rfl, hS, h63, i0, i1, q⟩ := h
    refine ⟨_, (pss_cons (ps_set (i := 2) sc_pool.nd rfl (.inl rfl) pe_int)
      (C8.pss_cut (ps_if (pt_cmpR op_gt (pe_callB call_len_seq (by rfl) T.m_len PySem.boot_len (pa_cons (pv 0) pa_nil)) pe_int (nomark _)) (pss_one (ps_set (i := 2) sc_pool.nd rfl (.inl rfl) (pe_ix ix_list (pv 0) (pe_op op_mod (pv 1) (pe_callB call_len_seq (by rfl) T.m_len PySem.boot_len (pa_cons (pv 0) pa_nil))) (fun _ _ => rfl)))) pss_nil)
      (pss_cons (ps_set (i := 3) sc_pool.nd rfl (.inl rfl) pe_int)
      (C8.pss_cut (ps_if (PW.pt (pw_and (pt_cmpR op_ge (pv 2) (pe_op op_pow pe_int pe_int) (nomark _)) (pw_and1 (pt_cmpR op_lt (pv 1) (pe_callB call_len_seq (by rfl) T.m_len PySem.boot_len (pa_cons (pv 0) pa_nil)) (nomark _))))) (pss_one (ps_set (i := 3) sc_pool.nd rfl (.inl rfl) (pv 2))) pss_nil)
      (pss_one (ps_ret (pe_lst (pa_cons (pv 3) (pa_cons (pe_op op_mul pe_int (pv 1)) (pa_cons (pv 2) pa_nil)))))))))), ?_⟩
    refine ⟨fun σ' H' => H' = H ∧ ∃ c : Int, σ' = [some (.ref a), some (.int i), some (.int c), none], ?_, fun σ' H' hm => ?_⟩
    · refine ⟨.ref a, rfl, a, ns.map V.int, rfl, .inl hS, _, _, rfl, rfl, _, rfl, ite2 (fun e => ?_) (fun e => ?_)⟩
      · have e1 : (0 : Int) < ((ns.map V.int).length : Int) := of_decide_eq_true e
        rw [List.length_map] at e1
        obtain ⟨m, _, em, _⟩ := atI_int (ms := ns) (i := i % (ns.length : Int)) (Int.emod_nonneg _ (by omega)) (Int.emod_lt_of_pos _ e1)
        refine ⟨.ref a, rfl, .int i, rfl, .ref a, rfl, a, ns.map V.int, rfl, .inl hS, _, _, rfl, rfl, ?_, a, _, _, .int m, rfl, rfl, hS, ?_, rfl, m, rfl⟩
        · rw [List.length_map]; exact e1
        · rw [List.length_map]; exact em
      · exact ⟨rfl, 0, rfl⟩
    · obtain ⟨rfl, c, rfl⟩ := hm
      refine ⟨fun σ' H'' => H'' = H' ∧ ∃ d : Int, 0 ≤ d ∧ σ' = [some (.ref a), some (.int i), some (.int c), some (.int d)], ?_, fun σ' H'' hm => ?_⟩
      · refine ⟨.int c, rfl, _, _, rfl, rfl, ⟨by decide, by decide, by decide⟩, _, _, rfl, rfl, _, rfl, ite2 (fun e => ?_) (fun e => iteF ⟨rfl, 0, by decide, rfl⟩)⟩
        have e1 : ((10 : Int) ^ (18 : Int).toNat) ≤ c := of_decide_eq_true e
        refine ⟨.int i, rfl, .ref a, rfl, a, ns.map V.int, rfl, .inl hS, _, _, rfl, rfl, _, rfl, ite2 (fun e => ?_) (fun e => ⟨rfl, 0, by decide, rfl⟩)⟩
        exact ⟨.int c, rfl, rfl, c, Int.le_trans (by decide) e1, rfl⟩
      · obtain ⟨rfl, d, d0, rfl⟩ := hm
        refine ⟨.int d, rfl, .int i, rfl, _, _, rfl, rfl, .inl ⟨by decide, by decide⟩, .int c, rfl, by show (3 : Nat) ≤ sizeLine; decide, fun p np => q p _ np ⟨d, 1000 * i, c, rfl, d0, by omega, by omega⟩⟩


theorem ok_take (T : Tx K mg) : FnOk P w K mg base CX0 1 T.f_take T.fd_take P_take (spTake) := by
  have sz : sizeLine = 16777216 := sizeLine_eq
  refine T.D_take.F.ok sc_take (fun vs H Q E h => ?_) (fun cdv A outer s H vs Q E hr h => ?_)
  · obtain ⟨p, n, wd, o, rfl, _⟩ := h
    rfl
  · obtain ⟨p, n, wd, o, rfl, hp, ⟨d, c, x, rfl, d0, c0, cn⟩, n9, w0, w1, q⟩ := h
    refine ⟨_, (pss_cons (ps_if (pt_cmpR op_gt (pe_ix ix_list (pv 0) pe_int (fun _ _ => rfl)) pe_int (nomark _)) (pss_cons (ps_set (i := 2) sc_take.nd rfl (.inl rfl) (pe_op op_mod (pe_ix ix_list (pv 0) pe_int (fun _ _ => rfl)) (pv 1)))
      (pss_cons (ps_asg (pe_op op_fdiv (pe_ix ix_list (pv 0) pe_int (fun _ _ => rfl)) (pv 1)) (pg_sub (pv 0) pe_int set_list))
      (pss_one (ps_ret (pv 2))))) pss_nil)
      (pss_cons (ps_asg (pe_op op_add (pe_ix ix_list (pv 0) pe_int (fun _ _ => rfl)) pe_int) (pg_sub (pv 0) pe_int set_list))
      (pss_cons (ps_set (i := 3) sc_take.nd rfl (.inl rfl) (pe_op op_mod (pe_op op_pow (pe_op op_add (pe_op op_mod (pe_ix ix_list (pv 0) pe_int (fun _ _ => rfl)) pe_int) (pe_op op_mul pe_int (pe_ix ix_list (pv 0) pe_int (fun _ _ => rfl)))) pe_int) pe_int))
      (pss_cons (ps_set (i := 3) sc_take.nd rfl (.inl rfl) (pe_op op_add (pe_op op_mul (pv 3) pe_int) (pe_op op_mul (pe_op op_mul (pe_ix ix_list (pv 0) pe_int (fun _ _ => rfl)) (pe_ix ix_list (pv 0) pe_int (fun _ _ => rfl))) pe_int)))
      (pss_one (ps_ret (pe_op op_mod (pe_op op_fdiv (pe_op op_mod (pe_op op_add (pv 3) (pe_op op_fdivW (pe_ix ix_list (pv 0) pe_int (fun _ _ => rfl)) pe_int)) pe_int) pe_int) (pv 1)))))))), ?_⟩
    have S0 : SqL K H p [.int d, .int c, .int x] := sq_at hp
    refine ⟨.ref p, rfl, p, _, 0, .int d, rfl, rfl, S0, rfl, d, 0, rfl, rfl, _, rfl, ite2 (fun e => ?_) (fun e => ?_)⟩
    · refine ⟨.ref p, rfl, p, _, 0, .int d, rfl, rfl, S0, rfl, .int wd, rfl, d, wd, rfl, rfl, w0, ?_⟩
      refine ⟨.ref p, rfl, p, _, 0, .int d, rfl, rfl, S0, rfl, .int wd, rfl, d, wd, rfl, rfl, ⟨w0, w1⟩, ?_⟩
      refine ⟨.ref p, rfl, p, _, 0, 0, rfl, rfl, hp, rfl, .int (d % wd), rfl, ?_⟩
      exact q _ _ (Int.emod_nonneg _ (by omega)) (Int.emod_lt_of_pos _ w0) ⟨d / wd, c, x, rfl, Int.ediv_nonneg d0 (by omega), c0, by omega⟩
    · refine ⟨.ref p, rfl, p, _, 1, .int c, rfl, rfl, S0, rfl, c, 1, rfl, rfl, .ref p, rfl, p, _, 1, 1, rfl, rfl, hp, rfl, ?_⟩
      have S1 : SqL K (upd H p (.lst [.int d, .int (c + 1), .int x])) p [.int d, .int (c + 1), .int x] := sq_new
      have y0 : 0 ≤ x % 2147483647 := Int.emod_nonneg _ (by decide)
      have y1 : x % 2147483647 < 2147483647 := Int.emod_lt_of_pos _ (by decide)
      refine ⟨.ref p, rfl, p, _, 2, .int x, rfl, rfl, S1, rfl, x, _, rfl, rfl, by show (0 : Int) < 2147483647; decide, .ref p, rfl, p, _, 1, .int (c + 1), rfl, rfl, S1, rfl, 40503, c + 1, rfl, rfl, .inl ⟨by decide, by decide⟩, _, _, rfl, rfl, _, 5, rfl, rfl, ⟨by decide, by decide, ?_⟩, _, 2147483647, rfl, rfl, by show (0 : Int) < 2147483647; decide, ?_⟩
      · show (x % 2147483647 + 40503 * (c + 1)).natAbs < 18446744073709551616
        omega
      · refine ⟨_, rfl, _, 48271, rfl, rfl, .inr ⟨by decide, by decide⟩, .ref p, rfl, p, _, 1, .int (c + 1), rfl, rfl, S1, rfl, .ref p, rfl, p, _, 1, .int (c + 1), rfl, rfl, S1, rfl, c + 1, c + 1, rfl, rfl, .inl ⟨by omega, by omega⟩, _, 39373, rfl, rfl, .inr ⟨by decide, by decide⟩, _, _, rfl, rfl, ?_⟩
        refine ⟨_, rfl, .ref p, rfl, p, _, 2, .int x, rfl, rfl, S1, rfl, x, _, rfl, rfl, wide_div (b := 32) (by decide) (by decide) (by decide) (by decide), _, _, rfl, rfl, _, _, rfl, rfl, by show (0 : Int) < 1000000007; decide, _, 16, rfl, rfl, ⟨by decide, by decide⟩, .int wd, rfl, _, wd, rfl, rfl, w0, ?_⟩
        exact q _ _ (Int.emod_nonneg _ (by omega)) (Int.emod_lt_of_pos _ w0) ⟨d, c + 1, x, rfl, d0, by omega, by omega⟩


theorem ok_laid (T : Tx K mg) : FnOk P w K mg base CX0 1 T.f_laid T.fd_laid P_laid (spLaid K) := by
  have sz : sizeLine = 16777216 := sizeLine_eq
  refine T.D_laid.F.ok sc_laid (fun vs H Q E h => ?_) (fun cdv A outer s H vs Q E hr h => ?_)
  · obtain ⟨a, b, r, n, d, rfl, _⟩ := h
    rfl
  · obtain ⟨a, b, r, n, d, rfl, hA, hB, lr, ln, ld, q⟩ := h
    refine ⟨_, (pss_cons (ps_set (i := 3) sc_laid.nd rfl (.inl rfl) (pe_callTy call_list_of (by rfl) T.m_list (by decide +kernel) (pa_cons (pv 0) pa_nil)))
      (pss_cons (ps_if (pt_not (pt_truth (pv 2) (by intro _; rfl))) (pss_one (ps_ret (pv 3))) pss_nil)
      (pss_cons (ps_expr (pe_bm PySem.F.plainAttrs_list PySem.F.slot_list_extend PySem.F.type_list_extend mt_extend (pv 3) (pa_cons (pe_op op_rep (pe_lst (pa_cons pe_int pa_nil)) (pe_op op_sub (pv 1) (pe_callB call_len_seq (by rfl) T.m_len PySem.boot_len (pa_cons (pv 3) pa_nil)))) pa_nil)))
      (pss_cons (ps_asg (pv 2) (Sip.pg_cut (pv 3) (po_some (pv 1)) (po_some (pe_op op_add (pv 1) (pe_callB call_len_seq (by rfl) T.m_len PySem.boot_len (pa_cons (pv 2) pa_nil))))))
      (pss_one (ps_ret (pv 3))))))), ?_⟩
    refine ⟨.ref a, rfl, a, _, rfl, .inl hA, fun t nt => ?_⟩
    have bt : b ≠ t := ne_of_none hB nt
    have hB1 : (upd H t (.lst (r.map V.int))) b = some (.lst (d.map V.int)) := by rw [upd_ne bt]; exact hB
    refine ⟨.ref b, rfl, _, .inl ⟨_, sq_at hB1, rfl⟩, ite2 (fun e => ?_) (fun e => ?_)⟩
    · have d0 : d = [] := by
        cases d with
        | nil => rfl
        | cons x y => cases e
      subst d0
      exact ⟨.ref t, rfl, q _ t nt (by rw [upd_same, laidF_nil]) (Kp.new (ps := []) nt).same⟩
    · have d0 : d ≠ [] := fun z => by subst z; exact e rfl
      refine ⟨.ref t, rfl, .inl ⟨rfl, _, sq_new⟩, by show (1 : Nat) ≤ sizeLine; decide, fun l nl => ?_⟩
      have tl : t ≠ l := ne_of_none (upd_same : (upd H t (.lst (r.map V.int))) t = _) nl
      have bl : b ≠ l := ne_of_none hB1 nl
      refine ⟨.int n, rfl, .ref t, rfl, t, _, rfl, .inl (sq_at (by rw [upd_ne tl]; exact upd_same)), _, _, rfl, rfl, l, _, [.int 0], rfl, rfl, upd_same, ?_, ?_, ?_, fun z nz => ?_⟩
      · rw [List.length_map]; omega
      · rw [List.length_map]; omega
      · rw [List.length_map]; show 1 * ((n : Int) - (r.length : Int)).toNat ≤ sizeLine; omega
      · have tz : t ≠ z := ne_of_none (by rw [upd_ne tl]; exact upd_same) nz
        have bz : b ≠ z := ne_of_none (by rw [upd_ne bl]; exact hB1) nz
        have ez : (List.replicate ((n : Int) - ((r.map V.int).length : Int)).toNat [V.int 0]).flatten = (List.replicate (n - r.length) (0 : Int)).map V.int := by
          rw [List.length_map, flat_rep, List.map_replicate]
          congr 1
          omega
        rw [ez]
        refine ⟨t, z, _, _, rfl, rfl, by rw [upd_ne tz, upd_ne tl]; exact upd_same, upd_same, by rw [List.length_map, List.length_map, List.length_replicate]; omega, ?_⟩
        rw [← List.map_append]
        refine ⟨.ref b, rfl, .ref t, rfl, .int n, rfl, n, rfl, .int n, rfl, .ref b, rfl, b, d.map V.int, rfl, .inl (sq_at (by rw [upd_ne bt, upd_ne bz, upd_ne bl]; exact hB1)), _, _, rfl, rfl, _, rfl, ?_⟩
        refine ⟨t, b, _, _, _, _, rfl, rfl, rfl, rfl, upd_same, by rw [upd_ne bt, upd_ne bz, upd_ne bl]; exact hB1, bt.symm, by omega, by omega, ?_, ?_, ?_⟩
        · rw [List.length_map, List.length_append, List.length_replicate]; omega
        · rw [List.length_map, List.length_append, List.length_replicate, List.length_map]; omega
        · refine ⟨.ref t, rfl, q _ t nt ?_ ?_⟩
          · rw [upd_same]
            have e1 : ((n : Int)).toNat = n := Int.toNat_natCast n
            have e2 : ((n : Int) + ((d.map V.int).length : Int)).toNat = n + d.length := by rw [List.length_map]; omega
            rw [e1, e2, laidF_cons d0, ← List.map_take, ← List.map_drop, ← List.map_append, ← List.map_append]
          · refine Kp.same ?_
            exact ((((Kp.new nt).trans (Kp.new nl)).trans (Kp.new nz)).put nt).put nt


theorem ok_iFault (T : Tx K mg) : FnOk P w K mg base CX0 1 T.f_iFault T.fd_iFault P_iFault (spErr2 T.C_Fault "number" "taken") := by
  have sz : sizeLine = 16777216 := sizeLine_eq
  refine T.D_iFault.ok sc_iFault (fun vs H Q E h => ?_) (fun cdv A outer s H vs Q E hr h => ?_)
  · obtain ⟨a, v, u, rfl, _⟩ := h
    rfl
  · obtain ⟨a, v, u, rfl, hA, q⟩ := h
    refine ⟨_, (pss_cons (ps_ost (pv 0) (pv 1))
      (pss_one (ps_ost (pv 0) (pv 2)))), ?_⟩
    refine ⟨v, rfl, .ref a, rfl, a, T.C_Fault, rfl, T.o_Fault, T.n_Fault, .inl ⟨hA, fun dx nd ne => ?_⟩⟩
    refine ⟨u, rfl, .ref a, rfl, a, T.C_Fault, rfl, T.o_Fault, T.n2_Fault, .inr ⟨dx, _, upd_same, by rw [upd_ne ne]; exact upd_same, by show 1 ≤ 900; decide, ?_⟩⟩
    have e : upd (upd (upd H dx (exd dx [("number", v)])) a (exo a T.C_Fault (some dx))) dx (exd dx [("taken", u), ("number", v)]) = upd (upd H dx (exd dx [("taken", u), ("number", v)])) a (exo a T.C_Fault (some dx)) := by
      funext b
      by_cases h1 : b = dx
      · subst h1; rw [upd_same, upd_ne ne, upd_same]
      · by_cases h2 : b = a
        · subst h2; rw [upd_ne h1, upd_same, upd_same]
        · rw [upd_ne h1, upd_ne h2, upd_ne h1, upd_ne h2, upd_ne h1]
    rw [e]
    exact q dx nd ne

theorem ok_dleft (T : Tx K mg) : FnOk P w K mg base CX0 1 T.f_dleft T.fd_dleft P_dleft (spLeft (DevAt T.C_Device)) := by
  have sz : sizeLine = 16777216 := sizeLine_eq
  refine T.D_dleft.F.ok sc_dleft (fun vs H Q E h => ?_) (fun cdv A outer s H vs Q E hr h => ?_)
  · obtain ⟨A, F, S, rfl, _⟩ := h
    rfl
  · obtain ⟨A, F, S, rfl, hP, q⟩ := h
    refine ⟨_, (pss_one (ps_ret (pe_op op_sub (pe_callB call_len_seq (by rfl) T.m_len PySem.boot_len (pa_cons (pe_fld (pv 0) rfl) pa_nil)) (pe_fld (pv 0) rfl)))), ?_⟩
    obtain ⟨dd, vs, G, I, hF⟩ := hP
    refine ⟨.ref A.d, rfl, A.d, T.C_Device, dd, _, _, rfl, I.hd, T.cl_Device, T.n_Device_plan, dfs_plan _ _ _ _ _, A.p, _, rfl, .inl (sq_at I.hp), .ref A.d, rfl, A.d, T.C_Device, dd, _, _, rfl, I.hd, T.cl_Device, T.n_Device_used, dfs_used _ _ _ _ _, _, _, rfl, rfl, ?_⟩
    rw [List.length_map]
    exact q

theorem ok_dallowed (T : Tx K mg) : FnOk P w K mg base (L2.CX P w) 3 T.f_dallowed T.fd_dallowed P_dallowed (spAllowed (DevAt T.C_Device) T.C_Fault) := by
  have G_dleft := ok_dleft (P := P) (w := w) (base := base) T
  have G_iFault := ok_iFault (P := P) (w := w) (base := base) T
  have sz : sizeLine = 16777216 := sizeLine_eq
  refine T.D_dallowed.F.okX sc_dallowed (fun vs H Q E h => ?_) (fun cdv A outer s H vs Q E hr h => ?_)
  · obtain ⟨A, F, S, n, rfl, _⟩ := h
    rfl
  · obtain ⟨A, F, S, n, rfl, hP, ok, q, qe⟩ := h
    refine ⟨_, (pss_cons (ps_if (pt_cmpR op_eq (pe_meth0 (pv 0) T.cl_Device T.D_dleft.m G_dleft (hr.mono (by decide)) T.bb_dleft .nil pass0) pe_int (nomark _)) (pss_one (ps_ret (pv 1))) pss_nil)
      (pss_cons (ps_set (i := 2) sc_dallowed.nd rfl (.inl rfl) (pe_ix ix_list (pe_fld (pv 0) rfl) (pe_fld (pv 0) rfl) (fun _ _ => rfl)))
      (pss_cons (ps_fldaug (pv 0) pe_int in_add)
      (pss_cons (ps_if (pt_cmpR op_lt (pv 2) pe_int (nomark _)) (pss_one (ps_raise rfl (takes_of rfl rfl rfl rfl) (pmk_oex T.o_Fault T.ini_Fault T.tI_Fault G_iFault (hr.mono (by decide)) T.b_iFault_1 T.v_iFault_1 pass0 (by rfl) T.g_Fault (pa_cons (pe_un un_neg (pv 2)) pa_nil)))) pss_nil)
      (pss_one (ps_ret (pe_callB (call_min2 rfl) (by rfl) T.m_min (by decide +kernel) (pa_cons (pv 1) (pa_cons (pv 2) pa_nil))))))))), ?_⟩
    have hP0 := hP
    obtain ⟨dd, vs, G, I, hF⟩ := hP
    refine ⟨.ref A.d, rfl, A.d, dd, _, rfl, I.hd, dfs_no _ _ _ _ _ "left" (by decide +kernel), A, F, S, rfl, hP0, ?_⟩
    by_cases h : S.used < S.plan.length
    · have e1 : decide (V.int ((S.plan.length : Int) - S.used) = V.int 0) = false := by
        rw [dec_int, beq_eq_false_iff_ne]; omega
      have ek := List.getElem?_eq_getElem h
      generalize S.plan[S.used] = k at ek
      have eU : usedS S = { S with used := S.used + 1 } := if_pos h
      have eM : mayF S n = min n k := by unfold mayF planN; rw [ek]
      refine ⟨rfl, _, rfl, iteFc e1 ?_⟩
      refine ⟨.ref A.d, rfl, A.d, T.C_Device, dd, _, _, rfl, I.hd, T.cl_Device, T.n_Device_plan, dfs_plan _ _ _ _ _, .ref A.d, rfl, A.d, T.C_Device, dd, _, _, rfl, I.hd, T.cl_Device, T.n_Device_used, dfs_used _ _ _ _ _, A.p, _, _, .int k, rfl, rfl, sq_at I.hp, at_map ek, ?_⟩
      refine ⟨.ref A.d, rfl, A.d, T.C_Device, dd, _, _, rfl, I.hd, T.cl_Device, T.n_Device_used, dfs_used _ _ _ _ _, _, _, rfl, rfl, dd, _, I.hd, dfs_few _ _ _ _ _, ?_⟩
      rw [show V.int ((S.used : Int) + 1) = V.int ((S.used + 1 : Nat) : Int) from rfl, dfs_put_u]
      have hU : DevAt T.C_Device (upd H A.d (.ins T.C_Device dd (dfs A S.seek S.spot S.bar (S.used + 1)))) A F (usedS S) := by rw [eU]; exact ⟨dd, vs, G, I.setd S.spot S.bar (S.used + 1), hF⟩
      refine ⟨.int k, rfl, _, _, rfl, rfl, _, rfl, ?_⟩
      by_cases hk : k < 0
      · refine iteTc (decide_eq_true hk) ?_
        exact ⟨.int k, rfl, k, rfl, mk2_fin (fun d nd => qe k ek hk _ F d (hU.same (Kp.new (ps := []) nd).same) (by rw [upd_ne (fun y => by rw [y, upd_same] at nd; cases nd)] at nd; exact nd) upd_same (hU.new nd) ((own_dev hF (.inl rfl)).trans (Step.of (Kp.new (ps := []) nd).same)))⟩
      · refine iteFc (decide_eq_false hk) ?_
        refine ⟨_, rfl, _, rfl, _, _, rfl, ?_⟩
        rw [show (if k < n then k else n) = mayF S n by rw [eM]; split <;> omega]
        exact q (fun k' e' => by rw [show planN S = some k from ek] at e'; cases e'; omega) _ hU (own_dev hF (.inl rfl))
    · have e1 : decide (V.int ((S.plan.length : Int) - S.used) = V.int 0) = true := by
        rw [dec_int, beq_iff_eq]; have := ok.1; omega
      have e0 : planN S = none := List.getElem?_eq_none (by omega)
      have eM : mayF S n = n := by unfold mayF; rw [e0]
      have eU : usedS S = S := if_neg h
      refine ⟨rfl, _, rfl, iteTc e1 ⟨.int n, rfl, ?_⟩⟩
      have q := q (fun k e => by rw [e0] at e; cases e) H (by rw [eU]; exact hP0) ⟨fun _ _ _ e => e, fun _ z => .inl z⟩
      rw [eM] at q
      exact q

theorem ok_dnote (T : Tx K mg) : FnC P w K mg base  1 T.f_dnote T.fd_dnote P_dnote (spNoteD (DevAt T.C_Device)) := by
  have sz : sizeLine = 16777216 := sizeLine_eq
  refine T.D_dnote.F.okC sc_dnote (fun vs H Q E h => ?_) (fun cdv A outer s H vs Q E hr h => ?_)
  · obtain ⟨A, w, hv, cv, F, G0, S, h, c, rfl, _⟩ := h
    rfl
  · obtain ⟨A, w, hv, cv, F, G0, S, h, c, rfl, hP, ok, h0, c0, nok, n0, a0, q⟩ := h
    refine ⟨_, (pss_one (ps_expr (pe_bm PySem.F.plainAttrs_list PySem.F.slot_list_append PySem.F.type_list_append mt_append (pe_fld (pv 0) rfl) (pa_cons (pe_tup (pa_cons (pv 1) (pa_cons (pe_fld (pv 0) rfl) (pa_cons (pv 2) (pa_cons (pv 3) pa_nil))))) pa_nil)))), ?_⟩
    obtain ⟨dd, vs, G, I, hF⟩ := hP
    refine ⟨.ref A.d, rfl, A.d, T.C_Device, dd, _, _, rfl, I.hd, T.cl_Device, T.n_Device_notes, dfs_notes _ _ _ _ _, ?_⟩
    refine ⟨.inl ⟨rfl, _, sq_at I.hl⟩, _, rfl, .ref A.d, rfl, A.d, T.C_Device, dd, _, _, rfl, I.hd, T.cl_Device, T.n_Device_spot, dfs_spot _ _ _ _ _, _, rfl, _, rfl, by show (4 : Nat) ≤ sizeLine; omega, fun t nt => ?_⟩
    have ne : ∀ {b o}, H b = some o → b ≠ t := fun {b o} e => ne_of_none e nt
    refine ⟨A.l, _, _, rfl, rfl, by rw [upd_ne (ne I.hl)]; exact I.hl, ?_, ?_⟩
    · have := I.nn.len
      have := ok.2.2
      omega
    refine q _ (fun b => F b ∨ b = t ∨ G0 b) ⟨dd, _, _, I.note (n := ⟨w, S.spot, h, c⟩) nt h0 c0 nok rfl a0 (fun b z y => n0 b z ((hF b).mpr (.inl y))), fun b => ?_⟩ (fun b o nf e => ?_) (fun b z => ?_)
    · constructor
      · rintro (z | z)
        · rcases (hF b).mp z with y | y
          · exact .inl y
          · exact .inr (.inl y)
        · exact .inr (.inr z)
      · rintro (z | z | z)
        · exact .inl ((hF b).mpr (.inl z))
        · exact .inl ((hF b).mpr (.inr z))
        · exact .inr z
    · rw [upd_ne (fun z => nf ((hF b).mpr (.inl (by rw [z]; unfold Own4; simp)))), upd_ne (ne e)]; exact e
    · rcases z with z | rfl | z
      · exact .inl z
      · exact .inr (.inr nt)
      · exact .inr (.inl z)

theorem ok_dopen (T : Tx K mg) : FnOk P w K mg base CX0 1 T.f_dopen T.fd_dopen P_dopen (spOpenD (DevAt T.C_Device)) := by
  have sz : sizeLine = 16777216 := sizeLine_eq
  refine T.D_dopen.F.ok sc_dopen (fun vs H Q E h => ?_) (fun cdv A outer s H vs Q E hr h => ?_)
  · obtain ⟨A, F, S, rfl, _⟩ := h
    rfl
  · obtain ⟨A, F, S, rfl, hP, hb, q⟩ := h
    refine ⟨_, (pss_one (ps_if (pt_val (pe_fld (pv 0) rfl)) (pss_one ps_never) pss_nil)), ?_⟩
    obtain ⟨dd, vs, G, I, hF⟩ := hP
    have hd := I.hd
    rw [hb] at hd
    exact ⟨.ref A.d, rfl, A.d, T.C_Device, dd, _, _, rfl, hd, T.cl_Device, T.n_Device_barred, dfs_barred _ _ _ _ _, false, rfl, iteF q⟩

theorem ok_dmayt (T : Tx K mg) : FnOk P w K mg base CX0 1 T.f_dmayt T.fd_dmayt P_dmayt (spMaytD (DevAt T.C_Device)) := by
  have sz : sizeLine = 16777216 := sizeLine_eq
  refine T.D_dmayt.F.ok sc_dmayt (fun vs H Q E h => ?_) (fun cdv A outer s H vs Q E hr h => ?_)
  · obtain ⟨A, F, S, rfl, _⟩ := h
    rfl
  · obtain ⟨A, F, S, rfl, hP, q⟩ := h
    refine ⟨_, (pss_one ps_pass), ?_⟩
    exact q

theorem ok_dgive (T : Tx K mg) : FnOk P w K mg base (L2.CX P w) 4 T.f_dgive T.fd_dgive P_dgive (spGiveD (DevAt T.C_Device) T.C_Fault) := by
  have G_dallowed := ok_dallowed (P := P) (w := w) (base := base) T
  have sz : sizeLine = 16777216 := sizeLine_eq
  refine T.D_dgive.F.okX sc_dgive (fun vs H Q E h => ?_) (fun cdv A outer s H vs Q E hr h => ?_)
  · obtain ⟨A, F, S, n, rfl, _⟩ := h
    rfl
  · obtain ⟨A, F, S, n, rfl, hP, ok, q, qe⟩ := h
    refine ⟨_, (pss_cons (ps_set (i := 2) sc_dgive.nd rfl (.inl rfl) (pe_meth (pv 0) T.cl_Device T.D_dallowed.m G_dallowed (hr.mono (by decide)) T.bb_dallowed .nil (Sip.passX (takes_of rfl rfl rfl rfl)) (pa_cons (pv 1) pa_nil)))
      (pss_cons (ps_if (pt_cmpR op_eq (pv 2) pe_int (nomark _)) (pss_one (ps_ret pe_non)) pss_nil)
      (pss_one (ps_ret (pe_slice sl_list (pe_fld (pv 0) rfl) (po_some (pe_fld (pv 0) rfl)) (po_some (pe_op op_add (pe_fld (pv 0) rfl) (pv 2)))))))), ?_⟩
    have hP0 := hP
    obtain ⟨dd, vs, G, I, hF⟩ := hP
    refine ⟨.ref A.d, rfl, A.d, dd, _, rfl, I.hd, dfs_no _ _ _ _ _ "allowed" (by decide +kernel), .int n, rfl, A, F, S, n, rfl, hP0, ok, fun good H1 hP1 st1 => ?_, fun k ek hk => qe k ek hk⟩
    have hP1' := hP1
    obtain ⟨dd1, vs1, G1, I1, hF1⟩ := hP1
    by_cases h0 : mayF S n = 0
    · refine ⟨_, rfl, rfl, _, rfl, iteTc (decide_eq_true (by rw [h0])) ?_⟩
      have q := q good H1 A.d hP1' (fun h => absurd h0 h) st1
      rw [if_pos h0] at q
      exact q
    · refine ⟨_, rfl, rfl, _, rfl, iteFc (decide_eq_false (fun z => h0 (V.int.inj z))) ?_⟩
      refine ⟨.ref A.d, rfl, A.d, T.C_Device, dd1, _, _, rfl, I1.hd, T.cl_Device, T.n_Device_cells, dfs_cells _ _ _ _ _, .ref A.d, rfl, A.d, T.C_Device, dd1, _, _, rfl, I1.hd, T.cl_Device, T.n_Device_spot, dfs_spot _ _ _ _ _, _, rfl, .ref A.d, rfl, A.d, T.C_Device, dd1, _, _, rfl, I1.hd, T.cl_Device, T.n_Device_spot, dfs_spot _ _ _ _ _, _, rfl, _, _, rfl, rfl, _, rfl, A.c, _, rfl, sq_at I1.hc, fun z nz => ?_⟩
      have ec : cutV ((usedS S).cells.map V.int) (some ((usedS S).spot : Int)) (some (((usedS S).spot : Int) + mayF S n)) = (takenF S n).map V.int := by
        rw [usedS_cells, usedS_spot]
        have hm := Int.toNat_of_nonneg (may_nn (n := n) good)
        unfold takenF
        rw [← mid_cut, Int.natCast_add, hm]
      rw [ec]
      have q := q good _ z (hP1'.same (Kp.new (ps := []) nz).same) (fun _ => ⟨new_of st1 (fun b f => hP1'.some b f) nz, upd_same⟩) (st1.trans (Step.of (Kp.new (ps := []) nz).same))
      rw [if_neg h0] at q
      exact q

theorem ok_dtake (T : Tx K mg) : FnOk P w K mg base (L2.CX P w) 5 T.f_dtake T.fd_dtake P_dtake (spTakeD (DevAt T.C_Device) T.C_Fault) := by
  have G_dopen := ok_dopen (P := P) (w := w) (base := base) T
  have G_dmayt := ok_dmayt (P := P) (w := w) (base := base) T
  have C_dnote := ok_dnote (P := P) (w := w) (base := base) T
  have G_dnote := C_dnote.ok
  have G_dgive := ok_dgive (P := P) (w := w) (base := base) T
  have sz : sizeLine = 16777216 := sizeLine_eq
  refine T.D_dtake.F.okX sc_dtake (fun vs H Q E h => ?_) (fun cdv A outer s H vs Q E hr h => ?_)
  · obtain ⟨A, F, S, n, rfl, _⟩ := h
    rfl
  · obtain ⟨A, F, S, n, rfl, hP, ok, hb, q, qe⟩ := h
    refine ⟨_, (pss_cons (ps_expr (pe_meth0 (pv 0) T.cl_Device T.D_dopen.m G_dopen (hr.mono (by decide)) T.bb_dopen .nil pass0))
      (pss_cons (ps_expr (pe_meth0 (pv 0) T.cl_Device T.D_dmayt.m G_dmayt (hr.mono (by decide)) T.bb_dmayt .nil pass0))
      (pss_cons (Sip.ps_try_again rfl rfl ⟨rfl, by decide, .inl T.g_Fault⟩ (fun hd => L2H.passesAt_of rfl hd) (takes_of rfl rfl rfl rfl) (fun W pn xe tk _ => (pss_one (ps_set (i := 2) sc_dtake.nd rfl (.inl rfl) (Sip.pe_methT (pv 0) T.cl_Device T.D_dgive.m G_dgive (hr.mono (by decide)) T.bb_dgive (fun σ => passAt tk σ) (pa_cons (pv 1) pa_nil))))) (fun a oe T9 oT cls d pn ag => (pss_cons (ps_expr (Sip.pe_methC (E := fun _ _ _ => False) (pv 0) T.cl_Device T.D_dnote.m C_dnote (Sip.roomM (hr.mono (by decide))) T.bb_dnote .nil (pa_cons pe_str (pa_cons (pv 1) (pa_cons pe_str pa_nil)))))
      (pss_one (Sip.ps_again rfl rfl (takes_of rfl rfl rfl rfl) ag)))))
      (pss_cons (ps_if (pt_cmpR op_isN (pv 2) pe_non (nomark _)) (pss_cons (ps_expr (pe_meth (pv 0) T.cl_Device T.D_dnote.m G_dnote (hr.mono (by decide)) T.bb_dnote .nil pass0 (pa_cons pe_str (pa_cons (pv 1) (pa_cons pe_str pa_nil)))))
      (pss_one (ps_ret pe_non))) pss_nil)
      (pss_cons (ps_expr (pe_meth (pv 0) T.cl_Device T.D_dnote.m G_dnote (hr.mono (by decide)) T.bb_dnote .nil pass0 (pa_cons pe_str (pa_cons (pv 1) (pa_cons (pe_callTy call_list_of (by rfl) T.m_list (by decide +kernel) (pa_cons (pv 2) pa_nil)) pa_nil)))))
      (pss_cons (ps_fldaug (pv 0) (pe_callB call_len_seq (by rfl) T.m_len PySem.boot_len (pa_cons (pv 2) pa_nil)) in_add)
      (pss_one (ps_ret (pv 2))))))))), ?_⟩
    have hP0 := hP
    obtain ⟨dd, vs, G, I, hF⟩ := hP
    refine ⟨.ref A.d, rfl, A.d, dd, _, rfl, I.hd, dfs_no _ _ _ _ _ "check_open" (by decide +kernel), A, F, S, rfl, hP0, hb, ?_⟩
    refine ⟨.ref A.d, rfl, A.d, dd, _, rfl, I.hd, dfs_no _ _ _ _ _ "may_take" (by decide +kernel), A, F, S, rfl, hP0, ?_⟩
    refine ⟨.ref A.d, rfl, A.d, dd, _, rfl, I.hd, dfs_no _ _ _ _ _ "give" (by decide +kernel), .int n, rfl, A, F, S, n, rfl, hP0, ok, fun good H1 r hP1 hr1 st1 => ?_, fun k ek hk H1 F1 d hP1 n01 hd1 nd1 st1 => ?_⟩
    · have hP1' := hP1
      obtain ⟨dd1, vs1, G1, I1, hF1⟩ := hP1'
      by_cases h0 : mayF S n = 0
      · rw [if_pos h0]
        refine ⟨.non, rfl, rfl, _, rfl, iteT ?_⟩
        refine ⟨.ref A.d, rfl, A.d, dd1, _, rfl, I1.hd, dfs_no _ _ _ _ _ "note" (by decide +kernel), .int n, rfl, A, _, _, _, F, (fun _ => False), usedS S, .i n, .s (Str.ofString "stall"), rfl, hP1, usedS_ok ok, rfl, rfl, ⟨(by decide +kernel : PyData.strOk (Str.ofString "take") = true), trivial, (by decide +kernel : PyData.strOk (Str.ofString "stall") = true)⟩, fun b z => z.elim, fun b z => z.elim, fun H3 F3 hP3 k3 f3 => ?_⟩
        rw [noted] at hP3
        have f3' : ∀ b, F3 b → F b ∨ H1 b = none := fun b z => (f3 b z).elim .inl (fun y => y.elim (fun y => y.elim) .inr)
        have q := q good H3 F3 A.d (by unfold tookS; rw [if_pos h0]; exact hP3) (fun h => absurd h0 h) (st1.trans ⟨k3, f3'⟩)
        rw [if_pos h0] at q
        exact q
      · obtain ⟨nr0, er1⟩ := hr1 h0
        have nFr : ¬ F r := hP0.new nr0
        rw [if_neg h0]
        refine ⟨.ref r, rfl, rfl, _, rfl, iteFc (by rfl) ?_⟩
        refine ⟨.ref A.d, rfl, A.d, dd1, _, rfl, I1.hd, dfs_no _ _ _ _ _ "note" (by decide +kernel), .int n, rfl, .ref r, rfl, r, _, rfl, .inl (sq_at er1), fun z nz => ?_⟩
        have s3 : Same H1 (upd H1 z (.lst ((takenF S n).map V.int))) := (Kp.new (ps := []) nz).same
        have ez : (upd H1 z (.lst ((takenF S n).map V.int))) z = some (.lst ((takenF S n).map V.int)) := upd_same
        generalize upd H1 z (.lst ((takenF S n).map V.int)) = Hz at s3 ez ⊢
        have nFz := hP1.new nz
        have zr : r ≠ z := ne_of_none er1 nz
        have stz := st1.trans (Step.of s3)
        refine ⟨A, _, _, _, F, (fun b => b = z), usedS S, .i n, .l (takenF S n), rfl, hP1.same s3, usedS_ok ok, rfl, ⟨z, rfl, rfl, ez⟩, ⟨(by decide +kernel : PyData.strOk (Str.ofString "take") = true), trivial, trivial⟩, fun b y => by rw [show b = z from y]; exact nFz, fun b y => ⟨.lst ((takenF S n).map V.int), by rw [show b = z from y]; exact ez⟩, fun H3 F3 hP3 k3 f3 => ?_⟩
        rw [noted] at hP3
        have f3' : ∀ b, F3 b → F b ∨ H1 b = none := fun b y => by
          rcases f3 b y with y | y | y
          · exact .inl y
          · exact .inr (by rw [show b = z from y]; exact nz)
          · exact .inr (s3.free y)
        have k3' : ∀ b o, ¬ F b → H1 b = some o → H3 b = some o := fun b o nb e => k3 b o nb (s3 _ _ e)
        have st3 : Step F H F3 H3 := st1.trans ⟨k3', f3'⟩
        have nF3 : ¬ F3 r := fun y => (f3' r y).elim nFr (fun y => by rw [er1] at y; cases y)
        obtain ⟨dd3, vs3, G3, I3, hF3⟩ := hP3
        have rd : r ≠ A.d := fun y => nF3 ((hF3 r).mpr (.inl (.inl y)))
        have er3 := k3' _ _ nFr er1
        refine ⟨.ref A.d, rfl, A.d, T.C_Device, dd3, _, _, rfl, I3.hd, T.cl_Device, T.n_Device_spot, dfs_spot _ _ _ _ _, .ref r, rfl, r, _, rfl, .inl (sq_at er3), _, _, rfl, rfl, dd3, _, I3.hd, dfs_few _ _ _ _ _, ?_⟩
        rw [List.length_map, show (V.int (((usedS S).spot : Int) + ((takenF S n).length : Int))) = V.int ((S.spot + (takenF S n).length : Nat) : Int) by rw [usedS_spot]; rfl, dfs_put_s]
        have q := q good _ F3 r (by
          unfold tookS; rw [if_neg h0]
          exact ⟨dd3, vs3, G3, I3.setd (S.spot + (takenF S n).length) _ _, hF3⟩) (fun _ => ⟨nr0, by rw [upd_ne rd]; exact er3, nF3⟩) (st3.trans (own_dev hF3 (.inl rfl)))
        rw [if_neg h0] at q
        exact ⟨_, rfl, q⟩
    · refine ⟨true, T.te_Fault_Fault, fun _ a na => ?_, fun h => nomatch h⟩
      have hP1' := hP1
      obtain ⟨dd1, vs1, G1, I1, hF1⟩ := hP1'
      refine ⟨.ref A.d, rfl, A.d, dd1, _, rfl, I1.hd, dfs_no _ _ _ _ _ "note" (by decide +kernel), .int n, rfl, A, _, _, _, F1, (fun _ => False), usedS S, .i n, .s (Str.ofString "fault"), rfl, hP1, usedS_ok ok, rfl, rfl, ⟨(by decide +kernel : PyData.strOk (Str.ofString "take") = true), trivial, (by decide +kernel : PyData.strOk (Str.ofString "fault") = true)⟩, fun b z => z.elim, fun b z => z.elim, fun H3 F3 hP3 k3 f3 => ?_⟩
      rw [noted] at hP3
      have f3' : ∀ b, F3 b → F1 b ∨ H1 b = none := fun b z => (f3 b z).elim .inl (fun y => y.elim (fun y => y.elim) .inr)
      exact qe k ek hk H3 F3 d hP3 n01 (k3 d _ nd1 hd1) (fun z => (f3' d z).elim nd1 (fun y => by rw [hd1] at y; cases y)) (st1.trans ⟨k3, f3'⟩)

theorem ok_clen (T : Tx K mg) : FnOk P w K mg base CX0 1 T.f_clen T.fd_clen P_clen (spLenC) := by
  have sz : sizeLine = 16777216 := sizeLine_eq
  refine T.D_clen.F.ok sc_clen (fun vs H Q E h => ?_) (fun cdv A outer s H vs Q E hr h => ?_)
  · obtain ⟨v, rfl, _⟩ := h
    rfl
  · obtain ⟨v, rfl, h, q⟩ := h
    refine ⟨_, (pss_one (ps_if (pt_cmpR op_gt (pv 0) (pe_glob (v := .int 4000) (by rfl) T.c_LONGEST ⟨_, rfl⟩) (nomark _)) (pss_one ps_never) pss_nil)), ?_⟩
    exact ⟨_, rfl, _, _, rfl, rfl, _, rfl, iteFc (decide_eq_false (by omega)) q⟩

theorem ok_dextent (T : Tx K mg) : FnOk P w K mg base CX0 1 T.f_dextent T.fd_dextent P_dextent (spExtD (DevAt T.C_Device)) := by
  have sz : sizeLine = 16777216 := sizeLine_eq
  refine T.D_dextent.F.ok sc_dextent (fun vs H Q E h => ?_) (fun cdv A outer s H vs Q E hr h => ?_)
  · obtain ⟨A, F, S, rfl, _⟩ := h
    rfl
  · obtain ⟨A, F, S, rfl, hP, q⟩ := h
    refine ⟨_, (pss_one (ps_ret (pe_callB call_len_seq (by rfl) T.m_len PySem.boot_len (pa_cons (pe_fld (pv 0) rfl) pa_nil)))), ?_⟩
    obtain ⟨dd, vs, G, I, hF⟩ := hP
    refine ⟨.ref A.d, rfl, A.d, T.C_Device, dd, _, _, rfl, I.hd, T.cl_Device, T.n_Device_cells, dfs_cells _ _ _ _ _, A.c, _, rfl, .inl (sq_at I.hc), ?_⟩
    rw [List.length_map]
    exact q

theorem ok_dseeks (T : Tx K mg) : FnOk P w K mg base CX0 1 T.f_dseeks T.fd_dseeks P_dseeks (spSeeksD (DevAt T.C_Device)) := by
  have sz : sizeLine = 16777216 := sizeLine_eq
  refine T.D_dseeks.F.ok sc_dseeks (fun vs H Q E h => ?_) (fun cdv A outer s H vs Q E hr h => ?_)
  · obtain ⟨A, F, S, rfl, _⟩ := h
    rfl
  · obtain ⟨A, F, S, rfl, hP, hs, q⟩ := h
    refine ⟨_, (pss_one (ps_if (pt_not (pt_val (pe_fld (pv 0) rfl))) (pss_one ps_never) pss_nil)), ?_⟩
    obtain ⟨dd, vs, G, I, hF⟩ := hP
    have hd := I.hd
    rw [hs] at hd
    exact ⟨.ref A.d, rfl, A.d, T.C_Device, dd, _, _, rfl, hd, T.cl_Device, T.n_Device_can_seek, dfs_seek _ _ _ _ _, true, rfl, iteF q⟩

theorem ok_dmayc (T : Tx K mg) : FnOk P w K mg base CX0 2 T.f_dmayc T.fd_dmayc P_dmayc (spSeeksD (DevAt T.C_Device)) := by
  have G_dseeks := ok_dseeks (P := P) (w := w) (base := base) T
  have sz : sizeLine = 16777216 := sizeLine_eq
  refine T.D_dmayc.F.ok sc_dmayc (fun vs H Q E h => ?_) (fun cdv A outer s H vs Q E hr h => ?_)
  · obtain ⟨A, F, S, rfl, _⟩ := h
    rfl
  · obtain ⟨A, F, S, rfl, hP, hs, q⟩ := h
    refine ⟨_, (pss_one (ps_expr (pe_meth0 (pv 0) T.cl_Device T.D_dseeks.m G_dseeks (hr.mono (by decide)) T.bb_dseeks .nil pass0))), ?_⟩
    have hP0 := hP
    obtain ⟨dd, vs, G, I, hF⟩ := hP
    exact ⟨.ref A.d, rfl, A.d, dd, _, rfl, I.hd, dfs_no _ _ _ _ _ "check_seeks" (by decide +kernel), A, F, S, rfl, hP0, hs, q⟩

theorem ok_dcontent (T : Tx K mg) : FnOk P w K mg base CX0 1 T.f_dcontent T.fd_dcontent P_dcontent (spContD (DevAt T.C_Device)) := by
  have sz : sizeLine = 16777216 := sizeLine_eq
  refine T.D_dcontent.F.ok sc_dcontent (fun vs H Q E h => ?_) (fun cdv A outer s H vs Q E hr h => ?_)
  · obtain ⟨A, F, S, rfl, _⟩ := h
    rfl
  · obtain ⟨A, F, S, rfl, hP, q⟩ := h
    refine ⟨_, (pss_one (ps_ret (pe_callTy call_list_of (by rfl) T.m_list (by decide +kernel) (pa_cons (pe_fld (pv 0) rfl) pa_nil)))), ?_⟩
    obtain ⟨dd, vs, G, I, hF⟩ := hP
    exact ⟨.ref A.d, rfl, A.d, T.C_Device, dd, _, _, rfl, I.hd, T.cl_Device, T.n_Device_cells, dfs_cells _ _ _ _ _, A.c, _, rfl, .inl (sq_at I.hc), fun z nz => q _ z nz upd_same (Kp.new (ps := []) nz).same⟩

theorem ok_dmove (T : Tx K mg) : FnOk P w K mg base (L2.CX P w) 4 T.f_dmove T.fd_dmove P_dmove (spMoveD (DevAt T.C_Device) T.C_Fault) := by
  have G_dallowed := ok_dallowed (P := P) (w := w) (base := base) T
  have sz : sizeLine = 16777216 := sizeLine_eq
  refine T.D_dmove.F.okX sc_dmove (fun vs H Q E h => ?_) (fun cdv A outer s H vs Q E hr h => ?_)
  · obtain ⟨A, F, S, n, rfl, _⟩ := h
    rfl
  · obtain ⟨A, F, S, n, rfl, hP, ok, q, qe⟩ := h
    refine ⟨_, (pss_one (ps_expr (pe_meth (pv 0) T.cl_Device T.D_dallowed.m G_dallowed (hr.mono (by decide)) T.bb_dallowed .nil (Sip.passX (takes_of rfl rfl rfl rfl)) (pa_cons pe_int pa_nil)))), ?_⟩
    have hP0 := hP
    obtain ⟨dd, vs, G, I, hF⟩ := hP
    exact ⟨.ref A.d, rfl, A.d, dd, _, rfl, I.hd, dfs_no _ _ _ _ _ "allowed" (by decide +kernel), A, F, S, 1, rfl, hP0, ok, fun good H1 hP1 st1 => q good H1 hP1 st1, fun k ek hk => qe k ek hk⟩

theorem ok_dtrim (T : Tx K mg) : FnOk P w K mg base (L2.CX P w) 4 T.f_dtrim T.fd_dtrim P_dtrim (spTrimD (DevAt T.C_Device) T.C_Fault) := by
  have G_dallowed := ok_dallowed (P := P) (w := w) (base := base) T
  have sz : sizeLine = 16777216 := sizeLine_eq
  refine T.D_dtrim.F.okX sc_dtrim (fun vs H Q E h => ?_) (fun cdv A outer s H vs Q E hr h => ?_)
  · obtain ⟨A, F, S, n, rfl, _⟩ := h
    rfl
  · obtain ⟨A, F, S, n, rfl, hP, ok, q, qe⟩ := h
    refine ⟨_, (pss_cons (ps_expr (pe_meth (pv 0) T.cl_Device T.D_dallowed.m G_dallowed (hr.mono (by decide)) T.bb_dallowed .nil (Sip.passX (takes_of rfl rfl rfl rfl)) (pa_cons pe_int pa_nil)))
      (pss_one (Sip.ps_delS (pe_fld (pv 0) rfl) (po_some (pv 1)) po_none))), ?_⟩
    have hP0 := hP
    obtain ⟨dd, vs, G, I, hF⟩ := hP
    refine ⟨.ref A.d, rfl, A.d, dd, _, rfl, I.hd, dfs_no _ _ _ _ _ "allowed" (by decide +kernel), A, F, S, 1, rfl, hP0, ok, fun good H1 hP1 st1 => ?_, fun k ek hk => qe k ek hk⟩
    obtain ⟨dd1, vs1, G1, I1, hF1⟩ := hP1
    refine ⟨.ref A.d, rfl, A.d, T.C_Device, dd1, _, _, rfl, I1.hd, T.cl_Device, T.n_Device_cells, dfs_cells _ _ _ _ _, _, rfl, _, rfl, A.c, _, rfl, I1.hc, ?_⟩
    rw [usedS_cells, del_from]
    exact q good _ ⟨dd1, vs1, G1, I1.setc (S.cells.take n), hF1⟩ (st1.trans (own_dev hF1 (.inr (.inl rfl))))

theorem ok_dgo (T : Tx K mg) : FnOk P w K mg base (L2.CX P w) 5 T.f_dgo T.fd_dgo P_dgo (spGoD (DevAt T.C_Device) T.C_Fault) := by
  have G_dopen := ok_dopen (P := P) (w := w) (base := base) T
  have G_dseeks := ok_dseeks (P := P) (w := w) (base := base) T
  have G_clen := ok_clen (P := P) (w := w) (base := base) T
  have C_dnote := ok_dnote (P := P) (w := w) (base := base) T
  have G_dnote := C_dnote.ok
  have G_dmove := ok_dmove (P := P) (w := w) (base := base) T
  have sz : sizeLine = 16777216 := sizeLine_eq
  refine T.D_dgo.F.okX sc_dgo (fun vs H Q E h => ?_) (fun cdv A outer s H vs Q E hr h => ?_)
  · obtain ⟨A, F, S, n, rfl, _⟩ := h
    rfl
  · obtain ⟨A, F, S, n, rfl, hP, ok, hb, hs, hn, q, qe⟩ := h
    refine ⟨_, (pss_cons (ps_expr (pe_meth0 (pv 0) T.cl_Device T.D_dopen.m G_dopen (hr.mono (by decide)) T.bb_dopen .nil pass0))
      (pss_cons (ps_expr (pe_meth0 (pv 0) T.cl_Device T.D_dseeks.m G_dseeks (hr.mono (by decide)) T.bb_dseeks .nil pass0))
      (pss_cons (ps_expr (pe_call G_clen (hr.mono (by decide)) (by rfl) T.D_clen.g T.D_clen.F.kp T.bb_clen .nil pass0 (pa_cons (pv 1) pa_nil)))
      (pss_cons (Sip.ps_try_again rfl rfl ⟨rfl, by decide, .inl T.g_Fault⟩ (fun hd => L2H.passesAt_of rfl hd) (takes_of rfl rfl rfl rfl) (fun W pn xe tk _ => (pss_one (ps_expr (Sip.pe_methT (pv 0) T.cl_Device T.D_dmove.m G_dmove (hr.mono (by decide)) T.bb_dmove (fun σ => passAt tk σ) (pa_cons (pv 1) pa_nil))))) (fun a oe T9 oT cls d pn ag => (pss_cons (ps_expr (Sip.pe_methC (E := fun _ _ _ => False) (pv 0) T.cl_Device T.D_dnote.m C_dnote (Sip.roomM (hr.mono (by decide))) T.bb_dnote .nil (pa_cons pe_str (pa_cons (pv 1) (pa_cons pe_str pa_nil)))))
      (pss_one (Sip.ps_again rfl rfl (takes_of rfl rfl rfl rfl) ag)))))
      (pss_cons (ps_expr (pe_meth (pv 0) T.cl_Device T.D_dnote.m G_dnote (hr.mono (by decide)) T.bb_dnote .nil pass0 (pa_cons pe_str (pa_cons (pv 1) (pa_cons pe_int pa_nil)))))
      (pss_one (ps_fld (pv 0) (pv 1) rfl))))))), ?_⟩
    have hP0 := hP
    obtain ⟨dd, vs, G, I, hF⟩ := hP
    refine ⟨.ref A.d, rfl, A.d, dd, _, rfl, I.hd, dfs_no _ _ _ _ _ "check_open" (by decide +kernel), A, F, S, rfl, hP0, hb, ?_⟩
    refine ⟨.ref A.d, rfl, A.d, dd, _, rfl, I.hd, dfs_no _ _ _ _ _ "check_seeks" (by decide +kernel), A, F, S, rfl, hP0, hs, ?_⟩
    refine ⟨.int n, rfl, n, rfl, by omega, ?_⟩
    refine ⟨.ref A.d, rfl, A.d, dd, _, rfl, I.hd, dfs_no _ _ _ _ _ "move" (by decide +kernel), .int n, rfl, A, F, S, n, rfl, hP0, ok, fun good H1 hP1 st1 => ?_, fun k ek hk H1 F1 d hP1 n01 hd1 nd1 st1 => ?_⟩
    · have hP1' := hP1
      obtain ⟨dd1, vs1, G1, I1, hF1⟩ := hP1'
      refine ⟨.ref A.d, rfl, A.d, dd1, _, rfl, I1.hd, dfs_no _ _ _ _ _ "note" (by decide +kernel), .int n, rfl, A, _, _, _, F, (fun _ => False), usedS S, .i n, .i 0, rfl, hP1, usedS_ok ok, rfl, rfl, ⟨(by decide +kernel : PyData.strOk (Str.ofString "go") = true), trivial, trivial⟩, fun b z => z.elim, fun b z => z.elim, fun H3 F3 hP3 k3 f3 => ?_⟩
      have f3' : ∀ b, F3 b → F b ∨ H1 b = none := fun b z => (f3 b z).elim .inl (fun y => y.elim (fun y => y.elim) .inr)
      rw [noted] at hP3
      obtain ⟨dd3, vs3, G3, I3, hF3⟩ := hP3
      refine ⟨_, rfl, .ref A.d, rfl, A.d, T.C_Device, dd3, _, rfl, I3.hd, T.cl_Device, T.n_Device_spot, dfs_few _ _ _ _ _, ?_⟩
      rw [dfs_put_s]
      exact q good _ F3 ⟨dd3, vs3, G3, I3.setd n _ _, hF3⟩ ((st1.trans ⟨k3, f3'⟩).trans (own_dev hF3 (.inl rfl)))
    · refine ⟨true, T.te_Fault_Fault, fun _ a na => ?_, fun h => nomatch h⟩
      have hP1' := hP1
      obtain ⟨dd1, vs1, G1, I1, hF1⟩ := hP1'
      refine ⟨.ref A.d, rfl, A.d, dd1, _, rfl, I1.hd, dfs_no _ _ _ _ _ "note" (by decide +kernel), .int n, rfl, A, _, _, _, F1, (fun _ => False), usedS S, .i n, .s (Str.ofString "fault"), rfl, hP1, usedS_ok ok, rfl, rfl, ⟨(by decide +kernel : PyData.strOk (Str.ofString "go") = true), trivial, (by decide +kernel : PyData.strOk (Str.ofString "fault") = true)⟩, fun b z => z.elim, fun b z => z.elim, fun H3 F3 hP3 k3 f3 => ?_⟩
      rw [noted] at hP3
      have f3' : ∀ b, F3 b → F1 b ∨ H1 b = none := fun b z => (f3 b z).elim .inl (fun y => y.elim (fun y => y.elim) .inr)
      exact qe k ek hk H3 F3 d hP3 n01 (k3 d _ nd1 hd1) (fun z => (f3' d z).elim nd1 (fun y => by rw [hd1] at y; cases y)) (st1.trans ⟨k3, f3'⟩)

theorem ok_dcut (T : Tx K mg) : FnOk P w K mg base (L2.CX P w) 5 T.f_dcut T.fd_dcut P_dcut (spCutD (DevAt T.C_Device) T.C_Fault) := by
  have G_dopen := ok_dopen (P := P) (w := w) (base := base) T
  have G_dmayc := ok_dmayc (P := P) (w := w) (base := base) T
  have G_clen := ok_clen (P := P) (w := w) (base := base) T
  have C_dnote := ok_dnote (P := P) (w := w) (base := base) T
  have G_dnote := C_dnote.ok
  have G_dtrim := ok_dtrim (P := P) (w := w) (base := base) T
  have sz : sizeLine = 16777216 := sizeLine_eq
  refine T.D_dcut.F.okX sc_dcut (fun vs H Q E h => ?_) (fun cdv A outer s H vs Q E hr h => ?_)
  · obtain ⟨A, F, S, n, rfl, _⟩ := h
    rfl
  · obtain ⟨A, F, S, n, rfl, hP, ok, hb, hs, hn, q, qe⟩ := h
    refine ⟨_, (pss_cons (ps_expr (pe_meth0 (pv 0) T.cl_Device T.D_dopen.m G_dopen (hr.mono (by decide)) T.bb_dopen .nil pass0))
      (pss_cons (ps_expr (pe_meth0 (pv 0) T.cl_Device T.D_dmayc.m G_dmayc (hr.mono (by decide)) T.bb_dmayc .nil pass0))
      (pss_cons (ps_expr (pe_call G_clen (hr.mono (by decide)) (by rfl) T.D_clen.g T.D_clen.F.kp T.bb_clen .nil pass0 (pa_cons (pv 1) pa_nil)))
      (pss_cons (Sip.ps_try_again rfl rfl ⟨rfl, by decide, .inl T.g_Fault⟩ (fun hd => L2H.passesAt_of rfl hd) (takes_of rfl rfl rfl rfl) (fun W pn xe tk _ => (pss_one (ps_expr (Sip.pe_methT (pv 0) T.cl_Device T.D_dtrim.m G_dtrim (hr.mono (by decide)) T.bb_dtrim (fun σ => passAt tk σ) (pa_cons (pv 1) pa_nil))))) (fun a oe T9 oT cls d pn ag => (pss_cons (ps_expr (Sip.pe_methC (E := fun _ _ _ => False) (pv 0) T.cl_Device T.D_dnote.m C_dnote (Sip.roomM (hr.mono (by decide))) T.bb_dnote .nil (pa_cons pe_str (pa_cons (pv 1) (pa_cons pe_str pa_nil)))))
      (pss_one (Sip.ps_again rfl rfl (takes_of rfl rfl rfl rfl) ag)))))
      (pss_one (ps_expr (pe_meth (pv 0) T.cl_Device T.D_dnote.m G_dnote (hr.mono (by decide)) T.bb_dnote .nil pass0 (pa_cons pe_str (pa_cons (pv 1) (pa_cons pe_int pa_nil)))))))))), ?_⟩
    have hP0 := hP
    obtain ⟨dd, vs, G, I, hF⟩ := hP
    refine ⟨.ref A.d, rfl, A.d, dd, _, rfl, I.hd, dfs_no _ _ _ _ _ "check_open" (by decide +kernel), A, F, S, rfl, hP0, hb, ?_⟩
    refine ⟨.ref A.d, rfl, A.d, dd, _, rfl, I.hd, dfs_no _ _ _ _ _ "may_cut" (by decide +kernel), A, F, S, rfl, hP0, hs, ?_⟩
    refine ⟨.int n, rfl, n, rfl, by omega, ?_⟩
    refine ⟨.ref A.d, rfl, A.d, dd, _, rfl, I.hd, dfs_no _ _ _ _ _ "trim" (by decide +kernel), .int n, rfl, A, F, S, n, rfl, hP0, ok, fun good H1 hP1 st1 => ?_, fun k ek hk H1 F1 d hP1 n01 hd1 nd1 st1 => ?_⟩
    · have hP1' := hP1
      obtain ⟨dd1, vs1, G1, I1, hF1⟩ := hP1'
      refine ⟨.ref A.d, rfl, A.d, dd1, _, rfl, I1.hd, dfs_no _ _ _ _ _ "note" (by decide +kernel), .int n, rfl, A, _, _, _, F, (fun _ => False), { usedS S with cells := S.cells.take n }, .i n, .i 0, rfl, hP1, usedS_ok ok, rfl, rfl, ⟨(by decide +kernel : PyData.strOk (Str.ofString "cut") = true), trivial, trivial⟩, fun b z => z.elim, fun b z => z.elim, fun H3 F3 hP3 k3 f3 => ?_⟩
      have f3' : ∀ b, F3 b → F b ∨ H1 b = none := fun b z => (f3 b z).elim .inl (fun y => y.elim (fun y => y.elim) .inr)
      rw [noted_c] at hP3
      exact q good _ F3 hP3 (st1.trans ⟨k3, f3'⟩)
    · refine ⟨true, T.te_Fault_Fault, fun _ a na => ?_, fun h => nomatch h⟩
      have hP1' := hP1
      obtain ⟨dd1, vs1, G1, I1, hF1⟩ := hP1'
      refine ⟨.ref A.d, rfl, A.d, dd1, _, rfl, I1.hd, dfs_no _ _ _ _ _ "note" (by decide +kernel), .int n, rfl, A, _, _, _, F1, (fun _ => False), usedS S, .i n, .s (Str.ofString "fault"), rfl, hP1, usedS_ok ok, rfl, rfl, ⟨(by decide +kernel : PyData.strOk (Str.ofString "cut") = true), trivial, (by decide +kernel : PyData.strOk (Str.ofString "fault") = true)⟩, fun b z => z.elim, fun b z => z.elim, fun H3 F3 hP3 k3 f3 => ?_⟩
      rw [noted] at hP3
      have f3' : ∀ b, F3 b → F1 b ∨ H1 b = none := fun b z => (f3 b z).elim .inl (fun y => y.elim (fun y => y.elim) .inr)
      exact qe k ek hk H3 F3 d hP3 n01 (k3 d _ nd1 hd1) (fun z => (f3' d z).elim nd1 (fun y => by rw [hd1] at y; cases y)) (st1.trans ⟨k3, f3'⟩)

theorem ok_daccept (T : Tx K mg) : FnOk P w K mg base (L2.CX P w) 4 T.f_daccept T.fd_daccept P_daccept (spAcceptD (DevAt T.C_Device) T.C_Fault) := by
  have G_dallowed := ok_dallowed (P := P) (w := w) (base := base) T
  have G_laid := ok_laid (P := P) (w := w) (base := base) T
  have sz : sizeLine = 16777216 := sizeLine_eq
  refine T.D_daccept.F.okX sc_daccept (fun vs H Q E h => ?_) (fun cdv A outer s H vs Q E hr h => ?_)
  · obtain ⟨A, d, F, S, ds, rfl, _⟩ := h
    rfl
  · obtain ⟨A, d, F, S, ds, rfl, hP, ok, nd, hd, lc, ls, ld, q, qe⟩ := h
    refine ⟨_, (pss_cons (ps_set (i := 2) sc_daccept.nd rfl (.inl rfl) (pe_meth (pv 0) T.cl_Device T.D_dallowed.m G_dallowed (hr.mono (by decide)) T.bb_dallowed .nil (Sip.passX (takes_of rfl rfl rfl rfl)) (pa_cons (pe_callB call_len_seq (by rfl) T.m_len PySem.boot_len (pa_cons (pv 1) pa_nil)) pa_nil)))
      (pss_cons (ps_if (pt_cmpR op_eq (pv 2) pe_int (nomark _)) (pss_one (ps_ret pe_non)) pss_nil)
      (pss_cons (ps_fld (pv 0) (pe_call G_laid (hr.mono (by decide)) (by rfl) T.D_laid.g T.D_laid.F.kp T.bb_laid .nil pass0 (pa_cons (pe_fld (pv 0) rfl) (pa_cons (pe_fld (pv 0) rfl) (pa_cons (pe_slice sl_list (pv 1) po_none (po_some (pv 2))) pa_nil)))) rfl)
      (pss_one (ps_ret (pv 2)))))), ?_⟩
    have hP0 := hP
    obtain ⟨dd, vs, G, I, hF⟩ := hP
    refine ⟨.ref A.d, rfl, A.d, dd, _, rfl, I.hd, dfs_no _ _ _ _ _ "allowed" (by decide +kernel), .ref d, rfl, d, _, rfl, .inl (sq_at hd), A, F, S, (ds.length : Int), by rw [List.length_map]; rfl, hP0, ok, fun good H1 hP1 st1 => ?_, fun k ek hk => qe k ek hk⟩
    have hP1' := hP1
    obtain ⟨dd1, vs1, G1, I1, hF1⟩ := hP1
    have hm : mayF S (ds.length : Int) = (putN S ds : Int) := (Int.toNat_of_nonneg (may_nn (n := ds.length) good)).symm
    rw [hm]
    have hd1 := st1.1 d _ nd hd
    by_cases h0 : putN S ds = 0
    · refine ⟨_, rfl, rfl, _, rfl, iteTc (decide_eq_true (by rw [h0]; rfl)) ?_⟩
      have eL : laidS S ds = S.cells := by unfold laidS; rw [h0, List.take_zero, laidF_nil]
      have eS : ({ usedS S with cells := S.cells } : Dst) = usedS S := by unfold usedS; split <;> rfl
      have q := q good H1 A.c F (by rw [eL, eS]; exact hP1') st1
      rw [if_pos h0] at q
      exact q
    · refine ⟨_, rfl, rfl, _, rfl, iteFc (decide_eq_false (fun z => h0 (Int.ofNat.inj (V.int.inj z)))) ?_⟩
      refine ⟨.ref A.d, rfl, A.d, T.C_Device, dd1, _, _, rfl, I1.hd, T.cl_Device, T.n_Device_cells, dfs_cells _ _ _ _ _, .ref A.d, rfl, A.d, T.C_Device, dd1, _, _, rfl, I1.hd, T.cl_Device, T.n_Device_spot, dfs_spot _ _ _ _ _, .ref d, rfl, _, rfl, _, rfl, d, _, rfl, sq_at hd1, fun z nz => ?_⟩
      rw [show cutV (ds.map V.int) none (some (putN S ds : Int)) = (ds.take (putN S ds)).map V.int from cut_O ds (some (putN S ds))]
      have sz := (Kp.new (ps := []) (o := HO.lst ((ds.take (putN S ds)).map V.int)) nz).same
      refine ⟨A.c, z, (usedS S).cells, (usedS S).spot, ds.take (putN S ds), rfl, sq_at (sz _ _ I1.hc), upd_same, by rw [usedS_cells]; omega, by rw [usedS_spot]; omega, by rw [List.length_take]; omega, fun H3 c nc ec s3 => ?_⟩
      rw [usedS_cells, usedS_spot] at ec
      have hPz := hP1'.same sz
      have nFc := hPz.new nc
      obtain ⟨dd3, vs3, G3, I3, hF3⟩ := hPz.same s3
      refine ⟨.ref A.d, rfl, A.d, T.C_Device, dd3, _, rfl, I3.hd, T.cl_Device, T.n_Device_cells, dfs_few _ _ _ _ _, ?_⟩
      rw [dfs_put_c]
      have nc1 : H1 c = none := sz.free nc
      have nc0 : H c = none := new_of st1 (fun b f => hP1'.some b f) nc1
      have q := q good _ c (fun b => Own4 { A with c := c } b ∨ G3 b) ⟨dd3, vs3, G3, I3.newc (c := c) (xs := laidS S ds) ec (fun y => nFc ((hF3 c).mpr y)), fun b => Iff.rfl⟩ ⟨fun b o nb e => ?_, fun b y => ?_⟩
      · rw [if_neg h0] at q
        exact ⟨_, rfl, q⟩
      · rw [upd_ne (fun y => nb ((hF3 b).mpr (.inl (.inl y))))]
        exact s3 _ _ (sz _ _ (st1.1 b o nb e))
      · rcases y with (y | y | y | y) | y
        · exact .inl ((hF3 b).mpr (.inl (.inl y)))
        · exact .inr (by rw [show b = c from y]; exact nc0)
        · exact .inl ((hF3 b).mpr (.inl (.inr (.inr (.inl y)))))
        · exact .inl ((hF3 b).mpr (.inl (.inr (.inr (.inr y)))))
        · exact .inl ((hF3 b).mpr (.inr y))

theorem ok_dmayp (T : Tx K mg) : FnOk P w K mg base CX0 2 T.f_dmayp T.fd_dmayp P_dmayp (spMaypD (DevAt T.C_Device)) := by
  have G_clen := ok_clen (P := P) (w := w) (base := base) T
  have G_dextent := ok_dextent (P := P) (w := w) (base := base) T
  have sz : sizeLine = 16777216 := sizeLine_eq
  refine T.D_dmayp.F.ok sc_dmayp (fun vs H Q E h => ?_) (fun cdv A outer s H vs Q E hr h => ?_)
  · obtain ⟨A, d, F, S, ds, rfl, _⟩ := h
    rfl
  · obtain ⟨A, d, F, S, ds, rfl, hP, hd, hl, q⟩ := h
    refine ⟨_, (pss_one (ps_if (pt_val (pe_fld (pv 0) rfl)) (pss_one (ps_expr (pe_call G_clen (hr.mono (by decide)) (by rfl) T.D_clen.g T.D_clen.F.kp T.bb_clen .nil pass0 (pa_cons (pe_callB (call_max2 rfl) (by rfl) T.m_max (by decide +kernel) (pa_cons (pe_meth0 (pv 0) T.cl_Device T.D_dextent.m G_dextent (hr.mono (by decide)) T.bb_dextent .nil pass0) (pa_cons (pe_op op_add (pe_fld (pv 0) rfl) (pe_callB call_len_seq (by rfl) T.m_len PySem.boot_len (pa_cons (pv 1) pa_nil))) pa_nil))) pa_nil)))) pss_nil)), ?_⟩
    have hP0 := hP
    obtain ⟨dd, vs, G, I, hF⟩ := hP
    refine ⟨.ref A.d, rfl, A.d, T.C_Device, dd, _, _, rfl, I.hd, T.cl_Device, T.n_Device_can_seek, dfs_seek _ _ _ _ _, S.seek, rfl, ?_⟩
    cases hs : S.seek with
    | false => exact iteF q
    | true =>
      obtain ⟨h1, h2⟩ := hl hs
      refine iteT ?_
      refine ⟨.ref A.d, rfl, A.d, dd, _, rfl, I.hd, dfs_no _ _ _ _ _ "extent" (by decide +kernel), A, F, S, rfl, hP0, ?_⟩
      refine ⟨.ref A.d, rfl, A.d, T.C_Device, dd, _, _, rfl, I.hd, T.cl_Device, T.n_Device_spot, dfs_spot _ _ _ _ _, .ref d, rfl, d, _, rfl, .inl (sq_at hd), _, _, rfl, rfl, _, _, rfl, _, rfl, ?_, q⟩
      rw [List.length_map]
      split <;> omega

theorem ok_dput (T : Tx K mg) : FnOk P w K mg base (L2.CX P w) 5 T.f_dput T.fd_dput P_dput (spPutD (DevAt T.C_Device) T.C_Fault) := by
  have G_dopen := ok_dopen (P := P) (w := w) (base := base) T
  have G_dmayp := ok_dmayp (P := P) (w := w) (base := base) T
  have C_dnote := ok_dnote (P := P) (w := w) (base := base) T
  have G_dnote := C_dnote.ok
  have G_daccept := ok_daccept (P := P) (w := w) (base := base) T
  have sz : sizeLine = 16777216 := sizeLine_eq
  refine T.D_dput.F.okX sc_dput (fun vs H Q E h => ?_) (fun cdv A outer s H vs Q E hr h => ?_)
  · obtain ⟨A, d, F, S, ds, rfl, _⟩ := h
    rfl
  · obtain ⟨A, d, F, S, ds, rfl, hP, ok, hb, hd, hl, lc, ls, ld, q, qe⟩ := h
    refine ⟨_, (pss_cons (ps_expr (pe_meth0 (pv 0) T.cl_Device T.D_dopen.m G_dopen (hr.mono (by decide)) T.bb_dopen .nil pass0))
      (pss_cons (ps_expr (pe_meth (pv 0) T.cl_Device T.D_dmayp.m G_dmayp (hr.mono (by decide)) T.bb_dmayp .nil pass0 (pa_cons (pv 1) pa_nil)))
      (pss_cons (ps_set (i := 2) sc_dput.nd rfl (.inl rfl) (pe_callTy call_list_of (by rfl) T.m_list (by decide +kernel) (pa_cons (pv 1) pa_nil)))
      (pss_cons (Sip.ps_try_again rfl rfl ⟨rfl, by decide, .inl T.g_Fault⟩ (fun hd => L2H.passesAt_of rfl hd) (takes_of rfl rfl rfl rfl) (fun W pn xe tk _ => (pss_one (ps_set (i := 3) sc_dput.nd rfl (.inl rfl) (Sip.pe_methT (pv 0) T.cl_Device T.D_daccept.m G_daccept (hr.mono (by decide)) T.bb_daccept (fun σ => passAt tk σ) (pa_cons (pv 2) pa_nil))))) (fun a oe T9 oT cls d pn ag => (pss_cons (ps_expr (Sip.pe_methC (E := fun _ _ _ => False) (pv 0) T.cl_Device T.D_dnote.m C_dnote (Sip.roomM (hr.mono (by decide))) T.bb_dnote .nil (pa_cons pe_str (pa_cons (pv 2) (pa_cons pe_str pa_nil)))))
      (pss_one (Sip.ps_again rfl rfl (takes_of rfl rfl rfl rfl) ag)))))
      (pss_cons (ps_if (pt_cmpR op_isN (pv 3) pe_non (nomark _)) (pss_cons (ps_expr (pe_meth (pv 0) T.cl_Device T.D_dnote.m G_dnote (hr.mono (by decide)) T.bb_dnote .nil pass0 (pa_cons pe_str (pa_cons (pv 2) (pa_cons pe_str pa_nil)))))
      (pss_one (ps_ret pe_non))) pss_nil)
      (pss_cons (ps_expr (pe_meth (pv 0) T.cl_Device T.D_dnote.m G_dnote (hr.mono (by decide)) T.bb_dnote .nil pass0 (pa_cons pe_str (pa_cons (pv 2) (pa_cons (pv 3) pa_nil)))))
      (pss_cons (ps_fldaug (pv 0) (pv 3) in_add)
      (pss_one (ps_ret (pv 3)))))))))), ?_⟩
    have hP0 := hP
    obtain ⟨dd, vs, G, I, hF⟩ := hP
    refine ⟨.ref A.d, rfl, A.d, dd, _, rfl, I.hd, dfs_no _ _ _ _ _ "check_open" (by decide +kernel), A, F, S, rfl, hP0, hb, ?_⟩
    refine ⟨.ref A.d, rfl, A.d, dd, _, rfl, I.hd, dfs_no _ _ _ _ _ "may_put" (by decide +kernel), .ref d, rfl, A, d, F, S, ds, rfl, hP0, hd, hl, ?_⟩
    refine ⟨.ref d, rfl, d, _, rfl, .inl (sq_at hd), fun h nh => ?_⟩
    have sh := (Kp.new (ps := []) (o := HO.lst (ds.map V.int)) nh).same
    have eh : (upd H h (.lst (ds.map V.int))) h = some (.lst (ds.map V.int)) := upd_same
    generalize upd H h (.lst (ds.map V.int)) = Hh at sh eh ⊢
    have hPh := hP0.same sh
    have nFh := hP0.new nh
    have stH : Step F H F Hh := Step.of sh
    obtain ⟨ddh, vsh, Gh, Ih, hFh⟩ := id hPh
    refine ⟨.ref A.d, rfl, A.d, ddh, _, rfl, Ih.hd, dfs_no _ _ _ _ _ "accept" (by decide +kernel), .ref h, rfl, A, h, F, S, ds, rfl, hPh, ok, nFh, eh, lc, ls, ld, fun good H1 c F1 hP1 st1 => ?_, fun k ek hk H1 F1 d1 hP1 n01 hd1 nd1 st1 => ?_⟩
    · have hP1' := hP1
      obtain ⟨dd1, vs1, G1, I1, hF1⟩ := hP1'
      have eh1 := st1.keep nFh eh
      have mk : ∀ {H3 : Hp} {F3 : Addr → Prop}, (∀ b o, ¬ F1 b → H1 b = some o → H3 b = some o) → (∀ b, F3 b → F1 b ∨ b = h ∨ H1 b = none) → Step F H F3 H3 := fun {H3 F3} k3 f3 => by
        refine ⟨fun b o nb e => k3 b o (fun z => ((stH.trans st1).keep nb e).2 z) ((stH.trans st1).1 b o nb e), fun b z => ?_⟩
        rcases f3 b z with y | y | y
        · exact (stH.trans st1).2 b y
        · exact .inr (by rw [show b = h from y]; exact nh)
        · by_cases fb : F b
          · exact .inl fb
          · cases e : H b with
            | none => exact .inr rfl
            | some o => rw [(stH.trans st1).1 b o fb e] at y; cases y
      have ok1 : DstOk ({ usedS S with cells := laidS S ds } : Dst) := usedS_ok ok
      by_cases h0 : putN S ds = 0
      · rw [if_pos h0]
        refine ⟨.non, rfl, rfl, _, rfl, iteT ?_⟩
        refine ⟨.ref A.d, rfl, A.d, dd1, _, rfl, I1.hd, dfs_no _ _ _ _ _ "note" (by decide +kernel), .ref h, rfl, { A with c := c }, _, _, _, F1, (fun b => b = h), _, .l ds, .s (Str.ofString "stall"), rfl, hP1, ok1, ⟨h, rfl, rfl, eh1.1⟩, rfl, ⟨(by decide +kernel : PyData.strOk (Str.ofString "put") = true), trivial, (by decide +kernel : PyData.strOk (Str.ofString "stall") = true)⟩, fun b z => by rw [show b = h from z]; exact eh1.2, fun b z => ⟨.lst (ds.map V.int), by rw [show b = h from z]; exact eh1.1⟩, fun H3 F3 hP3 k3 f3 => ?_⟩
        have q := q good H3 c F3 (by rw [putS_stall h0, ← noted_c]; exact hP3) (mk k3 f3)
        rw [if_pos h0] at q
        exact q
      · rw [if_neg h0]
        refine ⟨.int (putN S ds), rfl, rfl, _, rfl, iteFc (by rfl) ?_⟩
        refine ⟨.ref A.d, rfl, A.d, dd1, _, rfl, I1.hd, dfs_no _ _ _ _ _ "note" (by decide +kernel), .ref h, rfl, .int (putN S ds), rfl, { A with c := c }, _, _, _, F1, (fun b => b = h), _, .l ds, .i (putN S ds), rfl, hP1, ok1, ⟨h, rfl, rfl, eh1.1⟩, rfl, ⟨(by decide +kernel : PyData.strOk (Str.ofString "put") = true), trivial, trivial⟩, fun b z => by rw [show b = h from z]; exact eh1.2, fun b z => ⟨.lst (ds.map V.int), by rw [show b = h from z]; exact eh1.1⟩, fun H3 F3 hP3 k3 f3 => ?_⟩
        have hP3 : DevAt T.C_Device H3 { A with c := c } F3 { usedS S with cells := laidS S ds, ns := S.ns ++ [⟨Str.ofString "put", S.spot, .l ds, .i (putN S ds)⟩] } := by rw [← noted_c]; exact hP3
        obtain ⟨dd3, vs3, G3, I3, hF3⟩ := hP3
        refine ⟨.ref A.d, rfl, A.d, T.C_Device, dd3, _, _, rfl, I3.hd, T.cl_Device, T.n_Device_spot, dfs_spot _ _ _ _ _, .int (putN S ds), rfl, _, _, rfl, rfl, dd3, _, I3.hd, dfs_few _ _ _ _ _, ?_⟩
        rw [show V.int (((usedS S).spot : Int) + (putN S ds : Int)) = V.int ((S.spot + putN S ds : Nat) : Int) by rw [usedS_spot]; rfl, dfs_put_s]
        have eP : putS S ds = { usedS S with cells := laidS S ds, spot := S.spot + putN S ds, ns := S.ns ++ [⟨Str.ofString "put", S.spot, .l ds, .i (putN S ds)⟩] } := by unfold putS; rw [if_neg h0]
        have q := q good _ c F3 (by rw [eP]; exact ⟨dd3, vs3, G3, I3.setd (S.spot + putN S ds) _ _, hF3⟩) ((mk k3 f3).trans (own_dev hF3 (.inl rfl)))
        rw [if_neg h0] at q
        exact ⟨_, rfl, q⟩
    · refine ⟨true, T.te_Fault_Fault, fun _ a na => ?_, fun h => nomatch h⟩
      have hP1' := hP1
      obtain ⟨dd1, vs1, G1, I1, hF1⟩ := hP1'
      have eh1 := st1.keep nFh eh
      refine ⟨.ref A.d, rfl, A.d, dd1, _, rfl, I1.hd, dfs_no _ _ _ _ _ "note" (by decide +kernel), .ref h, rfl, A, _, _, _, F1, (fun b => b = h), usedS S, .l ds, .s (Str.ofString "fault"), rfl, hP1, usedS_ok ok, ⟨h, rfl, rfl, eh1.1⟩, rfl, ⟨(by decide +kernel : PyData.strOk (Str.ofString "put") = true), trivial, (by decide +kernel : PyData.strOk (Str.ofString "fault") = true)⟩, fun b z => by rw [show b = h from z]; exact eh1.2, fun b z => ⟨.lst (ds.map V.int), by rw [show b = h from z]; exact eh1.1⟩, fun H3 F3 hP3 k3 f3 => ?_⟩
      rw [noted] at hP3
      have hd1n : d1 ≠ h := ne_of hd1 eh1.1 (by intro z; cases z)
      refine qe k ek hk H3 F3 d1 hP3 (sh.free n01) (k3 d1 _ nd1 hd1) (fun z => ?_) ⟨fun b o nb e => k3 b o (fun z => ?_) ((stH.trans st1).1 b o nb e), fun b z => ?_⟩
      · rcases f3 d1 z with y | y | y
        · exact nd1 y
        · exact hd1n y
        · rw [hd1] at y; cases y
      · exact ((stH.trans st1).keep nb e).2 z
      · rcases f3 b z with y | y | y
        · exact (stH.trans st1).2 b y
        · exact .inr (by rw [show b = h from y]; exact nh)
        · by_cases fb : F b
          · exact .inl fb
          · cases e : H b with
            | none => exact .inr rfl
            | some o => rw [(stH.trans st1).1 b o fb e] at y; cases y

theorem ok_ocopy (T : Tx K mg) : FnOk P w K mg base CX0 1 T.f_ocopy T.fd_ocopy P_ocopy (spOwnC) := by
  have sz : sizeLine = 16777216 := sizeLine_eq
  refine T.D_ocopy.F.ok sc_ocopy (fun vs H Q E h => ?_) (fun cdv A outer s H vs Q E hr h => ?_)
  · obtain ⟨v, t, G, rfl, _⟩ := h
    rfl
  · obtain ⟨v, t, G, rfl, ht, q⟩ := h
    refine ⟨_, (pss_cons (ps_if (pt_val (pe_callB (id := "isinstance") (r := rIsi K) call_isi (by rfl) T.m_isinstance (by decide +kernel) (pa_cons (pv 0) (pa_cons (pe_bltn (v := .ty "list") (by rfl) T.m_list (by decide +kernel) rfl) pa_nil)))) (pss_one (ps_ret (pe_callTy call_list_of (by rfl) T.m_list (by decide +kernel) (pa_cons (pv 0) pa_nil)))) pss_nil)
      (pss_one (ps_ret (pv 0)))), ?_⟩
    cases t with
    | i n =>
      cases (show v = _ from ht)
      exact ⟨.int n, rfl, .int n, .ty "list", _, _, false, rfl, .ty "list", .base (.int n), kit_ty (by decide +kernel), false, rfl, iteF ⟨.int n, rfl, q _ _ rfl (Same.refl _)⟩⟩
    | s w =>
      cases (show v = _ from ht)
      exact ⟨.str w, rfl, .str w, .ty "list", _, _, false, rfl, .ty "list", .base (.str w), kit_ty (by decide +kernel), false, rfl, iteF ⟨.str w, rfl, q _ _ rfl (Same.refl _)⟩⟩
    | l xs =>
      obtain ⟨a, rfl, ga, ha⟩ := ht
      exact ⟨.ref a, rfl, .ref a, .ty "list", _, _, true, rfl, .ty "list", .base (.lst ha), kit_ty (by decide +kernel), true, rfl, iteT ⟨.ref a, rfl, a, _, rfl, .inl (sq_at ha), fun z nz => q _ _ ⟨z, rfl, nz, upd_same⟩ (Kp.new (ps := []) nz).same⟩⟩

theorem ok_dlogb (T : Tx K mg) : FnOk P w K mg base CX0 2 T.f_dlogb T.fd_dlogb P_dlogb (spLogbD (DevAt T.C_Device)) := by
  have G_ocopy := ok_ocopy (P := P) (w := w) (base := base) T
  have sz : sizeLine = 16777216 := sizeLine_eq
  refine T.D_dlogb.F.ok sc_dlogb (fun vs H Q E h => ?_) (fun cdv A outer s H vs Q E hr h => ?_)
  · obtain ⟨A, F, S, rfl, _⟩ := h
    rfl
  · obtain ⟨A, F, S, rfl, ⟨dd, vs, G, I, hF⟩, ok, q⟩ := h
    refine ⟨_, (pss_one (ps_ret (pe_lc (own := [("word", 2), ("place", 3), ("handed", 4), ("came", 5)]) (g := gTup K 4 (gCons (gName 2) (gCons (gName 3) (gCons (gName 4) (gCons (gName 5) (gNil)))))) (tt := tYes) (by rfl) sc_dlogb.nd (pi_list (pe_slice sl_list (pe_fld (pv 0) rfl) (po_some (pv 1)) po_none)) (blkOk_by (own := [("word", 2), ("place", 3), ("handed", 4), ("came", 5)]) (N := N_dlogb) (sc := defScope s_dlogb) (by decide +kernel)) (fun _ _ _ _ _ => (show PG _ _ (gTup K 4 (gCons (gName 2) (gCons (gName 3) (gCons (gName 4) (gCons (gName 5) (gNil)))))) from pg_tup rfl (pgs_cons (pg_name (i := 2) sc_dlogb.nd rfl (Or.inl rfl)) (pgs_cons (pg_name (i := 3) sc_dlogb.nd rfl (Or.inl rfl)) (pgs_cons (pg_name (i := 4) sc_dlogb.nd rfl (Or.inl rfl)) (pgs_cons (pg_name (i := 5) sc_dlogb.nd rfl (Or.inl rfl)) pgs_nil)))))) (fun _ _ _ _ _ => pts_nil) (fun _ _ _ _ _ => (pe_tup (pa_cons (pv 2) (pa_cons (pv 3) (pa_cons (pe_call G_ocopy (hr.mono (by decide)) (by rfl) T.D_ocopy.g T.D_ocopy.F.kp T.bb_ocopy .nil pass0 (pa_cons (pv 4) pa_nil)) (pa_cons (pe_call G_ocopy (hr.mono (by decide)) (by rfl) T.D_ocopy.g T.D_ocopy.F.kp T.bb_ocopy .nil pass0 (pa_cons (pv 5) pa_nil)) pa_nil))))))))), ?_⟩
    refine ⟨.ref A.d, rfl, A.d, T.C_Device, dd, _, _, rfl, I.hd, T.cl_Device, T.n_Device_notes, dfs_notes _ _ _ _ _, ?_⟩
    refine ⟨_, rfl, _, rfl, A.l, _, rfl, sq_at I.hl, fun z nz => ?_⟩
    rw [cut_0]
    have s1 : Same H (upd H z (.lst vs)) := (Kp.new (ps := []) nz).same
    have ez1 : (upd H z (.lst vs)) z = some (.lst vs) := upd_same
    generalize upd H z (.lst vs) = Hz at s1 ez1 ⊢
    refine ⟨z, rfl, ⟨_, sq_at ez1⟩, fun D nD => ?_⟩
    have zD : z ≠ D := ne_of_none ez1 nD
    refine lc_list (K := K) (a := z) (xs := vs) (fun i H' => ∃ acc, H' D = some (.lst acc) ∧ Nts H' (fun b => Hz b = none ∧ b ≠ D) acc (S.ns.take i) ∧ Same Hz H') ⟨[], upd_same, trivial, (Kp.new (ps := []) nD).same⟩ (fun i H' _ h => sq_at (h.elim fun _ h => h.2.2 _ _ ez1)) (fun i x H' hx hP => ?_) (fun H' hP => ?_)
    · obtain ⟨acc, eD, hN, sm⟩ := hP
      obtain ⟨m, em, t, hv, cv, rfl, gt, ht, h0, c0, nok⟩ := I.nn.at hx
      have ht' := sm _ _ (s1 _ _ ht)
      have h0' := h0.keep (H' := H') (fun b o _ e => sm _ _ (s1 _ _ e)) (fun _ z => z)
      have c0' := c0.keep (H' := H') (fun b o _ e => sm _ _ (s1 _ _ e)) (fun _ z => z)
      refine ⟨t, _, rfl, .inl (.inl ht'), rfl, ?_⟩
      refine ⟨_, _, rfl, _, _, rfl, _, _, rfl, _, _, rfl, rfl, rfl, ?_⟩
      refine ⟨_, rfl, _, rfl, hv, rfl, hv, m.h, G, rfl, h0', fun H2 hv2 h2 s2 => ?_⟩
      refine ⟨cv, rfl, cv, m.c, G, rfl, c0'.keep (fun b o _ e => s2 _ _ e) (fun _ z => z), fun H3 cv3 c3 s3 => ?_⟩
      refine ⟨by show (4 : Nat) ≤ sizeLine; omega, fun t2 nt2 => ?_⟩
      have s23 := s2.trans s3
      have eD3 := s23 _ _ eD
      have tD : D ≠ t2 := ne_of_none eD3 nt2
      have ne2 : ∀ {b o}, H3 b = some o → b ≠ t2 := fun {b o} e => ne_of_none e nt2
      refine ⟨acc, by rw [upd_ne tD]; exact eD3, ?_, acc ++ [.ref t2], upd_same, ?_, ?_⟩
      · have := hN.len
        have := List.length_take_le i S.ns
        have := ok.2.2
        rw [List.length_take] at *
        omega
      · rw [List.take_add_one, em]
        refine Nts.snoc ⟨t2, hv2, cv3, rfl, ⟨sm.free (s23.free nt2), tD.symm⟩, by rw [upd_ne tD.symm]; exact upd_same, ?_, ?_, nok⟩ (hN.keep (fun b o z e => ?_) (fun _ z => z))
        · exact h2.keep (fun b o z e => by rw [upd_ne (fun y => by rw [show b = D from y, eD] at z; cases z), upd_ne (ne2 (s3 _ _ e))]; exact s3 _ _ e) (fun b z => ⟨sm.free z, fun y => by rw [show b = D from y, eD] at z; cases z⟩)
        · exact c3.keep (fun b o z e => by rw [upd_ne (fun y => by rw [show b = D from y, s2 _ _ eD] at z; cases z), upd_ne (ne2 e)]; exact e) (fun b z => ⟨sm.free (s2.free z), fun y => by rw [show b = D from y, s2 _ _ eD] at z; cases z⟩)
        · rw [upd_ne z.2, upd_ne (ne2 (s23 _ _ e))]; exact s23 _ _ e
      · intro b o e
        have bD : b ≠ D := fun y => by rw [y, nD] at e; cases e
        rw [upd_ne bD, upd_ne (ne2 (s23 _ _ (sm _ _ e)))]; exact s23 _ _ (sm _ _ e)
    · obtain ⟨acc, eD, hN, sm⟩ := hP
      rw [I.nn.len, List.take_length] at hN
      exact q _ D acc _ (s1.free nD) (fun z => z.2 rfl) eD hN (fun b z => s1.free z.1) (s1.trans sm)

theorem ok_dlog (T : Tx K mg) : FnOk P w K mg base CX0 3 T.f_dlog T.fd_dlog P_dlog (spLogD (DevAt T.C_Device)) := by
  have G_dlogb := ok_dlogb (P := P) (w := w) (base := base) T
  have sz : sizeLine = 16777216 := sizeLine_eq
  refine T.D_dlog.F.ok sc_dlog (fun vs H Q E h => ?_) (fun cdv A outer s H vs Q E hr h => ?_)
  · obtain ⟨A, F, S, rfl, _⟩ := h
    rfl
  · obtain ⟨A, F, S, rfl, hP, ok, q⟩ := h
    refine ⟨_, (pss_one (ps_ret (pe_meth (pv 0) T.cl_Device T.D_dlogb.m G_dlogb (hr.mono (by decide)) T.bb_dlogb .nil pass0 (pa_cons pe_int pa_nil)))), ?_⟩
    have hP0 := hP
    obtain ⟨dd, vs, G, I, hF⟩ := hP
    exact ⟨.ref A.d, rfl, A.d, dd, _, rfl, I.hd, dfs_no _ _ _ _ _ "log_behind" (by decide +kernel), A, F, S, rfl, hP0, ok, q⟩

theorem ok_dgrow (T : Tx K mg) : FnOk P w K mg base CX0 2 T.f_dgrow T.fd_dgrow P_dgrow (spGrowD (DevAt T.C_Device)) := by
  have G_clen := ok_clen (P := P) (w := w) (base := base) T
  have sz : sizeLine = 16777216 := sizeLine_eq
  refine T.D_dgrow.F.ok sc_dgrow (fun vs H Q E h => ?_) (fun cdv A outer s H vs Q E hr h => ?_)
  · obtain ⟨A, d, F, S, ds, rfl, _⟩ := h
    rfl
  · obtain ⟨A, d, F, S, ds, rfl, hP, nd, hd, hl, lc, q⟩ := h
    refine ⟨_, (C8.pss_cut (ps_if (pt_val (pe_fld (pv 0) rfl)) (pss_one (ps_expr (pe_call G_clen (hr.mono (by decide)) (by rfl) T.D_clen.g T.D_clen.F.kp T.bb_clen .nil pass0 (pa_cons (pe_op op_add (pe_callB call_len_seq (by rfl) T.m_len PySem.boot_len (pa_cons (pe_fld (pv 0) rfl) pa_nil)) (pe_callB call_len_seq (by rfl) T.m_len PySem.boot_len (pa_cons (pv 1) pa_nil))) pa_nil)))) pss_nil)
      (pss_one (ps_expr (pe_bm PySem.F.plainAttrs_list PySem.F.slot_list_extend PySem.F.type_list_extend mt_extend (pe_fld (pv 0) rfl) (pa_cons (pv 1) pa_nil))))), ?_⟩
    obtain ⟨dd, vs, G, I, hF⟩ := hP
    refine ⟨fun σ' H' => σ' = [some (V.ref A.d), some (V.ref d)] ∧ H' = H, ?_, fun σ' H' hm => ?_⟩
    · refine ⟨.ref A.d, rfl, A.d, T.C_Device, dd, _, _, rfl, I.hd, T.cl_Device, T.n_Device_can_seek, dfs_seek _ _ _ _ _, S.seek, rfl, ?_⟩
      cases hs : S.seek with
      | false => exact iteF ⟨rfl, rfl⟩
      | true =>
        have h1 := hl hs
        refine iteT ?_
        refine ⟨.ref A.d, rfl, A.d, T.C_Device, dd, _, _, rfl, I.hd, T.cl_Device, T.n_Device_cells, dfs_cells _ _ _ _ _, A.c, _, rfl, .inl (sq_at I.hc), .ref d, rfl, d, _, rfl, .inl (sq_at hd), _, _, rfl, rfl, _, rfl, ?_, rfl, rfl⟩
        rw [List.length_map, List.length_map]; omega
    · obtain ⟨rfl, rfl⟩ := hm
      refine ⟨.ref A.d, rfl, A.d, T.C_Device, dd, _, _, rfl, I.hd, T.cl_Device, T.n_Device_cells, dfs_cells _ _ _ _ _, ?_⟩
      refine ⟨.inl ⟨rfl, _, sq_at I.hc⟩, _, rfl, A.c, d, _, _, rfl, rfl, I.hc, hd, ?_, ?_⟩
      · rw [List.length_map, List.length_map]; omega
      rw [← List.map_append]
      exact q _ ⟨dd, vs, G, I.setc (S.cells ++ ds), hF⟩ (own_dev hF (.inr (.inl rfl)))

theorem ok_rinit (T : Tx K mg) : FnOk P w K mg base CX0 1 T.f_rinit T.fd_rinit P_rinit (spRInitB K) := by
  have sz : sizeLine = 16777216 := sizeLine_eq
  refine T.D_rinit.F.ok sc_rinit (fun vs H Q E h => ?_) (fun cdv A outer s H vs Q E hr h => ?_)
  · obtain ⟨e, C, dx, k, rfl, _⟩ := h
    rfl
  · obtain ⟨e, C, dx, k, rfl, he, hC, n1, n2, n3, n4, q⟩ := h
    refine ⟨_, (pss_cons (ps_fld (pv 0) (pv 1) rfl)
      (pss_cons (ps_fld (pv 0) pe_int rfl)
      (pss_cons (ps_fld (pv 0) pe_bl rfl)
      (pss_one (ps_fld (pv 0) (pe_lst pa_nil) rfl))))), ?_⟩
    refine ⟨_, rfl, .ref e, rfl, e, C, dx, [], rfl, he, hC, n1, by show 0 < 1000; decide, ?_⟩
    refine ⟨.ref e, rfl, e, C, dx, _, rfl, upd_same, hC, n2, by show 1 < 1000; decide, ?_⟩
    refine ⟨.ref e, rfl, e, C, dx, _, rfl, upd_same, hC, n3, by show 2 < 1000; decide, ?_⟩
    rw [upd_upd, upd_upd]
    refine ⟨by show (0 : Nat) ≤ sizeLine; omega, fun l nl => ?_⟩
    have el : e ≠ l := ne_of_none upd_same nl
    refine ⟨.ref e, rfl, e, C, dx, _, rfl, by rw [upd_ne el]; exact upd_same, hC, n4, by show 3 < 1000; decide, ?_⟩
    have nl0 : H l = none := by rw [upd_ne el.symm] at nl; exact nl
    refine q _ l nl0 (by rw [upd_ne el.symm]; exact upd_same) upd_same (fun b o nb eb => ?_)
    rw [upd_ne (by simpa using nb), upd_ne (ne_of_none eb nl0), upd_ne (by simpa using nb)]
    exact eb

theorem ok_dinit (T : Tx K mg) : FnOk P w K mg base CX0 2 T.f_dinit T.fd_dinit P_dinit (spDInit T.C_Device (DevAt T.C_Device)) := by
  have G_rinit := ok_rinit (P := P) (w := w) (base := base) T
  have sz : sizeLine = 16777216 := sizeLine_eq
  refine T.D_dinit.F.ok sc_dinit (fun vs H Q E h => ?_) (fun cdv A outer s H vs Q E hr h => ?_)
  · obtain ⟨d, dd, a, p, k, row, plan, rfl, _⟩ := h
    rfl
  · obtain ⟨d, dd, a, p, k, row, plan, rfl, hd, ha, hp, q⟩ := h
    refine ⟨_, (pss_cons (ps_expr (Sip.pe_cfn (pe_glob (v := .ref T.C_Raw) (by rfl) T.g_Raw rfl) T.cr_Raw T.cv_rinit T.D_rinit.F.kp G_rinit (hr.mono (by decide)) T.bb_rinit .nil pass0 (pa_cons (pv 0) (pa_cons (pe_callTy call_bool1 (by rfl) T.m_bool (by decide +kernel) (pa_cons (pv 3) pa_nil)) pa_nil))))
      (pss_cons (ps_fld (pv 0) (pe_callTy call_list_of (by rfl) T.m_list (by decide +kernel) (pa_cons (pv 1) pa_nil)) rfl)
      (pss_cons (ps_fld (pv 0) (pe_callTy call_list_of (by rfl) T.m_list (by decide +kernel) (pa_cons (pv 2) pa_nil)) rfl)
      (pss_one (ps_fld (pv 0) pe_int rfl))))), ?_⟩
    have ad : a ≠ d := lst_ins ha hd
    have pd : p ≠ d := lst_ins hp hd
    refine ⟨rfl, .ref d, rfl, .bl k, rfl, .inr ⟨k, rfl, d, T.C_Device, dd, k, rfl, hd, T.cl_Device, T.n_Device_can_seek, T.n_Device_spot, T.n_Device_barred, T.n_Device_notes, fun H1 l nl el ee k1 => ?_⟩⟩
    have ha1 := k1 _ _ (by simpa using ad) ha
    have hp1 := k1 _ _ (by simpa using pd) hp
    have ld : l ≠ d := fun z => by rw [z, hd] at nl; cases nl
    refine ⟨.ref a, rfl, a, _, rfl, .inl (sq_at ha1), fun c nc => ?_⟩
    have cd : c ≠ d := fun z => by rw [z, ee] at nc; cases nc
    have cl : c ≠ l := fun z => by rw [z, el] at nc; cases nc
    refine ⟨.ref d, rfl, d, T.C_Device, dd, _, rfl, by rw [upd_ne cd.symm]; exact ee, T.cl_Device, T.n_Device_cells, by show 4 < 1000; decide, ?_⟩
    generalize hG : upd (upd H1 c _) d _ = H2
    have ed2 : H2 d = some (.ins T.C_Device dd (putF ("cells" : Str) (.ref c) (putF ("notes" : Str) (.ref l) (putF ("barred" : Str) (.bl false) (putF ("spot" : Str) (.int 0) (putF ("can_seek" : Str) (.bl k) [])))))) := by rw [← hG]; exact upd_same
    have k2 : Kp [d] H1 H2 := fun b o nb e => by rw [← hG, upd_ne (by simpa using nb), upd_ne (ne_of_none e nc)]; exact e
    have ec2 : H2 c = some (.lst (row.map V.int)) := by rw [← hG, upd_ne cd]; exact upd_same
    have el2 : H2 l = some (.lst []) := k2 _ _ (by simpa using ld) el
    have hp2 := k2 _ _ (by simpa using pd) hp1
    clear hG
    refine ⟨.ref p, rfl, p, _, rfl, .inl (sq_at hp2), fun pp np => ?_⟩
    have ppd : pp ≠ d := fun z => by rw [z, ed2] at np; cases np
    have ppc : c ≠ pp := ne_of_none ec2 np
    have ppl : pp ≠ l := fun z => by rw [z, el2] at np; cases np
    refine ⟨.ref d, rfl, d, T.C_Device, dd, _, rfl, by rw [upd_ne ppd.symm]; exact ed2, T.cl_Device, T.n_Device_plan, by show 5 < 1000; decide, ?_⟩
    refine ⟨.ref d, rfl, d, T.C_Device, dd, _, rfl, upd_same, T.cl_Device, T.n_Device_used, by show 6 < 1000; decide, ?_⟩
    rw [upd_upd, dfs_new ⟨d, c, pp, l⟩ k]
    have nc0 : H c = none := by
      cases e : H c with
      | none => rfl
      | some o => rw [k1 c o (by simpa using cd) e] at nc; cases nc
    have np0 : H pp = none := by
      cases e : H pp with
      | none => rfl
      | some o => rw [k2 pp o (by simpa using ppd) (k1 pp o (by simpa using ppd) e)] at np; cases np
    refine q _ ⟨d, c, pp, l⟩ (fun b => Own4 ⟨d, c, pp, l⟩ b ∨ False) rfl ⟨dd, [], fun _ => False, ⟨upd_same, ?_, ?_, ?_, trivial, fun _ z => z.elim, fun _ z => z.elim, ppc, cl, ppl⟩, fun b => Iff.rfl⟩ ⟨fun b o nb e => ?_, fun b z => ?_⟩
    · show (upd _ d _) c = _
      rw [upd_ne cd, upd_ne ppc]; exact ec2
    · show (upd _ d _) pp = _
      rw [upd_ne ppd]; exact upd_same
    · show (upd _ d _) l = _
      rw [upd_ne ld, upd_ne (fun z => ppl z.symm)]; exact el2
    · have bd : b ≠ d := fun z => nb (.inl z)
      rw [upd_ne bd, upd_ne (ne_of_none (k2 b o (by simpa using bd) (k1 b o (by simpa using bd) e)) np)]
      exact k2 b o (by simpa using bd) (k1 b o (by simpa using bd) e)
    · rcases z with (z | z | z | z) | z
      · exact .inl (.inl z)
      · exact .inr (by rw [show b = c from z]; exact nc0)
      · exact .inr (by rw [show b = pp from z]; exact np0)
      · exact .inr (by rw [show b = l from z]; exact nl)
      · exact z.elim

theorem ok_lrow (T : Tx K mg) : FnOk P w K mg base CX0 2 T.f_lrow T.fd_lrow P_lrow (spRowL) := by
  have G_take := ok_take (P := P) (w := w) (base := base) T
  have sz : sizeLine = 16777216 := sizeLine_eq
  refine T.D_lrow.F.ok sc_lrow (fun vs H Q E h => ?_) (fun cdv A outer s H vs Q E hr h => ?_)
  · obtain ⟨p, n, N, o, rfl, _⟩ := h
    rfl
  · obtain ⟨p, n, N, o, rfl, hp, hP, n9, N0, N1, q⟩ := h
    refine ⟨_, (pss_cons (ps_set (i := 2) sc_lrow.nd rfl (.inl rfl) (pe_lst pa_nil))
      (pss_cons (ps_for PassesOwn.never rfl (pi_range1 (by rfl) T.m_range (pa_cons (pe_call G_take (hr.mono (by decide)) (by rfl) T.D_take.g T.D_take.F.kp T.bb_take .nil pass0 (pa_cons (pv 0) (pa_cons (pe_op op_add (pv 1) pe_int) pa_nil))) pa_nil)) (pg_name (i := 3) sc_lrow.nd rfl (.inl rfl)) (pss_cons (ps_set (i := 4) sc_lrow.nd rfl (.inl rfl) (pe_call G_take (hr.mono (by decide)) (by rfl) T.D_take.g T.D_take.F.kp T.bb_take .nil pass0 (pa_cons (pv 0) (pa_cons pe_int pa_nil))))
      (pss_one (ps_if (pt_cmpR op_lt (pv 4) pe_int (nomark _)) (pss_one (ps_expr (pe_bm PySem.F.plainAttrs_list PySem.F.slot_list_append PySem.F.type_list_append mt_append (pv 2) (pa_cons (pe_ix ix_list (pe_lst (pa_cons pe_int (pa_cons pe_int (pa_cons pe_int (pa_cons pe_int (pa_cons pe_int pa_nil)))))) (pv 4) (fun _ _ => rfl)) pa_nil)))) (pss_one (ps_expr (pe_bm PySem.F.plainAttrs_list PySem.F.slot_list_append PySem.F.type_list_append mt_append (pv 2) (pa_cons (pe_call G_take (hr.mono (by decide)) (by rfl) T.D_take.g T.D_take.F.kp T.bb_take .nil pass0 (pa_cons (pv 0) (pa_cons pe_int pa_nil))) pa_nil))))))))
      (pss_one (ps_ret (pv 2))))), ?_⟩
    refine ⟨Nat.zero_le _, fun a na => ?_⟩
    have pa : p ≠ a := ne_of_none hp na
    have s1 : Same H (upd H a (.lst [])) := (Kp.new (ps := []) na).same
    refine ⟨.ref p, rfl, .int N, rfl, _, _, rfl, rfl, p, n, _, o, rfl, s1 _ _ hp, hP, by omega, by omega, by omega, fun z o1 r0 r1 hP1 => ?_⟩
    have k2 : Kp [p] H (upd (upd H a (.lst [])) p o1) := (Kp.new na).trans (Kp.at (by simp))
    refine ⟨z, rfl, by omega, by omega, for_range (lo := 0) (n := z.toNat) (fun i σ H' => ∃ (bs : List Int) (o2 : HO) (y y' : Option V), σ = [some (.ref p), some (.int N), some (.ref a), y, y'] ∧ H' a = some (.lst (bs.map V.int)) ∧ bs.length = i ∧ Bytes bs ∧ H' p = some o2 ∧ PoolO (n + 1 + 2 * i) o2 ∧ Kp [p] H H') ?_ (fun i σ H' hi hW => ?_) (fun σ H' hW => ?_)⟩
    · exact ⟨[], o1, none, none, rfl, by rw [upd_ne pa.symm]; exact upd_same, rfl, fun b hb => by simp at hb, upd_same, hP1.up (by omega), k2⟩
    · obtain ⟨bs, o2, y, y', rfl, ea, eb, hb, ep, hP2, kk⟩ := hW
      have fit : (bs.map V.int).length < sizeLine := by rw [List.length_map]; exact small1000 (by omega)
      refine ⟨.ref p, rfl, p, _, 8, o2, rfl, ep, hP2, by omega, by decide, by decide, fun r2 o3 w0 w1 hP3 => ?_⟩
      have ea3 : (upd H' p o3) a = some (.lst (bs.map V.int)) := by rw [upd_ne pa.symm]; exact ea
      have k3 : Kp [p] H (upd H' p o3) := kk.trans (Kp.at (by simp))
      refine ⟨.int r2, rfl, _, _, rfl, rfl, _, rfl, ite2 (fun e => ?_) (fun e => ?_)⟩
      · have e5 : r2 < 5 := of_decide_eq_true e
        refine ⟨.ref a, rfl, .inl ⟨rfl, _, sq_at ea3⟩, by show (5 : Nat) ≤ sizeLine; decide, fun l2 nl2 => ?_⟩
        have pl2 : p ≠ l2 := ne_of_none (upd_same : (upd H' p o3) p = some o3) nl2
        have al2 : a ≠ l2 := ne_of_none ea3 nl2
        obtain ⟨v, mv, ev, _⟩ := atI_int (ms := [0, 10, 10, 13, 255]) (i := r2) w0 e5
        have vb : 0 ≤ v ∧ v ≤ 255 := (show ∀ y ∈ ([0, 10, 10, 13, 255] : List Int), 0 ≤ y ∧ y ≤ 255 by decide) v mv
        refine ⟨_, rfl, l2, _, r2, .int v, rfl, rfl, .inl (.inl (by rw [upd_same]; rfl)), ev, a, bs.map V.int, .int v, rfl, rfl, by rw [upd_ne al2]; exact ea3, fit, ?_⟩
        refine ⟨bs ++ [v], o3, _, _, rfl, by rw [upd_same, List.map_append]; rfl, by rw [List.length_append, eb]; rfl, ?_, by rw [upd_ne pa, upd_ne pl2]; exact upd_same, hP3.up (by omega), (k3.trans (Kp.new nl2)).put na⟩
        intro b hb2
        rcases List.mem_append.mp hb2 with hb3 | hb3
        · exact hb b hb3
        · rw [List.mem_singleton.mp hb3]; exact vb
      · refine ⟨.ref a, rfl, .inl ⟨rfl, _, sq_at ea3⟩, .ref p, rfl, p, _, 256, o3, rfl, upd_same, hP3, by omega, by decide, by decide, fun v o4 t0 t1 hP4 => ?_⟩
        refine ⟨a, bs.map V.int, .int v, rfl, rfl, by rw [upd_ne pa.symm]; exact ea3, fit, ?_⟩
        refine ⟨bs ++ [v], o4, _, _, rfl, by rw [upd_same, List.map_append]; rfl, by rw [List.length_append, eb]; rfl, ?_, by rw [upd_ne pa]; exact upd_same, hP4.up (by omega), (k3.trans (Kp.at (by simp))).put na⟩
        intro b hb2
        rcases List.mem_append.mp hb2 with hb3 | hb3
        · exact hb b hb3
        · rw [List.mem_singleton.mp hb3]; exact ⟨t0, by omega⟩
    · obtain ⟨bs, o2, y, y', rfl, ea, eb, hb, ep, hP2, kk⟩ := hW
      exact ⟨.ref a, rfl, q H' a bs o2 na ea ep (hP2.up (by omega)) kk (by omega) hb⟩

theorem ok_lplan (T : Tx K mg) : FnOk P w K mg base CX0 2 T.f_lplan T.fd_lplan P_lplan (spPlanL) := by
  have G_take := ok_take (P := P) (w := w) (base := base) T
  have sz : sizeLine = 16777216 := sizeLine_eq
  refine T.D_lplan.F.ok sc_lplan (fun vs H Q E h => ?_) (fun cdv A outer s H vs Q E hr h => ?_)
  · obtain ⟨p, n, N, tr, o, rfl, _⟩ := h
    rfl
  · obtain ⟨p, n, N, tr, o, rfl, hp, hP, n9, N0, N1, q⟩ := h
    refine ⟨_, (pss_cons (ps_set (i := 3) sc_lplan.nd rfl (.inl rfl) (pe_lst pa_nil))
      (pss_cons (ps_for PassesOwn.never rfl (pi_range1 (by rfl) T.m_range (pa_cons (pe_call G_take (hr.mono (by decide)) (by rfl) T.D_take.g T.D_take.F.kp T.bb_take .nil pass0 (pa_cons (pv 0) (pa_cons (pe_op op_add (pv 1) pe_int) pa_nil))) pa_nil)) (pg_name (i := 4) sc_lplan.nd rfl (.inl rfl)) (pss_cons (ps_set (i := 5) sc_lplan.nd rfl (.inl rfl) (pe_call G_take (hr.mono (by decide)) (by rfl) T.D_take.g T.D_take.F.kp T.bb_take .nil pass0 (pa_cons (pv 0) (pa_cons pe_int pa_nil))))
      (pss_one (ps_if (PW.pt (pw_and (pt_cmpR op_lt (pv 5) pe_int (nomark _)) (pw_and1 (pt_cmpR op_eq (pe_op op_mod (pv 2) pe_int) pe_int (nomark _))))) (pss_one (ps_expr (pe_bm PySem.F.plainAttrs_list PySem.F.slot_list_append PySem.F.type_list_append mt_append (pv 3) (pa_cons pe_int pa_nil)))) (pss_one (ps_if (PW.pt (pw_and (pt_cmpR op_eq (pv 5) pe_int (nomark _)) (pw_and1 (pt_cmpR op_gt (pv 2) pe_int (nomark _))))) (pss_one (ps_expr (pe_bm PySem.F.plainAttrs_list PySem.F.slot_list_append PySem.F.type_list_append mt_append (pv 3) (pa_cons (pe_op op_sub (pe_un un_neg pe_int) (pe_call G_take (hr.mono (by decide)) (by rfl) T.D_take.g T.D_take.F.kp T.bb_take .nil pass0 (pa_cons (pv 0) (pa_cons pe_int pa_nil)))) pa_nil)))) (pss_one (ps_expr (pe_bm PySem.F.plainAttrs_list PySem.F.slot_list_append PySem.F.type_list_append mt_append (pv 3) (pa_cons (pe_op op_add pe_int (pe_call G_take (hr.mono (by decide)) (by rfl) T.D_take.g T.D_take.F.kp T.bb_take .nil pass0 (pa_cons (pv 0) (pa_cons (pe_ix ix_list (pe_lst (pa_cons pe_int (pa_cons pe_int (pa_cons pe_int (pa_cons pe_int pa_nil))))) (pe_call G_take (hr.mono (by decide)) (by rfl) T.D_take.g T.D_take.F.kp T.bb_take .nil pass0 (pa_cons (pv 0) (pa_cons pe_int pa_nil))) (fun _ _ => rfl)) pa_nil)))) pa_nil))))))))))
      (pss_one (ps_ret (pv 3))))), ?_⟩
    refine ⟨Nat.zero_le _, fun a na => ?_⟩
    have pa : p ≠ a := ne_of_none hp na
    have s1 : Same H (upd H a (.lst [])) := (Kp.new (ps := []) na).same
    refine ⟨.ref p, rfl, .int N, rfl, _, _, rfl, rfl, p, n, _, o, rfl, s1 _ _ hp, hP, by omega, by omega, by omega, fun z o1 r0 r1 hP1 => ?_⟩
    have k2 : Kp [p] H (upd (upd H a (.lst [])) p o1) := (Kp.new na).trans (Kp.at (by simp))
    refine ⟨z, rfl, by omega, by omega, for_range (lo := 0) (n := z.toNat) (fun i σ H' => ∃ (bs : List Int) (o2 : HO) (y y' : Option V), σ = [some (.ref p), some (.int N), some (.int tr), some (.ref a), y, y'] ∧ H' a = some (.lst (bs.map V.int)) ∧ bs.length = i ∧ H' p = some o2 ∧ PoolO (n + 1 + 3 * i) o2 ∧ Kp [p] H H') ?_ (fun i σ H' hi hW => ?_) (fun σ H' hW => ?_)⟩
    · exact ⟨[], o1, none, none, rfl, by rw [upd_ne pa.symm]; exact upd_same, rfl, upd_same, hP1.up (by omega), k2⟩
    · obtain ⟨bs, o2, y, y', rfl, ea, eb, ep, hP2, kk⟩ := hW
      have fit : (bs.map V.int).length < sizeLine := by rw [List.length_map]; exact small1000 (by omega)
      refine ⟨.ref p, rfl, p, _, 8, o2, rfl, ep, hP2, by omega, by decide, by decide, fun r2 o3 w0 w1 hP3 => ?_⟩
      have ea3 : (upd H' p o3) a = some (.lst (bs.map V.int)) := by rw [upd_ne pa.symm]; exact ea
      have k3 : Kp [p] H (upd H' p o3) := kk.trans (Kp.at (by simp))
      by_cases c1 : r2 < 2 ∧ tr % 2 = 1
      · refine ⟨_, rfl, _, _, rfl, rfl, _, rfl, iteTc (decide_eq_true c1.1) ?_⟩
        refine ⟨_, rfl, _, _, rfl, rfl, by show (0 : Int) < 2; decide, rfl, _, rfl, iteTc (decide_eq_true (congrArg V.int c1.2)) ?_⟩
        refine ⟨.ref a, rfl, .inl ⟨rfl, _, sq_at ea3⟩, a, bs.map V.int, .int 0, rfl, rfl, ea3, fit, ?_⟩
        exact ⟨bs ++ [0], o3, _, _, rfl, by rw [upd_same, List.map_append]; rfl, by rw [List.length_append, eb]; rfl, by rw [upd_ne pa]; exact upd_same, hP3.up (by omega), k3.put na⟩
      · refine ⟨_, rfl, _, _, rfl, rfl, _, rfl, ?_⟩
        by_cases a1 : r2 < 2
        · refine iteTc (decide_eq_true a1) ?_
          refine ⟨_, rfl, _, _, rfl, rfl, by show (0 : Int) < 2; decide, rfl, _, rfl, iteFc (decide_eq_false (fun z => c1 ⟨a1, V.int.inj z⟩)) ?_⟩
          refine ⟨_, rfl, rfl, _, rfl, iteFc (decide_eq_false (fun z => by have := V.int.inj z; omega)) (iteF ?_)⟩
          refine ⟨.ref a, rfl, .inl ⟨rfl, _, sq_at ea3⟩, .ref p, rfl, by show (4 : Nat) ≤ sizeLine; omega, fun l2 nl2 => ?_⟩
          have pl2 : p ≠ l2 := ne_of_none (upd_same : (upd H' p o3) p = some o3) nl2
          have al2 : a ≠ l2 := ne_of_none ea3 nl2
          refine ⟨_, rfl, p, _, 4, o3, rfl, by rw [upd_ne pl2]; exact upd_same, hP3, by omega, by decide, by decide, fun r4 o4 x0 x1 hP4 => ?_⟩
          obtain ⟨v, mv, ev, _⟩ := atI_int (ms := [3, 3, 9, 400]) (i := r4) x0 x1
          have vb : 1 ≤ v ∧ v ≤ 400 := (show ∀ y ∈ ([3, 3, 9, 400] : List Int), 1 ≤ y ∧ y ≤ 400 by decide) v mv
          refine ⟨l2, _, r4, .int v, rfl, rfl, .inl (.inl (by rw [upd_ne pl2.symm, upd_same]; rfl)), ev, p, _, v, o4, rfl, upd_same, hP4, by omega, by omega, by omega, fun r5 o5 u0 u1 hP5 => ?_⟩
          refine ⟨_, _, rfl, rfl, a, bs.map V.int, _, rfl, rfl, by rw [upd_ne pa.symm, upd_ne pa.symm, upd_ne al2]; exact ea3, fit, ?_⟩
          exact ⟨bs ++ [1 + r5], o5, _, _, rfl, by rw [upd_same, List.map_append]; rfl, by rw [List.length_append, eb]; rfl, by rw [upd_ne pa]; exact upd_same, hP5.up (by omega), (((k3.trans (Kp.new nl2)).trans (Kp.at (by simp))).trans (Kp.at (by simp))).put na⟩
        · refine iteFc (decide_eq_false a1) (iteF ?_)
          refine ⟨_, rfl, rfl, _, rfl, ?_⟩
          by_cases a2 : r2 = 7
          · refine iteTc (decide_eq_true (by rw [a2])) ?_
            refine ⟨_, rfl, _, _, rfl, rfl, _, rfl, ?_⟩
            by_cases a3 : 1 < tr
            · refine iteTc (decide_eq_true a3) ?_
              refine ⟨.ref a, rfl, .inl ⟨rfl, _, sq_at ea3⟩, _, rfl, .ref p, rfl, p, _, 99, o3, rfl, upd_same, hP3, by omega, by decide, by decide, fun r4 o4 x0 x1 hP4 => ?_⟩
              refine ⟨_, _, rfl, rfl, a, bs.map V.int, _, rfl, rfl, by rw [upd_ne pa.symm]; exact ea3, fit, ?_⟩
              exact ⟨bs ++ [-1 - r4], o4, _, _, rfl, by rw [upd_same, List.map_append]; rfl, by rw [List.length_append, eb]; rfl, by rw [upd_ne pa]; exact upd_same, hP4.up (by omega), (k3.trans (Kp.at (by simp))).put na⟩
            · refine iteFc (decide_eq_false a3) ?_
              refine ⟨.ref a, rfl, .inl ⟨rfl, _, sq_at ea3⟩, .ref p, rfl, by show (4 : Nat) ≤ sizeLine; omega, fun l2 nl2 => ?_⟩
              have pl2 : p ≠ l2 := ne_of_none (upd_same : (upd H' p o3) p = some o3) nl2
              have al2 : a ≠ l2 := ne_of_none ea3 nl2
              refine ⟨_, rfl, p, _, 4, o3, rfl, by rw [upd_ne pl2]; exact upd_same, hP3, by omega, by decide, by decide, fun r4 o4 x0 x1 hP4 => ?_⟩
              obtain ⟨v, mv, ev, _⟩ := atI_int (ms := [3, 3, 9, 400]) (i := r4) x0 x1
              have vb : 1 ≤ v ∧ v ≤ 400 := (show ∀ y ∈ ([3, 3, 9, 400] : List Int), 1 ≤ y ∧ y ≤ 400 by decide) v mv
              refine ⟨l2, _, r4, .int v, rfl, rfl, .inl (.inl (by rw [upd_ne pl2.symm, upd_same]; rfl)), ev, p, _, v, o4, rfl, upd_same, hP4, by omega, by omega, by omega, fun r5 o5 u0 u1 hP5 => ?_⟩
              refine ⟨_, _, rfl, rfl, a, bs.map V.int, _, rfl, rfl, by rw [upd_ne pa.symm, upd_ne pa.symm, upd_ne al2]; exact ea3, fit, ?_⟩
              exact ⟨bs ++ [1 + r5], o5, _, _, rfl, by rw [upd_same, List.map_append]; rfl, by rw [List.length_append, eb]; rfl, by rw [upd_ne pa]; exact upd_same, hP5.up (by omega), (((k3.trans (Kp.new nl2)).trans (Kp.at (by simp))).trans (Kp.at (by simp))).put na⟩
          · refine iteFc (decide_eq_false (fun z => a2 (V.int.inj z))) (iteF ?_)
            refine ⟨.ref a, rfl, .inl ⟨rfl, _, sq_at ea3⟩, .ref p, rfl, by show (4 : Nat) ≤ sizeLine; omega, fun l2 nl2 => ?_⟩
            have pl2 : p ≠ l2 := ne_of_none (upd_same : (upd H' p o3) p = some o3) nl2
            have al2 : a ≠ l2 := ne_of_none ea3 nl2
            refine ⟨_, rfl, p, _, 4, o3, rfl, by rw [upd_ne pl2]; exact upd_same, hP3, by omega, by decide, by decide, fun r4 o4 x0 x1 hP4 => ?_⟩
            obtain ⟨v, mv, ev, _⟩ := atI_int (ms := [3, 3, 9, 400]) (i := r4) x0 x1
            have vb : 1 ≤ v ∧ v ≤ 400 := (show ∀ y ∈ ([3, 3, 9, 400] : List Int), 1 ≤ y ∧ y ≤ 400 by decide) v mv
            refine ⟨l2, _, r4, .int v, rfl, rfl, .inl (.inl (by rw [upd_ne pl2.symm, upd_same]; rfl)), ev, p, _, v, o4, rfl, upd_same, hP4, by omega, by omega, by omega, fun r5 o5 u0 u1 hP5 => ?_⟩
            refine ⟨_, _, rfl, rfl, a, bs.map V.int, _, rfl, rfl, by rw [upd_ne pa.symm, upd_ne pa.symm, upd_ne al2]; exact ea3, fit, ?_⟩
            exact ⟨bs ++ [1 + r5], o5, _, _, rfl, by rw [upd_same, List.map_append]; rfl, by rw [List.length_append, eb]; rfl, by rw [upd_ne pa]; exact upd_same, hP5.up (by omega), (((k3.trans (Kp.new nl2)).trans (Kp.at (by simp))).trans (Kp.at (by simp))).put na⟩
    · obtain ⟨bs, o2, y, y', rfl, ea, eb, ep, hP2, kk⟩ := hW
      exact ⟨.ref a, rfl, q H' a bs o2 na ea ep (hP2.up (by omega)) kk (by omega)⟩

theorem ok_llaid (T : Tx K mg) : FnOk P w K mg base CX0 1 T.f_llaid T.fd_llaid P_llaid (spLaidW) := by
  have sz : sizeLine = 16777216 := sizeLine_eq
  refine T.D_llaid.F.ok sc_llaid (fun vs H Q E h => ?_) (fun cdv A outer s H vs Q E hr h => ?_)
  · obtain ⟨a, b, r, ds, n, rfl, _⟩ := h
    rfl
  · obtain ⟨a, b, r, ds, n, rfl, ha, hb, lr, ln, ld, q⟩ := h
    refine ⟨_, (pss_cons (ps_if (pt_cmpR op_eq (pe_callB call_len_seq (by rfl) T.m_len PySem.boot_len (pa_cons (pv 2) pa_nil)) pe_int (nomark _)) (pss_one (ps_ret (pe_callTy call_list_of (by rfl) T.m_list (by decide +kernel) (pa_cons (pv 0) pa_nil)))) pss_nil)
      (pss_cons (ps_set (i := 3) sc_llaid.nd rfl (.inl rfl) (pe_op op_cat (pv 0) (pe_op op_rep (pe_lst (pa_cons pe_int pa_nil)) (pe_op op_sub (pv 1) (pe_callB call_len_seq (by rfl) T.m_len PySem.boot_len (pa_cons (pv 0) pa_nil))))))
      (pss_one (ps_ret (pe_op op_cat (pe_op op_cat (pe_slice sl_list (pv 3) po_none (po_some (pv 1))) (pe_callTy call_list_of (by rfl) T.m_list (by decide +kernel) (pa_cons (pv 2) pa_nil))) (pe_slice sl_list (pv 3) (po_some (pe_op op_add (pv 1) (pe_callB call_len_seq (by rfl) T.m_len PySem.boot_len (pa_cons (pv 2) pa_nil)))) po_none)))))), ?_⟩
    refine ⟨.ref b, rfl, b, _, rfl, .inl (sq_at hb), rfl, _, rfl, ?_⟩
    by_cases d0 : ds = []
    · subst d0
      refine iteTc (decide_eq_true rfl) ?_
      exact ⟨.ref a, rfl, a, _, rfl, .inl (sq_at ha), fun z nz => q _ z nz (by rw [laidF_nil]; exact upd_same) (Kp.new (ps := []) nz).same⟩
    · have dl : ds.length ≠ 0 := fun z => d0 (List.length_eq_zero_iff.mp z)
      refine iteFc (decide_eq_false (fun z => by have := V.int.inj z; rw [List.length_map] at this; omega)) ?_
      refine ⟨.ref a, rfl, by show (1 : Nat) ≤ sizeLine; omega, fun l0 nl0 => ?_⟩
      have s0 := (Kp.new (ps := []) (o := HO.lst [.int 0]) nl0).same
      refine ⟨.int n, rfl, .ref a, rfl, a, _, rfl, .inl (sq_at (s0 _ _ ha)), _, _, rfl, rfl, l0, _, _, rfl, rfl, upd_same, by rw [List.length_map]; omega, by rw [List.length_map]; omega, by rw [List.length_map]; show 1 * _ ≤ _; omega, fun l1 nl1 => ?_⟩
      have s1 := s0.trans (Kp.new (ps := []) (o := HO.lst (List.replicate ((n : Int) - ((r.map V.int).length : Int)).toNat [V.int 0]).flatten) nl1).same
      have e1 : (List.replicate ((n : Int) - ((r.map V.int).length : Int)).toNat [V.int 0]).flatten = (List.replicate (n - r.length) (0 : Int)).map V.int := by
        rw [List.length_map, show ((n : Int) - (r.length : Int)).toNat = n - r.length by omega]
        induction (n - r.length) with
        | zero => rfl
        | succ m ih => rw [List.replicate_succ, List.replicate_succ, List.flatten_cons, ih]; rfl
      rw [e1] at s1 ⊢
      have el1 : (upd (upd H l0 (.lst [.int 0])) l1 (.lst ((List.replicate (n - r.length) (0 : Int)).map V.int))) l1 = some (.lst ((List.replicate (n - r.length) (0 : Int)).map V.int)) := upd_same
      generalize upd (upd H l0 (.lst [.int 0])) l1 (.lst ((List.replicate (n - r.length) (0 : Int)).map V.int)) = H1 at s1 el1 ⊢
      refine ⟨a, l1, _, _, rfl, rfl, s1 _ _ ha, el1, by rw [List.length_map, List.length_map, List.length_replicate]; omega, fun l2 nl2 => ?_⟩
      rw [← List.map_append]
      have lp : (r ++ List.replicate (n - r.length) (0 : Int)).length ≤ 200000 := by rw [List.length_append, List.length_replicate]; omega
      have eF := laidF_cons (r := r) (n := n) d0
      generalize r ++ List.replicate (n - r.length) (0 : Int) = pad at lp eF ⊢
      have s2 := s1.trans (Kp.new (ps := []) (o := HO.lst (pad.map V.int)) nl2).same
      have el2 : (upd H1 l2 (.lst (pad.map V.int))) l2 = some (.lst (pad.map V.int)) := upd_same
      generalize upd H1 l2 (.lst (pad.map V.int)) = H2 at s2 el2 ⊢
      refine ⟨.ref l2, rfl, _, rfl, _, rfl, l2, _, rfl, sq_at el2, fun l3 nl3 => ?_⟩
      rw [show cutV (pad.map V.int) none (some (n : Int)) = (pad.take n).map V.int from cut_O pad (some n)]
      have t3 := (Kp.new (ps := []) (o := HO.lst ((pad.take n).map V.int)) nl3).same
      have el3 : (upd H2 l3 (.lst ((pad.take n).map V.int))) l3 = some (.lst ((pad.take n).map V.int)) := upd_same
      generalize upd H2 l3 (.lst ((pad.take n).map V.int)) = H3 at t3 el3 ⊢
      have s3 := s2.trans t3
      refine ⟨.ref b, rfl, b, _, rfl, .inl (sq_at (s3 _ _ hb)), fun l4 nl4 => ?_⟩
      have t4 := (Kp.new (ps := []) (o := HO.lst (ds.map V.int)) nl4).same
      have el4 : (upd H3 l4 (.lst (ds.map V.int))) l4 = some (.lst (ds.map V.int)) := upd_same
      generalize upd H3 l4 (.lst (ds.map V.int)) = H4 at t4 el4 ⊢
      have lt : (pad.take n).length ≤ 200000 := by rw [List.length_take]; omega
      refine ⟨l3, l4, _, _, rfl, rfl, t4 _ _ el3, el4, by rw [List.length_map, List.length_map]; omega, fun l5 nl5 => ?_⟩
      rw [← List.map_append]
      have t5 := (Kp.new (ps := []) (o := HO.lst ((pad.take n ++ ds).map V.int)) nl5).same
      have el5 : (upd H4 l5 (.lst ((pad.take n ++ ds).map V.int))) l5 = some (.lst ((pad.take n ++ ds).map V.int)) := upd_same
      generalize upd H4 l5 (.lst ((pad.take n ++ ds).map V.int)) = H5 at t5 el5 ⊢
      have s5 := (t3.trans t4).trans t5
      refine ⟨.ref l2, rfl, .int n, rfl, .ref b, rfl, b, _, rfl, .inl (sq_at ((t4.trans t5) _ _ (s3 _ _ hb))), _, _, rfl, rfl, _, rfl, l2, _, rfl, sq_at (s5 _ _ el2), fun l6 nl6 => ?_⟩
      rw [List.length_map, show ((n : Int) + (ds.length : Int)) = ((n + ds.length : Nat) : Int) from rfl, drop_cut]
      have t6 := (Kp.new (ps := []) (o := HO.lst ((pad.drop (n + ds.length)).map V.int)) nl6).same
      refine ⟨l5, l6, _, _, rfl, rfl, t6 _ _ el5, upd_same, by rw [List.length_map, List.length_map, List.length_append, List.length_drop]; omega, fun l7 nl7 => ?_⟩
      rw [← List.map_append]
      have s6 := (s2.trans s5).trans t6
      exact q _ l7 (s6.free nl7) (by rw [eF]; exact upd_same) (s6.trans (Kp.new (ps := []) nl7).same)

theorem ok_ldevice (T : Tx K mg) : FnOk P w K mg base CX0 1 T.f_ldevice T.fd_ldevice P_ldevice (spDeviceS) := by
  have sz : sizeLine = 16777216 := sizeLine_eq
  refine T.D_ldevice.F.ok sc_ldevice (fun vs H Q E h => ?_) (fun cdv A outer s H vs Q E hr h => ?_)
  · obtain ⟨a, b, r, ps, R, rfl, _⟩ := h
    rfl
  · obtain ⟨a, b, r, ps, R, rfl, hS, q⟩ := h
    refine ⟨_, (pss_one (ps_ret (pe_disp (pps_cons pe_str (pe_callTy call_list_of (by rfl) T.m_list (by decide +kernel) (pa_cons (pv 0) pa_nil)) (pps_cons pe_str pe_int (pps_cons pe_str (pe_callTy call_list_of (by rfl) T.m_list (by decide +kernel) (pa_cons (pv 1) pa_nil)) (pps_cons pe_str (pe_lst pa_nil) pps_nil)))) (by rfl) (by rfl) (fun z => by cases z) (by decide)))), ?_⟩
    intro d nl_
    generalize hG_ : upd _ d _ = H
    have hS := Sat.alloc hS nl_ hG_
    clear nl_ hG_
    refine ⟨.ref a, rfl, a, _, rfl, .inl (sq_at (hS.get (by walk_at "pu"))), ?_⟩
    intro rw nl_
    generalize hG_ : upd _ rw _ = H
    have hS := Sat.alloc hS nl_ hG_
    clear nl_ hG_
    refine ⟨.ref b, rfl, b, _, rfl, .inl (sq_at (hS.get (by walk_at "pu"))), ?_⟩
    intro pl nl_
    generalize hG_ : upd _ pl _ = H
    have hS := Sat.alloc hS nl_ hG_
    clear nl_ hG_
    refine ⟨Nat.zero_le _, ?_⟩
    intro no nl_
    generalize hG_ : upd _ no _ = H
    have hS := Sat.alloc hS nl_ hG_
    clear nl_ hG_
    refine ⟨(hS.get (by walk_at "pu")), mK rw pl no 0, rfl, by show (4 : Nat) ≤ 15; decide, ?_⟩
    generalize hG_ : upd _ d _ = H
    have hS := Sat.put (a := d) (hS.pk (by walk_at "pk")) hG_
    clear hG_
    have hS := Sat.nts0 (q := no) (hS.pk (by walk_at "pk"))
    rw [show mergeK [] (mK rw pl no 0) = mK rw pl no 0 by unfold mK; kernel_rfl] at hS
    have hS : Sat H (.pt d (.dK (mK rw pl no 0)) :: .pt rw (.lst (r.map V.int)) :: .pt pl (.lst (ps.map V.int)) :: ntsK no [] [] :: .pt a (.lst (r.map V.int)) :: .pt b (.lst (ps.map V.int)) :: R) := (hS.pk (by walk_at "pk"))
    exact q _ d (Sat.modI (S := dst0 true r ps) hS)

theorem ok_lasked (T : Tx K mg) : FnOk P w K mg base CX0 2 T.f_lasked T.fd_lasked P_lasked (spAskedS) := by
  have G_llaid := (ok_llaid (P := P) (w := w) (base := base) T).imp fun _ _ _ _ => spLaidS.to
  have sz : sizeLine = 16777216 := sizeLine_eq
  refine T.D_lasked.F.ok sc_lasked (fun vs H Q E h => ?_) (fun cdv A outer s H vs Q E hr h => ?_)
  · obtain ⟨m, S, a, hv, ks, R, rfl, _⟩ := h
    rfl
  · obtain ⟨m, S, a, hv, ks, R, rfl, hS, uo, l1, l2, l3, l4, ao, q⟩ := h
    refine ⟨_, (pss_cons (ps_set (i := 3) sc_lasked.nd rfl (.inl rfl) (pe_op op_pow pe_int pe_int))
      (C8.pss_cut (ps_if (pt_cmpR op_lt (pe_callB call_len_seq (by rfl) T.m_len PySem.boot_len (pa_cons (pe_dget (hu_of hr) (pv 0) pe_str (fun _ _ => rfl)) pa_nil)) (pe_callB call_len_seq (by rfl) T.m_len PySem.boot_len (pa_cons (pe_dget (hu_of hr) (pv 0) pe_str (fun _ _ => rfl)) pa_nil)) (nomark _)) (pss_one (ps_set (i := 3) sc_lasked.nd rfl (.inl rfl) (pe_ix ix_list (pe_dget (hu_of hr) (pv 0) pe_str (fun _ _ => rfl)) (pe_callB call_len_seq (by rfl) T.m_len PySem.boot_len (pa_cons (pe_dget (hu_of hr) (pv 0) pe_str (fun _ _ => rfl)) pa_nil)) (fun _ _ => rfl)))) pss_nil)
      (pss_cons (ps_set (i := 4) sc_lasked.nd rfl (.inl rfl) (pe_dget (hu_of hr) (pv 0) pe_str (fun _ _ => rfl)))
      (pss_cons (ps_set (i := 5) sc_lasked.nd rfl (.inl rfl) pe_int)
      (C8.pss_cut (ps_if (pt_cmpR op_lt (pv 3) pe_int (nomark _)) (pss_one (ps_set (i := 5) sc_lasked.nd rfl (.inl rfl) pe_str)) (pss_one (ps_if (PW.pt (pw_and (pt_cmpR op_eq (pv 3) pe_int (nomark _)) (pw_and1 (pt_cmpR op_in_seq (pv 1) (pe_lst (pa_cons pe_str (pa_cons pe_str pa_nil))) rfl)))) (pss_one (ps_set (i := 5) sc_lasked.nd rfl (.inl rfl) pe_str)) (pss_one (ps_if (pt_cmpR op_eq (pv 1) pe_str (nomark _)) (pss_cons (ps_set (i := 5) sc_lasked.nd rfl (.inl rfl) (pe_slice sl_list (pe_dget (hu_of hr) (pv 0) pe_str (fun _ _ => rfl)) (po_some (pv 4)) (po_some (pe_op op_add (pv 4) (pe_callB (call_min2 rfl) (by rfl) T.m_min (by decide +kernel) (pa_cons (pv 2) (pa_cons (pv 3) pa_nil)))))))
      (pss_one (ps_asg (pe_op op_add (pv 4) (pe_callB call_len_seq (by rfl) T.m_len PySem.boot_len (pa_cons (pv 5) pa_nil))) (pg_sub (pv 0) pe_str (set_dict (hu_of hr)))))) (pss_one (ps_if (pt_cmpR op_eq (pv 1) pe_str (nomark _)) (pss_cons (ps_set (i := 5) sc_lasked.nd rfl (.inl rfl) (pe_callB (call_min2 rfl) (by rfl) T.m_min (by decide +kernel) (pa_cons (pe_callB call_len_seq (by rfl) T.m_len PySem.boot_len (pa_cons (pv 2) pa_nil)) (pa_cons (pv 3) pa_nil))))
      (pss_cons (ps_asg (pe_call G_llaid (hr.mono (by decide)) (by rfl) T.D_llaid.g T.D_llaid.F.kp T.bb_llaid .nil pass0 (pa_cons (pe_dget (hu_of hr) (pv 0) pe_str (fun _ _ => rfl)) (pa_cons (pv 4) (pa_cons (pe_slice sl_list (pv 2) po_none (po_some (pv 5))) pa_nil)))) (pg_sub (pv 0) pe_str (set_dict (hu_of hr))))
      (pss_one (ps_asg (pe_op op_add (pv 4) (pv 5)) (pg_sub (pv 0) pe_str (set_dict (hu_of hr))))))) (pss_one (ps_if (pt_cmpR op_eq (pv 1) pe_str (nomark _)) (pss_one (ps_asg (pv 2) (pg_sub (pv 0) pe_str (set_dict (hu_of hr))))) (pss_one (ps_asg (pe_slice sl_list (pe_dget (hu_of hr) (pv 0) pe_str (fun _ _ => rfl)) po_none (po_some (pv 2))) (pg_sub (pv 0) pe_str (set_dict (hu_of hr))))))))))))))
      (pss_cons (ps_expr (pe_bm PySem.F.plainAttrs_list PySem.F.slot_list_append PySem.F.type_list_append mt_append (pe_dget (hu_of hr) (pv 0) pe_str (fun _ _ => rfl)) (pa_cons (pe_tup (pa_cons (pv 1) (pa_cons (pv 4) (pa_cons (pv 2) (pa_cons (pv 5) pa_nil))))) pa_nil)))
      (pss_one (ps_ret (pv 5))))))))), ?_⟩
    obtain ⟨rw, pl, no, hS⟩ := hS.mod
    have eN := uo.plan
    have hm0 : H m = some (.dK (mK rw pl no S.spot)) := (hS.get (by walk_at "pu"))
    have hp0 : H pl = some (.lst (S.plan.map V.int)) := (hS.get (by walk_at "pu"))
    obtain ⟨nv, nG, hn0, N0⟩ := hS.ntsk (q := no) (by walk_at "pu")
    have ln := N0.len
    refine ⟨_, _, rfl, rfl, ⟨by decide, by decide, by decide⟩, ?_⟩
    refine ⟨fun σ' H' => σ' = [some (V.ref m), some (V.str a.w), some hv, some (V.int (numF S)), none, none] ∧ H' = H, ?_, fun σ' H' hm => ?_⟩
    · refine ⟨.ref m, rfl, m, .ref no, rfl, mget hm0 (mK_notes _ _ _ _), no, _, rfl, .inl (sq_at hn0), .ref m, rfl, m, .ref pl, rfl, mget hm0 (mK_plan _ _ _ _), pl, _, rfl, .inl (sq_at hp0), _, _, rfl, rfl, _, rfl, ?_⟩
      rw [ln, List.length_map]
      by_cases h : S.ns.length < S.plan.length
      · refine iteTc (decide_eq_true (by omega)) ?_
        have ek := List.getElem?_eq_getElem h
        refine ⟨.ref m, rfl, m, .ref pl, rfl, mget hm0 (mK_plan _ _ _ _), .ref m, rfl, m, .ref no, rfl, mget hm0 (mK_notes _ _ _ _), no, _, rfl, .inl (sq_at hn0), pl, _, _, .int (S.plan[S.ns.length]), rfl, rfl, sq_at hp0, ?_, ?_⟩
        · rw [ln]; exact at_map ek
        · exact ⟨by rw [numF_some (eN.trans ek)]; rfl, rfl⟩
      · refine iteFc (decide_eq_false (by omega)) ?_
        exact ⟨by rw [numF_none (eN.trans (List.getElem?_eq_none (by omega)))]; rfl, rfl⟩
    obtain ⟨rfl, rfl⟩ := hm
    refine ⟨.ref m, rfl, m, .int S.spot, rfl, mget hm0 (mK_spot _ _ _ _), ?_⟩
    refine ⟨fun σ' H' => ∃ rw' cv, σ' = [some (V.ref m), some (V.str a.w), some hv, some (V.int (numF S)), some (V.int S.spot), some cv] ∧ Sat H' (.pt m (.dK (mK rw' pl no (doneS S a).spot)) :: .pt rw' (.lst ((doneS S a).cells.map V.int)) :: .pt pl (.lst (S.plan.map V.int)) :: ntsK no S.ns ks :: tgC hv a.h :: tgC cv (cameT S a) :: R) ∧ TgV cv (cameT S a), ?_, fun σ' H' hm => ?_⟩
    · clear hn0 N0 ln hp0 eN
      refine ⟨.int (numF S), rfl, _, _, rfl, rfl, _, rfl, ?_⟩
      by_cases hb : numF S < 0
      · refine iteTc (decide_eq_true hb) ?_
        obtain ⟨e1, e2⟩ := done_bad (a := a) hb
        refine ⟨rw, _, rfl, ?_, ?_⟩
        · rw [e1, e2, noteS_cells, noteS_spot]
          have hS := hS.tgs (Str.ofString "fault")
          exact (hS.pk (by walk_at "pk"))
        · rw [e2]; rfl
      refine iteFc (decide_eq_false hb) ?_
      obtain ⟨e1, e2⟩ := done_good (a := a) hb
      rw [e1, e2]
      clear e1 e2
      refine ⟨.int (numF S), rfl, rfl, _, rfl, ?_⟩
      cases a with
      | take n =>
        simp only [Ask.h] at hS
        obtain ⟨ev, hT⟩ := Sat.tgiE (n := n) (v := hv) (hS.pk (by walk_at "pk"))
        clear hS
        subst ev
        have hS := hT
        clear hT
        by_cases h0 : numF S = 0
        · refine iteTc (decide_eq_true (by rw [h0])) ?_
          refine ⟨_, rfl, by show (2 : Nat) ≤ sizeLine; omega, ?_⟩
          intro lt nl_
          generalize hG_ : upd _ lt _ = H
          have hS := Sat.alloc hS nl_ hG_
          clear nl_ hG_
          refine ⟨lt, _, rfl, .inl (sq_at (hS.get (by walk_at "pu"))), rfl, rfl, _, rfl, iteTc in_take ?_⟩
          obtain ⟨g1, g2, g3⟩ := good_take0 (may_zero h0 n)
          rw [g1, g2, g3]
          have hS := (hS.tgs (Str.ofString "stall")).tgi n
          refine ⟨rw, _, rfl, ?_, rfl⟩
          simp only [Ask.h]
          exact (hS.pk (by walk_at "pk"))
        · refine iteFc (decide_eq_false (fun z => h0 (V.int.inj z))) (iteF ?_)
          have hm := may_pos hb h0 ao.1
          obtain ⟨g1, g2, g3⟩ := good_take1 (S := S) (n := n) (by omega)
          rw [g1, g2, g3]
          refine ⟨_, rfl, rfl, _, rfl, iteTc (decide_eq_true rfl) ?_⟩
          refine ⟨.ref m, rfl, m, .ref rw, rfl, mget hm0 (mK_row _ _ _ _), .int S.spot, rfl, _, rfl, .int S.spot, rfl, .int n, rfl, .int (numF S), rfl, _, _, rfl, _, _, rfl, rfl, _, rfl, rw, _, rfl, sq_at (hS.get (by walk_at "pu")), ?_⟩
          rw [num_may ao.2, take_cutV S n hm]
          intro z nl_
          generalize hG_ : upd _ z _ = H
          have hS := Sat.alloc hS nl_ hG_
          clear nl_ hG_
          refine ⟨_, rfl, .ref z, rfl, z, _, rfl, .inl (sq_at (hS.get (by walk_at "pu"))), _, _, rfl, rfl, .ref m, rfl, m, _, rfl, mput (kvs := mK rw pl no (S.spot + (takenF S n).length)) (hS.get (by walk_at "pu")) (by rw [List.length_map]; exact mK_pspot rw pl no S.spot (S.spot + (takenF S n).length)), ?_⟩
          generalize hG_ : upd _ m _ = H
          have hS := Sat.put (a := m) (hS.pk (by walk_at "pk")) hG_
          clear hG_
          have hS := Sat.tgi n (Sat.tgl (a := z) (hS.pk (by walk_at "pk")))
          refine ⟨rw, _, rfl, ?_, z, rfl⟩
          simp only [Ask.h]
          exact (hS.pk (by walk_at "pk"))
      | put ds =>
        simp only [Ask.h] at hS
        obtain ⟨d, ev, hT⟩ := Sat.tgE (xs := ds) (v := hv) (hS.pk (by walk_at "pk"))
        clear hS
        subst ev
        have hS := hT
        clear hT
        by_cases h0 : numF S = 0
        · refine iteTc (decide_eq_true (by rw [h0])) ?_
          refine ⟨_, rfl, by show (2 : Nat) ≤ sizeLine; omega, ?_⟩
          intro lt nl_
          generalize hG_ : upd _ lt _ = H
          have hS := Sat.alloc hS nl_ hG_
          clear nl_ hG_
          refine ⟨lt, _, rfl, .inl (sq_at (hS.get (by walk_at "pu"))), rfl, rfl, _, rfl, iteTc in_put ?_⟩
          obtain ⟨g1, g2, g3⟩ := good_put0 (put_zero h0 ds)
          rw [g1, g2, g3]
          have hS := hS.tgs (Str.ofString "stall")
          have hS := Sat.tgl (a := d) (hS.pk (by walk_at "pk"))
          refine ⟨rw, _, rfl, ?_, rfl⟩
          simp only [Ask.h]
          exact (hS.pk (by walk_at "pk"))
        · refine iteFc (decide_eq_false (fun z => h0 (V.int.inj z))) (iteF ?_)
          have hl : 1 ≤ ds.length := by
            have := ao.1
            cases ds with
            | nil => exact absurd rfl this
            | cons x xs => show 1 ≤ xs.length + 1; omega
          have hm := may_pos hb h0 hl
          have hk : mayF S (ds.length : Int) = (putN S ds : Int) := (Int.toNat_of_nonneg (Int.le_of_lt hm)).symm
          obtain ⟨g1, g2, g3⟩ := good_put1 (S := S) (ds := ds) (by omega)
          rw [g1, g2, g3]
          refine ⟨_, rfl, rfl, _, rfl, iteFc w_put_take ?_⟩
          refine ⟨_, rfl, rfl, _, rfl, iteTc (decide_eq_true rfl) ?_⟩
          refine ⟨.ref d, rfl, d, _, rfl, .inl (sq_at (hS.get (by walk_at "pu"))), .int (numF S), rfl, _, _, rfl, ?_⟩
          rw [List.length_map, num_may (by have := ao.2; omega), hk]
          refine ⟨.ref m, rfl, m, .ref rw, rfl, mget hm0 (mK_row _ _ _ _), .int S.spot, rfl, .ref d, rfl, .int (putN S ds), rfl, _, rfl, d, _, rfl, sq_at (hS.get (by walk_at "pu")), ?_⟩
          rw [show cutV (ds.map V.int) none (some (putN S ds : Int)) = (ds.take (putN S ds)).map V.int from cut_O ds (some (putN S ds))]
          intro z nl_
          generalize hG_ : upd _ z _ = H
          have hS := Sat.alloc hS nl_ hG_
          clear nl_ hG_
          refine ⟨rw, z, S.cells, ds.take (putN S ds), S.spot, _, rfl, hS, (hS.get (by walk_at "pu")), (hS.get (by walk_at "pu")), by omega, by omega, by rw [List.length_take]; have := ao.2; omega, fun H rw' hS => ?_⟩
          refine ⟨.ref m, rfl, m, _, rfl, mput (hS.get (by walk_at "pu")) (mK_prow rw pl no rw' S.spot), ?_⟩
          generalize hG_ : upd _ m _ = H
          have hS := Sat.put (a := m) (hS.pk (by walk_at "pk")) hG_
          clear hG_
          refine ⟨_, rfl, _, rfl, _, _, rfl, rfl, .ref m, rfl, m, _, rfl, mput (kvs := mK rw' pl no (S.spot + putN S ds)) (hS.get (by walk_at "pu")) (mK_pspot rw' pl no S.spot (S.spot + putN S ds)), ?_⟩
          generalize hG_ : upd _ m _ = H
          have hS := Sat.put (a := m) (hS.pk (by walk_at "pk")) hG_
          clear hG_
          have hS := hS.tgi (putN S ds)
          have hS := Sat.tgl (a := d) (hS.pk (by walk_at "pk"))
          refine ⟨rw', _, rfl, ?_, rfl⟩
          simp only [Ask.h]
          exact (hS.pk (by walk_at "pk"))
      | go n =>
        simp only [Ask.h] at hS
        obtain ⟨ev, hT⟩ := Sat.tgiE (n := n) (v := hv) (hS.pk (by walk_at "pk"))
        clear hS
        subst ev
        have hS := hT
        clear hT
        obtain ⟨g1, g2, g3⟩ := good_go (S := S) (n := n)
        rw [g1, g2, g3]
        by_cases h0 : numF S = 0
        · refine iteTc (decide_eq_true (by rw [h0])) ?_
          refine ⟨_, rfl, by show (2 : Nat) ≤ sizeLine; omega, ?_⟩
          intro lt nl_
          generalize hG_ : upd _ lt _ = H
          have hS := Sat.alloc hS nl_ hG_
          clear nl_ hG_
          refine ⟨lt, _, rfl, .inl (sq_at (hS.get (by walk_at "pu"))), rfl, rfl, _, rfl, iteFc in_go ?_⟩
          refine ⟨_, rfl, rfl, _, rfl, iteFc w_go_take ?_⟩
          refine ⟨_, rfl, rfl, _, rfl, iteFc w_go_put ?_⟩
          refine ⟨_, rfl, rfl, _, rfl, iteTc (decide_eq_true rfl) ?_⟩
          refine ⟨_, rfl, .ref m, rfl, m, _, rfl, mput (hS.get (by walk_at "pu")) (mK_pspot rw pl no S.spot n), ?_⟩
          generalize hG_ : upd _ m _ = H
          have hS := Sat.put (a := m) (hS.pk (by walk_at "pk")) hG_
          clear hG_
          have hS := (hS.tgi 0).tgi n
          refine ⟨rw, _, rfl, ?_, rfl⟩
          simp only [Ask.h]
          exact (hS.pk (by walk_at "pk"))
        · refine iteFc (decide_eq_false (fun z => h0 (V.int.inj z))) (iteF ?_)
          refine ⟨_, rfl, rfl, _, rfl, iteFc w_go_take ?_⟩
          refine ⟨_, rfl, rfl, _, rfl, iteFc w_go_put ?_⟩
          refine ⟨_, rfl, rfl, _, rfl, iteTc (decide_eq_true rfl) ?_⟩
          refine ⟨_, rfl, .ref m, rfl, m, _, rfl, mput (hS.get (by walk_at "pu")) (mK_pspot rw pl no S.spot n), ?_⟩
          generalize hG_ : upd _ m _ = H
          have hS := Sat.put (a := m) (hS.pk (by walk_at "pk")) hG_
          clear hG_
          have hS := (hS.tgi 0).tgi n
          refine ⟨rw, _, rfl, ?_, rfl⟩
          simp only [Ask.h]
          exact (hS.pk (by walk_at "pk"))
      | cut n =>
        simp only [Ask.h] at hS
        obtain ⟨ev, hT⟩ := Sat.tgiE (n := n) (v := hv) (hS.pk (by walk_at "pk"))
        clear hS
        subst ev
        have hS := hT
        clear hT
        obtain ⟨g1, g2, g3⟩ := good_cut (S := S) (n := n)
        rw [g1, g2, g3]
        by_cases h0 : numF S = 0
        · refine iteTc (decide_eq_true (by rw [h0])) ?_
          refine ⟨_, rfl, by show (2 : Nat) ≤ sizeLine; omega, ?_⟩
          intro lt nl_
          generalize hG_ : upd _ lt _ = H
          have hS := Sat.alloc hS nl_ hG_
          clear nl_ hG_
          refine ⟨lt, _, rfl, .inl (sq_at (hS.get (by walk_at "pu"))), rfl, rfl, _, rfl, iteFc in_cut ?_⟩
          refine ⟨_, rfl, rfl, _, rfl, iteFc w_cut_take ?_⟩
          refine ⟨_, rfl, rfl, _, rfl, iteFc w_cut_put ?_⟩
          refine ⟨_, rfl, rfl, _, rfl, iteFc w_cut_go ?_⟩
          refine ⟨.ref m, rfl, m, .ref rw, rfl, mget (hS.get (by walk_at "pu")) (mK_row _ _ _ _), .int n, rfl, _, rfl, rw, _, rfl, sq_at (hS.get (by walk_at "pu")), ?_⟩
          rw [show cutV (S.cells.map V.int) none (some (n : Int)) = (S.cells.take n).map V.int from cut_O S.cells (some n)]
          intro z nl_
          generalize hG_ : upd _ z _ = H
          have hS := Sat.alloc hS nl_ hG_
          clear nl_ hG_
          refine ⟨.ref m, rfl, m, _, rfl, mput (hS.get (by walk_at "pu")) (mK_prow rw pl no z S.spot), ?_⟩
          generalize hG_ : upd _ m _ = H
          have hS := Sat.put (a := m) (hS.pk (by walk_at "pk")) hG_
          clear hG_
          have hS := (hS.tgi 0).tgi n
          refine ⟨z, _, rfl, ?_, rfl⟩
          simp only [Ask.h]
          exact (hS.pk (by walk_at "pk"))
        · refine iteFc (decide_eq_false (fun z => h0 (V.int.inj z))) (iteF ?_)
          refine ⟨_, rfl, rfl, _, rfl, iteFc w_cut_take ?_⟩
          refine ⟨_, rfl, rfl, _, rfl, iteFc w_cut_put ?_⟩
          refine ⟨_, rfl, rfl, _, rfl, iteFc w_cut_go ?_⟩
          refine ⟨.ref m, rfl, m, .ref rw, rfl, mget (hS.get (by walk_at "pu")) (mK_row _ _ _ _), .int n, rfl, _, rfl, rw, _, rfl, sq_at (hS.get (by walk_at "pu")), ?_⟩
          rw [show cutV (S.cells.map V.int) none (some (n : Int)) = (S.cells.take n).map V.int from cut_O S.cells (some n)]
          intro z nl_
          generalize hG_ : upd _ z _ = H
          have hS := Sat.alloc hS nl_ hG_
          clear nl_ hG_
          refine ⟨.ref m, rfl, m, _, rfl, mput (hS.get (by walk_at "pu")) (mK_prow rw pl no z S.spot), ?_⟩
          generalize hG_ : upd _ m _ = H
          have hS := Sat.put (a := m) (hS.pk (by walk_at "pk")) hG_
          clear hG_
          have hS := (hS.tgi 0).tgi n
          refine ⟨z, _, rfl, ?_, rfl⟩
          simp only [Ask.h]
          exact (hS.pk (by walk_at "pk"))
    · obtain ⟨rw', cv, rfl, hS, tv⟩ := hm
      obtain ⟨h1, h2, h3, h4, h5⟩ := doneS_used S a
      obtain ⟨vs, ev, lv, k⟩ := Sat.note (n := ⟨a.w, S.spot, a.h, cameT S a⟩) (q := no) (hv := hv) (cv := cv) (hS.pk (by walk_at "pk")) ⟨askw_ok a, askh_ok a, came_ok S a⟩
      refine ⟨.ref m, rfl, m, .ref no, rfl, mget (hS.get (by walk_at "pu")) (mK_notes _ _ _ _), .inl ⟨rfl, _, sq_at ev⟩, _, rfl, _, rfl, _, rfl, _, rfl, by show (4 : Nat) ≤ sizeLine; omega, fun t nt => ?_⟩
      refine ⟨no, vs, .ref t, rfl, rfl, by rw [upd_ne (ne_of_none ev nt)]; exact ev, by omega, ?_⟩
      generalize hG : upd (upd _ t _) no _ = H
      have hS := k t H nt hG
      clear hG
      refine ⟨_, rfl, q _ cv (Sat.modI (rw := rw') (pl := pl) (no := no) ?_) tv⟩
      rw [h2, h5]
      exact (hS.pk (by walk_at "pk"))

theorem ok_ldeed (T : Tx K mg) : FnOk P w K mg base CX0 3 T.f_ldeed T.fd_ldeed P_ldeed (spDeedS) := by
  have G_take := (ok_take (P := P) (w := w) (base := base) T).imp fun _ _ _ _ => spTakeS.to
  have G_lrow := (ok_lrow (P := P) (w := w) (base := base) T).imp fun _ _ _ _ => spRowS.to
  have sz : sizeLine = 16777216 := sizeLine_eq
  refine T.D_ldeed.F.ok sc_ldeed (fun vs H Q E h => ?_) (fun cdv A outer s H vs Q E hr h => ?_)
  · obtain ⟨p, m, n, S, ks, R, rfl, _⟩ := h
    rfl
  · obtain ⟨p, m, n, S, ks, R, rfl, hS, n9, lc, q⟩ := h
    refine ⟨_, (pss_cons (ps_set (i := 2) sc_ldeed.nd rfl (.inl rfl) (pe_call G_take (hr.mono (by decide)) (by rfl) T.D_take.g T.D_take.F.kp T.bb_take .nil pass0 (pa_cons (pv 0) (pa_cons pe_int pa_nil))))
      (pss_cons (ps_if (pt_cmpR op_lt (pv 2) pe_int (nomark _)) (pss_one (ps_ret (pe_tup (pa_cons pe_str (pa_cons (pe_op op_add pe_int (pe_call G_take (hr.mono (by decide)) (by rfl) T.D_take.g T.D_take.F.kp T.bb_take .nil pass0 (pa_cons (pv 0) (pa_cons (pe_ix ix_list (pe_lst (pa_cons pe_int (pa_cons pe_int (pa_cons pe_int pa_nil)))) (pe_call G_take (hr.mono (by decide)) (by rfl) T.D_take.g T.D_take.F.kp T.bb_take .nil pass0 (pa_cons (pv 0) (pa_cons pe_int pa_nil))) (fun _ _ => rfl)) pa_nil)))) pa_nil))))) pss_nil)
      (pss_cons (ps_if (pt_cmpR op_lt (pv 2) pe_int (nomark _)) (pss_one (ps_ret (pe_tup (pa_cons pe_str (pa_cons (pe_op op_cat (pe_call G_lrow (hr.mono (by decide)) (by rfl) T.D_lrow.g T.D_lrow.F.kp T.bb_lrow .nil pass0 (pa_cons (pv 0) (pa_cons pe_int pa_nil))) (pe_lst (pa_cons (pe_call G_take (hr.mono (by decide)) (by rfl) T.D_take.g T.D_take.F.kp T.bb_take .nil pass0 (pa_cons (pv 0) (pa_cons pe_int pa_nil))) pa_nil))) pa_nil))))) pss_nil)
      (pss_cons (ps_if (pt_cmpR op_eq (pv 2) pe_int (nomark _)) (pss_one (ps_ret (pe_tup (pa_cons pe_str (pa_cons (pe_call G_take (hr.mono (by decide)) (by rfl) T.D_take.g T.D_take.F.kp T.bb_take .nil pass0 (pa_cons (pv 0) (pa_cons (pe_op op_add (pe_callB call_len_seq (by rfl) T.m_len PySem.boot_len (pa_cons (pe_dget (hu_of hr) (pv 1) pe_str (fun _ _ => rfl)) pa_nil)) pe_int) pa_nil))) pa_nil))))) pss_nil)
      (pss_one (ps_ret (pe_tup (pa_cons pe_str (pa_cons (pe_call G_take (hr.mono (by decide)) (by rfl) T.D_take.g T.D_take.F.kp T.bb_take .nil pass0 (pa_cons (pv 0) (pa_cons (pe_op op_add (pe_callB call_len_seq (by rfl) T.m_len PySem.boot_len (pa_cons (pe_dget (hu_of hr) (pv 1) pe_str (fun _ _ => rfl)) pa_nil)) pe_int) pa_nil))) pa_nil))))))))), ?_⟩
    refine ⟨.ref p, rfl, p, n, 8, _, rfl, (hS.pk (by walk_at "pk")), by omega, by decide, by decide, fun r H r1 hS => ?_⟩
    refine ⟨.int r, rfl, _, _, rfl, rfl, _, rfl, ite2 (fun _ => ?_) (fun _ => ?_)⟩
    · refine ⟨.ref p, rfl, by show (3 : Nat) ≤ sizeLine; omega, ?_⟩
      intro l nl_
      generalize hG_ : upd _ l _ = H
      have hS := Sat.alloc hS nl_ hG_
      clear nl_ hG_
      refine ⟨.ref p, rfl, p, _, 3, _, rfl, (hS.pk (by walk_at "pk")), by omega, by decide, by decide, fun r2 H r3 hS => ?_⟩
      obtain ⟨v, mv, ev, _⟩ := atI_int (ms := [3, 9, 400]) (i := r2) (by omega) r3
      have vb : 1 ≤ v ∧ v ≤ 400 := (show ∀ y ∈ ([3, 9, 400] : List Int), 1 ≤ y ∧ y ≤ 400 by decide) v mv
      refine ⟨l, [.int 3, .int 9, .int 400], r2, .int v, rfl, rfl, sq_at (hS.get (by walk_at "pu")), ev, p, _, v, _, rfl, (hS.pk (by walk_at "pk")), by omega, by omega, by omega, fun r4 H r5 hS => ?_⟩
      refine ⟨_, _, rfl, rfl, by show (2 : Nat) ≤ sizeLine; omega, ?_⟩
      intro t nl_
      generalize hG_ : upd _ t _ = H
      have hS := Sat.alloc hS nl_ hG_
      clear nl_ hG_
      have hS := Sat.tgi (1 + (r4 : Int)) (Sat.poolup (p := p) (m := n + 2000) (hS.pk (by walk_at "pk")) (by omega))
      refine q _ t (.take (1 + r4)) (.int (1 + (r4 : Int))) ?_ ⟨by omega, by omega⟩
      show Sat H (.pt t (.tup [.str (Str.ofString "take"), .int (1 + (r4 : Int))]) :: poolC p (n + 2000) :: modC m S ks :: tgC (.int (1 + (r4 : Int))) (.i (1 + (r4 : Int))) :: R)
      exact (hS.pk (by walk_at "pk"))
    refine ⟨.int r, rfl, _, _, rfl, rfl, _, rfl, ite2 (fun _ => ?_) (fun _ => ?_)⟩
    · refine ⟨.ref p, rfl, p, _, 9, _, rfl, (hS.pk (by walk_at "pk")), by omega, by decide, by decide, fun H b bs hS lb _ => ?_⟩
      refine ⟨.ref p, rfl, p, _, 256, _, rfl, (hS.pk (by walk_at "pk")), by omega, by decide, by decide, fun r2 H r3 hS => ?_⟩
      refine ⟨by show (1 : Nat) ≤ sizeLine; omega, ?_⟩
      intro l nl_
      generalize hG_ : upd _ l _ = H
      have hS := Sat.alloc hS nl_ hG_
      clear nl_ hG_
      refine ⟨b, l, _, _, rfl, rfl, (hS.get (by walk_at "pu")), (hS.get (by walk_at "pu")), by rw [List.length_map]; show _ + 1 ≤ _; omega, ?_⟩
      rw [show bs.map V.int ++ [V.int (r2 : Int)] = (bs ++ [(r2 : Int)]).map V.int by rw [List.map_append]; rfl]
      intro z nl_
      generalize hG_ : upd _ z _ = H
      have hS := Sat.alloc hS nl_ hG_
      clear nl_ hG_
      refine ⟨by show (2 : Nat) ≤ sizeLine; omega, ?_⟩
      intro t nl_
      generalize hG_ : upd _ t _ = H
      have hS := Sat.alloc hS nl_ hG_
      clear nl_ hG_
      have hS := Sat.poolup (p := p) (m := n + 2000) (hS.pk (by walk_at "pk")) (by omega)
      have hS := Sat.tgl (a := z) (hS.pk (by walk_at "pk"))
      refine q _ t (.put (bs ++ [(r2 : Int)])) (.ref z) ?_ ⟨by simp, by rw [List.length_append]; show _ + 1 ≤ _; omega⟩
      simp only [Ask.h, Ask.w]
      exact (hS.pk (by walk_at "pk"))
    obtain ⟨rw, pl, no, hM⟩ := Sat.mod (m := m) (hS.pk (by walk_at "pk"))
    refine ⟨.int r, rfl, rfl, _, rfl, ite2 (fun _ => ?_) (fun _ => ?_)⟩
    · refine ⟨.ref p, rfl, .ref m, rfl, m, .ref rw, rfl, mget (hM.get (by walk_at "pu")) (mK_row _ _ _ _), rw, _, rfl, .inl (sq_at (hM.get (by walk_at "pu"))), _, _, rfl, rfl, p, _, _, _, rfl, (hS.pk (by walk_at "pk")), by omega, by omega, by rw [List.length_map]; omega, fun r2 H r3 hS => ?_⟩
      rw [List.length_map] at r3
      refine ⟨by show (2 : Nat) ≤ sizeLine; omega, ?_⟩
      intro t nl_
      generalize hG_ : upd _ t _ = H
      have hS := Sat.alloc hS nl_ hG_
      clear nl_ hG_
      have hS := Sat.tgi (r2 : Int) (Sat.poolup (p := p) (m := n + 2000) (hS.pk (by walk_at "pk")) (by omega))
      refine q _ t (.go r2) (.int r2) ?_ (by show r2 ≤ _; omega)
      simp only [Ask.h, Ask.w]
      exact (hS.pk (by walk_at "pk"))
    · refine ⟨.ref p, rfl, .ref m, rfl, m, .ref rw, rfl, mget (hM.get (by walk_at "pu")) (mK_row _ _ _ _), rw, _, rfl, .inl (sq_at (hM.get (by walk_at "pu"))), _, _, rfl, rfl, p, _, _, _, rfl, (hS.pk (by walk_at "pk")), by omega, by omega, by rw [List.length_map]; omega, fun r2 H r3 hS => ?_⟩
      rw [List.length_map] at r3
      refine ⟨by show (2 : Nat) ≤ sizeLine; omega, ?_⟩
      intro t nl_
      generalize hG_ : upd _ t _ = H
      have hS := Sat.alloc hS nl_ hG_
      clear nl_ hG_
      have hS := Sat.tgi (r2 : Int) (Sat.poolup (p := p) (m := n + 2000) (hS.pk (by walk_at "pk")) (by omega))
      refine q _ t (.cut r2) (.int r2) ?_ (by show r2 ≤ _; omega)
      simp only [Ask.h, Ask.w]
      exact (hS.pk (by walk_at "pk"))

theorem ok_lanswer (T : Tx K mg) : FnOk P w K mg base CX0 3 T.f_lanswer T.fd_lanswer P_lanswer (spAnswerS) := by
  have G_lasked := ok_lasked (P := P) (w := w) (base := base) T
  have sz : sizeLine = 16777216 := sizeLine_eq
  refine T.D_lanswer.F.ok sc_lanswer (fun vs H Q E h => ?_) (fun cdv A outer s H vs Q E hr h => ?_)
  · obtain ⟨m, S, a, hv, ks, R, rfl, _⟩ := h
    rfl
  · obtain ⟨m, S, a, hv, ks, R, rfl, hS, uo, l1, l2, l3, l4, ao, q⟩ := h
    refine ⟨_, (pss_cons (ps_set (i := 3) sc_lanswer.nd rfl (.inl rfl) (pe_call G_lasked (hr.mono (by decide)) (by rfl) T.D_lasked.g T.D_lasked.F.kp T.bb_lasked .nil pass0 (pa_cons (pv 0) (pa_cons (pv 1) (pa_cons (pv 2) pa_nil)))))
      (pss_cons (ps_if (pt_cmpR (op_eqD hr.units) (pv 3) pe_str (nomark _)) (pss_one (ps_ret (pe_tup (pa_cons pe_str (pa_cons (pe_op op_sub pe_int (pe_ix ix_list (pe_dget (hu_of hr) (pv 0) pe_str (fun _ _ => rfl)) (pe_op op_sub (pe_callB call_len_seq (by rfl) T.m_len PySem.boot_len (pa_cons (pe_dget (hu_of hr) (pv 0) pe_str (fun _ _ => rfl)) pa_nil)) pe_int) (fun _ _ => rfl))) pa_nil))))) pss_nil)
      (pss_cons (ps_if (PW.pt (pw_or (pt_cmpR (op_eqD hr.units) (pv 3) pe_str (nomark _)) (pw_or1 (pt_cmpR op_in_seq (pv 1) (pe_lst (pa_cons pe_str (pa_cons pe_str pa_nil))) rfl)))) (pss_one (ps_ret (pe_tup (pa_cons pe_str (pa_cons pe_non pa_nil))))) pss_nil)
      (pss_one (ps_ret (pe_tup (pa_cons pe_str (pa_cons (pv 3) pa_nil)))))))), ?_⟩
    refine ⟨.ref m, rfl, _, rfl, _, rfl, m, S, a, hv, ks, R, rfl, hS, uo, l1, l2, l3, l4, ao, fun H cv hS tv => ?_⟩
    have hD := hS.camed (K := K) .hd tv
    have hok := came_ok S a
    refine ⟨_, rfl, _, _, hD, .str _, tg_shaped hok, fstr_shaped, _, rfl, ?_⟩
    rw [eqv_fault]
    have uo' := uo.done a
    obtain ⟨h1, h2, h3, h4, h5⟩ := doneS_used S a
    cases hb : badN S with
    | true =>
      refine iteT ?_
      obtain ⟨k, ek, hk⟩ := badN_iff.mp hb
      have eP := uo.plan
      rw [ek] at eP
      obtain ⟨il, ei⟩ := List.getElem?_eq_some_iff.mp eP.symm
      obtain ⟨rw, pl, no, hM⟩ := hS.mod
      obtain ⟨nv, nG, hn0, N0⟩ := hM.ntsk (q := no) (by walk_at "pu")
      have ln := N0.len
      rw [h5, List.length_append] at ln
      have ln : nv.length = S.ns.length + 1 := ln
      refine ⟨.ref m, rfl, m, .ref pl, rfl, mget (hM.get (by walk_at "pu")) (mK_plan _ _ _ _), .ref m, rfl, m, .ref no, rfl, mget (hM.get (by walk_at "pu")) (mK_notes _ _ _ _), no, _, rfl, .inl (sq_at hn0), _, _, rfl, rfl, pl, _, _, .int k, rfl, rfl, sq_at (hM.get (by walk_at "pu")), ?_, ?_⟩
      · rw [h2, ln, show ((S.ns.length + 1 : Nat) : Int) - 1 = (S.ns.length : Int) by omega]
        exact at_map eP.symm
      refine ⟨_, _, rfl, rfl, by show (2 : Nat) ≤ sizeLine; omega, ?_⟩
      intro t nl_
      generalize hG_ : upd _ t _ = H
      have hS := Sat.alloc hS nl_ hG_
      clear nl_ hG_
      refine q _ t cv ?_ tv
      rw [show ansW S = Str.ofString "fault" from if_pos hb, show ansV S a cv = .int (0 - k) by unfold ansV; rw [if_pos hb, numF_some ek]; congr 1; omega]
      exact (hS.pk (by walk_at "pk"))
    | false =>
      refine iteF ?_
      have fin : ∀ v, v = okV S a cv → ∀ H t, Sat H (.pt t (.tup [.str (Str.ofString "told"), v]) :: modC m (doneS S a) (kn hv a.h ++ (kn cv (cameT S a) ++ ks)) :: R) → Q (.ref t) H := fun v ev H t hS => by
        refine q H t cv ?_ tv
        rw [show ansW S = Str.ofString "told" from if_neg (by rw [hb]; simp), show ansV S a cv = v by unfold ansV; rw [if_neg (by rw [hb]; simp), ev]]
        exact hS
      refine ⟨_, rfl, _, _, hD, .str _, tg_shaped hok, sstr_shaped, _, rfl, ?_⟩
      rw [eqv_stall hb]
      cases a with
      | take n =>
        by_cases h0 : mayF S n = 0
        · refine iteTc (decide_eq_true h0) (iteT ?_)
          refine ⟨by show (2 : Nat) ≤ sizeLine; omega, ?_⟩
          intro t nl_
          generalize hG_ : upd _ t _ = H
          have hS := Sat.alloc hS nl_ hG_
          clear nl_ hG_
          exact fin .non (if_pos h0).symm _ t (hS.pk (by walk_at "pk"))
        · refine iteFc (decide_eq_false h0) ?_
          refine ⟨_, rfl, by show (2 : Nat) ≤ sizeLine; omega, ?_⟩
          intro lt nl_
          generalize hG_ : upd _ lt _ = H
          have hS := Sat.alloc hS nl_ hG_
          clear nl_ hG_
          refine ⟨lt, _, rfl, .inl (sq_at (hS.get (by walk_at "pu"))), rfl, rfl, _, rfl, iteFc in_tgo ?_⟩
          refine ⟨_, rfl, by show (2 : Nat) ≤ sizeLine; omega, ?_⟩
          intro t nl_
          generalize hG_ : upd _ t _ = H
          have hS := Sat.alloc hS nl_ hG_
          clear nl_ hG_
          exact fin cv (if_neg h0).symm _ t (hS.pk (by walk_at "pk"))
      | put ds =>
        by_cases h0 : putN S ds = 0
        · refine iteTc (decide_eq_true h0) (iteT ?_)
          refine ⟨by show (2 : Nat) ≤ sizeLine; omega, ?_⟩
          intro t nl_
          generalize hG_ : upd _ t _ = H
          have hS := Sat.alloc hS nl_ hG_
          clear nl_ hG_
          exact fin .non (if_pos h0).symm _ t (hS.pk (by walk_at "pk"))
        · refine iteFc (decide_eq_false h0) ?_
          refine ⟨_, rfl, by show (2 : Nat) ≤ sizeLine; omega, ?_⟩
          intro lt nl_
          generalize hG_ : upd _ lt _ = H
          have hS := Sat.alloc hS nl_ hG_
          clear nl_ hG_
          refine ⟨lt, _, rfl, .inl (sq_at (hS.get (by walk_at "pu"))), rfl, rfl, _, rfl, iteFc in_pgo ?_⟩
          refine ⟨_, rfl, by show (2 : Nat) ≤ sizeLine; omega, ?_⟩
          intro t nl_
          generalize hG_ : upd _ t _ = H
          have hS := Sat.alloc hS nl_ hG_
          clear nl_ hG_
          exact fin cv (if_neg h0).symm _ t (hS.pk (by walk_at "pk"))
      | go n =>
        refine iteFc rfl ?_
        refine ⟨_, rfl, by show (2 : Nat) ≤ sizeLine; omega, ?_⟩
        intro lt nl_
        generalize hG_ : upd _ lt _ = H
        have hS := Sat.alloc hS nl_ hG_
        clear nl_ hG_
        refine ⟨lt, _, rfl, .inl (sq_at (hS.get (by walk_at "pu"))), rfl, rfl, _, rfl, iteTc in_ggo ?_⟩
        refine ⟨by show (2 : Nat) ≤ sizeLine; omega, ?_⟩
        intro t nl_
        generalize hG_ : upd _ t _ = H
        have hS := Sat.alloc hS nl_ hG_
        clear nl_ hG_
        exact fin .non rfl _ t (hS.pk (by walk_at "pk"))
      | cut n =>
        refine iteFc rfl ?_
        refine ⟨_, rfl, by show (2 : Nat) ≤ sizeLine; omega, ?_⟩
        intro lt nl_
        generalize hG_ : upd _ lt _ = H
        have hS := Sat.alloc hS nl_ hG_
        clear nl_ hG_
        refine ⟨lt, _, rfl, .inl (sq_at (hS.get (by walk_at "pu"))), rfl, rfl, _, rfl, iteTc in_cgo ?_⟩
        refine ⟨by show (2 : Nat) ≤ sizeLine; omega, ?_⟩
        intro t nl_
        generalize hG_ : upd _ t _ = H
        have hS := Sat.alloc hS nl_ hG_
        clear nl_ hG_
        exact fin .non rfl _ t (hS.pk (by walk_at "pk"))

theorem ok_ltold (T : Tx K mg) : FnOk P w K mg base CX0 6 T.f_ltold T.fd_ltold P_ltold (spToldS T.C_Device) := by
  have G_dtake := (ok_dtake (P := P) (w := w) (base := base) T).imp fun _ _ _ _ => spTakeDS.to
  have G_dput := (ok_dput (P := P) (w := w) (base := base) T).imp fun _ _ _ _ => spPutDS.to
  have G_dgo := (ok_dgo (P := P) (w := w) (base := base) T).imp fun _ _ _ _ => spGoDS.to
  have G_dcut := (ok_dcut (P := P) (w := w) (base := base) T).imp fun _ _ _ _ => spCutDS.to
  have sz : sizeLine = 16777216 := sizeLine_eq
  refine T.D_ltold.F.ok sc_ltold (fun vs H Q E h => ?_) (fun cdv A outer s H vs Q E hr h => ?_)
  · obtain ⟨d, S, a, hv, R, rfl, _⟩ := h
    rfl
  · obtain ⟨d, S, a, hv, R, rfl, hS, hh, ok, hb, hs, fo, q⟩ := h
    refine ⟨_, (pss_cons (ps_set (i := 3) sc_ltold.nd rfl (.inl rfl) (pe_tup (pa_cons pe_str (pa_cons pe_non pa_nil))))
      (pss_cons (ps_try_as (i := 4) rfl rfl sc_ltold.nd rfl rfl ⟨rfl, by decide, .inl T.g_Fault⟩ takes0 (fun W pn xe tk _ => (pss_one (ps_if (pt_cmpR op_eq (pv 1) pe_str (nomark _)) (pss_one (ps_set (i := 3) sc_ltold.nd rfl (.inl rfl) (pe_tup (pa_cons pe_str (pa_cons (Sip.pe_methT (pv 0) T.cl_Device T.D_dtake.m G_dtake (hr.mono (by decide)) T.bb_dtake (fun σ => passAt tk σ) (pa_cons (pv 2) pa_nil)) pa_nil))))) (pss_one (ps_if (pt_cmpR op_eq (pv 1) pe_str (nomark _)) (pss_one (ps_set (i := 3) sc_ltold.nd rfl (.inl rfl) (pe_tup (pa_cons pe_str (pa_cons (Sip.pe_methT (pv 0) T.cl_Device T.D_dput.m G_dput (hr.mono (by decide)) T.bb_dput (fun σ => passAt tk σ) (pa_cons (pv 2) pa_nil)) pa_nil))))) (pss_one (ps_if (pt_cmpR op_eq (pv 1) pe_str (nomark _)) (pss_one (ps_set (i := 3) sc_ltold.nd rfl (.inl rfl) (pe_tup (pa_cons pe_str (pa_cons (Sip.pe_methT (pv 0) T.cl_Device T.D_dgo.m G_dgo (hr.mono (by decide)) T.bb_dgo (fun σ => passAt tk σ) (pa_cons (pv 2) pa_nil)) pa_nil))))) (pss_one (ps_set (i := 3) sc_ltold.nd rfl (.inl rfl) (pe_tup (pa_cons pe_str (pa_cons (Sip.pe_methT (pv 0) T.cl_Device T.D_dcut.m G_dcut (hr.mono (by decide)) T.bb_dcut (fun σ => passAt tk σ) (pa_cons (pv 2) pa_nil)) pa_nil)))))))))))) (fun a oe cls d pn hz hf => (pss_one (ps_set (i := 3) sc_ltold.nd rfl (.inl rfl) (pe_tup (pa_cons pe_str (pa_cons (show PE _ _ (Sip.tXf K "number" a cls d _) from Sip.pe_xf (f := "number") hz hf (pv 4)) pa_nil)))))))
      (pss_one (ps_ret (pv 3))))), ?_⟩
    refine ⟨by show (2 : Nat) ≤ sizeLine; omega, ?_⟩
    cases a with
    | take n =>
      intro t0 nl_
      generalize hG_ : upd _ t0 _ = H
      have hS := Sat.alloc hS nl_ hG_
      clear nl_ hG_
      cases (show hv = .int n from hh)
      refine ⟨_, rfl, rfl, _, rfl, iteTc (decide_eq_true rfl) ?_⟩
      refine ⟨.ref d, rfl, meth_dev (S := S) (R := _) (hS.pk (by walk_at "pk")) (by decide +kernel) ?_⟩
      refine ⟨_, rfl, d, S, n, _, rfl, (hS.pk (by walk_at "pk")), ok, hb, fun good h0 H hS => ?_, fun good h0 H z hS => ?_, fun k ek hk H fe hS => ?_⟩
      · skip
        refine ⟨by show (2 : Nat) ≤ sizeLine; omega, ?_⟩
        intro t nl_
        generalize hG_ : upd _ t _ = H
        have hS := Sat.alloc hS nl_ hG_
        clear nl_ hG_
        refine ⟨_, rfl, q _ t .non ?_⟩
        obtain ⟨e1, e2⟩ := told_good (a := .take n) good
        rw [e1, e2, toldT_take0 good h0]
        have hS := hS.toN
        simp only [toC, goodS] at hS ⊢
        exact (hS.pk (by walk_at "pk"))
      · skip
        refine ⟨by show (2 : Nat) ≤ sizeLine; omega, ?_⟩
        intro t nl_
        generalize hG_ : upd _ t _ = H
        have hS := Sat.alloc hS nl_ hG_
        clear nl_ hG_
        refine ⟨_, rfl, q _ t (.ref z) ?_⟩
        obtain ⟨e1, e2⟩ := told_good (a := .take n) good
        rw [e1, e2, toldT_take1 good h0]
        have hS := Sat.tgl (a := z) (hS.pk (by walk_at "pk"))
        simp only [toC, goodS] at hS ⊢
        exact (hS.pk (by walk_at "pk"))
      · skip
        refine ⟨true, T.te_Fault_Fault, fun _ x nx => ?_, fun h => nomatch h⟩
        refine ⟨.ref x, rfl, T.C_Fault, fe, _, .int (-k), rfl, rfl, T.e_Fault, T.n_Fault, rfl, (hS.get (by walk_at "pu")), rfl, by show (2 : Nat) ≤ sizeLine; omega, ?_⟩
        intro t nl_
        generalize hG_ : upd _ t _ = H
        have hS := Sat.alloc hS nl_ hG_
        clear nl_ hG_
        refine ⟨_, rfl, q _ t (.int (-k)) ?_⟩
        obtain ⟨e1, e2, e3⟩ := told_bad (a := .take n) ek hk
        rw [e1, e2, e3]
        have hS := hS.tgi (-k)
        simp only [toC, Ask.w, Ask.h]
        exact (hS.pk (by walk_at "pk"))
    | put ds =>
      obtain ⟨l, ev, hl⟩ := hh
      subst ev
      intro t0 nl_
      have hl : (upd H t0 (.tup [.str (Str.ofString "told"), .non])) l = some (.lst (ds.map V.int)) := by rw [upd_ne (ne_of_none hl nl_)]; exact hl
      generalize hG_ : upd _ t0 _ = H at hl ⊢
      have hS := Sat.alloc hS nl_ hG_
      clear nl_ hG_
      refine ⟨_, rfl, rfl, _, rfl, iteFc w_put_take ?_⟩
      refine ⟨_, rfl, rfl, _, rfl, iteTc (decide_eq_true rfl) ?_⟩
      refine ⟨.ref d, rfl, meth_dev (S := S) (R := _) (hS.pk (by walk_at "pk")) (by decide +kernel) ?_⟩
      refine ⟨_, rfl, d, l, S, ds, _, rfl, (hS.pk (by walk_at "pk")), hl, ok, hb, fo.2, fun good H hS => ?_, fun k ek hk H fe hS => ?_⟩
      · by_cases h0 : putN S ds = 0
        · rw [if_pos h0]
          refine ⟨by show (2 : Nat) ≤ sizeLine; omega, ?_⟩
          intro t nl_
          generalize hG_ : upd _ t _ = H
          have hS := Sat.alloc hS nl_ hG_
          clear nl_ hG_
          refine ⟨_, rfl, q _ t .non ?_⟩
          obtain ⟨e1, e2⟩ := told_good (a := .put ds) good
          rw [e1, e2, toldT_put0 good h0]
          have hS := hS.toN
          simp only [toC, goodS] at hS ⊢
          exact (hS.pk (by walk_at "pk"))
        · rw [if_neg h0]
          refine ⟨by show (2 : Nat) ≤ sizeLine; omega, ?_⟩
          intro t nl_
          generalize hG_ : upd _ t _ = H
          have hS := Sat.alloc hS nl_ hG_
          clear nl_ hG_
          refine ⟨_, rfl, q _ t (.int (putN S ds)) ?_⟩
          obtain ⟨e1, e2⟩ := told_good (a := .put ds) good
          rw [e1, e2, toldT_put1 good h0]
          have hS := hS.tgi (putN S ds)
          simp only [toC, goodS] at hS ⊢
          exact (hS.pk (by walk_at "pk"))
      · skip
        refine ⟨true, T.te_Fault_Fault, fun _ x nx => ?_, fun h => nomatch h⟩
        refine ⟨.ref x, rfl, T.C_Fault, fe, _, .int (-k), rfl, rfl, T.e_Fault, T.n_Fault, rfl, (hS.get (by walk_at "pu")), rfl, by show (2 : Nat) ≤ sizeLine; omega, ?_⟩
        intro t nl_
        generalize hG_ : upd _ t _ = H
        have hS := Sat.alloc hS nl_ hG_
        clear nl_ hG_
        refine ⟨_, rfl, q _ t (.int (-k)) ?_⟩
        obtain ⟨e1, e2, e3⟩ := told_bad (a := .put ds) ek hk
        rw [e1, e2, e3]
        have hS := hS.tgi (-k)
        simp only [toC, Ask.w, Ask.h]
        exact (hS.pk (by walk_at "pk"))
    | go n =>
      intro t0 nl_
      generalize hG_ : upd _ t0 _ = H
      have hS := Sat.alloc hS nl_ hG_
      clear nl_ hG_
      cases (show hv = .int n from hh)
      refine ⟨_, rfl, rfl, _, rfl, iteFc w_go_take ?_⟩
      refine ⟨_, rfl, rfl, _, rfl, iteFc w_go_put ?_⟩
      refine ⟨_, rfl, rfl, _, rfl, iteTc (decide_eq_true rfl) ?_⟩
      refine ⟨.ref d, rfl, meth_dev (S := S) (R := _) (hS.pk (by walk_at "pk")) (by decide +kernel) ?_⟩
      refine ⟨_, rfl, d, S, n, _, rfl, (hS.pk (by walk_at "pk")), ok, hb, hs, fo, fun good H hS => ?_, fun k ek hk H fe hS => ?_⟩
      · skip
        refine ⟨by show (2 : Nat) ≤ sizeLine; omega, ?_⟩
        intro t nl_
        generalize hG_ : upd _ t _ = H
        have hS := Sat.alloc hS nl_ hG_
        clear nl_ hG_
        refine ⟨_, rfl, q _ t .non ?_⟩
        obtain ⟨e1, e2⟩ := told_good (a := .go n) good
        rw [e1, e2, toldT_go good]
        have hS := hS.toN
        simp only [toC, goodS] at hS ⊢
        exact (hS.pk (by walk_at "pk"))
      · skip
        refine ⟨true, T.te_Fault_Fault, fun _ x nx => ?_, fun h => nomatch h⟩
        refine ⟨.ref x, rfl, T.C_Fault, fe, _, .int (-k), rfl, rfl, T.e_Fault, T.n_Fault, rfl, (hS.get (by walk_at "pu")), rfl, by show (2 : Nat) ≤ sizeLine; omega, ?_⟩
        intro t nl_
        generalize hG_ : upd _ t _ = H
        have hS := Sat.alloc hS nl_ hG_
        clear nl_ hG_
        refine ⟨_, rfl, q _ t (.int (-k)) ?_⟩
        obtain ⟨e1, e2, e3⟩ := told_bad (a := .go n) ek hk
        rw [e1, e2, e3]
        have hS := hS.tgi (-k)
        simp only [toC, Ask.w, Ask.h]
        exact (hS.pk (by walk_at "pk"))
    | cut n =>
      intro t0 nl_
      generalize hG_ : upd _ t0 _ = H
      have hS := Sat.alloc hS nl_ hG_
      clear nl_ hG_
      cases (show hv = .int n from hh)
      refine ⟨_, rfl, rfl, _, rfl, iteFc w_cut_take ?_⟩
      refine ⟨_, rfl, rfl, _, rfl, iteFc w_cut_put ?_⟩
      refine ⟨_, rfl, rfl, _, rfl, iteFc w_cut_go ?_⟩
      refine ⟨.ref d, rfl, meth_dev (S := S) (R := _) (hS.pk (by walk_at "pk")) (by decide +kernel) ?_⟩
      refine ⟨_, rfl, d, S, n, _, rfl, (hS.pk (by walk_at "pk")), ok, hb, hs, fo, fun good H hS => ?_, fun k ek hk H fe hS => ?_⟩
      · skip
        refine ⟨by show (2 : Nat) ≤ sizeLine; omega, ?_⟩
        intro t nl_
        generalize hG_ : upd _ t _ = H
        have hS := Sat.alloc hS nl_ hG_
        clear nl_ hG_
        refine ⟨_, rfl, q _ t .non ?_⟩
        obtain ⟨e1, e2⟩ := told_good (a := .cut n) good
        rw [e1, e2, toldT_cut good]
        have hS := hS.toN
        simp only [toC, goodS] at hS ⊢
        exact (hS.pk (by walk_at "pk"))
      · skip
        refine ⟨true, T.te_Fault_Fault, fun _ x nx => ?_, fun h => nomatch h⟩
        refine ⟨.ref x, rfl, T.C_Fault, fe, _, .int (-k), rfl, rfl, T.e_Fault, T.n_Fault, rfl, (hS.get (by walk_at "pu")), rfl, by show (2 : Nat) ≤ sizeLine; omega, ?_⟩
        intro t nl_
        generalize hG_ : upd _ t _ = H
        have hS := Sat.alloc hS nl_ hG_
        clear nl_ hG_
        refine ⟨_, rfl, q _ t (.int (-k)) ?_⟩
        obtain ⟨e1, e2, e3⟩ := told_bad (a := .cut n) ek hk
        rw [e1, e2, e3]
        have hS := hS.tgi (-k)
        simp only [toC, Ask.w, Ask.h]
        exact (hS.pk (by walk_at "pk"))

theorem ok_lspoil (T : Tx K mg) : FnOk P w K mg base CX0 1 T.f_lspoil T.fd_lspoil P_lspoil (spSpoilS) := by
  have sz : sizeLine = 16777216 := sizeLine_eq
  refine T.D_lspoil.F.ok sc_lspoil (fun vs H Q E h => ?_) (fun cdv A outer s H vs Q E hr h => ?_)
  · obtain ⟨z, w, m0, zs, R, rfl, _⟩ := h
    rfl
  · obtain ⟨z, w, m0, zs, R, rfl, hS, hz, lm, q⟩ := h
    refine ⟨_, (pss_one (ps_if (pt_cmpR op_eq (pv 1) pe_int (nomark _)) (pss_one (ps_expr (pe_bm0 PySem.F.plainAttrs_list PySem.F.slot_list_clear PySem.F.type_list_clear mt_clear (pv 0)))) (pss_one (ps_if (pt_cmpR op_eq (pv 1) pe_int (nomark _)) (pss_one (ps_expr (pe_bm PySem.F.plainAttrs_list PySem.F.slot_list_append PySem.F.type_list_append mt_append (pv 0) (pa_cons pe_int pa_nil)))) (pss_one (ps_if (pt_cmpR op_eq (pv 1) pe_int (nomark _)) (pss_one (ps_expr (pe_bm0 PySem.F.plainAttrs_list PySem.F.slot_list_reverse PySem.F.type_list_reverse mt_reverse (pv 0)))) (pss_one (ps_if (pt_cmpR op_gt (pe_callB call_len_seq (by rfl) T.m_len PySem.boot_len (pa_cons (pv 0) pa_nil)) pe_int (nomark _)) (pss_one (ps_asg pe_int (pg_sub (pv 0) pe_int set_list))) pss_nil)))))))), ?_⟩
    obtain ⟨xs, ex, lx, k⟩ := hS.jkE hz
    refine ⟨_, rfl, rfl, _, rfl, ite2 (fun _ => ?_) (fun _ => ?_)⟩
    · exact ⟨.ref z, rfl, .inl ⟨rfl, _, sq_at ex⟩, z, _, rfl, rfl, ex, q _ (k [] _ (Nat.zero_le _) rfl)⟩
    refine ⟨_, rfl, rfl, _, rfl, ite2 (fun _ => ?_) (fun _ => ?_)⟩
    · exact ⟨.ref z, rfl, .inl ⟨rfl, _, sq_at ex⟩, z, _, _, rfl, rfl, ex, by omega, q _ (k _ _ (by rw [List.length_append]; show _ + 1 ≤ _; omega) rfl)⟩
    refine ⟨_, rfl, rfl, _, rfl, ite2 (fun _ => ?_) (fun _ => ?_)⟩
    · exact ⟨.ref z, rfl, .inl ⟨rfl, _, sq_at ex⟩, z, _, rfl, rfl, ex, q _ (k _ _ (by rw [List.length_reverse]; omega) rfl)⟩
    refine ⟨.ref z, rfl, z, _, rfl, .inl (sq_at ex), _, _, rfl, rfl, _, rfl, ite2 (fun e => ?_) (fun _ => ?_)⟩
    · have lp : (0 : Int) < xs.length := of_decide_eq_true e
      refine ⟨.ref z, rfl, z, xs, _, 0, rfl, rfl, ex, ixN_zero (by omega), q _ (k _ _ (by rw [List.length_set]; omega) rfl)⟩
    · exact q _ (hS.jkup (by omega))

theorem ok_llogrows (T : Tx K mg) : FnOk P w K mg base CX0 4 T.f_llogrows T.fd_llogrows P_llogrows (spLogRowsS T.C_Device) := by
  have G_dlog := (ok_dlog (P := P) (w := w) (base := base) T).imp fun _ _ _ _ => spLogDS.to
  have sz : sizeLine = 16777216 := sizeLine_eq
  refine T.D_llogrows.F.ok sc_llogrows (fun vs H Q E h => ?_) (fun cdv A outer s H vs Q E hr h => ?_)
  · obtain ⟨d, S, m, R, rfl, _⟩ := h
    rfl
  · obtain ⟨d, S, m, R, rfl, hS, ok, hB, q⟩ := h
    refine ⟨_, (pss_cons (ps_set (i := 1) sc_llogrows.nd rfl (.inl rfl) (pe_lst pa_nil))
      (pss_cons (ps_for PassesOwn.never rfl (pi_list (pe_meth0 (pv 0) T.cl_Device T.D_dlog.m G_dlog (hr.mono (by decide)) T.bb_dlog .nil pass0)) (pg_tup rfl (pgs_cons (pg_name (i := 2) sc_llogrows.nd rfl (.inl rfl)) (pgs_cons (pg_name (i := 3) sc_llogrows.nd rfl (.inl rfl)) (pgs_cons (pg_name (i := 4) sc_llogrows.nd rfl (.inl rfl)) (pgs_cons (pg_name (i := 5) sc_llogrows.nd rfl (.inl rfl)) pgs_nil))))) (pss_one (ps_expr (pe_bm PySem.F.plainAttrs_list PySem.F.slot_list_extend PySem.F.type_list_extend mt_extend (pv 1) (pa_cons (pe_lc (own := [("_law_one", 6)]) (g := gName 6) (by rfl) sc_llogrows.nd (pi_list (pe_lst (pa_cons (pv 4) (pa_cons (pv 5) pa_nil)))) (blkOk_by (own := [("_law_one", 6)]) (N := N_llogrows) (sc := defScope s_llogrows) (by decide +kernel)) (fun _ _ _ _ _ => pg_name (i := 6) sc_llogrows.nd rfl (Or.inl rfl)) (fun _ _ _ _ _ => (pts_one (pt_val (pe_callB (id := "isinstance") (r := rIsi K) call_isi (by rfl) T.m_isinstance (by decide +kernel) (pa_cons (pv 6) (pa_cons (pe_bltn (v := .ty "list") (by rfl) T.m_list (by decide +kernel) rfl) pa_nil)))))) (fun _ _ _ _ _ => (pv 6))) pa_nil)))))
      (pss_one (ps_ret (pv 1))))), ?_⟩
    refine ⟨Nat.zero_le _, ?_⟩
    intro f nl_
    generalize hG_ : upd _ f _ = H
    have hS := Sat.alloc hS nl_ hG_
    clear nl_ hG_
    refine ⟨.ref d, rfl, meth_dev (S := S) (R := _) (hS.pk (by walk_at "pk")) (by decide +kernel) ?_⟩
    refine ⟨d, S, _, rfl, (hS.pk (by walk_at "pk")), ok, fun H lg hS => ?_⟩
    obtain ⟨M, vs, G, hS, eM, N⟩ := hS.ntsf
    refine ⟨lg, rfl, ⟨_, sq_at (hS.fr (by walk_at "pu") eM)⟩, ?_⟩
    have ln := N.len
    refine for_list (K := K) (a := lg) (xs := vs) (fun i σ H' => ∃ (zs : List Addr) (y2 y3 y4 y5 y6 : Option V), σ = [some (.ref d), some (.ref f), y2, y3, y4, y5, y6] ∧ Sat H' (frC M :: .pt f (.lst (zs.map V.ref)) :: devC T.C_Device d S :: R) ∧ zs.length ≤ 2 * i ∧ ∀ z ∈ zs, ∃ xs, M z = some (.lst xs) ∧ xs.length ≤ m) ⟨[], none, none, none, none, none, rfl, (show Sat _ (frC M :: .pt f (.lst []) :: devC T.C_Device d S :: R) from (hS.pk (by walk_at "pk"))), by simp, fun z hz => by cases hz⟩ (fun i σ H' _ h => by obtain ⟨zs, _, _, _, _, _, _, hS, _⟩ := h; exact sq_at (hS.fr (by walk_at "pu") eM)) (fun i x σ H' hx hW => ?_) (fun σ H' hW => ?_)
    · obtain ⟨zs, y2, y3, y4, y5, y6, rfl, hS, lz, hz⟩ := hW
      obtain ⟨n, en, t, hv, cv, rfl, gt, ht, h1, h2, _⟩ := N.at hx
      have il := (List.getElem?_eq_some_iff.mp hx).1
      obtain ⟨b1, b2⟩ := hB n (List.mem_of_getElem? en)
      obtain ⟨z1, e1, l1, k1⟩ := tg_cases h1 b1
      obtain ⟨z2, e2, l2, k2⟩ := tg_cases h2 b2
      have hl1 : isL n.h = false → z1 = [] := fun e => by
        cases hh : n.h with
        | l xs => rw [hh] at e; cases e
        | i k => rw [hh] at e1; exact List.map_eq_nil_iff.mp e1.symm
        | s k => rw [hh] at e1; exact List.map_eq_nil_iff.mp e1.symm
      have hl2 : isL n.c = false → z2 = [] := fun e => by
        cases hh : n.c with
        | l xs => rw [hh] at e; cases e
        | i k => rw [hh] at e2; exact List.map_eq_nil_iff.mp e2.symm
        | s k => rw [hh] at e2; exact List.map_eq_nil_iff.mp e2.symm
      have hm1 : isL n.h = true → z1.map V.ref = [hv] := fun e => by
        cases hh : n.h with
        | l xs => rw [hh] at e1; exact e1.symm
        | i k => rw [hh] at e; cases e
        | s k => rw [hh] at e; cases e
      have hm2 : isL n.c = true → z2.map V.ref = [cv] := fun e => by
        cases hh : n.c with
        | l xs => rw [hh] at e2; exact e2.symm
        | i k => rw [hh] at e; cases e
        | s k => rw [hh] at e; cases e
      have hf := fun b o e => hS.fr (M := M) (b := b) (o := o) .hd e
      refine ⟨t, _, rfl, .inl (.inl (hf _ _ ht)), rfl, ?_⟩
      refine ⟨_, _, rfl, _, _, rfl, _, _, rfl, _, _, rfl, rfl, ?_⟩
      refine ⟨_, rfl, .inl ⟨rfl, _, sq_at (hS.get (by walk_at "pu"))⟩, _, rfl, _, rfl, by show (2 : Nat) ≤ sizeLine; omega, ?_⟩
      intro l2 nl_
      generalize hG_ : upd _ l2 _ = H
      have hS := Sat.alloc hS nl_ hG_
      clear nl_ hG_
      refine ⟨l2, rfl, ⟨_, sq_at (hS.get (by walk_at "pu"))⟩, fun D nD => ?_⟩
      have hD := hS.alloc (o := .lst []) nD rfl
      refine lc_list (K := K) (a := l2) (xs := [hv, cv]) (fun j H2 => ∃ ys, Sat H2 (.pt D (.lst (ys.map V.ref)) :: .pt l2 (.lst [hv, cv]) :: frC M :: .pt f (.lst (zs.map V.ref)) :: devC T.C_Device d S :: R) ∧ ys = (if j = 0 then [] else if j = 1 then z1 else z1 ++ z2)) ⟨[], (show Sat _ (.pt D (.lst []) :: _) from hD), rfl⟩ (fun j H2 _ hh => by obtain ⟨ys, hS, _⟩ := hh; exact sq_at (hS.get (by walk_at "pu"))) (fun j y H2 hy hh => ?_) (fun H2 hh => ?_)
      · obtain ⟨ys, hS, ey⟩ := hh
        have hf := fun b o e => hS.fr (M := M) (b := b) (o := o) (by walk_at "pu") e
        have j2 := (List.getElem?_eq_some_iff.mp hy).1
        rcases (show j = 0 ∨ j = 1 by have : j < 2 := j2; omega) with rfl | rfl
        · cases (show some hv = some y from hy)
          rw [show ys = [] from ey] at hS
          have hS : Sat H2 (.pt D (.lst []) :: _) := hS
          obtain ⟨u, hty, hki⟩ := isl_ty (K := K) h1 hf
          refine ⟨rfl, _, rfl, hv, .ty "list", u, _, isL n.h, rfl, .ty "list", hty, hki, _, rfl, ?_⟩
          cases hh : isL n.h with
          | true =>
            refine iteT ⟨_, rfl, [], (hS.get (by walk_at "pu")), by show 0 < sizeLine; omega, ?_⟩
            generalize hG_ : upd _ D _ = H
            have hS := Sat.put (a := D) (hS.pk (by walk_at "pk")) hG_
            clear hG_
            have hS : Sat _ (.pt D (.lst [hv]) :: _) := hS
            exact ⟨z1, (by rw [hm1 hh]; exact (hS.pk (by walk_at "pk"))), rfl⟩
          | false => exact iteF ⟨[], (show Sat H2 (.pt D (.lst []) :: _) from hS), (hl1 hh).symm⟩
        · cases (show some cv = some y from hy)
          rw [show ys = z1 from ey] at hS
          obtain ⟨u, hty, hki⟩ := isl_ty (K := K) h2 hf
          refine ⟨rfl, _, rfl, cv, .ty "list", u, _, isL n.c, rfl, .ty "list", hty, hki, _, rfl, ?_⟩
          cases hh : isL n.c with
          | true =>
            refine iteT ⟨_, rfl, z1.map V.ref, (show H2 D = some (.lst (z1.map V.ref)) from (hS.get (by walk_at "pu"))), by rw [List.length_map]; omega, ?_⟩
            generalize hG_ : upd _ D _ = H
            have hS := Sat.put (a := D) (hS.pk (by walk_at "pk")) hG_
            clear hG_
            exact ⟨z1 ++ z2, (by rw [List.map_append, hm2 hh]; exact (hS.pk (by walk_at "pk"))), rfl⟩
          | false => exact iteF ⟨z1, (hS.pk (by walk_at "pk")), by rw [hl2 hh]; simp⟩
      · obtain ⟨ys, hS, ey⟩ := hh
        have ey : ys = z1 ++ z2 := ey
        subst ey
        refine ⟨f, D, _, _, rfl, rfl, (hS.get (by walk_at "pu")), (hS.get (by walk_at "pu")), ?_, ?_⟩
        · rw [List.length_map, List.length_map, List.length_append]
          have := ok.2.2
          omega
        rw [← List.map_append]
        generalize hG_ : upd _ f _ = H
        have hS := Sat.put (a := f) (hS.pk (by walk_at "pk")) hG_
        clear hG_
        refine ⟨zs ++ (z1 ++ z2), _, _, _, _, _, rfl, (hS.pk (by walk_at "pk")), ?_, fun z hz' => ?_⟩
        · rw [List.length_append, List.length_append]; omega
        · rcases List.mem_append.mp hz' with h | h
          · exact hz z h
          · rcases List.mem_append.mp h with h | h
            · exact k1 z h
            · exact k2 z h
    · obtain ⟨zs, y2, y3, y4, y5, y6, rfl, hS, lz, hz⟩ := hW
      exact ⟨_, rfl, q _ f zs (Sat.pk (Sat.frjk (hS.pk (by walk_at "pk")) hz) (by walk_at "pk")) (by omega)⟩

set_option maxHeartbeats 0 in
theorem ok_law (T : Tx K mg) : FnOk P w K mg base CX0 7 T.f_law T.fd_law P_law (spLaw K) := by
  have G_pool := (ok_pool (P := P) (w := w) (base := base) T).imp fun _ _ _ _ => spPoolS.to
  have G_take := (ok_take (P := P) (w := w) (base := base) T).imp fun _ _ _ _ => spTakeS.to
  have G_lrow := (ok_lrow (P := P) (w := w) (base := base) T).imp fun _ _ _ _ => spRowS.to
  have G_lplan := (ok_lplan (P := P) (w := w) (base := base) T).imp fun _ _ _ _ => spPlanS.to
  have G_ldevice := ok_ldevice (P := P) (w := w) (base := base) T
  have G_dinit := (ok_dinit (P := P) (w := w) (base := base) T).imp fun _ _ _ _ => spDInitS.to
  have G_ldeed := ok_ldeed (P := P) (w := w) (base := base) T
  have G_lanswer := ok_lanswer (P := P) (w := w) (base := base) T
  have G_ltold := ok_ltold (P := P) (w := w) (base := base) T
  have G_llogrows := ok_llogrows (P := P) (w := w) (base := base) T
  have G_lspoil := ok_lspoil (P := P) (w := w) (base := base) T
  have G_dcontent := (ok_dcontent (P := P) (w := w) (base := base) T).imp fun _ _ _ _ => spContDS.to
  have G_dlog := (ok_dlog (P := P) (w := w) (base := base) T).imp fun _ _ _ _ => spLogDS.to
  have G_dgrow := (ok_dgrow (P := P) (w := w) (base := base) T).imp fun _ _ _ _ => spGrowDS.to
  have sz : sizeLine = 16777216 := sizeLine_eq
  refine T.D_law.F.ok sc_law (fun vs H Q E h => ?_) (fun cdv A outer s H vs Q E hr h => ?_)
  · obtain ⟨a, ns, rfl, _⟩ := h
    rfl
  · obtain ⟨a, ns, rfl, hS, h63, q⟩ := h
    refine ⟨_, (pss_cons (ps_set (i := 1) sc_law.nd rfl (.inl rfl) (pe_call G_pool (hr.mono (by decide)) (by rfl) T.D_pool.g T.D_pool.F.kp T.bb_pool .nil pass0 (pa_cons (pv 0) (pa_cons pe_int pa_nil))))
      (pss_cons (ps_set (i := 2) sc_law.nd rfl (.inl rfl) (pe_call G_lrow (hr.mono (by decide)) (by rfl) T.D_lrow.g T.D_lrow.F.kp T.bb_lrow .nil pass0 (pa_cons (pv 1) (pa_cons pe_int pa_nil))))
      (pss_cons (ps_set (i := 3) sc_law.nd rfl (.inl rfl) (pe_call G_lplan (hr.mono (by decide)) (by rfl) T.D_lplan.g T.D_lplan.F.kp T.bb_lplan .nil pass0 (pa_cons (pv 1) (pa_cons pe_int (pa_cons (pe_call G_take (hr.mono (by decide)) (by rfl) T.D_take.g T.D_take.F.kp T.bb_take .nil pass0 (pa_cons (pv 1) (pa_cons pe_int pa_nil))) pa_nil)))))
      (pss_cons (ps_set (i := 4) sc_law.nd rfl (.inl rfl) (pe_call G_ldevice (hr.mono (by decide)) (by rfl) T.D_ldevice.g T.D_ldevice.F.kp T.bb_ldevice .nil pass0 (pa_cons (pv 2) (pa_cons (pv 3) pa_nil))))
      (pss_cons (ps_set (i := 5) sc_law.nd rfl (.inl rfl) (pe_makeK T.mk_Device G_dinit (hr.mono (by decide)) (by rfl) T.g_Device T.kb_dinit_1_plan pass0 (pa_cons (pv 2) pa_nil) (pk_cons (pv 3) pk_nil)))
      (pss_cons (ps_set (i := 6) sc_law.nd rfl (.inl rfl) (pe_lst (pa_cons (pv 2) (pa_cons (pv 3) pa_nil))))
      (pss_cons (ps_for PassesOwn.never rfl (pi_range2 (by rfl) T.m_range (pa_cons pe_int (pa_cons (pe_callB (call_max2 rfl) (by rfl) T.m_max (by decide +kernel) (pa_cons pe_int (pa_cons (pe_callB (call_min2 rfl) (by rfl) T.m_min (by decide +kernel) (pa_cons pe_int (pa_cons (pe_callB call_len_seq (by rfl) T.m_len PySem.boot_len (pa_cons (pv 0) pa_nil)) pa_nil))) pa_nil))) pa_nil))) (pg_name (i := 7) sc_law.nd rfl (.inl rfl)) (pss_cons (ps_set (i := 1) sc_law.nd rfl (.inl rfl) (pe_call G_pool (hr.mono (by decide)) (by rfl) T.D_pool.g T.D_pool.F.kp T.bb_pool .nil pass0 (pa_cons (pv 0) (pa_cons (pv 7) pa_nil))))
      (pss_cons (ps_asg (pe_call G_ldeed (hr.mono (by decide)) (by rfl) T.D_ldeed.g T.D_ldeed.F.kp T.bb_ldeed .nil pass0 (pa_cons (pv 1) (pa_cons (pv 4) pa_nil))) (pg_tup rfl (pgs_cons (pg_name (i := 8) sc_law.nd rfl (.inl rfl)) (pgs_cons (pg_name (i := 9) sc_law.nd rfl (.inl rfl)) pgs_nil))))
      (pss_cons (ps_set (i := 10) sc_law.nd rfl (.inl rfl) (pe_call G_lanswer (hr.mono (by decide)) (by rfl) T.D_lanswer.g T.D_lanswer.F.kp T.bb_lanswer .nil pass0 (pa_cons (pv 4) (pa_cons (pv 8) (pa_cons (pv 9) pa_nil)))))
      (C8.pss_cut (ps_if (pt_cmpR op_eq (pv 8) pe_str (nomark _)) (pss_cons (ps_set (i := 11) sc_law.nd rfl (.inl rfl) (pe_callTy call_list_of (by rfl) T.m_list (by decide +kernel) (pa_cons (pv 9) pa_nil)))
      (pss_cons (ps_set (i := 12) sc_law.nd rfl (.inl rfl) (pe_call G_ltold (hr.mono (by decide)) (by rfl) T.D_ltold.g T.D_ltold.F.kp T.bb_ltold .nil pass0 (pa_cons (pv 5) (pa_cons (pv 8) (pa_cons (pv 11) pa_nil)))))
      (pss_cons (ps_if (pt_cmpR (op_neI hr.units) (pv 11) (pv 9) (nomark _)) (pss_one (ps_ret pe_bl)) pss_nil)
      (pss_one (ps_expr (pe_bm PySem.F.plainAttrs_list PySem.F.slot_list_append PySem.F.type_list_append mt_append (pv 6) (pa_cons (pv 11) pa_nil))))))) (pss_one (ps_set (i := 12) sc_law.nd rfl (.inl rfl) (pe_call G_ltold (hr.mono (by decide)) (by rfl) T.D_ltold.g T.D_ltold.F.kp T.bb_ltold .nil pass0 (pa_cons (pv 5) (pa_cons (pv 8) (pa_cons (pv 9) pa_nil)))))))
      (pss_cons (ps_if (pt_cmpR (Sip.op_neS hr.units) (pv 12) (pv 10) (nomark _)) (pss_one (ps_ret pe_bl)) pss_nil)
      (C8.pss_cut (ps_if (pt_val (pe_callB (id := "isinstance") (r := rIsi K) call_isi (by rfl) T.m_isinstance (by decide +kernel) (pa_cons (pe_ix ix_tup (pv 12) pe_int (fun _ _ => rfl)) (pa_cons (pe_bltn (v := .ty "list") (by rfl) T.m_list (by decide +kernel) rfl) pa_nil)))) (pss_one (ps_expr (pe_bm PySem.F.plainAttrs_list PySem.F.slot_list_append PySem.F.type_list_append mt_append (pv 6) (pa_cons (pe_ix ix_tup (pv 12) pe_int (fun _ _ => rfl)) pa_nil)))) pss_nil)
      (C8.pss_cut (ps_if (pt_cmpR op_eq (pe_call G_take (hr.mono (by decide)) (by rfl) T.D_take.g T.D_take.F.kp T.bb_take .nil pass0 (pa_cons (pv 1) (pa_cons pe_int pa_nil))) pe_int (nomark _)) (pss_cons (ps_set (i := 13) sc_law.nd rfl (.inl rfl) (pe_call G_lrow (hr.mono (by decide)) (by rfl) T.D_lrow.g T.D_lrow.F.kp T.bb_lrow .nil pass0 (pa_cons (pv 1) (pa_cons pe_int pa_nil))))
      (pss_cons (ps_asg (pe_op op_cat (pe_dget (hu_of hr) (pv 4) pe_str (fun _ _ => rfl)) (pv 13)) (pg_sub (pv 4) pe_str (set_dict (hu_of hr))))
      (pss_cons (ps_expr (pe_meth (pv 5) T.cl_Device T.D_dgrow.m G_dgrow (hr.mono (by decide)) T.bb_dgrow .nil pass0 (pa_cons (pv 13) pa_nil)))
      (pss_one (ps_expr (pe_bm PySem.F.plainAttrs_list PySem.F.slot_list_append PySem.F.type_list_append mt_append (pv 6) (pa_cons (pv 13) pa_nil))))))) pss_nil)
      (pss_cons (ps_set (i := 6) sc_law.nd rfl (.inl rfl) (pe_op op_cat (pe_op op_cat (pv 6) (pe_lst (pa_cons (pe_meth0 (pv 5) T.cl_Device T.D_dcontent.m G_dcontent (hr.mono (by decide)) T.bb_dcontent .nil pass0) (pa_cons (pe_meth0 (pv 5) T.cl_Device T.D_dlog.m G_dlog (hr.mono (by decide)) T.bb_dlog .nil pass0) pa_nil)))) (pe_slice sl_list (pe_call G_llogrows (hr.mono (by decide)) (by rfl) T.D_llogrows.g T.D_llogrows.F.kp T.bb_llogrows .nil pass0 (pa_cons (pv 5) pa_nil)) (po_some (pe_un un_neg pe_int)) po_none)))
      (pss_cons (ps_expr (pe_call G_lspoil (hr.mono (by decide)) (by rfl) T.D_lspoil.g T.D_lspoil.F.kp T.bb_lspoil .nil pass0 (pa_cons (pe_bm PySem.F.plainAttrs_list PySem.F.slot_list_pop PySem.F.type_list_pop mt_popAt (pv 6) (pa_cons (pe_call G_take (hr.mono (by decide)) (by rfl) T.D_take.g T.D_take.F.kp T.bb_take .nil pass0 (pa_cons (pv 1) (pa_cons (pe_callB call_len_seq (by rfl) T.m_len PySem.boot_len (pa_cons (pv 6) pa_nil)) pa_nil))) pa_nil)) (pa_cons (pe_call G_take (hr.mono (by decide)) (by rfl) T.D_take.g T.D_take.F.kp T.bb_take .nil pass0 (pa_cons (pv 1) (pa_cons pe_int pa_nil))) pa_nil))))
      (pss_one (ps_if (PW.pt (pw_or (pt_cmpR (op_neI hr.units) (pe_meth0 (pv 5) T.cl_Device T.D_dcontent.m G_dcontent (hr.mono (by decide)) T.bb_dcontent .nil pass0) (pe_dget (hu_of hr) (pv 4) pe_str (fun _ _ => rfl)) (nomark _)) (pw_or1 (pt_cmpR (Sip.op_neS hr.units) (pe_meth0 (pv 5) T.cl_Device T.D_dlog.m G_dlog (hr.mono (by decide)) T.bb_dlog .nil pass0) (pe_dget (hu_of hr) (pv 4) pe_str (fun _ _ => rfl)) (nomark _))))) (pss_one (ps_ret pe_bl)) pss_nil))))))))))))
      (pss_one (ps_ret pe_bl))))))))), ?_⟩
    have hS := Sat.scr0 hS
    refine ⟨.ref a, rfl, a, ns, 0, [], rfl, hS, h63, by decide, by decide, fun p H hS => ?_⟩
    refine ⟨.ref p, rfl, p, _, 30, _, rfl, (hS.pk (by walk_at "pk")), by decide, by decide, by decide, fun H rh row hS lr _ => ?_⟩
    refine ⟨.ref p, rfl, .ref p, rfl, p, _, 4, _, rfl, (hS.pk (by walk_at "pk")), by decide, by decide, by decide, fun tr H _ hS => ?_⟩
    refine ⟨p, _, 40, tr, _, rfl, (hS.pk (by walk_at "pk")), by decide, by decide, by decide, fun H nu pl hS lp => ?_⟩
    refine ⟨.ref rh, rfl, .ref nu, rfl, rh, nu, row, pl, _, rfl, (hS.pk (by walk_at "pk")), fun H m hS => ?_⟩
    refine ⟨.ref rh, rfl, .ref nu, rfl, rfl, rfl, fun d dd nd ndd ne => ?_⟩
    generalize hG : upd (upd _ dd _) d _ = H
    have hS := Sat.make hS nd ndd ne hG
    clear hG nd ndd ne
    refine ⟨d, dd, rh, nu, true, row, pl, _, rfl, (hS.pk (by walk_at "pk")), (hS.get (by walk_at "pu")), (hS.get (by walk_at "pu")), fun H hS => ⟨rfl, ?_⟩⟩
    refine ⟨.ref rh, rfl, .ref nu, rfl, by show (2 : Nat) ≤ sizeLine; omega, ?_⟩
    intro sp nl_
    generalize hG_ : upd _ sp _ = H
    have hS := Sat.alloc hS nl_ hG_
    clear nl_ hG_
    have hS := hS.jk0 (m := 2000)
    have hS := Sat.jkapp (a := rh) (m := 2000) (zs := []) (xs := row.map V.int) (hS.pk (by walk_at "pk")) (by rw [List.length_map]; omega)
    have hS := Sat.jkapp (a := nu) (m := 2000) (zs := [] ++ [rh]) (xs := pl.map V.int) (hS.pk (by walk_at "pk")) (by rw [List.length_map]; omega)
    have L0 : Lim 0 30 35 (dst0 true row pl) := ⟨rfl, rfl, rfl, by show pl.length ≤ 400; omega, Nat.zero_le _, by show row.length ≤ 30; omega, Nat.zero_le _, fun n hn => by cases hn⟩
    have hS : Sat H [scrC K a (ns.map V.int), modC m (dst0 true row pl) [], devC T.C_Device d (dst0 true row pl), .pt sp (.lst [.ref rh, .ref nu]), jkC 2000 ([] ++ [rh] ++ [nu])] := (hS.pk (by walk_at "pk"))
    refine ⟨.ref a, rfl, a, _, rfl, .inl (hS.scr .hd), _, _, rfl, _, _, rfl, _, _, rfl, ?_, ?_⟩
    · refine ⟨by decide, by decide, ?_, ?_⟩ <;> split <;> (split <;> omega)
    have en : ∃ n : Nat, n ≤ 40 ∧ ((if (if (((ns.map V.int).length : Nat) : Int) < 41 then (((ns.map V.int).length : Nat) : Int) else 41) > 11 then (if (((ns.map V.int).length : Nat) : Int) < 41 then (((ns.map V.int).length : Nat) : Int) else 41) else 11) - 1).toNat = n := by
      refine ⟨_, ?_, rfl⟩
      split <;> (split <;> omega)
    obtain ⟨n, n40, en⟩ := en
    rw [en]
    refine for_range (lo := 1) (n := n) (fun i σ H' => ∃ (sp : Addr) (S : Dst) (zs : List Addr) (y1 y2 y3 y7 y8 y9 y10 y11 y12 y13 : Option V), σ = [some (.ref a), y1, y2, y3, some (.ref m), some (.ref d), some (.ref sp), y7, y8, y9, y10, y11, y12, y13] ∧ Sat H' [scrC K a (ns.map V.int), modC m S [], devC T.C_Device d S, .pt sp (.lst (zs.map V.ref)), jkC (2000 + i) zs] ∧ Lim i (30 + 20 * i) (35 + 20 * i) S ∧ zs.length ≤ 2 + 100 * i) ⟨sp, _, [rh, nu], _, _, _, none, none, none, none, none, none, none, rfl, hS, L0, Nat.le_refl _⟩ (fun i σ H' hi hW => ?_) (fun σ H' hW => ?_)
    · clear hS L0 en lr lp
      obtain ⟨sp, S, zs, y1, y2, y3, y7, y8, y9, y10, y11, y12, y13, rfl, hS, lim, lz⟩ := hW
      refine ⟨.ref a, rfl, _, rfl, a, ns, 1 + (i : Int), _, rfl, (hS.pk (by walk_at "pk")), h63, by omega, by omega, fun p H hS => ?_⟩
      have cl := lim.cl
      have sl := lim.sp
      have nl := lim.ns
      have pl := lim.pl
      refine ⟨.ref p, rfl, .ref m, rfl, p, m, _, S, [], _, rfl, (hS.pk (by walk_at "pk")), by omega, by omega, fun H t ak hv hS dk => ?_⟩
      refine ⟨t, _, rfl, .inl (.inl (hS.get (by walk_at "pu"))), rfl, ?_⟩
      refine ⟨_, _, rfl, _, _, rfl, rfl, ?_⟩
      have hvV := hS.tgV (v := hv) (by walk_at "pu")
      refine ⟨.ref m, rfl, _, rfl, _, rfl, m, S, ak, hv, [], _, rfl, (hS.pk (by walk_at "pk")), lim.uo, by omega, by omega, by omega, by omega, dk.ask, fun H t1 cv hS tv => ?_⟩
      have limD := lim.done dk (by omega)
      have fit := lim.fit dk (by omega) (by omega)
      have ok := lim.ok (by omega)
      generalize hks : kn hv ak.h ++ (kn cv (cameT S ak) ++ []) = ks at hS
      refine ⟨fun σ' H' => ∃ (y11 : Option V) (zs' : List Addr) (tf : Addr) (fv : V), σ' = [some (.ref a), some (.ref p), y2, y3, some (.ref m), some (.ref d), some (.ref sp), some (.int (1 + (i : Int))), some (.str ak.w), some hv, some (.ref t1), y11, some (.ref tf), y13] ∧
        Sat H' [.pt tf (.tup [.str (ansW S), fv]), toC fv (toldT S ak), devC T.C_Device d (doneS S ak), .pt t1 (.tup [.str (ansW S), ansV S ak cv]), modC m (doneS S ak) ks, poolC p (1000 * (1 + (i : Int)) + 2000), scrC K a (ns.map V.int), .pt sp (.lst (zs'.map V.ref)), jkC (2000 + i) zs'] ∧ zs'.length ≤ zs.length + 1, ?_, fun σ' H' hm => ?_⟩
      · refine ⟨_, rfl, rfl, _, rfl, ?_⟩
        by_cases hp : ∃ ds, ak = .put ds
        · obtain ⟨ds, rfl⟩ := hp
          obtain ⟨dl, rfl⟩ := hvV
          have mk : (dl, ds) ∈ ks := by rw [← hks]; exact List.mem_append_left _ (List.mem_singleton.mpr rfl)
          refine iteTc (decide_eq_true rfl) ?_
          refine ⟨_, rfl, dl, _, rfl, .inl (sq_at (hS.modget (m := m) (by walk_at "pu") mk)), ?_⟩
          intro g nl_
          generalize hG_ : upd _ g _ = H
          have hS := Sat.alloc hS nl_ hG_
          clear nl_ hG_
          refine ⟨_, rfl, _, rfl, _, rfl, d, S, .put ds, .ref g, _, rfl, (hS.pk (by walk_at "pk")), ⟨g, rfl, (hS.get (by walk_at "pu"))⟩, ok, lim.br, lim.sk, fit, fun H tf fv hS => ?_⟩
          refine ⟨_, rfl, _, rfl, g, dl, ds, ds, rfl, rfl, sq_at (hS.get (by walk_at "pu")), sq_at (hS.modget (m := m) (by walk_at "pu") mk), _, rfl, iteFc (by simp) ?_⟩
          refine ⟨_, rfl, .inl ⟨rfl, _, sq_at (hS.get (by walk_at "pu"))⟩, _, rfl, sp, _, _, rfl, rfl, (hS.get (by walk_at "pu")), by rw [List.length_map]; omega, ?_⟩
          generalize hG_ : upd _ sp _ = H
          have hS := Sat.put (a := sp) (hS.pk (by walk_at "pk")) hG_
          clear hG_
          rw [show zs.map V.ref ++ [V.ref g] = (zs ++ [g]).map V.ref by rw [List.map_append]; rfl] at hS
          have hS := Sat.jkapp (a := g) (m := 2000 + i) (zs := zs) (hS.pk (by walk_at "pk")) (by rw [List.length_map]; have := dk.2; omega)
          exact ⟨_, zs ++ [g], tf, fv, rfl, (hS.pk (by walk_at "pk")), by rw [List.length_append]; show _ + 1 ≤ _; omega⟩
        · have hp' : ∀ ds, ak ≠ .put ds := fun ds e => hp ⟨ds, e⟩
          refine iteFc (w_notput hp') ?_
          refine ⟨_, rfl, _, rfl, _, rfl, d, S, ak, hv, _, rfl, (hS.pk (by walk_at "pk")), not_put_hand hp' hvV, ok, lim.br, lim.sk, fit, fun H tf fv hS => ?_⟩
          exact ⟨_, zs, tf, fv, rfl, (hS.pk (by walk_at "pk")), by omega⟩
      obtain ⟨y11, zs', tf, fv, rfl, hS, lz'⟩ := hm
      subst hks
      refine ⟨_, rfl, _, rfl, ansD S ak, .tup (.inl (.inl (hS.get (by walk_at "pu")))) (.cons (.str _) (.cons (hS.toD (v := fv) (by walk_at "pu")) .nil)), .tup (.inl (.inl (hS.get (by walk_at "pu")))) (.cons (.str _) (.cons (due_dp hS (by walk_at "pu") tv) .nil)), ans_shaped S ak, _, rfl, iteF ?_⟩
      have hS := Sat.modsub (m := m) (js := []) (hS.pk (by walk_at "pk")) (fun x hx => by cases hx)
      refine ⟨fun σ' H' => ∃ (zs'' : List Addr), σ' = [some (.ref a), some (.ref p), y2, y3, some (.ref m), some (.ref d), some (.ref sp), some (.int (1 + (i : Int))), some (.str ak.w), some hv, some (.ref t1), y11, some (.ref tf), y13] ∧
        Sat H' [devC T.C_Device d (doneS S ak), modC m (doneS S ak) [], poolC p (1000 * (1 + (i : Int)) + 2000), scrC K a (ns.map V.int), .pt sp (.lst (zs''.map V.ref)), jkC (2000 + i) zs''] ∧ zs''.length ≤ zs.length + 2, ?_, fun σ' H' hm => ?_⟩
      · obtain ⟨u, hty, hki⟩ := to_ty (K := K) (v := fv) hS (by walk_at "pu")
        refine ⟨_, rfl, tf, _, 1, fv, rfl, rfl, .inl (.inl (hS.get (by walk_at "pu"))), rfl, fv, .ty "list", u, _, isO (toldT S ak), rfl, .ty "list", hty, hki, _, rfl, ?_⟩
        cases ho : toldT S ak with
        | none => exact iteF ⟨zs', rfl, (hS.pk (by walk_at "pk")), by omega⟩
        | some tg => cases tg with
          | i k => exact iteF ⟨zs', rfl, (hS.pk (by walk_at "pk")), by omega⟩
          | s k => exact iteF ⟨zs', rfl, (hS.pk (by walk_at "pk")), by omega⟩
          | l xs =>
            rw [ho] at hS
            simp only [toC] at hS
            obtain ⟨z, ev, hT⟩ := Sat.tgE (xs := xs) (v := fv) (hS.pk (by walk_at "pk"))
            clear hS
            subst ev
            have hS := hT
            clear hT
            refine iteT ?_
            refine ⟨_, rfl, .inl ⟨rfl, _, sq_at (hS.get (by walk_at "pu"))⟩, _, rfl, tf, _, 1, .ref z, rfl, rfl, .inl (.inl (hS.get (by walk_at "pu"))), rfl, sp, _, _, rfl, rfl, (hS.get (by walk_at "pu")), by rw [List.length_map]; omega, ?_⟩
            generalize hG_ : upd _ sp _ = H
            have hS := Sat.put (a := sp) (hS.pk (by walk_at "pk")) hG_
            clear hG_
            rw [show zs'.map V.ref ++ [V.ref z] = (zs' ++ [z]).map V.ref by rw [List.map_append]; rfl] at hS
            have hS := Sat.jkapp (a := z) (m := 2000 + i) (zs := zs') (hS.pk (by walk_at "pk")) (by rw [List.length_map]; have := told_l ho; omega)
            exact ⟨zs' ++ [z], rfl, (hS.pk (by walk_at "pk")), by rw [List.length_append]; show _ + 1 ≤ _; omega⟩
      obtain ⟨zs2, rfl, hS, lz2⟩ := hm
      generalize doneS S ak = S1 at hS limD
      refine ⟨fun σ' H' => ∃ (zs3 : List Addr) (S2 : Dst) (y13 : Option V), σ' = [some (.ref a), some (.ref p), y2, y3, some (.ref m), some (.ref d), some (.ref sp), some (.int (1 + (i : Int))), some (.str ak.w), some hv, some (.ref t1), y11, some (.ref tf), y13] ∧
        Sat H' [devC T.C_Device d S2, modC m S2 [], poolC p (1000 * (1 + (i : Int)) + 4000), scrC K a (ns.map V.int), .pt sp (.lst (zs3.map V.ref)), jkC (2000 + i) zs3] ∧ zs3.length ≤ zs.length + 3 ∧ Lim (i + 1) (30 + 20 * (i + 1)) (35 + 20 * (i + 1)) S2, ?_, fun σ' H' hm => ?_⟩
      · refine ⟨_, rfl, p, _, 6, _, rfl, (hS.pk (by walk_at "pk")), by omega, by decide, by decide, fun r H _ hS => ?_⟩
        refine ⟨rfl, _, rfl, ite2 (fun _ => ?_) (fun _ => ?_)⟩
        · refine ⟨_, rfl, p, _, 5, _, rfl, (hS.pk (by walk_at "pk")), by omega, by decide, by decide, fun H dt ds hS ld _ => ?_⟩
          obtain ⟨rw, pl', no, hS⟩ := Sat.mod (m := m) (hS.pk (by walk_at "pk"))
          have c1 := limD.cl
          refine ⟨.ref m, rfl, m, .ref rw, rfl, mget (hS.get (by walk_at "pu")) (mK_row _ _ _ _), _, rfl, rw, dt, _, _, rfl, rfl, (hS.get (by walk_at "pu")), (hS.get (by walk_at "pu")), by rw [List.length_map, List.length_map]; omega, ?_⟩
          rw [← List.map_append]
          intro nr nl_
          generalize hG_ : upd _ nr _ = H
          have hS := Sat.alloc hS nl_ hG_
          clear nl_ hG_
          refine ⟨.ref m, rfl, m, _, rfl, mput (hS.get (by walk_at "pu")) (mK_prow rw pl' no nr S1.spot), ?_⟩
          generalize hG_ : upd _ m _ = H
          have hS := Sat.put (a := m) (hS.pk (by walk_at "pk")) hG_
          clear hG_
          have hS := Sat.modI (S := { S1 with cells := S1.cells ++ ds }) (m := m) (rw := nr) (pl := pl') (no := no) (ks := []) (hS.pk (by walk_at "pk"))
          refine ⟨.ref d, rfl, meth_dev (S := S1) (R := _) (hS.pk (by walk_at "pk")) (by decide +kernel) ?_⟩
          refine ⟨_, rfl, d, dt, S1, ds, _, rfl, (hS.pk (by walk_at "pk")), fun _ => by omega, by omega, fun H hS => ?_⟩
          refine ⟨_, rfl, .inl ⟨rfl, _, sq_at (hS.get (by walk_at "pu"))⟩, _, rfl, sp, _, _, rfl, rfl, (hS.get (by walk_at "pu")), by rw [List.length_map]; omega, ?_⟩
          generalize hG_ : upd _ sp _ = H
          have hS := Sat.put (a := sp) (hS.pk (by walk_at "pk")) hG_
          clear hG_
          rw [show zs2.map V.ref ++ [V.ref dt] = (zs2 ++ [dt]).map V.ref by rw [List.map_append]; rfl] at hS
          have hS := Sat.jkapp (a := dt) (m := 2000 + i) (zs := zs2) (hS.pk (by walk_at "pk")) (by rw [List.length_map]; omega)
          have hS := Sat.poolup (p := p) (m := 1000 * (1 + (i : Int)) + 4000) (hS.pk (by walk_at "pk")) (by omega)
          exact ⟨zs2 ++ [dt], _, _, rfl, (hS.pk (by walk_at "pk")), by rw [List.length_append]; show _ + 1 ≤ _; omega, (limD.grow ds (by omega)).up (by omega) (by omega) (by omega)⟩
        · have hS := Sat.poolup (p := p) (m := 1000 * (1 + (i : Int)) + 4000) (hS.pk (by walk_at "pk")) (by omega)
          exact ⟨zs2, S1, _, rfl, (hS.pk (by walk_at "pk")), by omega, limD.up (by omega) (by omega) (by omega)⟩
      obtain ⟨zs3, S2, y13, rfl, hS, lz3, lim2⟩ := hm
      have c2 := lim2.cl
      have n2 := lim2.ns
      have ok2 := lim2.ok (by omega)
      refine ⟨_, rfl, .ref d, rfl, meth_dev (S := S2) (R := _) (hS.pk (by walk_at "pk")) (by decide +kernel) ?_⟩
      refine ⟨d, S2, _, rfl, (hS.pk (by walk_at "pk")), fun H ct hS => ?_⟩
      refine ⟨.ref d, rfl, meth_dev (S := S2) (R := _) (hS.pk (by walk_at "pk")) (by decide +kernel) ?_⟩
      refine ⟨d, S2, _, rfl, (hS.pk (by walk_at "pk")), ok2, fun H lg hS => ?_⟩
      refine ⟨by show (2 : Nat) ≤ sizeLine; omega, ?_⟩
      intro l nl_
      generalize hG_ : upd _ l _ = H
      have hS := Sat.alloc hS nl_ hG_
      clear nl_ hG_
      refine ⟨sp, l, _, _, rfl, rfl, (hS.get (by walk_at "pu")), (hS.get (by walk_at "pu")), by rw [List.length_map]; show _ + 2 ≤ _; omega, ?_⟩
      rw [show zs3.map V.ref ++ [V.ref ct, V.ref lg] = (zs3 ++ [ct, lg]).map V.ref by rw [List.map_append]; rfl]
      intro s1 nl_
      generalize hG_ : upd _ s1 _ = H
      have hS := Sat.alloc hS nl_ hG_
      clear nl_ hG_
      refine ⟨_, rfl, d, S2, 1000, _, rfl, (hS.pk (by walk_at "pk")), ok2, lim2.nb, fun H lr zz hS lzz => ?_⟩
      refine ⟨_, rfl, _, rfl, lr, _, rfl, sq_at (hS.get (by walk_at "pu")), ?_⟩
      obtain ⟨ws, ew, iw, lw⟩ := cut_refs zz (some (-2)) none
      rw [ew]
      intro l3 nl_
      generalize hG_ : upd _ l3 _ = H
      have hS := Sat.alloc hS nl_ hG_
      clear nl_ hG_
      refine ⟨s1, l3, _, _, rfl, rfl, (hS.get (by walk_at "pu")), (hS.get (by walk_at "pu")), by rw [List.length_map, List.length_map, List.length_append]; show _ + 2 + _ ≤ _; omega, ?_⟩
      rw [← List.map_append]
      intro s2 nl_
      generalize hG_ : upd _ s2 _ = H
      have hS := Sat.alloc hS nl_ hG_
      clear nl_ hG_
      have hS := Sat.jkapp (a := ct) (m := 2000 + i) (zs := zs3) (xs := S2.cells.map V.int) (hS.pk (by walk_at "pk")) (by rw [List.length_map]; omega)
      have hS := Sat.ntsjk (q := lg) (ns := S2.ns) (m := 2000 + i) (hS.pk (by walk_at "pk")) (by omega)
      have hS := Sat.jkup (m := 1000) (n := 2000 + i) (zs := zz) (hS.pk (by walk_at "pk")) (by omega)
      have hS := Sat.jkadd (m := 2000 + i) (zs := zs3 ++ [ct]) (ys := [lg]) (hS.pk (by walk_at "pk"))
      have hS := Sat.jkadd (m := 2000 + i) (zs := zs3 ++ [ct] ++ [lg]) (ys := zz) (hS.pk (by walk_at "pk"))
      have hS := Sat.jksub (m := 2000 + i) (zs := zs3 ++ [ct] ++ [lg] ++ zz) (ys := zs3 ++ [ct, lg] ++ ws) (hS.pk (by walk_at "pk")) (fun y hy => by
        simp only [List.mem_append, List.mem_cons, List.mem_nil_iff, or_false] at hy ⊢
        rcases hy with (h | h | h) | h
        · exact .inl (.inl (.inl h))
        · exact .inl (.inl (.inr h))
        · exact .inl (.inr h)
        · exact .inr (iw y h))
      have lz4 : (zs3 ++ [ct, lg] ++ ws).length ≤ zs.length + 90 := by
        rw [List.length_append, List.length_append]; show _ + 2 + _ ≤ _; omega
      have lz5 : 1 ≤ (zs3 ++ [ct, lg] ++ ws).length := by
        rw [List.length_append, List.length_append]; show 1 ≤ _ + 2 + _; omega
      generalize zs3 ++ [ct, lg] ++ ws = zs4 at hS lz4 lz5
      refine ⟨_, rfl, .inl ⟨rfl, _, sq_at (hS.get (by walk_at "pu"))⟩, _, rfl, _, rfl, s2, _, rfl, .inl (sq_at (hS.get (by walk_at "pu"))), p, _, _, _, rfl, (hS.pk (by walk_at "pk")), by omega, by rw [List.length_map]; omega, by rw [List.length_map]; omega, fun r H r1 hS => ?_⟩
      rw [List.length_map] at r1
      have r2 : r < zs4.length := by omega
      refine ⟨s2, _, r, r, .ref zs4[r], rfl, rfl, (hS.get (by walk_at "pu")), by omega, by omega, ?_, ?_, ?_⟩
      · unfold seqIndex?
        rw [List.length_map]
        have h1 : ¬ ((r : Int) < 0) := by omega
        simp [h1, r2]
      · rw [List.getElem?_map, List.getElem?_eq_getElem r2]; rfl
      rw [er_map]
      generalize hG_ : upd _ s2 _ = H
      have hS := Sat.put (a := s2) (hS.pk (by walk_at "pk")) hG_
      clear hG_
      refine ⟨_, rfl, p, _, 4, _, rfl, (hS.pk (by walk_at "pk")), by omega, by decide, by decide, fun w H _ hS => ?_⟩
      refine ⟨zs4[r], w, 2000 + i, zs4, _, rfl, (hS.pk (by walk_at "pk")), List.getElem_mem r2, by omega, fun H hS => ?_⟩
      have hS := Sat.jksub (m := 2000 + i + 1) (zs := zs4) (ys := zs4.eraseIdx r) (hS.pk (by walk_at "pk")) (fun y hy => List.mem_of_mem_eraseIdx hy)
      have hS := Sat.jkup (n := 2000 + (i + 1)) hS (by omega)
      refine ⟨.ref d, rfl, meth_dev (S := S2) (R := _) (hS.pk (by walk_at "pk")) (by decide +kernel) ?_⟩
      refine ⟨d, S2, _, rfl, (hS.pk (by walk_at "pk")), fun H c2 hS => ?_⟩
      obtain ⟨rw, pl', no, hM⟩ := Sat.mod (m := m) (hS.pk (by walk_at "pk"))
      refine ⟨.ref m, rfl, m, .ref rw, rfl, mget (hM.get (by walk_at "pu")) (mK_row _ _ _ _), c2, rw, _, _, rfl, rfl, sq_at (hS.get (by walk_at "pu")), sq_at (hM.get (by walk_at "pu")), _, rfl, iteFc (by simp) ?_⟩
      refine ⟨.ref d, rfl, meth_dev (S := S2) (R := _) (hS.pk (by walk_at "pk")) (by decide +kernel) ?_⟩
      refine ⟨d, S2, _, rfl, (hS.pk (by walk_at "pk")), ok2, fun H l2 hS => ?_⟩
      obtain ⟨rw, pl', no, hM⟩ := Sat.mod (m := m) (hS.pk (by walk_at "pk"))
      obtain ⟨nv, nG, hn0, N0⟩ := hM.ntsk (q := no) (by walk_at "pu")
      obtain ⟨nv2, nG2, hn2, N2⟩ := hS.nts (q := l2) (by walk_at "pu")
      refine ⟨.ref m, rfl, m, .ref no, rfl, mget (hM.get (by walk_at "pu")) (mK_notes _ _ _ _), ntsD S2.ns, N2.dp hn2, N0.dp hn0, log_shaped N0.ok, _, rfl, iteF ?_⟩
      exact ⟨s2, S2, zs4.eraseIdx r, _, _, _, _, _, _, _, _, _, _, rfl, (hS.pk (by walk_at "pk")), lim2, by have := List.length_eraseIdx_le zs4 r; omega⟩
    · exact q _
end
set_option maxHeartbeats 0 in
theorem all_mk {l : PySem.W.OpenLaw} {w : World} {K : PySem.W.Frag} {h : Heap} {mg : Str → Option Value} {fa C_Device C_Raw C_SipError C_Fault f_iFault K_iFault f_clen f_ocopy f_laid f_rinit f_dinit K_dinit f_dgrow f_dcontent f_dleft f_dgive f_daccept f_dmove f_dtrim f_dextent f_dallowed f_dtake f_dput f_dgo f_dcut f_dnote f_dopen f_dseeks f_dmayt f_dmayp f_dmayc f_dlog f_dlogb f_pool f_take f_lrow f_lplan f_llaid f_ldevice f_lasked f_ldeed f_lanswer f_lspoil f_ltold f_llogrows f_law : Addr} (X : K.In h) (G : h.Ns mainGlobals mg) (hfa : mg "law" = some (.ref fa))
    {od_iFault an_iFault : Option Addr} {sl_iFault : Array (Option Value)} {oc_iFault dc_iFault pm_iFault cd_iFault ct_iFault : Value}
    {kk_iFault_0 : Tok}
    {od_clen an_clen : Option Addr} {sl_clen : Array (Option Value)} {oc_clen dc_clen pm_clen cd_clen ct_clen : Value}
    {kV_clen : Value}
    {od_ocopy an_ocopy : Option Addr} {sl_ocopy : Array (Option Value)} {oc_ocopy dc_ocopy pm_ocopy cd_ocopy ct_ocopy : Value}
    {kV_ocopy : Value}
    {od_laid an_laid : Option Addr} {sl_laid : Array (Option Value)} {oc_laid dc_laid pm_laid cd_laid ct_laid : Value}
    {kV_laid : Value}
    {od_rinit an_rinit : Option Addr} {sl_rinit : Array (Option Value)} {oc_rinit dc_rinit pm_rinit cd_rinit ct_rinit : Value}
    {kV_rinit : Value}
    {od_dinit an_dinit : Option Addr} {sl_dinit : Array (Option Value)} {oc_dinit dc_dinit pm_dinit cd_dinit ct_dinit : Value}
    {od_dgrow an_dgrow : Option Addr} {sl_dgrow : Array (Option Value)} {oc_dgrow dc_dgrow pm_dgrow cd_dgrow ct_dgrow : Value}
    {kV_dgrow : Value}
    {od_dcontent an_dcontent : Option Addr} {sl_dcontent : Array (Option Value)} {oc_dcontent dc_dcontent pm_dcontent cd_dcontent ct_dcontent : Value}
    {kV_dcontent : Value}
    {od_dleft an_dleft : Option Addr} {sl_dleft : Array (Option Value)} {oc_dleft dc_dleft pm_dleft cd_dleft ct_dleft : Value}
    {kV_dleft : Value}
    {od_dgive an_dgive : Option Addr} {sl_dgive : Array (Option Value)} {oc_dgive dc_dgive pm_dgive cd_dgive ct_dgive : Value}
    {kV_dgive : Value}
    {od_daccept an_daccept : Option Addr} {sl_daccept : Array (Option Value)} {oc_daccept dc_daccept pm_daccept cd_daccept ct_daccept : Value}
    {kV_daccept : Value}
    {od_dmove an_dmove : Option Addr} {sl_dmove : Array (Option Value)} {oc_dmove dc_dmove pm_dmove cd_dmove ct_dmove : Value}
    {kV_dmove : Value}
    {od_dtrim an_dtrim : Option Addr} {sl_dtrim : Array (Option Value)} {oc_dtrim dc_dtrim pm_dtrim cd_dtrim ct_dtrim : Value}
    {kV_dtrim : Value}
    {od_dextent an_dextent : Option Addr} {sl_dextent : Array (Option Value)} {oc_dextent dc_dextent pm_dextent cd_dextent ct_dextent : Value}
    {kV_dextent : Value}
    {od_dallowed an_dallowed : Option Addr} {sl_dallowed : Array (Option Value)} {oc_dallowed dc_dallowed pm_dallowed cd_dallowed ct_dallowed : Value}
    {kV_dallowed : Value}
    {od_dtake an_dtake : Option Addr} {sl_dtake : Array (Option Value)} {oc_dtake dc_dtake pm_dtake cd_dtake ct_dtake : Value}
    {kV_dtake : Value}
    {od_dput an_dput : Option Addr} {sl_dput : Array (Option Value)} {oc_dput dc_dput pm_dput cd_dput ct_dput : Value}
    {kV_dput : Value}
    {od_dgo an_dgo : Option Addr} {sl_dgo : Array (Option Value)} {oc_dgo dc_dgo pm_dgo cd_dgo ct_dgo : Value}
    {kV_dgo : Value}
    {od_dcut an_dcut : Option Addr} {sl_dcut : Array (Option Value)} {oc_dcut dc_dcut pm_dcut cd_dcut ct_dcut : Value}
    {kV_dcut : Value}
    {od_dnote an_dnote : Option Addr} {sl_dnote : Array (Option Value)} {oc_dnote dc_dnote pm_dnote cd_dnote ct_dnote : Value}
    {kV_dnote : Value}
    {od_dopen an_dopen : Option Addr} {sl_dopen : Array (Option Value)} {oc_dopen dc_dopen pm_dopen cd_dopen ct_dopen : Value}
    {kV_dopen : Value}
    {od_dseeks an_dseeks : Option Addr} {sl_dseeks : Array (Option Value)} {oc_dseeks dc_dseeks pm_dseeks cd_dseeks ct_dseeks : Value}
    {kV_dseeks : Value}
    {od_dmayt an_dmayt : Option Addr} {sl_dmayt : Array (Option Value)} {oc_dmayt dc_dmayt pm_dmayt cd_dmayt ct_dmayt : Value}
    {kV_dmayt : Value}
    {od_dmayp an_dmayp : Option Addr} {sl_dmayp : Array (Option Value)} {oc_dmayp dc_dmayp pm_dmayp cd_dmayp ct_dmayp : Value}
    {kV_dmayp : Value}
    {od_dmayc an_dmayc : Option Addr} {sl_dmayc : Array (Option Value)} {oc_dmayc dc_dmayc pm_dmayc cd_dmayc ct_dmayc : Value}
    {kV_dmayc : Value}
    {od_dlog an_dlog : Option Addr} {sl_dlog : Array (Option Value)} {oc_dlog dc_dlog pm_dlog cd_dlog ct_dlog : Value}
    {kV_dlog : Value}
    {od_dlogb an_dlogb : Option Addr} {sl_dlogb : Array (Option Value)} {oc_dlogb dc_dlogb pm_dlogb cd_dlogb ct_dlogb : Value}
    {kV_dlogb : Value}
    {od_pool an_pool : Option Addr} {sl_pool : Array (Option Value)} {oc_pool dc_pool pm_pool cd_pool ct_pool : Value}
    {kV_pool : Value}
    {od_take an_take : Option Addr} {sl_take : Array (Option Value)} {oc_take dc_take pm_take cd_take ct_take : Value}
    {kV_take : Value}
    {od_lrow an_lrow : Option Addr} {sl_lrow : Array (Option Value)} {oc_lrow dc_lrow pm_lrow cd_lrow ct_lrow : Value}
    {kV_lrow : Value}
    {od_lplan an_lplan : Option Addr} {sl_lplan : Array (Option Value)} {oc_lplan dc_lplan pm_lplan cd_lplan ct_lplan : Value}
    {kV_lplan : Value}
    {od_llaid an_llaid : Option Addr} {sl_llaid : Array (Option Value)} {oc_llaid dc_llaid pm_llaid cd_llaid ct_llaid : Value}
    {kV_llaid : Value}
    {od_ldevice an_ldevice : Option Addr} {sl_ldevice : Array (Option Value)} {oc_ldevice dc_ldevice pm_ldevice cd_ldevice ct_ldevice : Value}
    {kV_ldevice : Value}
    {od_lasked an_lasked : Option Addr} {sl_lasked : Array (Option Value)} {oc_lasked dc_lasked pm_lasked cd_lasked ct_lasked : Value}
    {kV_lasked : Value}
    {od_ldeed an_ldeed : Option Addr} {sl_ldeed : Array (Option Value)} {oc_ldeed dc_ldeed pm_ldeed cd_ldeed ct_ldeed : Value}
    {kV_ldeed : Value}
    {od_lanswer an_lanswer : Option Addr} {sl_lanswer : Array (Option Value)} {oc_lanswer dc_lanswer pm_lanswer cd_lanswer ct_lanswer : Value}
    {kV_lanswer : Value}
    {od_lspoil an_lspoil : Option Addr} {sl_lspoil : Array (Option Value)} {oc_lspoil dc_lspoil pm_lspoil cd_lspoil ct_lspoil : Value}
    {kV_lspoil : Value}
    {od_ltold an_ltold : Option Addr} {sl_ltold : Array (Option Value)} {oc_ltold dc_ltold pm_ltold cd_ltold ct_ltold : Value}
    {kV_ltold : Value}
    {od_llogrows an_llogrows : Option Addr} {sl_llogrows : Array (Option Value)} {oc_llogrows dc_llogrows pm_llogrows cd_llogrows ct_llogrows : Value}
    {kV_llogrows : Value}
    {od_law an_law : Option Addr} {sl_law : Array (Option Value)} {oc_law dc_law pm_law cd_law ct_law : Value}
    {kV_law : Value}
    {t_LONGEST : Tok}
    (qa_Device : PySem.W.nsIn K mainGlobals "Device" = some (some (.ref C_Device)))
    (qa_Raw : PySem.W.nsIn K mainGlobals "Raw" = some (some (.ref C_Raw)))
    (rd_Raw : PySem.W.readsIn K C_Raw (.type "type") = true)
    (ga_Raw : PySem.W.specialIn K (.ref C_Raw) "__getattribute__" = some (some (.builtin "type.__getattribute__")))
    (qa_SipError : PySem.W.nsIn K mainGlobals "SipError" = some (some (.ref C_SipError)))
    (qa_Fault : PySem.W.nsIn K mainGlobals "Fault" = some (some (.ref C_Fault)))
    (sb_SipError : PySem.W.subIn K (.ref C_SipError) (.type "BaseException") = some true)
    (sh_SipError : PySem.W.hasDictIn K C_SipError = true)
    (st_SipError : PySem.W.typeIn K (.ref C_SipError) = some (.type "type"))
    (hb_Fault : PySem.W.subIn K (.ref C_Fault) (.type "BaseException") = some true)
    (hh_Fault : PySem.W.hasDictIn K C_Fault = true)
    (hy_Fault : PySem.W.typeIn K (.ref C_Fault) = some (.type "type"))
    (hs_Fault_Fault : PySem.W.subIn K (.ref C_Fault) (.ref C_Fault) = some true)
    (xo_Fault : Sip.IsExcObj K C_Fault C_SipError)
    (sa_Fault : PySem.W.findIn K (.ref C_Fault) "__setattr__" = some (some (.builtin "object.__setattr__")))
    (ex_Fault : PySem.W.subIn K (.ref C_Fault) (.type "BaseException") = some true)
    (ty_Fault : PySem.W.typeIn K (.ref C_Fault) = some (.type "type"))
    (kx_Fault : PySem.W.keepIn K (.ref C_Fault) = true)
    (hg_Fault : PySem.W.findIn K (.ref C_Fault) "__getattribute__" = some (some (.builtin "BaseException.__getattribute__")))
    (hk_Fault : PySem.W.findIn K (.ref C_Fault) "__getattr__" = some none)
    (hd_Fault : PySem.W.hasDictIn K C_Fault = true)
    (ha_Fault : PySem.W.findIn K (.ref C_Fault) "__class__" = some (some (.builtin "object.__class__")))
    (hn_Fault : PySem.W.specialIn K (.builtin "object.__class__") "__get__" = some (some (.builtin "getset_descriptor.__get__")))
    (ht_Fault : PySem.W.takesIn K (.builtin "object.__class__") = some true)
    (hm_Fault : PySem.W.mroIn K C_Fault (.type "object") = some true)
    (no_Fault : PySem.W.findIn K (.ref C_Fault) "number" = some none)
    (ss_Fault : PySem.W.subIn K (.ref C_Fault) (.ref C_SipError) = some true)
    (se_Fault : PySem.W.subIn K (.ref C_Fault) (.ref C_Fault) = some true)
    (no2_Fault : PySem.W.findIn K (.ref C_Fault) "taken" = some none)
    (a_iFault : PySem.W.findIn K (.ref C_Fault) "__init__" = some (some (.ref f_iFault)))
    (i_iFault : PySem.W.typeIn K (.ref f_iFault) = some (.type "function"))
    (l_iFault : K.lookup f_iFault = some ⟨oc_iFault, od_iFault, .func (PySem.W.fnOf "__init__" "Fault.__init__" (defArgs s_iFault) (defBody s_iFault) (defScope s_iFault) .none (.ref K_iFault) dc_iFault pm_iFault an_iFault cd_iFault ct_iFault), sl_iFault⟩)
    (c_iFault : PySem.W.codeIn K cd_iFault "Fault.__init__" = true)
    (k_iFault : PySem.W.keepIn K (.ref f_iFault) = true)
    (w_iFault_0 : PySem.W.nsIn K K_iFault "taken" = some (some (.int 0 kk_iFault_0)))
    (a_clen : PySem.W.nsIn K mainGlobals "check_length" = some (some (.ref f_clen)))
    (l_clen : K.lookup f_clen = some ⟨oc_clen, od_clen, .func (PySem.W.fnOf "check_length" "check_length" (defArgs s_clen) (defBody s_clen) (defScope s_clen) .none kV_clen dc_clen pm_clen an_clen cd_clen ct_clen), sl_clen⟩)
    (c_clen : PySem.W.codeIn K cd_clen "check_length" = true)
    (k_clen : PySem.W.keepIn K (.ref f_clen) = true)
    (a_ocopy : PySem.W.nsIn K mainGlobals "own_copy" = some (some (.ref f_ocopy)))
    (l_ocopy : K.lookup f_ocopy = some ⟨oc_ocopy, od_ocopy, .func (PySem.W.fnOf "own_copy" "own_copy" (defArgs s_ocopy) (defBody s_ocopy) (defScope s_ocopy) .none kV_ocopy dc_ocopy pm_ocopy an_ocopy cd_ocopy ct_ocopy), sl_ocopy⟩)
    (c_ocopy : PySem.W.codeIn K cd_ocopy "own_copy" = true)
    (k_ocopy : PySem.W.keepIn K (.ref f_ocopy) = true)
    (a_laid : PySem.W.nsIn K mainGlobals "laid" = some (some (.ref f_laid)))
    (l_laid : K.lookup f_laid = some ⟨oc_laid, od_laid, .func (PySem.W.fnOf "laid" "laid" (defArgs s_laid) (defBody s_laid) (defScope s_laid) .none kV_laid dc_laid pm_laid an_laid cd_laid ct_laid), sl_laid⟩)
    (c_laid : PySem.W.codeIn K cd_laid "laid" = true)
    (k_laid : PySem.W.keepIn K (.ref f_laid) = true)
    (a_rinit : PySem.W.findIn K (.ref C_Raw) "__init__" = some (some (.ref f_rinit)))
    (i_rinit : PySem.W.isFn K (.ref f_rinit) = true)
    (cv_rinit : PySem.W.findCls K (.ref C_Raw) (.type "type") "__init__" = some (.val (.ref f_rinit)))
    (l_rinit : K.lookup f_rinit = some ⟨oc_rinit, od_rinit, .func (PySem.W.fnOf "__init__" "Raw.__init__" (defArgs s_rinit) (defBody s_rinit) (defScope s_rinit) .none kV_rinit dc_rinit pm_rinit an_rinit cd_rinit ct_rinit), sl_rinit⟩)
    (c_rinit : PySem.W.codeIn K cd_rinit "Raw.__init__" = true)
    (k_rinit : PySem.W.keepIn K (.ref f_rinit) = true)
    (a_dinit : PySem.W.findIn K (.ref C_Device) "__init__" = some (some (.ref f_dinit)))
    (i_dinit : PySem.W.isFn K (.ref f_dinit) = true)
    (l_dinit : K.lookup f_dinit = some ⟨oc_dinit, od_dinit, .func (PySem.W.fnOf "__init__" "Device.__init__" (defArgs s_dinit) (defBody s_dinit) (defScope s_dinit) .none (.ref K_dinit) dc_dinit pm_dinit an_dinit cd_dinit ct_dinit), sl_dinit⟩)
    (c_dinit : PySem.W.codeIn K cd_dinit "Device.__init__" = true)
    (k_dinit : PySem.W.keepIn K (.ref f_dinit) = true)
    (w_dinit_0 : PySem.W.nsIn K K_dinit "seeks" = some (some (.bool true)))
    (a_dgrow : PySem.W.findIn K (.ref C_Device) "grow" = some (some (.ref f_dgrow)))
    (i_dgrow : PySem.W.isFn K (.ref f_dgrow) = true)
    (l_dgrow : K.lookup f_dgrow = some ⟨oc_dgrow, od_dgrow, .func (PySem.W.fnOf "grow" "Device.grow" (defArgs s_dgrow) (defBody s_dgrow) (defScope s_dgrow) .none kV_dgrow dc_dgrow pm_dgrow an_dgrow cd_dgrow ct_dgrow), sl_dgrow⟩)
    (c_dgrow : PySem.W.codeIn K cd_dgrow "Device.grow" = true)
    (k_dgrow : PySem.W.keepIn K (.ref f_dgrow) = true)
    (a_dcontent : PySem.W.findIn K (.ref C_Device) "content" = some (some (.ref f_dcontent)))
    (i_dcontent : PySem.W.isFn K (.ref f_dcontent) = true)
    (l_dcontent : K.lookup f_dcontent = some ⟨oc_dcontent, od_dcontent, .func (PySem.W.fnOf "content" "Device.content" (defArgs s_dcontent) (defBody s_dcontent) (defScope s_dcontent) .none kV_dcontent dc_dcontent pm_dcontent an_dcontent cd_dcontent ct_dcontent), sl_dcontent⟩)
    (c_dcontent : PySem.W.codeIn K cd_dcontent "Device.content" = true)
    (k_dcontent : PySem.W.keepIn K (.ref f_dcontent) = true)
    (a_dleft : PySem.W.findIn K (.ref C_Device) "left" = some (some (.ref f_dleft)))
    (i_dleft : PySem.W.isFn K (.ref f_dleft) = true)
    (l_dleft : K.lookup f_dleft = some ⟨oc_dleft, od_dleft, .func (PySem.W.fnOf "left" "Device.left" (defArgs s_dleft) (defBody s_dleft) (defScope s_dleft) .none kV_dleft dc_dleft pm_dleft an_dleft cd_dleft ct_dleft), sl_dleft⟩)
    (c_dleft : PySem.W.codeIn K cd_dleft "Device.left" = true)
    (k_dleft : PySem.W.keepIn K (.ref f_dleft) = true)
    (a_dgive : PySem.W.findIn K (.ref C_Device) "give" = some (some (.ref f_dgive)))
    (i_dgive : PySem.W.isFn K (.ref f_dgive) = true)
    (l_dgive : K.lookup f_dgive = some ⟨oc_dgive, od_dgive, .func (PySem.W.fnOf "give" "Device.give" (defArgs s_dgive) (defBody s_dgive) (defScope s_dgive) .none kV_dgive dc_dgive pm_dgive an_dgive cd_dgive ct_dgive), sl_dgive⟩)
    (c_dgive : PySem.W.codeIn K cd_dgive "Device.give" = true)
    (k_dgive : PySem.W.keepIn K (.ref f_dgive) = true)
    (a_daccept : PySem.W.findIn K (.ref C_Device) "accept" = some (some (.ref f_daccept)))
    (i_daccept : PySem.W.isFn K (.ref f_daccept) = true)
    (l_daccept : K.lookup f_daccept = some ⟨oc_daccept, od_daccept, .func (PySem.W.fnOf "accept" "Device.accept" (defArgs s_daccept) (defBody s_daccept) (defScope s_daccept) .none kV_daccept dc_daccept pm_daccept an_daccept cd_daccept ct_daccept), sl_daccept⟩)
    (c_daccept : PySem.W.codeIn K cd_daccept "Device.accept" = true)
    (k_daccept : PySem.W.keepIn K (.ref f_daccept) = true)
    (a_dmove : PySem.W.findIn K (.ref C_Device) "move" = some (some (.ref f_dmove)))
    (i_dmove : PySem.W.isFn K (.ref f_dmove) = true)
    (l_dmove : K.lookup f_dmove = some ⟨oc_dmove, od_dmove, .func (PySem.W.fnOf "move" "Device.move" (defArgs s_dmove) (defBody s_dmove) (defScope s_dmove) .none kV_dmove dc_dmove pm_dmove an_dmove cd_dmove ct_dmove), sl_dmove⟩)
    (c_dmove : PySem.W.codeIn K cd_dmove "Device.move" = true)
    (k_dmove : PySem.W.keepIn K (.ref f_dmove) = true)
    (a_dtrim : PySem.W.findIn K (.ref C_Device) "trim" = some (some (.ref f_dtrim)))
    (i_dtrim : PySem.W.isFn K (.ref f_dtrim) = true)
    (l_dtrim : K.lookup f_dtrim = some ⟨oc_dtrim, od_dtrim, .func (PySem.W.fnOf "trim" "Device.trim" (defArgs s_dtrim) (defBody s_dtrim) (defScope s_dtrim) .none kV_dtrim dc_dtrim pm_dtrim an_dtrim cd_dtrim ct_dtrim), sl_dtrim⟩)
    (c_dtrim : PySem.W.codeIn K cd_dtrim "Device.trim" = true)
    (k_dtrim : PySem.W.keepIn K (.ref f_dtrim) = true)
    (a_dextent : PySem.W.findIn K (.ref C_Device) "extent" = some (some (.ref f_dextent)))
    (i_dextent : PySem.W.isFn K (.ref f_dextent) = true)
    (l_dextent : K.lookup f_dextent = some ⟨oc_dextent, od_dextent, .func (PySem.W.fnOf "extent" "Device.extent" (defArgs s_dextent) (defBody s_dextent) (defScope s_dextent) .none kV_dextent dc_dextent pm_dextent an_dextent cd_dextent ct_dextent), sl_dextent⟩)
    (c_dextent : PySem.W.codeIn K cd_dextent "Device.extent" = true)
    (k_dextent : PySem.W.keepIn K (.ref f_dextent) = true)
    (a_dallowed : PySem.W.findIn K (.ref C_Device) "allowed" = some (some (.ref f_dallowed)))
    (i_dallowed : PySem.W.isFn K (.ref f_dallowed) = true)
    (l_dallowed : K.lookup f_dallowed = some ⟨oc_dallowed, od_dallowed, .func (PySem.W.fnOf "allowed" "Device.allowed" (defArgs s_dallowed) (defBody s_dallowed) (defScope s_dallowed) .none kV_dallowed dc_dallowed pm_dallowed an_dallowed cd_dallowed ct_dallowed), sl_dallowed⟩)
    (c_dallowed : PySem.W.codeIn K cd_dallowed "Device.allowed" = true)
    (k_dallowed : PySem.W.keepIn K (.ref f_dallowed) = true)
    (a_dtake : PySem.W.findIn K (.ref C_Device) "take" = some (some (.ref f_dtake)))
    (i_dtake : PySem.W.isFn K (.ref f_dtake) = true)
    (l_dtake : K.lookup f_dtake = some ⟨oc_dtake, od_dtake, .func (PySem.W.fnOf "take" "Raw.take" (defArgs s_dtake) (defBody s_dtake) (defScope s_dtake) .none kV_dtake dc_dtake pm_dtake an_dtake cd_dtake ct_dtake), sl_dtake⟩)
    (c_dtake : PySem.W.codeIn K cd_dtake "Raw.take" = true)
    (k_dtake : PySem.W.keepIn K (.ref f_dtake) = true)
    (a_dput : PySem.W.findIn K (.ref C_Device) "put" = some (some (.ref f_dput)))
    (i_dput : PySem.W.isFn K (.ref f_dput) = true)
    (l_dput : K.lookup f_dput = some ⟨oc_dput, od_dput, .func (PySem.W.fnOf "put" "Raw.put" (defArgs s_dput) (defBody s_dput) (defScope s_dput) .none kV_dput dc_dput pm_dput an_dput cd_dput ct_dput), sl_dput⟩)
    (c_dput : PySem.W.codeIn K cd_dput "Raw.put" = true)
    (k_dput : PySem.W.keepIn K (.ref f_dput) = true)
    (a_dgo : PySem.W.findIn K (.ref C_Device) "go" = some (some (.ref f_dgo)))
    (i_dgo : PySem.W.isFn K (.ref f_dgo) = true)
    (l_dgo : K.lookup f_dgo = some ⟨oc_dgo, od_dgo, .func (PySem.W.fnOf "go" "Raw.go" (defArgs s_dgo) (defBody s_dgo) (defScope s_dgo) .none kV_dgo dc_dgo pm_dgo an_dgo cd_dgo ct_dgo), sl_dgo⟩)
    (c_dgo : PySem.W.codeIn K cd_dgo "Raw.go" = true)
    (k_dgo : PySem.W.keepIn K (.ref f_dgo) = true)
    (a_dcut : PySem.W.findIn K (.ref C_Device) "cut" = some (some (.ref f_dcut)))
    (i_dcut : PySem.W.isFn K (.ref f_dcut) = true)
    (l_dcut : K.lookup f_dcut = some ⟨oc_dcut, od_dcut, .func (PySem.W.fnOf "cut" "Raw.cut" (defArgs s_dcut) (defBody s_dcut) (defScope s_dcut) .none kV_dcut dc_dcut pm_dcut an_dcut cd_dcut ct_dcut), sl_dcut⟩)
    (c_dcut : PySem.W.codeIn K cd_dcut "Raw.cut" = true)
    (k_dcut : PySem.W.keepIn K (.ref f_dcut) = true)
    (a_dnote : PySem.W.findIn K (.ref C_Device) "note" = some (some (.ref f_dnote)))
    (i_dnote : PySem.W.isFn K (.ref f_dnote) = true)
    (l_dnote : K.lookup f_dnote = some ⟨oc_dnote, od_dnote, .func (PySem.W.fnOf "note" "Raw.note" (defArgs s_dnote) (defBody s_dnote) (defScope s_dnote) .none kV_dnote dc_dnote pm_dnote an_dnote cd_dnote ct_dnote), sl_dnote⟩)
    (c_dnote : PySem.W.codeIn K cd_dnote "Raw.note" = true)
    (k_dnote : PySem.W.keepIn K (.ref f_dnote) = true)
    (a_dopen : PySem.W.findIn K (.ref C_Device) "check_open" = some (some (.ref f_dopen)))
    (i_dopen : PySem.W.isFn K (.ref f_dopen) = true)
    (l_dopen : K.lookup f_dopen = some ⟨oc_dopen, od_dopen, .func (PySem.W.fnOf "check_open" "Raw.check_open" (defArgs s_dopen) (defBody s_dopen) (defScope s_dopen) .none kV_dopen dc_dopen pm_dopen an_dopen cd_dopen ct_dopen), sl_dopen⟩)
    (c_dopen : PySem.W.codeIn K cd_dopen "Raw.check_open" = true)
    (k_dopen : PySem.W.keepIn K (.ref f_dopen) = true)
    (a_dseeks : PySem.W.findIn K (.ref C_Device) "check_seeks" = some (some (.ref f_dseeks)))
    (i_dseeks : PySem.W.isFn K (.ref f_dseeks) = true)
    (l_dseeks : K.lookup f_dseeks = some ⟨oc_dseeks, od_dseeks, .func (PySem.W.fnOf "check_seeks" "Raw.check_seeks" (defArgs s_dseeks) (defBody s_dseeks) (defScope s_dseeks) .none kV_dseeks dc_dseeks pm_dseeks an_dseeks cd_dseeks ct_dseeks), sl_dseeks⟩)
    (c_dseeks : PySem.W.codeIn K cd_dseeks "Raw.check_seeks" = true)
    (k_dseeks : PySem.W.keepIn K (.ref f_dseeks) = true)
    (a_dmayt : PySem.W.findIn K (.ref C_Device) "may_take" = some (some (.ref f_dmayt)))
    (i_dmayt : PySem.W.isFn K (.ref f_dmayt) = true)
    (l_dmayt : K.lookup f_dmayt = some ⟨oc_dmayt, od_dmayt, .func (PySem.W.fnOf "may_take" "Raw.may_take" (defArgs s_dmayt) (defBody s_dmayt) (defScope s_dmayt) .none kV_dmayt dc_dmayt pm_dmayt an_dmayt cd_dmayt ct_dmayt), sl_dmayt⟩)
    (c_dmayt : PySem.W.codeIn K cd_dmayt "Raw.may_take" = true)
    (k_dmayt : PySem.W.keepIn K (.ref f_dmayt) = true)
    (a_dmayp : PySem.W.findIn K (.ref C_Device) "may_put" = some (some (.ref f_dmayp)))
    (i_dmayp : PySem.W.isFn K (.ref f_dmayp) = true)
    (l_dmayp : K.lookup f_dmayp = some ⟨oc_dmayp, od_dmayp, .func (PySem.W.fnOf "may_put" "Raw.may_put" (defArgs s_dmayp) (defBody s_dmayp) (defScope s_dmayp) .none kV_dmayp dc_dmayp pm_dmayp an_dmayp cd_dmayp ct_dmayp), sl_dmayp⟩)
    (c_dmayp : PySem.W.codeIn K cd_dmayp "Raw.may_put" = true)
    (k_dmayp : PySem.W.keepIn K (.ref f_dmayp) = true)
    (a_dmayc : PySem.W.findIn K (.ref C_Device) "may_cut" = some (some (.ref f_dmayc)))
    (i_dmayc : PySem.W.isFn K (.ref f_dmayc) = true)
    (l_dmayc : K.lookup f_dmayc = some ⟨oc_dmayc, od_dmayc, .func (PySem.W.fnOf "may_cut" "Raw.may_cut" (defArgs s_dmayc) (defBody s_dmayc) (defScope s_dmayc) .none kV_dmayc dc_dmayc pm_dmayc an_dmayc cd_dmayc ct_dmayc), sl_dmayc⟩)
    (c_dmayc : PySem.W.codeIn K cd_dmayc "Raw.may_cut" = true)
    (k_dmayc : PySem.W.keepIn K (.ref f_dmayc) = true)
    (a_dlog : PySem.W.findIn K (.ref C_Device) "log" = some (some (.ref f_dlog)))
    (i_dlog : PySem.W.isFn K (.ref f_dlog) = true)
    (l_dlog : K.lookup f_dlog = some ⟨oc_dlog, od_dlog, .func (PySem.W.fnOf "log" "Raw.log" (defArgs s_dlog) (defBody s_dlog) (defScope s_dlog) .none kV_dlog dc_dlog pm_dlog an_dlog cd_dlog ct_dlog), sl_dlog⟩)
    (c_dlog : PySem.W.codeIn K cd_dlog "Raw.log" = true)
    (k_dlog : PySem.W.keepIn K (.ref f_dlog) = true)
    (a_dlogb : PySem.W.findIn K (.ref C_Device) "log_behind" = some (some (.ref f_dlogb)))
    (i_dlogb : PySem.W.isFn K (.ref f_dlogb) = true)
    (l_dlogb : K.lookup f_dlogb = some ⟨oc_dlogb, od_dlogb, .func (PySem.W.fnOf "log_behind" "Raw.log_behind" (defArgs s_dlogb) (defBody s_dlogb) (defScope s_dlogb) .none kV_dlogb dc_dlogb pm_dlogb an_dlogb cd_dlogb ct_dlogb), sl_dlogb⟩)
    (c_dlogb : PySem.W.codeIn K cd_dlogb "Raw.log_behind" = true)
    (k_dlogb : PySem.W.keepIn K (.ref f_dlogb) = true)
    (a_pool : PySem.W.nsIn K mainGlobals "_law_pool" = some (some (.ref f_pool)))
    (l_pool : K.lookup f_pool = some ⟨oc_pool, od_pool, .func (PySem.W.fnOf "_law_pool" "_law_pool" (defArgs s_pool) (defBody s_pool) (defScope s_pool) .none kV_pool dc_pool pm_pool an_pool cd_pool ct_pool), sl_pool⟩)
    (c_pool : PySem.W.codeIn K cd_pool "_law_pool" = true)
    (k_pool : PySem.W.keepIn K (.ref f_pool) = true)
    (a_take : PySem.W.nsIn K mainGlobals "_law_take" = some (some (.ref f_take)))
    (l_take : K.lookup f_take = some ⟨oc_take, od_take, .func (PySem.W.fnOf "_law_take" "_law_take" (defArgs s_take) (defBody s_take) (defScope s_take) .none kV_take dc_take pm_take an_take cd_take ct_take), sl_take⟩)
    (c_take : PySem.W.codeIn K cd_take "_law_take" = true)
    (k_take : PySem.W.keepIn K (.ref f_take) = true)
    (a_lrow : PySem.W.nsIn K mainGlobals "_law_row" = some (some (.ref f_lrow)))
    (l_lrow : K.lookup f_lrow = some ⟨oc_lrow, od_lrow, .func (PySem.W.fnOf "_law_row" "_law_row" (defArgs s_lrow) (defBody s_lrow) (defScope s_lrow) .none kV_lrow dc_lrow pm_lrow an_lrow cd_lrow ct_lrow), sl_lrow⟩)
    (c_lrow : PySem.W.codeIn K cd_lrow "_law_row" = true)
    (k_lrow : PySem.W.keepIn K (.ref f_lrow) = true)
    (a_lplan : PySem.W.nsIn K mainGlobals "_law_plan" = some (some (.ref f_lplan)))
    (l_lplan : K.lookup f_lplan = some ⟨oc_lplan, od_lplan, .func (PySem.W.fnOf "_law_plan" "_law_plan" (defArgs s_lplan) (defBody s_lplan) (defScope s_lplan) .none kV_lplan dc_lplan pm_lplan an_lplan cd_lplan ct_lplan), sl_lplan⟩)
    (c_lplan : PySem.W.codeIn K cd_lplan "_law_plan" = true)
    (k_lplan : PySem.W.keepIn K (.ref f_lplan) = true)
    (a_llaid : PySem.W.nsIn K mainGlobals "_law_laid" = some (some (.ref f_llaid)))
    (l_llaid : K.lookup f_llaid = some ⟨oc_llaid, od_llaid, .func (PySem.W.fnOf "_law_laid" "_law_laid" (defArgs s_llaid) (defBody s_llaid) (defScope s_llaid) .none kV_llaid dc_llaid pm_llaid an_llaid cd_llaid ct_llaid), sl_llaid⟩)
    (c_llaid : PySem.W.codeIn K cd_llaid "_law_laid" = true)
    (k_llaid : PySem.W.keepIn K (.ref f_llaid) = true)
    (a_ldevice : PySem.W.nsIn K mainGlobals "_law_device" = some (some (.ref f_ldevice)))
    (l_ldevice : K.lookup f_ldevice = some ⟨oc_ldevice, od_ldevice, .func (PySem.W.fnOf "_law_device" "_law_device" (defArgs s_ldevice) (defBody s_ldevice) (defScope s_ldevice) .none kV_ldevice dc_ldevice pm_ldevice an_ldevice cd_ldevice ct_ldevice), sl_ldevice⟩)
    (c_ldevice : PySem.W.codeIn K cd_ldevice "_law_device" = true)
    (k_ldevice : PySem.W.keepIn K (.ref f_ldevice) = true)
    (a_lasked : PySem.W.nsIn K mainGlobals "_law_asked" = some (some (.ref f_lasked)))
    (l_lasked : K.lookup f_lasked = some ⟨oc_lasked, od_lasked, .func (PySem.W.fnOf "_law_asked" "_law_asked" (defArgs s_lasked) (defBody s_lasked) (defScope s_lasked) .none kV_lasked dc_lasked pm_lasked an_lasked cd_lasked ct_lasked), sl_lasked⟩)
    (c_lasked : PySem.W.codeIn K cd_lasked "_law_asked" = true)
    (k_lasked : PySem.W.keepIn K (.ref f_lasked) = true)
    (a_ldeed : PySem.W.nsIn K mainGlobals "_law_deed" = some (some (.ref f_ldeed)))
    (l_ldeed : K.lookup f_ldeed = some ⟨oc_ldeed, od_ldeed, .func (PySem.W.fnOf "_law_deed" "_law_deed" (defArgs s_ldeed) (defBody s_ldeed) (defScope s_ldeed) .none kV_ldeed dc_ldeed pm_ldeed an_ldeed cd_ldeed ct_ldeed), sl_ldeed⟩)
    (c_ldeed : PySem.W.codeIn K cd_ldeed "_law_deed" = true)
    (k_ldeed : PySem.W.keepIn K (.ref f_ldeed) = true)
    (a_lanswer : PySem.W.nsIn K mainGlobals "_law_answer" = some (some (.ref f_lanswer)))
    (l_lanswer : K.lookup f_lanswer = some ⟨oc_lanswer, od_lanswer, .func (PySem.W.fnOf "_law_answer" "_law_answer" (defArgs s_lanswer) (defBody s_lanswer) (defScope s_lanswer) .none kV_lanswer dc_lanswer pm_lanswer an_lanswer cd_lanswer ct_lanswer), sl_lanswer⟩)
    (c_lanswer : PySem.W.codeIn K cd_lanswer "_law_answer" = true)
    (k_lanswer : PySem.W.keepIn K (.ref f_lanswer) = true)
    (a_lspoil : PySem.W.nsIn K mainGlobals "_law_spoil" = some (some (.ref f_lspoil)))
    (l_lspoil : K.lookup f_lspoil = some ⟨oc_lspoil, od_lspoil, .func (PySem.W.fnOf "_law_spoil" "_law_spoil" (defArgs s_lspoil) (defBody s_lspoil) (defScope s_lspoil) .none kV_lspoil dc_lspoil pm_lspoil an_lspoil cd_lspoil ct_lspoil), sl_lspoil⟩)
    (c_lspoil : PySem.W.codeIn K cd_lspoil "_law_spoil" = true)
    (k_lspoil : PySem.W.keepIn K (.ref f_lspoil) = true)
    (a_ltold : PySem.W.nsIn K mainGlobals "_law_told" = some (some (.ref f_ltold)))
    (l_ltold : K.lookup f_ltold = some ⟨oc_ltold, od_ltold, .func (PySem.W.fnOf "_law_told" "_law_told" (defArgs s_ltold) (defBody s_ltold) (defScope s_ltold) .none kV_ltold dc_ltold pm_ltold an_ltold cd_ltold ct_ltold), sl_ltold⟩)
    (c_ltold : PySem.W.codeIn K cd_ltold "_law_told" = true)
    (k_ltold : PySem.W.keepIn K (.ref f_ltold) = true)
    (a_llogrows : PySem.W.nsIn K mainGlobals "_law_log_rows" = some (some (.ref f_llogrows)))
    (l_llogrows : K.lookup f_llogrows = some ⟨oc_llogrows, od_llogrows, .func (PySem.W.fnOf "_law_log_rows" "_law_log_rows" (defArgs s_llogrows) (defBody s_llogrows) (defScope s_llogrows) .none kV_llogrows dc_llogrows pm_llogrows an_llogrows cd_llogrows ct_llogrows), sl_llogrows⟩)
    (c_llogrows : PySem.W.codeIn K cd_llogrows "_law_log_rows" = true)
    (k_llogrows : PySem.W.keepIn K (.ref f_llogrows) = true)
    (a_law : PySem.W.nsIn K mainGlobals "law" = some (some (.ref f_law)))
    (l_law : K.lookup f_law = some ⟨oc_law, od_law, .func (PySem.W.fnOf "law" "law" (defArgs s_law) (defBody s_law) (defScope s_law) .none kV_law dc_law pm_law an_law cd_law ct_law), sl_law⟩)
    (c_law : PySem.W.codeIn K cd_law "law" = true)
    (k_law : PySem.W.keepIn K (.ref f_law) = true)
    (pg_Device : PySem.W.plainGet K C_Device Str.empty = true)
    (hd_Device : PySem.W.hasDictIn K C_Device = true)
    (po_Device : PySem.W.plainOver K C_Device = true)
    (sa_Device : PySem.W.findIn K (.ref C_Device) "__setattr__" = some (some (.builtin "object.__setattr__")))
    (mk_Device : PySem.W.makesIn K C_Device = true)
    (kc_Device : PySem.W.keepIn K (.ref C_Device) = true)
    (n_Device_can_seek : PySem.W.findIn K (.ref C_Device) "can_seek" = some none)
    (n_Device_spot : PySem.W.findIn K (.ref C_Device) "spot" = some none)
    (n_Device_barred : PySem.W.findIn K (.ref C_Device) "barred" = some none)
    (n_Device_notes : PySem.W.findIn K (.ref C_Device) "notes" = some none)
    (n_Device_cells : PySem.W.findIn K (.ref C_Device) "cells" = some none)
    (n_Device_plan : PySem.W.findIn K (.ref C_Device) "plan" = some none)
    (n_Device_used : PySem.W.findIn K (.ref C_Device) "used" = some none)
    (v_LONGEST : PySem.W.nsIn K mainGlobals "LONGEST" = some (some (.int 4000 t_LONGEST)))
    (z_list : PySem.W.nsIn K mainGlobals "list" = some none)
    (z_len : PySem.W.nsIn K mainGlobals "len" = some none)
    (z_range : PySem.W.nsIn K mainGlobals "range" = some none)
    (z_max : PySem.W.nsIn K mainGlobals "max" = some none)
    (z_min : PySem.W.nsIn K mainGlobals "min" = some none)
    (z_isinstance : PySem.W.nsIn K mainGlobals "isinstance" = some none)
    (z_int : PySem.W.nsIn K mainGlobals "int" = some none)
    (z_bool : PySem.W.nsIn K mainGlobals "bool" = some none) :
    ∃ fd : FuncData, (∀ (s : Shared) (v : Value), BindsTo s fd ⟨[v], []⟩ [("_law_script", v)]) ∧ ∀ base : Heap, K.In base → base.Ns mainGlobals mg → FnOk l.prog w K mg base CX0 7 fa fd ["_law_script"] (spLaw K) := by
  have e := hfa.symm.trans (PySem.W.mg_of X G a_law)
  cases e
  have F_iFault := funA_mk (st := s_iFault) l_iFault c_iFault k_iFault
  have F_clen := funA_mk (st := s_clen) l_clen c_clen k_clen
  have F_ocopy := funA_mk (st := s_ocopy) l_ocopy c_ocopy k_ocopy
  have F_laid := funA_mk (st := s_laid) l_laid c_laid k_laid
  have F_rinit := funA_mk (st := s_rinit) l_rinit c_rinit k_rinit
  have F_dinit := funA_mk (st := s_dinit) l_dinit c_dinit k_dinit
  have F_dgrow := funA_mk (st := s_dgrow) l_dgrow c_dgrow k_dgrow
  have F_dcontent := funA_mk (st := s_dcontent) l_dcontent c_dcontent k_dcontent
  have F_dleft := funA_mk (st := s_dleft) l_dleft c_dleft k_dleft
  have F_dgive := funA_mk (st := s_dgive) l_dgive c_dgive k_dgive
  have F_daccept := funA_mk (st := s_daccept) l_daccept c_daccept k_daccept
  have F_dmove := funA_mk (st := s_dmove) l_dmove c_dmove k_dmove
  have F_dtrim := funA_mk (st := s_dtrim) l_dtrim c_dtrim k_dtrim
  have F_dextent := funA_mk (st := s_dextent) l_dextent c_dextent k_dextent
  have F_dallowed := funA_mk (st := s_dallowed) l_dallowed c_dallowed k_dallowed
  have F_dtake := funA_mk (st := s_dtake) l_dtake c_dtake k_dtake
  have F_dput := funA_mk (st := s_dput) l_dput c_dput k_dput
  have F_dgo := funA_mk (st := s_dgo) l_dgo c_dgo k_dgo
  have F_dcut := funA_mk (st := s_dcut) l_dcut c_dcut k_dcut
  have F_dnote := funA_mk (st := s_dnote) l_dnote c_dnote k_dnote
  have F_dopen := funA_mk (st := s_dopen) l_dopen c_dopen k_dopen
  have F_dseeks := funA_mk (st := s_dseeks) l_dseeks c_dseeks k_dseeks
  have F_dmayt := funA_mk (st := s_dmayt) l_dmayt c_dmayt k_dmayt
  have F_dmayp := funA_mk (st := s_dmayp) l_dmayp c_dmayp k_dmayp
  have F_dmayc := funA_mk (st := s_dmayc) l_dmayc c_dmayc k_dmayc
  have F_dlog := funA_mk (st := s_dlog) l_dlog c_dlog k_dlog
  have F_dlogb := funA_mk (st := s_dlogb) l_dlogb c_dlogb k_dlogb
  have F_pool := funA_mk (st := s_pool) l_pool c_pool k_pool
  have F_take := funA_mk (st := s_take) l_take c_take k_take
  have F_lrow := funA_mk (st := s_lrow) l_lrow c_lrow k_lrow
  have F_lplan := funA_mk (st := s_lplan) l_lplan c_lplan k_lplan
  have F_llaid := funA_mk (st := s_llaid) l_llaid c_llaid k_llaid
  have F_ldevice := funA_mk (st := s_ldevice) l_ldevice c_ldevice k_ldevice
  have F_lasked := funA_mk (st := s_lasked) l_lasked c_lasked k_lasked
  have F_ldeed := funA_mk (st := s_ldeed) l_ldeed c_ldeed k_ldeed
  have F_lanswer := funA_mk (st := s_lanswer) l_lanswer c_lanswer k_lanswer
  have F_lspoil := funA_mk (st := s_lspoil) l_lspoil c_lspoil k_lspoil
  have F_ltold := funA_mk (st := s_ltold) l_ltold c_ltold k_ltold
  have F_llogrows := funA_mk (st := s_llogrows) l_llogrows c_llogrows k_llogrows
  have F_law := funA_mk (st := s_law) l_law c_law k_law
  have KW_iFault : KwdV K (.ref K_iFault) ([("taken", .int 0)] : List (Str × V)) := by
    refine .inr ⟨K_iFault, rfl, fun q hq => ?_⟩
    simp only [List.mem_cons, List.mem_nil_iff, or_false] at hq
    rcases hq with rfl
    · exact ⟨_, w_iFault_0, ⟨kk_iFault_0, rfl⟩⟩
  have FD_iFault : FunD K "__init__" "Fault.__init__" (defArgs s_iFault) (defBody s_iFault) (defScope s_iFault) ([] : List V) ([("taken", .int 0)] : List (Str × V)) f_iFault (PySem.W.fnOf "__init__" "Fault.__init__" (defArgs s_iFault) (defBody s_iFault) (defScope s_iFault) .none (.ref K_iFault) dc_iFault pm_iFault an_iFault cd_iFault ct_iFault) := ⟨⟨_, _, _, _, _, _, _, _, _, _, rfl, l_iFault, c_iFault, .inl ⟨rfl, rfl⟩, KW_iFault⟩, k_iFault⟩
  have KW_dinit : KwdV K (.ref K_dinit) ([("seeks", .bl true)] : List (Str × V)) := by
    refine .inr ⟨K_dinit, rfl, fun q hq => ?_⟩
    simp only [List.mem_cons, List.mem_nil_iff, or_false] at hq
    rcases hq with rfl
    · exact ⟨_, w_dinit_0, rfl⟩
  have FD_dinit : FunD K "__init__" "Device.__init__" (defArgs s_dinit) (defBody s_dinit) (defScope s_dinit) ([] : List V) ([("seeks", .bl true)] : List (Str × V)) f_dinit (PySem.W.fnOf "__init__" "Device.__init__" (defArgs s_dinit) (defBody s_dinit) (defScope s_dinit) .none (.ref K_dinit) dc_dinit pm_dinit an_dinit cd_dinit ct_dinit) := ⟨⟨_, _, _, _, _, _, _, _, _, _, rfl, l_dinit, c_dinit, .inl ⟨rfl, rfl⟩, KW_dinit⟩, k_dinit⟩
  obtain ⟨ds_iFault_1, v_iFault_1, b_iFault_1⟩ := FD_iFault.binds0 (ps := P_iFault) 2 (by decide) rfl fun _ _ _ _ _ _ us ks h1 h2 => match us, ks, h1, h2 with | [_, _], [_], _, _ => ⟨_, _, _, _, _, _, rfl, rfl, rfl⟩
  have bb_clen : Binds K (PySem.W.fnOf "check_length" "check_length" (defArgs s_clen) (defBody s_clen) (defScope s_clen) .none kV_clen dc_clen pm_clen an_clen cd_clen ct_clen) P_clen [] := .all fun us hl => match us, hl with | [_], _ => rfl
  have bb_daccept : Binds K (PySem.W.fnOf "accept" "Device.accept" (defArgs s_daccept) (defBody s_daccept) (defScope s_daccept) .none kV_daccept dc_daccept pm_daccept an_daccept cd_daccept ct_daccept) P_daccept [] := .all fun us hl => match us, hl with | [_, _], _ => rfl
  have bb_dallowed : Binds K (PySem.W.fnOf "allowed" "Device.allowed" (defArgs s_dallowed) (defBody s_dallowed) (defScope s_dallowed) .none kV_dallowed dc_dallowed pm_dallowed an_dallowed cd_dallowed ct_dallowed) P_dallowed [] := .all fun us hl => match us, hl with | [_, _], _ => rfl
  have bb_dcontent : Binds K (PySem.W.fnOf "content" "Device.content" (defArgs s_dcontent) (defBody s_dcontent) (defScope s_dcontent) .none kV_dcontent dc_dcontent pm_dcontent an_dcontent cd_dcontent ct_dcontent) P_dcontent [] := .all fun us hl => match us, hl with | [_], _ => rfl
  have bb_dcut : Binds K (PySem.W.fnOf "cut" "Raw.cut" (defArgs s_dcut) (defBody s_dcut) (defScope s_dcut) .none kV_dcut dc_dcut pm_dcut an_dcut cd_dcut ct_dcut) P_dcut [] := .all fun us hl => match us, hl with | [_, _], _ => rfl
  have bb_dextent : Binds K (PySem.W.fnOf "extent" "Device.extent" (defArgs s_dextent) (defBody s_dextent) (defScope s_dextent) .none kV_dextent dc_dextent pm_dextent an_dextent cd_dextent ct_dextent) P_dextent [] := .all fun us hl => match us, hl with | [_], _ => rfl
  have bb_dgive : Binds K (PySem.W.fnOf "give" "Device.give" (defArgs s_dgive) (defBody s_dgive) (defScope s_dgive) .none kV_dgive dc_dgive pm_dgive an_dgive cd_dgive ct_dgive) P_dgive [] := .all fun us hl => match us, hl with | [_, _], _ => rfl
  have bb_dgo : Binds K (PySem.W.fnOf "go" "Raw.go" (defArgs s_dgo) (defBody s_dgo) (defScope s_dgo) .none kV_dgo dc_dgo pm_dgo an_dgo cd_dgo ct_dgo) P_dgo [] := .all fun us hl => match us, hl with | [_, _], _ => rfl
  have bb_dgrow : Binds K (PySem.W.fnOf "grow" "Device.grow" (defArgs s_dgrow) (defBody s_dgrow) (defScope s_dgrow) .none kV_dgrow dc_dgrow pm_dgrow an_dgrow cd_dgrow ct_dgrow) P_dgrow [] := .all fun us hl => match us, hl with | [_, _], _ => rfl
  have bb_dleft : Binds K (PySem.W.fnOf "left" "Device.left" (defArgs s_dleft) (defBody s_dleft) (defScope s_dleft) .none kV_dleft dc_dleft pm_dleft an_dleft cd_dleft ct_dleft) P_dleft [] := .all fun us hl => match us, hl with | [_], _ => rfl
  have bb_dlog : Binds K (PySem.W.fnOf "log" "Raw.log" (defArgs s_dlog) (defBody s_dlog) (defScope s_dlog) .none kV_dlog dc_dlog pm_dlog an_dlog cd_dlog ct_dlog) P_dlog [] := .all fun us hl => match us, hl with | [_], _ => rfl
  have bb_dlogb : Binds K (PySem.W.fnOf "log_behind" "Raw.log_behind" (defArgs s_dlogb) (defBody s_dlogb) (defScope s_dlogb) .none kV_dlogb dc_dlogb pm_dlogb an_dlogb cd_dlogb ct_dlogb) P_dlogb [] := .all fun us hl => match us, hl with | [_, _], _ => rfl
  have bb_dmayc : Binds K (PySem.W.fnOf "may_cut" "Raw.may_cut" (defArgs s_dmayc) (defBody s_dmayc) (defScope s_dmayc) .none kV_dmayc dc_dmayc pm_dmayc an_dmayc cd_dmayc ct_dmayc) P_dmayc [] := .all fun us hl => match us, hl with | [_], _ => rfl
  have bb_dmayp : Binds K (PySem.W.fnOf "may_put" "Raw.may_put" (defArgs s_dmayp) (defBody s_dmayp) (defScope s_dmayp) .none kV_dmayp dc_dmayp pm_dmayp an_dmayp cd_dmayp ct_dmayp) P_dmayp [] := .all fun us hl => match us, hl with | [_, _], _ => rfl
  have bb_dmayt : Binds K (PySem.W.fnOf "may_take" "Raw.may_take" (defArgs s_dmayt) (defBody s_dmayt) (defScope s_dmayt) .none kV_dmayt dc_dmayt pm_dmayt an_dmayt cd_dmayt ct_dmayt) P_dmayt [] := .all fun us hl => match us, hl with | [_], _ => rfl
  have bb_dmove : Binds K (PySem.W.fnOf "move" "Device.move" (defArgs s_dmove) (defBody s_dmove) (defScope s_dmove) .none kV_dmove dc_dmove pm_dmove an_dmove cd_dmove ct_dmove) P_dmove [] := .all fun us hl => match us, hl with | [_, _], _ => rfl
  have bb_dnote : Binds K (PySem.W.fnOf "note" "Raw.note" (defArgs s_dnote) (defBody s_dnote) (defScope s_dnote) .none kV_dnote dc_dnote pm_dnote an_dnote cd_dnote ct_dnote) P_dnote [] := .all fun us hl => match us, hl with | [_, _, _, _], _ => rfl
  have bb_dopen : Binds K (PySem.W.fnOf "check_open" "Raw.check_open" (defArgs s_dopen) (defBody s_dopen) (defScope s_dopen) .none kV_dopen dc_dopen pm_dopen an_dopen cd_dopen ct_dopen) P_dopen [] := .all fun us hl => match us, hl with | [_], _ => rfl
  have bb_dput : Binds K (PySem.W.fnOf "put" "Raw.put" (defArgs s_dput) (defBody s_dput) (defScope s_dput) .none kV_dput dc_dput pm_dput an_dput cd_dput ct_dput) P_dput [] := .all fun us hl => match us, hl with | [_, _], _ => rfl
  have bb_dseeks : Binds K (PySem.W.fnOf "check_seeks" "Raw.check_seeks" (defArgs s_dseeks) (defBody s_dseeks) (defScope s_dseeks) .none kV_dseeks dc_dseeks pm_dseeks an_dseeks cd_dseeks ct_dseeks) P_dseeks [] := .all fun us hl => match us, hl with | [_], _ => rfl
  have bb_dtake : Binds K (PySem.W.fnOf "take" "Raw.take" (defArgs s_dtake) (defBody s_dtake) (defScope s_dtake) .none kV_dtake dc_dtake pm_dtake an_dtake cd_dtake ct_dtake) P_dtake [] := .all fun us hl => match us, hl with | [_, _], _ => rfl
  have bb_dtrim : Binds K (PySem.W.fnOf "trim" "Device.trim" (defArgs s_dtrim) (defBody s_dtrim) (defScope s_dtrim) .none kV_dtrim dc_dtrim pm_dtrim an_dtrim cd_dtrim ct_dtrim) P_dtrim [] := .all fun us hl => match us, hl with | [_, _], _ => rfl
  have bb_laid : Binds K (PySem.W.fnOf "laid" "laid" (defArgs s_laid) (defBody s_laid) (defScope s_laid) .none kV_laid dc_laid pm_laid an_laid cd_laid ct_laid) P_laid [] := .all fun us hl => match us, hl with | [_, _, _], _ => rfl
  have bb_lanswer : Binds K (PySem.W.fnOf "_law_answer" "_law_answer" (defArgs s_lanswer) (defBody s_lanswer) (defScope s_lanswer) .none kV_lanswer dc_lanswer pm_lanswer an_lanswer cd_lanswer ct_lanswer) P_lanswer [] := .all fun us hl => match us, hl with | [_, _, _], _ => rfl
  have bb_lasked : Binds K (PySem.W.fnOf "_law_asked" "_law_asked" (defArgs s_lasked) (defBody s_lasked) (defScope s_lasked) .none kV_lasked dc_lasked pm_lasked an_lasked cd_lasked ct_lasked) P_lasked [] := .all fun us hl => match us, hl with | [_, _, _], _ => rfl
  have bb_ldeed : Binds K (PySem.W.fnOf "_law_deed" "_law_deed" (defArgs s_ldeed) (defBody s_ldeed) (defScope s_ldeed) .none kV_ldeed dc_ldeed pm_ldeed an_ldeed cd_ldeed ct_ldeed) P_ldeed [] := .all fun us hl => match us, hl with | [_, _], _ => rfl
  have bb_ldevice : Binds K (PySem.W.fnOf "_law_device" "_law_device" (defArgs s_ldevice) (defBody s_ldevice) (defScope s_ldevice) .none kV_ldevice dc_ldevice pm_ldevice an_ldevice cd_ldevice ct_ldevice) P_ldevice [] := .all fun us hl => match us, hl with | [_, _], _ => rfl
  have bb_llaid : Binds K (PySem.W.fnOf "_law_laid" "_law_laid" (defArgs s_llaid) (defBody s_llaid) (defScope s_llaid) .none kV_llaid dc_llaid pm_llaid an_llaid cd_llaid ct_llaid) P_llaid [] := .all fun us hl => match us, hl with | [_, _, _], _ => rfl
  have bb_llogrows : Binds K (PySem.W.fnOf "_law_log_rows" "_law_log_rows" (defArgs s_llogrows) (defBody s_llogrows) (defScope s_llogrows) .none kV_llogrows dc_llogrows pm_llogrows an_llogrows cd_llogrows ct_llogrows) P_llogrows [] := .all fun us hl => match us, hl with | [_], _ => rfl
  have bb_lplan : Binds K (PySem.W.fnOf "_law_plan" "_law_plan" (defArgs s_lplan) (defBody s_lplan) (defScope s_lplan) .none kV_lplan dc_lplan pm_lplan an_lplan cd_lplan ct_lplan) P_lplan [] := .all fun us hl => match us, hl with | [_, _, _], _ => rfl
  have bb_lrow : Binds K (PySem.W.fnOf "_law_row" "_law_row" (defArgs s_lrow) (defBody s_lrow) (defScope s_lrow) .none kV_lrow dc_lrow pm_lrow an_lrow cd_lrow ct_lrow) P_lrow [] := .all fun us hl => match us, hl with | [_, _], _ => rfl
  have bb_lspoil : Binds K (PySem.W.fnOf "_law_spoil" "_law_spoil" (defArgs s_lspoil) (defBody s_lspoil) (defScope s_lspoil) .none kV_lspoil dc_lspoil pm_lspoil an_lspoil cd_lspoil ct_lspoil) P_lspoil [] := .all fun us hl => match us, hl with | [_, _], _ => rfl
  have bb_ltold : Binds K (PySem.W.fnOf "_law_told" "_law_told" (defArgs s_ltold) (defBody s_ltold) (defScope s_ltold) .none kV_ltold dc_ltold pm_ltold an_ltold cd_ltold ct_ltold) P_ltold [] := .all fun us hl => match us, hl with | [_, _, _], _ => rfl
  have bb_ocopy : Binds K (PySem.W.fnOf "own_copy" "own_copy" (defArgs s_ocopy) (defBody s_ocopy) (defScope s_ocopy) .none kV_ocopy dc_ocopy pm_ocopy an_ocopy cd_ocopy ct_ocopy) P_ocopy [] := .all fun us hl => match us, hl with | [_], _ => rfl
  have bb_pool : Binds K (PySem.W.fnOf "_law_pool" "_law_pool" (defArgs s_pool) (defBody s_pool) (defScope s_pool) .none kV_pool dc_pool pm_pool an_pool cd_pool ct_pool) P_pool [] := .all fun us hl => match us, hl with | [_, _], _ => rfl
  have bb_rinit : Binds K (PySem.W.fnOf "__init__" "Raw.__init__" (defArgs s_rinit) (defBody s_rinit) (defScope s_rinit) .none kV_rinit dc_rinit pm_rinit an_rinit cd_rinit ct_rinit) P_rinit [] := .all fun us hl => match us, hl with | [_, _], _ => rfl
  have bb_take : Binds K (PySem.W.fnOf "_law_take" "_law_take" (defArgs s_take) (defBody s_take) (defScope s_take) .none kV_take dc_take pm_take an_take cd_take ct_take) P_take [] := .all fun us hl => match us, hl with | [_, _], _ => rfl
  obtain ⟨kv_dinit_1_plan, kb_dinit_1_plan⟩ := FD_dinit.kbinds0 (ps := P_dinit) 2 ["plan"] ([("seeks", .bl true)] : List (Str × V)) (fun vs mz zs => vs ++ zs ++ mz) (by decide) (by simp) (fun r1 r2 r3 => Vals.append (Vals.append r1 r3) r2) (fun _ _ _ _ _ _ us mv ws l1 l2 l3 => match us, mv, ws, l1, l2, l3 with | [_, _], [_], [_], _, _, _ => ⟨_, _, _, _, _, _, rfl, rfl, rfl⟩)
  let T : Tx K mg := ⟨C_Device, C_Raw, C_SipError, C_Fault, f_iFault, _, F_iFault, f_clen, _, ⟨F_clen, PySem.W.mg_of X G a_clen⟩, f_ocopy, _, ⟨F_ocopy, PySem.W.mg_of X G a_ocopy⟩, f_laid, _, ⟨F_laid, PySem.W.mg_of X G a_laid⟩, f_rinit, _, ⟨F_rinit, ⟨a_rinit, i_rinit, k_rinit⟩⟩, f_dinit, _, ⟨F_dinit, ⟨a_dinit, i_dinit, k_dinit⟩⟩, f_dgrow, _, ⟨F_dgrow, ⟨a_dgrow, i_dgrow, k_dgrow⟩⟩, f_dcontent, _, ⟨F_dcontent, ⟨a_dcontent, i_dcontent, k_dcontent⟩⟩, f_dleft, _, ⟨F_dleft, ⟨a_dleft, i_dleft, k_dleft⟩⟩, f_dgive, _, ⟨F_dgive, ⟨a_dgive, i_dgive, k_dgive⟩⟩, f_daccept, _, ⟨F_daccept, ⟨a_daccept, i_daccept, k_daccept⟩⟩, f_dmove, _, ⟨F_dmove, ⟨a_dmove, i_dmove, k_dmove⟩⟩, f_dtrim, _, ⟨F_dtrim, ⟨a_dtrim, i_dtrim, k_dtrim⟩⟩, f_dextent, _, ⟨F_dextent, ⟨a_dextent, i_dextent, k_dextent⟩⟩, f_dallowed, _, ⟨F_dallowed, ⟨a_dallowed, i_dallowed, k_dallowed⟩⟩, f_dtake, _, ⟨F_dtake, ⟨a_dtake, i_dtake, k_dtake⟩⟩, f_dput, _, ⟨F_dput, ⟨a_dput, i_dput, k_dput⟩⟩, f_dgo, _, ⟨F_dgo, ⟨a_dgo, i_dgo, k_dgo⟩⟩, f_dcut, _, ⟨F_dcut, ⟨a_dcut, i_dcut, k_dcut⟩⟩, f_dnote, _, ⟨F_dnote, ⟨a_dnote, i_dnote, k_dnote⟩⟩, f_dopen, _, ⟨F_dopen, ⟨a_dopen, i_dopen, k_dopen⟩⟩, f_dseeks, _, ⟨F_dseeks, ⟨a_dseeks, i_dseeks, k_dseeks⟩⟩, f_dmayt, _, ⟨F_dmayt, ⟨a_dmayt, i_dmayt, k_dmayt⟩⟩, f_dmayp, _, ⟨F_dmayp, ⟨a_dmayp, i_dmayp, k_dmayp⟩⟩, f_dmayc, _, ⟨F_dmayc, ⟨a_dmayc, i_dmayc, k_dmayc⟩⟩, f_dlog, _, ⟨F_dlog, ⟨a_dlog, i_dlog, k_dlog⟩⟩, f_dlogb, _, ⟨F_dlogb, ⟨a_dlogb, i_dlogb, k_dlogb⟩⟩, f_pool, _, ⟨F_pool, PySem.W.mg_of X G a_pool⟩, f_take, _, ⟨F_take, PySem.W.mg_of X G a_take⟩, f_lrow, _, ⟨F_lrow, PySem.W.mg_of X G a_lrow⟩, f_lplan, _, ⟨F_lplan, PySem.W.mg_of X G a_lplan⟩, f_llaid, _, ⟨F_llaid, PySem.W.mg_of X G a_llaid⟩, f_ldevice, _, ⟨F_ldevice, PySem.W.mg_of X G a_ldevice⟩, f_lasked, _, ⟨F_lasked, PySem.W.mg_of X G a_lasked⟩, f_ldeed, _, ⟨F_ldeed, PySem.W.mg_of X G a_ldeed⟩, f_lanswer, _, ⟨F_lanswer, PySem.W.mg_of X G a_lanswer⟩, f_lspoil, _, ⟨F_lspoil, PySem.W.mg_of X G a_lspoil⟩, f_ltold, _, ⟨F_ltold, PySem.W.mg_of X G a_ltold⟩, f_llogrows, _, ⟨F_llogrows, PySem.W.mg_of X G a_llogrows⟩, fa, _, ⟨F_law, PySem.W.mg_of X G a_law⟩, ⟨pg_Device, hd_Device, po_Device, sa_Device⟩, PySem.W.mg_of X G qa_Device, ⟨mk_Device, a_dinit, i_dinit, kc_Device⟩, n_Device_can_seek, n_Device_spot, n_Device_barred, n_Device_notes, n_Device_cells, n_Device_plan, n_Device_used, PySem.W.mg_of X G qa_Raw, ⟨rd_Raw, ga_Raw⟩, cv_rinit, PySem.W.mg_of X G qa_SipError, PySem.W.mg_of X G qa_Fault, ⟨xo_Fault, sa_Fault, ex_Fault, ty_Fault, kx_Fault⟩, ⟨hg_Fault, hk_Fault, ex_Fault, hd_Fault, ha_Fault, hn_Fault, ht_Fault, hm_Fault⟩, no_Fault, no2_Fault, a_iFault, i_iFault, PySem.W.exm_ref sb_SipError sh_SipError st_SipError ss_Fault, PySem.W.exm_ref hb_Fault hh_Fault hy_Fault hs_Fault_Fault, bb_clen, bb_daccept, bb_dallowed, bb_dcontent, bb_dcut, bb_dextent, bb_dgive, bb_dgo, bb_dgrow, bb_dleft, bb_dlog, bb_dlogb, bb_dmayc, bb_dmayp, bb_dmayt, bb_dmove, bb_dnote, bb_dopen, bb_dput, bb_dseeks, bb_dtake, bb_dtrim, bb_laid, bb_lanswer, bb_lasked, bb_ldeed, bb_ldevice, bb_llaid, bb_llogrows, bb_lplan, bb_lrow, bb_lspoil, bb_ltold, bb_ocopy, bb_pool, bb_rinit, bb_take, ds_iFault_1, v_iFault_1, b_iFault_1, kv_dinit_1_plan, kb_dinit_1_plan, t_LONGEST, PySem.W.mg_of X G v_LONGEST, PySem.W.mg_none_of X G z_list, PySem.W.mg_none_of X G z_len, PySem.W.mg_none_of X G z_range, PySem.W.mg_none_of X G z_max, PySem.W.mg_none_of X G z_min, PySem.W.mg_none_of X G z_isinstance, PySem.W.mg_none_of X G z_int, PySem.W.mg_none_of X G z_bool⟩
  exact ⟨_, fun s v => .of_eq rfl, fun base _ _ => ok_law T⟩
end Sip
open PySem PySem.W PyProof.Rows
set_option maxHeartbeats 0 in
theorem PySem.Challenge.cw_sipstack_k10_device_told_lists_holds : PySem.Challenge.rw_sipstack_k10_device_told_lists.Holds := by
  w_on; o_law; k_head; (case hw => w_witness2)
  k_fill
  refine L2.walk_of (l := PySem.Challenge.rw_sipstack_k10_device_told_lists) (n := 63) (k := 7) (x := "_law_script") (CX := fun _ => L2.CX0) (sp := fun w => Sip.spLaw _) rfl (by decide) rfl ⟨rfl, by decide, by decide⟩ (fun w h Y => PySem.W.kIn_of Y) ?F (fun _ _ a ns hl _ hS => ⟨a, ns, rfl, hS, hl, fun _ => rfl⟩) (fun _ _ _ _ _ h => h)
  case F =>
    intro w mg fa h KX G hmg
    refine' Sip.all_mk KX G hmg ?qa_Device ?qa_Raw ?rd_Raw ?ga_Raw ?qa_SipError ?qa_Fault ?sb_SipError ?sh_SipError ?st_SipError ?hb_Fault ?hh_Fault ?hy_Fault ?hs_Fault_Fault ?xo_Fault ?sa_Fault ?ex_Fault ?ty_Fault ?kx_Fault ?hg_Fault ?hk_Fault ?hd_Fault ?ha_Fault ?hn_Fault ?ht_Fault ?hm_Fault ?no_Fault ?ss_Fault ?se_Fault ?no2_Fault ?a_iFault ?i_iFault ?l_iFault ?c_iFault ?k_iFault ?w_iFault_0 ?a_clen ?l_clen ?c_clen ?k_clen ?a_ocopy ?l_ocopy ?c_ocopy ?k_ocopy ?a_laid ?l_laid ?c_laid ?k_laid ?a_rinit ?i_rinit ?cv_rinit ?l_rinit ?c_rinit ?k_rinit ?a_dinit ?i_dinit ?l_dinit ?c_dinit ?k_dinit ?w_dinit_0 ?a_dgrow ?i_dgrow ?l_dgrow ?c_dgrow ?k_dgrow ?a_dcontent ?i_dcontent ?l_dcontent ?c_dcontent ?k_dcontent ?a_dleft ?i_dleft ?l_dleft ?c_dleft ?k_dleft ?a_dgive ?i_dgive ?l_dgive ?c_dgive ?k_dgive ?a_daccept ?i_daccept ?l_daccept ?c_daccept ?k_daccept ?a_dmove ?i_dmove ?l_dmove ?c_dmove ?k_dmove ?a_dtrim ?i_dtrim ?l_dtrim ?c_dtrim ?k_dtrim ?a_dextent ?i_dextent ?l_dextent ?c_dextent ?k_dextent ?a_dallowed ?i_dallowed ?l_dallowed ?c_dallowed ?k_dallowed ?a_dtake ?i_dtake ?l_dtake ?c_dtake ?k_dtake ?a_dput ?i_dput ?l_dput ?c_dput ?k_dput ?a_dgo ?i_dgo ?l_dgo ?c_dgo ?k_dgo ?a_dcut ?i_dcut ?l_dcut ?c_dcut ?k_dcut ?a_dnote ?i_dnote ?l_dnote ?c_dnote ?k_dnote ?a_dopen ?i_dopen ?l_dopen ?c_dopen ?k_dopen ?a_dseeks ?i_dseeks ?l_dseeks ?c_dseeks ?k_dseeks ?a_dmayt ?i_dmayt ?l_dmayt ?c_dmayt ?k_dmayt ?a_dmayp ?i_dmayp ?l_dmayp ?c_dmayp ?k_dmayp ?a_dmayc ?i_dmayc ?l_dmayc ?c_dmayc ?k_dmayc ?a_dlog ?i_dlog ?l_dlog ?c_dlog ?k_dlog ?a_dlogb ?i_dlogb ?l_dlogb ?c_dlogb ?k_dlogb ?a_pool ?l_pool ?c_pool ?k_pool ?a_take ?l_take ?c_take ?k_take ?a_lrow ?l_lrow ?c_lrow ?k_lrow ?a_lplan ?l_lplan ?c_lplan ?k_lplan ?a_llaid ?l_llaid ?c_llaid ?k_llaid ?a_ldevice ?l_ldevice ?c_ldevice ?k_ldevice ?a_lasked ?l_lasked ?c_lasked ?k_lasked ?a_ldeed ?l_ldeed ?c_ldeed ?k_ldeed ?a_lanswer ?l_lanswer ?c_lanswer ?k_lanswer ?a_lspoil ?l_lspoil ?c_lspoil ?k_lspoil ?a_ltold ?l_ltold ?c_ltold ?k_ltold ?a_llogrows ?l_llogrows ?c_llogrows ?k_llogrows ?a_law ?l_law ?c_law ?k_law ?pg_Device ?hd_Device ?po_Device ?sa_Device ?mk_Device ?kc_Device ?n_Device_can_seek ?n_Device_spot ?n_Device_barred ?n_Device_notes ?n_Device_cells ?n_Device_plan ?n_Device_used ?v_LONGEST ?z_list ?z_len ?z_range ?z_max ?z_min ?z_isinstance ?z_int ?z_bool
    (case qa_Device => k_is)
    (case qa_Raw => k_is)
    (case rd_Raw => k_is)
    (case ga_Raw => k_is)
    (case qa_SipError => k_is)
    (case qa_Fault => k_is)
    (case sb_SipError => k_is)
    (case sh_SipError => k_is)
    (case st_SipError => k_is)
    (case hb_Fault => k_is)
    (case hh_Fault => k_is)
    (case hy_Fault => k_is)
    (case hs_Fault_Fault => k_is)
    (case xo_Fault => exact ⟨_, _, _, _, _, _, _, _, _, _, _, _, _, _, _, (by k_is), (by decide +kernel)⟩)
    (case sa_Fault => k_is)
    (case ex_Fault => k_is)
    (case ty_Fault => k_is)
    (case kx_Fault => k_is)
    (case hg_Fault => k_is)
    (case hk_Fault => k_is)
    (case hd_Fault => k_is)
    (case ha_Fault => k_is)
    (case hn_Fault => k_is)
    (case ht_Fault => k_is)
    (case hm_Fault => k_is)
    (case no_Fault => k_is)
    (case ss_Fault => k_is)
    (case se_Fault => k_is)
    (case no2_Fault => k_is)
    (case a_iFault => k_is)
    (case i_iFault => k_is)
    (case l_iFault => k_is)
    (case c_iFault => k_is)
    (case k_iFault => k_is)
    (case w_iFault_0 => k_is)
    (case a_clen => k_is)
    (case l_clen => k_is)
    (case c_clen => k_is)
    (case k_clen => k_is)
    (case a_ocopy => k_is)
    (case l_ocopy => k_is)
    (case c_ocopy => k_is)
    (case k_ocopy => k_is)
    (case a_laid => k_is)
    (case l_laid => k_is)
    (case c_laid => k_is)
    (case k_laid => k_is)
    (case a_rinit => k_is)
    (case i_rinit => k_is)
    (case cv_rinit => k_is)
    (case l_rinit => k_is)
    (case c_rinit => k_is)
    (case k_rinit => k_is)
    (case a_dinit => k_is)
    (case i_dinit => k_is)
    (case l_dinit => k_is)
    (case c_dinit => k_is)
    (case k_dinit => k_is)
    (case w_dinit_0 => k_is)
    (case a_dgrow => k_is)
    (case i_dgrow => k_is)
    (case l_dgrow => k_is)
    (case c_dgrow => k_is)
    (case k_dgrow => k_is)
    (case a_dcontent => k_is)
    (case i_dcontent => k_is)
    (case l_dcontent => k_is)
    (case c_dcontent => k_is)
    (case k_dcontent => k_is)
    (case a_dleft => k_is)
    (case i_dleft => k_is)
    (case l_dleft => k_is)
    (case c_dleft => k_is)
    (case k_dleft => k_is)
    (case a_dgive => k_is)
    (case i_dgive => k_is)
    (case l_dgive => k_is)
    (case c_dgive => k_is)
    (case k_dgive => k_is)
    (case a_daccept => k_is)
    (case i_daccept => k_is)
    (case l_daccept => k_is)
    (case c_daccept => k_is)
    (case k_daccept => k_is)
    (case a_dmove => k_is)
    (case i_dmove => k_is)
    (case l_dmove => k_is)
    (case c_dmove => k_is)
    (case k_dmove => k_is)
    (case a_dtrim => k_is)
    (case i_dtrim => k_is)
    (case l_dtrim => k_is)
    (case c_dtrim => k_is)
    (case k_dtrim => k_is)
    (case a_dextent => k_is)
    (case i_dextent => k_is)
    (case l_dextent => k_is)
    (case c_dextent => k_is)
    (case k_dextent => k_is)
    (case a_dallowed => k_is)
    (case i_dallowed => k_is)
    (case l_dallowed => k_is)
    (case c_dallowed => k_is)
    (case k_dallowed => k_is)
    (case a_dtake => k_is)
    (case i_dtake => k_is)
    (case l_dtake => k_is)
    (case c_dtake => k_is)
    (case k_dtake => k_is)
    (case a_dput => k_is)
    (case i_dput => k_is)
    (case l_dput => k_is)
    (case c_dput => k_is)
    (case k_dput => k_is)
    (case a_dgo => k_is)
    (case i_dgo => k_is)
    (case l_dgo => k_is)
    (case c_dgo => k_is)
    (case k_dgo => k_is)
    (case a_dcut => k_is)
    (case i_dcut => k_is)
    (case l_dcut => k_is)
    (case c_dcut => k_is)
    (case k_dcut => k_is)
    (case a_dnote => k_is)
    (case i_dnote => k_is)
    (case l_dnote => k_is)
    (case c_dnote => k_is)
    (case k_dnote => k_is)
    (case a_dopen => k_is)
    (case i_dopen => k_is)
    (case l_dopen => k_is)
    (case c_dopen => k_is)
    (case k_dopen => k_is)
    (case a_dseeks => k_is)
    (case i_dseeks => k_is)
    (case l_dseeks => k_is)
    (case c_dseeks => k_is)
    (case k_dseeks => k_is)
    (case a_dmayt => k_is)
    (case i_dmayt => k_is)
    (case l_dmayt => k_is)
    (case c_dmayt => k_is)
    (case k_dmayt => k_is)
    (case a_dmayp => k_is)
    (case i_dmayp => k_is)
    (case l_dmayp => k_is)
    (case c_dmayp => k_is)
    (case k_dmayp => k_is)
    (case a_dmayc => k_is)
    (case i_dmayc => k_is)
    (case l_dmayc => k_is)
    (case c_dmayc => k_is)
    (case k_dmayc => k_is)
    (case a_dlog => k_is)
    (case i_dlog => k_is)
    (case l_dlog => k_is)
    (case c_dlog => k_is)
    (case k_dlog => k_is)
    (case a_dlogb => k_is)
    (case i_dlogb => k_is)
    (case l_dlogb => k_is)
    (case c_dlogb => k_is)
    (case k_dlogb => k_is)
    (case a_pool => k_is)
    (case l_pool => k_is)
    (case c_pool => k_is)
    (case k_pool => k_is)
    (case a_take => k_is)
    (case l_take => k_is)
    (case c_take => k_is)
    (case k_take => k_is)
    (case a_lrow => k_is)
    (case l_lrow => k_is)
    (case c_lrow => k_is)
    (case k_lrow => k_is)
    (case a_lplan => k_is)
    (case l_lplan => k_is)
    (case c_lplan => k_is)
    (case k_lplan => k_is)
    (case a_llaid => k_is)
    (case l_llaid => k_is)
    (case c_llaid => k_is)
    (case k_llaid => k_is)
    (case a_ldevice => k_is)
    (case l_ldevice => k_is)
    (case c_ldevice => k_is)
    (case k_ldevice => k_is)
    (case a_lasked => k_is)
    (case l_lasked => k_is)
    (case c_lasked => k_is)
    (case k_lasked => k_is)
    (case a_ldeed => k_is)
    (case l_ldeed => k_is)
    (case c_ldeed => k_is)
    (case k_ldeed => k_is)
    (case a_lanswer => k_is)
    (case l_lanswer => k_is)
    (case c_lanswer => k_is)
    (case k_lanswer => k_is)
    (case a_lspoil => k_is)
    (case l_lspoil => k_is)
    (case c_lspoil => k_is)
    (case k_lspoil => k_is)
    (case a_ltold => k_is)
    (case l_ltold => k_is)
    (case c_ltold => k_is)
    (case k_ltold => k_is)
    (case a_llogrows => k_is)
    (case l_llogrows => k_is)
    (case c_llogrows => k_is)
    (case k_llogrows => k_is)
    (case a_law => k_is)
    (case l_law => k_is)
    (case c_law => k_is)
    (case k_law => k_is)
    (case pg_Device => k_is)
    (case hd_Device => k_is)
    (case po_Device => k_is)
    (case sa_Device => k_is)
    (case mk_Device => k_is)
    (case kc_Device => k_is)
    (case n_Device_can_seek => k_is)
    (case n_Device_spot => k_is)
    (case n_Device_barred => k_is)
    (case n_Device_notes => k_is)
    (case n_Device_cells => k_is)
    (case n_Device_plan => k_is)
    (case n_Device_used => k_is)
    (case v_LONGEST => k_is)
    (case z_list => k_is)
    (case z_len => k_is)
    (case z_range => k_is)
    (case z_max => k_is)
    (case z_min => k_is)
    (case z_isinstance => k_is)
    (case z_int => k_is)
    (case z_bool => k_is)
