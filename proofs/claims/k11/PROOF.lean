import PyProof.Rows.All
import Wide.All
import OpenK.AllK
import Wide.FinOn
import HandS.Small
import HandS.List
import HandS.Codes
import HandS.Comp
import HandS.Iter
import HandS.Ends
import HandS.Text
import HandS.Words
import HandS.WordsList
import HandS.Wide
import HandS.IsInst
import HandS.FStr
import PyProof.FString3
import PyProof.Rows.StrIntSpec
import HandS.Walk
import HandS.Exc
import HandS.ExcOwn
import HandS.ExcIs
import HandS.WordsExc
import HandS.StrMore
import HandS.Defaults
import HandS.MakeKwOnly
import HandS.Flow
import HandS.ExcInit
import KE.KExcIs
import HandS.Head0
import HandS.Head1
import HandS.Head2
import HandS.HeadEnd
import HandS.HeadHook1
import HandS.HeadHook2
import HandS.Star
import HandS.Conv
import HandS.Deep
import HandS.TryMany
import HandS.ClsMeth
import HandS.HotCalls
import HandS.SuiteRaise
import KE.KExcRaise
import HandS.CallSlots
import HandS.ExcInitHot
import HandS.OwnEq
import PySem.Challenge.RW_sipstack_k11_whole_device_log_walks
set_option Elab.async false
set_option linter.all false
set_option maxRecDepth 100000
namespace Sip
open PySem PySem.Spec PyProof.Rows L2

/-! a slice of step one in a list, laid over by another list; its end may lie behind the list's end -/
theorem clamp {a c n : Nat} (h1 : a ≤ c) (h2 : a ≤ n) :
    sliceBounds (some (a : Int)) (some (c : Int)) none n = ((a : Int), ((min c n : Nat) : Int), 1) := by
  have n1 : ¬ ((a : Int) < 0) := by omega
  have n2 : ¬ ((c : Int) < 0) := by omega
  simp only [sliceBounds, Option.getD_none, n1, n2, if_false, show (1 : Int) > 0 from by decide, if_true]
  refine Prod.ext ?_ (Prod.ext ?_ rfl)
  · show max 0 (min (a : Int) (n : Int)) = (a : Int)
    omega
  · show max 0 (min (c : Int) (n : Int)) = ((min c n : Nat) : Int)
    omega

section
variable {pr : Program} {wd : World} {ar : Around} {er : Value → Shared → Prop} {s : Shared}
set_option maxHeartbeats 4000000 in
theorem put_slice {l b z : Addr} {old new : Array Value} {m m2 a c : Nat} {vl vu : Value} {Q : Unit → Shared → Prop}
    (eo : s.heap.get? l = some { cls := .type "list", data := .seq old m })
    (en : s.heap.get? b = some { cls := .type "list", data := .seq new m2 }) (ne : l ≠ b)
    (hz : s.heap.IsSliceOf z vl vu .none) (pl : IsPart vl (some (a : Int))) (pu : IsPart vu (some (c : Int)))
    (ac : a ≤ c) (an : a ≤ old.size) (fit : old.size + new.size ≤ sizeLine)
    (k : Q () { s with heap := s.heap.update l (Obj.mapSeq fun t => t.extract 0 a ++ new ++ t.extract (min c old.size) t.size) }) :
    wpAny (model pr wd) ar (setItem (.ref l) (.ref z) (.ref b)) Q er s := by
  by_cases hc : c ≤ old.size
  · rw [Nat.min_eq_left hc] at k
    exact setItem_slice eo en ne hz pl pu ac hc fit k
  · have lo : s.heap.IsList l old := PySem.IsL.isList eo
    have ln : s.heap.IsList b new := PySem.IsL.isList en
    obtain ⟨oz, gz, cz, dz⟩ := id hz
    have tz : s.TypeIs (.ref z) "slice" := ⟨oz, gz, cz⟩
    have apart : Builtin.List.listSameRef (.ref l) (.ref b) = false := by
      unfold Builtin.List.listSameRef; exact beq_eq_false_iff_ne.mpr ne
    have zz : ((fun t : Array Value => t.extract 0 a ++ new ++ t.extract (min c old.size) t.size) old).size ≤ sizeLine + 1 := by
      simp only [Array.size_append, Array.size_extract]; omega
    have bd := clamp ac an
    have mx : (max (a : Int) ((min c old.size : Nat) : Int)).toNat = min c old.size := by omega
    unfold setItem
    try (with_reducible refine wpAny_holding ?_)
    try refine wpAny_bind (wpAny_pure ?_)
    refine wpAny_bind (wpAny_sequenceKey lo.typeIs (by decide) (wpAny_bind ?_))
    refine wpAny_callSpecial?_slot (name := Str.ofString "__setitem__") lo.typeIs slot_list_setitem ?_
    refine wpAny_call_entry slot_list_setitem lo.typeIs entry_list_setitem ?_ (args_list_setitem _ _ _)
    show wpAny _ _ (Builtin.List.listSubscript? (.ref z) >>= _) _ _ s
    refine wpAny_bind ?_
    unfold Builtin.List.listSubscript?
    refine wpAny_bind (wpAny_specialOf tz slice_no_index ?_)
    simp only [Option.isNone_none, if_true]
    refine wpAny_pure ?_
    show wpAny _ _ (typeOf (.ref z) >>= _) _ _ s
    refine wpAny_bind (wpAny_typeOf tz ?_)
    first
      | rw [if_neg (by decide)]
      | refine PySem.W.KFB.if_not (by decide) ?_
    rw [listSliceParts_eq]
    refine wpAny_bind (wpAny_bind (wpAny_field gz dz (x := .none) rfl (wpAny_bind (wpAny_listPart .none ?_))))
    rw [if_neg (show ¬ ((rawPart none == rawInt 0) = true) from Bool.false_ne_true)]
    refine wpAny_bind (wpAny_field gz dz (x := vl) rfl (wpAny_bind (wpAny_listPart pl ?_)))
    refine wpAny_bind (wpAny_field gz dz (x := vu) rfl (wpAny_bind (wpAny_listPart pu (wpAny_pure ?_))))
    first
      | simp only [apart, Bool.false_eq_true, if_false]
      | refine PySem.W.KFB.if_not apart ?_
    refine wpAny_bind ?_
    unfold Builtin.List.listAllItems
    refine wpAny_bind (wpAny_typeOf ln.typeIs ?_)
    first
      | refine PySem.W.KFB.if_so (by decide) ?_
      | rw [if_pos (by decide)]
    unfold Builtin.List.listItems
    refine wpAny_bind (wpAny_seqItems en rfl (wpAny_pure (wpAny_bind (wpAny_bind (wpAny_seqItems eo rfl (wpAny_pure ?_))))))
    have si := (sliceIndices_raw (some (a : Int)) (some (c : Int)) none old.size (by simp)).trans (congrArg (pure : Int × Int × Int → Sem (Int × Int × Int)) bd)
    refine wpAny_bind (wpAny_of_eq si ?_)
    show wpAny _ _ (if ((1 : Int) == 1) = true then _ else _) _ _ s
    rw [if_pos (by decide)]
    refine wpAny_bind (wpAny_rule ?_)
    first
      | simp only [notLongL fit, Bool.false_eq_true, if_false]
      | refine PySem.W.KFB.if_not (notLongL fit) ?_
    try refine wpAny_bind (wpAny_pure ?_)
    show wpAny _ _ (updateSeq l (fun t => t.extract 0 ((a : Int)).toNat ++ new ++ t.extract (max (a : Int) ((min c old.size : Nat) : Int)).toNat t.size) >>= _) _ _ s
    rw [mx, Int.toNat_natCast]
    refine wpAny_bind (wpAny_updateSeq (hz := Nat.le_trans (Nat.le_add_right _ _) fit) (_hz' := zz) eo rfl (wpAny_bind (wpAny_letGo ?_)))
    first
      | exact wpAny_bind (wpAny_pure (wpAny_pure ⟨.none, rfl, wpAny_pure k⟩))
      | exact wpAny_pure ⟨.none, rfl, wpAny_pure k⟩
end

section
variable {X : Cx}
theorem splice (xs ys : List Value) (a c : Nat) : xs.toArray.extract 0 a ++ ys.toArray ++ xs.toArray.extract (min c xs.toArray.size) xs.toArray.size = (xs.take a ++ ys ++ xs.drop c).toArray := by
  rw [splice_eq]
  congr 1
  by_cases h : c ≤ xs.length
  · rw [List.size_toArray, Nat.min_eq_left h]
  · rw [List.size_toArray, Nat.min_eq_right (by omega), List.drop_length, List.drop_of_length_le (by omega)]

/-- o[lo:hi] = v, both given, v another list -/
def gCut (to : TE) (tl th : TO) : TG := fun v σ H Q => to σ H fun o H1 => tl σ H1 fun lo H2 => th σ H2 fun hi H3 =>
  ∃ p q xs ys a c, o = .ref p ∧ v = .ref q ∧ lo = some a ∧ hi = some c ∧ H3 p = some (.lst xs) ∧ H3 q = some (.lst ys) ∧ p ≠ q ∧
    0 ≤ a ∧ a ≤ c ∧ a ≤ xs.length ∧ xs.length + ys.length ≤ sizeLine ∧ Q σ (upd H3 p (.lst (xs.take a.toNat ++ ys ++ xs.drop c.toNat)))

theorem pg_cut {o : Expr} {lo hi : Option Expr} {to : TE} {tl th : TO} {p2 pos : Pos} (ho : PE X o to) (hl : PO X lo tl) (hh : PO X hi th)
    (ha : ∀ v, assign (.Subscript o (.Slice lo hi none p2) pos) X.env v = (do
      let ov ← holding [v] (eval o X.env)
      let iv ← holding [v, ov] (eval (.Slice lo hi none p2) X.env)
      standAt pos
      holding [v, ov, iv] (setItem ov iv v)
      release [iv, v, ov] []) := by intro _; rfl) : PG X (.Subscript o (.Slice lo hi none p2) pos) (gCut to tl th) := by
  refine ⟨fun pins s σ H v u Q I r h => ?_⟩
  rw [ha]
  refine wpAny_bind (wpAny_holding (thn (ho.run pins s σ H _ I h) fun ov s1 ⟨x, H1, I1, r1, q1⟩ => wpAny_bind (wpAny_holding ?_)))
  refine wpAny_Slice (thn (hl.run pins s1 σ H1 _ I1 q1) fun wl s2 ⟨l, H2, I2, pl, q2⟩ => ?_)
  refine thn (hh.run pins s2 σ H2 _ I2 q2) fun wu s3 ⟨uu, H3, I3, pu, q3⟩ => ?_
  rw [evalPart_none]
  refine wpAny_pure ?_
  obtain ⟨p, q, xs, ys, a, c, rfl, rfl, rfl, rfl, hp, hq, pq, a0, ac, ax, fit, fin⟩ := q3
  cases r1
  cases r
  have I4 : Inv X pins σ H3 { s3 with heap := s3.heap.push { cls := .type "slice", data := .fields #[wl, wu, .none] } } := I3.kept (t' := s3.toks) fun b ob e => Heap.get?_push_of_some _ e
  refine wpAny_bind (wpAny_standAt (wpAny_bind (wpAny_holding ?_)))
  obtain ⟨z1, us1, n1, rv1, _, e1⟩ := I4.lstM hp
  obtain ⟨z2, us2, n2, rv2, _, e2⟩ := I4.lstM hq
  obtain ⟨a', rfl⟩ := Int.eq_ofNat_of_zero_le a0
  obtain ⟨c', rfl⟩ := Int.eq_ofNat_of_zero_le (Int.le_trans a0 ac)
  simp only [Int.toNat_natCast] at fin
  have L1 := rv1.length
  have L2' := rv2.length
  refine put_slice (a := a') (c := c') e1 e2 pq (Heap.IsSliceOf.new ..) pl pu (by omega) (by rw [List.size_toArray]; omega) (by rw [List.size_toArray, List.size_toArray]; omega) ?_
  refine wpAny_release ⟨σ, _, ?_, fin⟩
  refine I4.lset (its' := us1.take a' ++ us2 ++ us1.drop c') (t' := s3.toks) hp e1 (splice us1 us2 a' c') (Vals.append (Vals.append (rv1.take _) rv2) (rv1.drop _)) ?_
  rw [List.length_append, List.length_append, List.length_take, List.length_drop]
  omega
end
end Sip
namespace Sip
open PySem PySem.Spec PyProof.Rows L2

/-- a def of the text: where it stands, how it is called -/
structure Df (K : PySem.W.Frag) (mg : Str → Option Value) (x : Str) (st : Stmt) (ps : List Str) (f : Addr) (fd : FuncData) : Prop where
  F : Fun K x x st f fd
  b : Binds K fd ps []
  g : mg x = some (.ref f)

/-! heaps: all that was tracked stands, but at the places ps -/
def Kp (ps : List Addr) (H H' : Hp) : Prop := ∀ b o, b ∉ ps → H b = some o → H' b = some o
theorem Kp.refl (ps : List Addr) (H : Hp) : Kp ps H H := fun _ _ _ h => h
theorem Kp.trans {ps : List Addr} {H H1 H2 : Hp} (a : Kp ps H H1) (b : Kp ps H1 H2) : Kp ps H H2 := fun c o n h => b c o n (a c o n h)
theorem Kp.wide {ps qs : List Addr} {H H1 : Hp} (a : Kp ps H H1) (h : ∀ x ∈ ps, x ∈ qs) : Kp qs H H1 := fun c o n e => a c o (fun z => n (h c z)) e
theorem Kp.same {H H1 : Hp} (a : Kp [] H H1) : Same H H1 := fun c o e => a c o (fun h => nomatch h) e
theorem Kp.of {ps : List Addr} {H H1 : Hp} (a : Same H H1) : Kp ps H H1 := fun c o _ e => a c o e
theorem Kp.at {ps : List Addr} {H : Hp} {p : Addr} {o : HO} (h : p ∈ ps) : Kp ps H (upd H p o) := fun b x n e => by
  have hb : b ≠ p := fun z => n (by rw [z]; exact h)
  rw [upd_ne hb]; exact e
theorem Kp.new {ps : List Addr} {H : Hp} {p : Addr} {o : HO} (h : H p = none) : Kp ps H (upd H p o) := fun b x n e => by
  rw [upd_ne (ne_of_none e h)]; exact e
/-- a place that was new at H is written later -/
theorem Kp.put {ps : List Addr} {H H1 : Hp} {p : Addr} {o : HO} (k : Kp ps H H1) (h : H p = none) : Kp ps H (upd H1 p o) := fun b x n e => by
  rw [upd_ne (ne_of_none e h)]; exact k b x n e
theorem Kp.seq {ps : List Addr} {K : PySem.W.Frag} {H H1 : Hp} {a : Addr} {xs : List V} (k : Kp ps H H1) (n : a ∉ ps) (h : SqL K H a xs) : SqL K H1 a xs := by
  rcases h with (h | ⟨o, h⟩) | h
  · exact .inl (.inl (k _ _ n h))
  · exact .inl (.inr ⟨o, k _ _ n h⟩)
  · exact .inr h
theorem Kp.free {H H1 : Hp} {ps : List Addr} (k : Kp ps H H1) {q : Addr} (n : q ∉ ps) (h : H1 q = none) : H q = none := by
  cases e : H q with
  | none => rfl
  | some o => rw [k q o n e] at h; cases h
theorem sq_new {K : PySem.W.Frag} {H : Hp} {p : Addr} {xs : List V} : SqL K (upd H p (.lst xs)) p xs := .inl (.inl upd_same)
theorem sq_at {K : PySem.W.Frag} {H : Hp} {p : Addr} {xs : List V} (h : H p = some (.lst xs)) : SqL K H p xs := .inl (.inl h)
theorem upd_upd {H : Hp} {p : Addr} {a b : HO} : upd (upd H p a) p b = upd H p b := by
  funext x
  by_cases h : x = p
  · subst h; rw [upd_same, upd_same]
  · rw [upd_ne h, upd_ne h, upd_ne h]

/-! the law's own draws: a pool is a list of three ints -/
def PoolO (n : Int) (o : HO) : Prop := ∃ d c x : Int, o = .lst [.int d, .int c, .int x] ∧ 0 ≤ d ∧ 0 ≤ c ∧ c ≤ n
theorem PoolO.up {n m : Int} {o : HO} (h : PoolO n o) (l : n ≤ m) : PoolO m o := by
  obtain ⟨d, c, x, e, h1, h2, h3⟩ := h
  exact ⟨d, c, x, e, h1, h2, by omega⟩
def spTake : Sp := fun vs H Q _ => ∃ (p : Addr) (n wide : Int) (o : HO), vs = [.ref p, .int wide] ∧ H p = some o ∧ PoolO n o ∧ n ≤ 1000000000 ∧ 0 < wide ∧ wide < 1073741824 ∧
  ∀ (r : Int) (o' : HO), 0 ≤ r → r < wide → PoolO (n + 1) o' → Q (.int r) (upd H p o')
def spPool (K : PySem.W.Frag) : Sp := fun vs H Q _ => ∃ (a : Addr) (ns : List Int) (i : Int), vs = [.ref a, .int i] ∧ SqL K H a (ns.map V.int) ∧ ns.length ≤ 63 ∧ 0 ≤ i ∧ i ≤ 1000 ∧
  ∀ (p : Addr) (o : HO), H p = none → PoolO (1000 * i) o → Q (.ref p) (upd H p o)

/-! lists of ints -/
theorem atI_int {ms : List Int} {i : Int} (h0 : 0 ≤ i) (h1 : i < ms.length) : ∃ m, m ∈ ms ∧ atI (ms.map V.int) i = some (.int m) ∧ ms[i.toNat]? = some m := by
  obtain ⟨j, rfl⟩ := Int.eq_ofNat_of_zero_le h0
  have hj : j < ms.length := by omega
  refine ⟨ms[j], List.getElem_mem hj, atI_nat ?_, by rw [Int.toNat_natCast, List.getElem?_eq_getElem hj]⟩
  rw [List.getElem?_map, List.getElem?_eq_getElem hj]; rfl
theorem atI_intV {ms : List Int} {i : Int} (h0 : 0 ≤ i) (h1 : i < ms.length) : atI (ms.map V.int) i = some (.int (ms.getD i.toNat 0)) := by
  obtain ⟨m, _, e, g⟩ := atI_int h0 h1
  rw [e, List.getD_eq_getElem?_getD, g]; rfl
theorem dp_ints {K : PySem.W.Frag} {H : Hp} : ∀ ns : List Int, DpAll K H (ns.map V.int) (ns.map PyData.int)
  | [] => .nil
  | n :: r => .cons (.int n) (dp_ints r)
theorem dp_lst {K : PySem.W.Frag} {H : Hp} {a : Addr} {ns : List Int} (h : SqL K H a (ns.map V.int)) : Dp K H (.ref a) (.list (ns.map PyData.int)) := .lst h (dp_ints ns)
section
variable {X : Cx}
/-- == and != of two lists of ints -/
def rEqI (K : PySem.W.Frag) : R2 := fun x y H Q => ∃ (a b : Addr) (ns ms : List Int), x = .ref a ∧ y = .ref b ∧ SqL K H a (ns.map V.int) ∧ SqL K H b (ms.map V.int) ∧ Q (.bl (decide (ns = ms))) H
def rNeI (K : PySem.W.Frag) : R2 := fun x y H Q => ∃ (a b : Addr) (ns ms : List Int), x = .ref a ∧ y = .ref b ∧ SqL K H a (ns.map V.int) ∧ SqL K H b (ms.map V.int) ∧ Q (.bl (!decide (ns = ms))) H
theorem op_eqI (hu : X.A.units + 64 < cLine) : OpR X (compareOp .Eq) (rEqI X.K) := by
  intro pins s σ H x y v u Q I rx ry h
  obtain ⟨a, b, ns, ms, rfl, rfl, ha, hb, q⟩ := h
  cases rx; cases ry
  obtain ⟨us, rv, hl, _⟩ := I.list ha
  obtain ⟨ws, rw', hl', _⟩ := I.list hb
  exact PySem.W.eq_intsK hl.isList rv.ints hl'.isList rw'.ints hu ⟨.bl (decide (ns = ms)), H, I, rfl, q⟩
theorem op_neI (hu : X.A.units + 64 < cLine) : OpR X (compareOp .NotEq) (rNeI X.K) := by
  intro pins s σ H x y v u Q I rx ry h
  obtain ⟨a, b, ns, ms, rfl, rfl, ha, hb, q⟩ := h
  cases rx; cases ry
  obtain ⟨us, rv, hl, _⟩ := I.list ha
  obtain ⟨ws, rw', hl', _⟩ := I.list hb
  exact PySem.W.ne_intsK hl.isList rv.ints hl'.isList rw'.ints hu ⟨.bl (!decide (ns = ms)), H, I, rfl, q⟩
end
/-! a row laid over another one -/
def laidF (r : List Int) (n : Nat) (d : List Int) : List Int :=
  if d = [] then r else (r ++ List.replicate (n - r.length) 0).take n ++ d ++ (r ++ List.replicate (n - r.length) 0).drop (n + d.length)
theorem laidF_nil (r : List Int) (n : Nat) : laidF r n [] = r := if_pos rfl
theorem laidF_cons {r : List Int} {n : Nat} {d : List Int} (h : d ≠ []) : laidF r n d = (r ++ List.replicate (n - r.length) 0).take n ++ d ++ (r ++ List.replicate (n - r.length) 0).drop (n + d.length) := if_neg h
theorem laidF_length {r : List Int} {n : Nat} {d : List Int} (h : d ≠ []) : (laidF r n d).length = max r.length (n + d.length) := by
  rw [laidF_cons h, List.length_append, List.length_append, List.length_take, List.length_drop, List.length_append, List.length_replicate]
  omega
theorem pad_get (r : List Int) (m i : Nat) : (r ++ List.replicate m 0)[i]?.getD 0 = r.getD i 0 := by
  rw [List.getD_eq_getElem?_getD]
  by_cases h : i < r.length
  · rw [List.getElem?_append_left h]
  · rw [List.getElem?_append_right (by omega), List.getElem?_eq_none (l := r) (by omega)]
    by_cases h2 : i - r.length < m
    · rw [List.getElem?_replicate, if_pos h2]; rfl
    · rw [List.getElem?_eq_none (by rw [List.length_replicate]; omega)]
theorem laidF_getD {r : List Int} {n : Nat} {d : List Int} (h : d ≠ []) (i : Nat) : (laidF r n d)[i]?.getD 0 = if n ≤ i ∧ i < n + d.length then d.getD (i - n) 0 else r.getD i 0 := by
  have lt : ((r ++ List.replicate (n - r.length) 0).take n).length = n := by
    rw [List.length_take, List.length_append, List.length_replicate]; omega
  rw [laidF_cons h, List.append_assoc]
  by_cases h1 : i < n
  · rw [if_neg (by omega), List.getElem?_append_left (by rw [lt]; exact h1), List.getElem?_take_of_lt h1]
    exact pad_get r _ i
  · rw [List.getElem?_append_right (by rw [lt]; omega), lt]
    by_cases h2 : i < n + d.length
    · rw [if_pos ⟨by omega, h2⟩, List.getElem?_append_left (by omega), List.getD_eq_getElem?_getD]
    · rw [if_neg (by omega), List.getElem?_append_right (by omega), List.getElem?_drop, ← pad_get r (n - r.length) i]
      congr 2
      omega
theorem laidF_get {r : List Int} {n : Nat} {d : List Int} {i : Nat} (h : d ≠ []) (hi : i < (laidF r n d).length) : (laidF r n d)[i]? = some (if n ≤ i ∧ i < n + d.length then d.getD (i - n) 0 else r.getD i 0) := by
  rw [← laidF_getD h i, List.getElem?_eq_getElem hi]; rfl
theorem ext_getD {xs ys : List Int} (hl : xs.length = ys.length) (h : ∀ i, i < xs.length → xs[i]?.getD 0 = ys[i]?.getD 0) : xs = ys := by
  apply List.ext_getElem hl
  intro i h1 h2
  have := h i h1
  rw [List.getElem?_eq_getElem h1, List.getElem?_eq_getElem h2] at this
  exact this
/-- laid over once more: the same -/
theorem laidF_twice (r : List Int) (n : Nat) (d : List Int) : laidF (laidF r n d) n d = laidF r n d := by
  by_cases h : d = []
  · subst h; rw [laidF_nil, laidF_nil]
  · have l1 := laidF_length (r := r) (n := n) h
    have l2 := laidF_length (r := laidF r n d) (n := n) h
    refine ext_getD (by omega) fun i hi => ?_
    rw [laidF_getD h, laidF_getD h]
    split
    · rfl
    · next c => rw [List.getD_eq_getElem?_getD, laidF_getD h, if_neg c]
theorem flat_rep (m : Nat) (v : V) : (List.replicate m [v]).flatten = List.replicate m v := by
  induction m with
  | zero => rfl
  | succ m ih => rw [List.replicate_succ, List.flatten_cons, ih, List.replicate_succ]; rfl
theorem all_true (n : Nat) : (List.replicate n true).all id = true := by
  rw [List.all_eq_true]
  intro x hx
  exact (List.mem_replicate.mp hx).2
def spBytes : Sp := fun vs H Q _ => ∃ (p : Addr) (n : Int) (o : HO), vs = [.ref p] ∧ H p = some o ∧ PoolO n o ∧ n ≤ 900000000 ∧
  ∀ (H' : Hp) (q : Addr) (bs : List Int) (o' : HO), H q = none → H' q = some (.lst (bs.map V.int)) → H' p = some o' → PoolO (n + 1000) o' → Kp [p] H H' → bs.length ≤ 400 → (∀ b ∈ bs, 0 ≤ b ∧ b ≤ 255) → Q (.ref q) H'
def spLaid (K : PySem.W.Frag) : Sp := fun vs H Q _ => ∃ (a b : Addr) (r : List Int) (n : Nat) (d : List Int), vs = [.ref a, .int n, .ref b] ∧ SqL K H a (r.map V.int) ∧ H b = some (.lst (d.map V.int)) ∧ r.length ≤ 10000 ∧ n ≤ 4400 ∧ d.length ≤ 4400 ∧
  ∀ (H' : Hp) (q : Addr), H q = none → H' q = some (.lst ((laidF r n d).map V.int)) → Same H H' → Q (.ref q) H'
def spDue (K : PySem.W.Frag) : Sp := fun vs H Q _ => ∃ (a b : Addr) (r : List Int) (n : Nat) (d : List Int), vs = [.ref a, .int n, .ref b] ∧ SqL K H a (r.map V.int) ∧ SqL K H b (d.map V.int) ∧ r.length ≤ 10000 ∧ n ≤ 4400 ∧ d.length ≤ 4400 ∧
  ∀ (H' : Hp) (q : Addr), H q = none → H' q = some (.lst ((laidF r n d).map V.int)) → Same H H' → Q (.ref q) H'
def spFits (K : PySem.W.Frag) : Sp := fun vs H Q _ => ∃ (a b : Addr) (xs ys : List Int), vs = [.ref a, .ref b] ∧ H a = some (.lst (xs.map V.int)) ∧ SqL K H b (ys.map V.int) ∧ xs.length ≤ 100000 ∧
  ∀ H' : Hp, Same H H' → Q (.bl (decide (xs = ys))) H'
def spLaw (K : PySem.W.Frag) : Sp := fun vs H Q _ => ∃ (a : Addr) (ns : List Int), vs = [.ref a] ∧ SqL K H a (ns.map V.int) ∧ ns.length ≤ 63 ∧ ∀ H' : Hp, Q (.bl true) H'
theorem step_same {H H1 H2 : Hp} {p : Addr} (s : Same H H1) (n : H p = none) (k : Kp [p] H1 H2) : Same H H2 := fun b o e =>
  k b o (fun z => ne_of_none e n (List.mem_singleton.mp z)) (s b o e)
theorem put_same {H H1 : Hp} {p : Addr} {o : HO} (s : Same H H1) (n : H p = none) : Same H (upd H1 p o) := fun b x e => by
  rw [upd_ne (ne_of_none e n)]; exact s b x e
theorem ixN_zero {n : Nat} (h : 0 < n) : ixN n 0 = some 0 := by
  unfold ixN
  rw [if_pos (by decide), if_pos (by omega)]; rfl
theorem laidF_le {r d : List Int} {n m : Nat} (h : r.length ≤ m ∧ n + d.length ≤ m) : (laidF r n d).length ≤ m := by
  by_cases e : d = []
  · subst e; rw [laidF_nil]; exact h.1
  · rw [laidF_length e]; omega
end Sip
namespace Sip
open PySem PySem.Spec PyProof.Rows L2 PySem.Builtin PySem.Builtin.Str PySem.Builtin.Int PySem.Builtin.Float

def figs : List Nat := [48, 49, 50, 51, 52, 53, 54, 55, 56, 57, 97, 98, 99, 100, 101, 102]
/-- two figures of sixteen -/
def two (n : Nat) : Str := ⟨#[figs.getD (n / 16) 0, figs.getD (n % 16) 0]⟩
def hexSpec : FormatSpec := { fill := 48, align := 61, width := some 2, type := some 120 }
theorem hex_parse : parseFormatSpec (Str.ofString "02x").cps.toList "int" 62 = .ok hexSpec := by kernel_rfl
theorem hex_ascii : (((Str.ofString "02x").cps.toList.drop 1).any (· ≥ 128) || ((Str.ofString "02x").cps.getD 0 0 ≥ 128 && !([60, 62, 61, 94] : List Nat).contains ((Str.ofString "02x").cps.getD 1 0))) = false := by decide +kernel
theorem hex_some : ((Str.ofString "02x").length == 0) = false := by decide +kernel
theorem hex_ex : ∃ F : Int → Str, (∀ (a : Int) (t u : Tok), Gives («int.__format__» ⟨[.int a t, .str (Str.ofString "02x") u], []⟩) (.str (F a))) ∧ ∀ b : Fin 256, F (b.val : Int) = two b.val := by
  apply Exists.intro
  apply And.intro
  · intro a t u prog w A R s hq
    unfold «int.__format__»
    simp only [selfAndOne, noKeywords, Int.intOfSelf, asInt?, asStr?, List.isEmpty_nil, if_true, pure_bind, bind_pure, bind_assoc, hex_some, hex_ascii, Bool.false_eq_true, if_false,
      show (Value.str (Str.ofString "02x") u == Value.none) = false from rfl]
    refine wpAny_bind (wpAny_typeNameOf (T := "str") (typeIs_str _ _ _) (by decide) fun _ => wpAny_bind (wpAny_typeNameOfCut_int ?_))
    simp only [hex_parse]
    refine PySem.W.KFB.if_so (by decide +kernel) ?_
    show wpAny _ _ (retStr _) _ _ _
    unfold retStr
    exact wpAny_bind (wpAny_mkStr (wpAny_pure hq.2) hq.1)
  · decide +kernel
end Sip
namespace Sip
open PySem PySem.Spec PyProof.Rows L2 TL

section
variable {X : Cx}
/-- f'{b:02x}' of a byte -/
def tHex (te : TE) : TE := fun σ H Q => te σ H fun x H1 => ∃ b : Nat, b < 256 ∧ x = .int b ∧ Q (.str (two b)) H1
theorem pe_hex {e : Expr} {te : TE} {k : Nat} {p1 p2 p3 p4 : Pos} (he : PE X e te) :
    PE X (.JoinedStr [.FormattedValue e (-1) (some (.JoinedStr [.Constant (.str (Str.ofString "02x")) k p1] p2)) p3] p4) (tHex te) := by
  have hs : PE X (.JoinedStr [.Constant (.str (Str.ofString "02x")) k p1] p2) (tC (.str (Str.ofString "02x"))) := pe_joined1 pe_str
  obtain ⟨F, g1, g2⟩ := hex_ex
  refine ⟨fun pins s σ H Q I h => wpAny_JoinedStr_one (wpAny_FormattedValue_spec (thn (he.run pins s σ H _ I h) fun v s1 ⟨x, H1, I1, r1, q1⟩ => ?_))⟩
  obtain ⟨b, hb, rfl, q⟩ := q1
  obtain ⟨t, rfl⟩ := r1
  refine thn (hs.run pins s1 σ H1 (fun y H2 => y = .str (Str.ofString "02x") ∧ H2 = H1) I1 ⟨rfl, rfl⟩) fun u s2 ⟨y, H2, I2, r2, ey, eH⟩ => ?_
  subst ey eH
  obtain ⟨t2, rfl⟩ := r2
  have e2 : F (b : Int) = two b := g2 ⟨b, hb⟩
  refine ⟨_, _, rfl, wpAny_formatField_spec (x := F (b : Int)) hex_some (fun s' => typeIs_int s' _ _) PySem.F.slot_int_format PySem.F.entry_int_format PySem.F.args_int_format_2 (fun u => g1 b t u) ?_ (by rw [sizeLine_eq]; decide +kernel) (by rw [e2, sizeLine_eq]; show (2 : Nat) ≤ _; decide)⟩
  rw [e2]
  exact ⟨.str (two b), H2, (I2.tok _).tok _, ⟨_, rfl⟩, q⟩
end

/-! the text of a row, as codes -/
def twoL (b : Int) : List Nat := [figs.getD (b.toNat / 16) 0, figs.getD (b.toNat % 16) 0]
def txL (bs : List Int) : List Nat := bs.flatMap twoL
def tx (bs : List Int) : Str := ⟨(txL bs).toArray⟩
def Bytes (bs : List Int) : Prop := ∀ b ∈ bs, 0 ≤ b ∧ b ≤ 255
theorem txL_length : ∀ bs : List Int, (txL bs).length = 2 * bs.length
  | [] => rfl
  | b :: r => by
    show (twoL b ++ txL r).length = 2 * (r.length + 1)
    rw [List.length_append, txL_length r]
    show 2 + 2 * r.length = _
    omega
theorem tx_length (bs : List Int) : (tx bs).length = 2 * bs.length := by
  show (txL bs).toArray.size = _
  rw [List.size_toArray, txL_length]
theorem txL_append (a b : List Int) : txL (a ++ b) = txL a ++ txL b := List.flatMap_append
theorem tx_append (a b : List Int) : tx (a ++ b) = tx a ++ tx b := ext_toList (by
  show (txL (a ++ b)).toArray.toList = ((txL a).toArray ++ (txL b).toArray).toList
  rw [Array.toList_append, txL_append])
/-- a figure's worth -/
def wor (c : Nat) : Nat := figs.idxOf c
theorem wor_figs : ∀ j : Fin 16, wor (figs.getD j.val 0) = j.val := by decide
theorem twoL_back {b : Int} (h : 0 ≤ b ∧ b ≤ 255) : ∃ i j : Nat, i < 16 ∧ j < 16 ∧ twoL b = [figs.getD i 0, figs.getD j 0] ∧ b = 16 * (i : Int) + j :=
  ⟨b.toNat / 16, b.toNat % 16, by omega, by omega, rfl, by omega⟩
theorem figs_inj {i j : Nat} (hi : i < 16) (hj : j < 16) (e : figs.getD i 0 = figs.getD j 0) : i = j := by
  have a : wor (figs.getD i 0) = i := wor_figs ⟨i, hi⟩
  have b : wor (figs.getD j 0) = j := wor_figs ⟨j, hj⟩
  exact a.symm.trans ((congrArg wor e).trans b)
theorem txL_inj : ∀ {a b : List Int}, Bytes a → Bytes b → txL a = txL b → a = b
  | [], [], _, _, _ => rfl
  | [], y :: r, _, _, e => by cases e
  | x :: r, [], _, _, e => by cases e
  | x :: r, y :: q, ha, hb, e => by
    obtain ⟨i, j, hi, hj, e1, e2⟩ := twoL_back (ha x (List.mem_cons_self ..))
    obtain ⟨m, n, hm, hn, e3, e4⟩ := twoL_back (hb y (List.mem_cons_self ..))
    have e5 : twoL x ++ txL r = twoL y ++ txL q := e
    rw [e1, e3] at e5
    have e6 := List.cons.inj e5
    have e7 := List.cons.inj e6.2
    have k1 := figs_inj hi hm e6.1
    have k2 := figs_inj hj hn e7.1
    have k3 := txL_inj (fun z hz => ha z (List.mem_cons_of_mem _ hz)) (fun z hz => hb z (List.mem_cons_of_mem _ hz)) e7.2
    rw [e2, e4, k1, k2, k3]
theorem tx_inj {a b : List Int} (ha : Bytes a) (hb : Bytes b) (e : tx a = tx b) : a = b := txL_inj ha hb (by
  have := congrArg (fun s : Str => s.cps.toList) e
  exact this)
theorem tx_eq {a b : List Int} (ha : Bytes a) (hb : Bytes b) : decide (V.str (tx a) = V.str (tx b)) = decide (a = b) := by
  by_cases h : a = b
  · subst h; rw [decide_eq_true rfl, decide_eq_true rfl]
  · rw [decide_eq_false h, decide_eq_false]
    intro z
    exact h (tx_inj ha hb (V.str.inj z))
/-- joined from its parts -/
theorem join_two : ∀ bs : List Int, Str.join (Str.ofString "") (bs.map fun b => two b.toNat) = tx bs := fun bs => ext_toList (by
  show tl (Str.join (Str.ofString "") _) = txL bs
  rw [tl_join]
  have e0 : tl (Str.ofString "") = [] := by decide +kernel
  rw [e0, List.map_map]
  induction bs with
  | nil => rfl
  | cons b r ih =>
    cases r with
    | nil => show twoL b = twoL b ++ []; rw [List.append_nil]
    | cons c q =>
      show twoL b ++ ([] ++ joinL [] ((c :: q).map _)) = twoL b ++ txL (c :: q)
      rw [List.nil_append, ih])
/-- its signs by place -/
theorem txL_get : ∀ {bs : List Int} {i : Nat} {b : Int}, bs[i]? = some b → (txL bs)[2 * i]? = some (figs.getD (b.toNat / 16) 0) ∧ (txL bs)[2 * i + 1]? = some (figs.getD (b.toNat % 16) 0)
  | [], _, _, h => by simp at h
  | x :: r, 0, b, h => by
    have e : x = b := Option.some.inj h
    subst e
    exact ⟨rfl, rfl⟩
  | x :: r, i + 1, b, h => txL_get (bs := r) (i := i) (b := b) h
theorem tx_at {bs : List Int} {i : Nat} {b : Int} (h : bs[i]? = some b) : atI (tx bs).cps.toList ((2 * i : Nat) : Int) = some (figs.getD (b.toNat / 16) 0) ∧ atI (tx bs).cps.toList ((2 * i + 1 : Nat) : Int) = some (figs.getD (b.toNat % 16) 0) :=
  ⟨atI_nat (txL_get h).1, atI_nat (txL_get h).2⟩
def FIG : Str := Str.ofString "0123456789abcdef"
theorem fig_find : ∀ j : Fin 16, Txt.find FIG ⟨#[figs.getD j.val 0]⟩ = (j.val : Int) := by decide +kernel
theorem fig_at {j : Nat} (h : j < 16) : atI FIG.cps.toList (j : Int) = some (figs.getD j 0) := by
  have e : FIG.cps.toList = figs := by decide +kernel
  rw [e]
  refine atI_nat ?_
  rw [List.getD_eq_getElem?_getD, List.getElem?_eq_getElem (show j < figs.length from h)]; rfl
/-! slices of lists of ints -/
theorem cut_map (bs : List Int) (lo hi : Option Int) : ∃ cs : List Int, cutV (bs.map V.int) lo hi = cs.map V.int ∧ cs.length ≤ bs.length ∧ ∀ x ∈ cs, x ∈ bs := by
  refine ⟨(bs.drop (HT.sIx bs.length 0 lo)).take (HT.sIx bs.length bs.length hi - HT.sIx bs.length 0 lo), ?_, ?_, ?_⟩
  · unfold cutV
    rw [List.length_map, List.map_take, List.map_drop]
  · rw [List.length_take, List.length_drop]; omega
  · intro x hx
    exact List.mem_of_mem_drop (List.mem_of_mem_take hx)
theorem size_two (n : Nat) : Builtin.Range.rangeSize 0 ((2 * n : Nat) : Int) 2 = (n : Int) := by
  unfold Builtin.Range.rangeSize
  rw [if_pos (by decide)]
  split <;> omega
theorem range_two (n : Nat) (h : n ≤ 1000000) : RgC 0 ((2 * n : Nat) : Int) 2 n := by
  refine ⟨by decide, by decide, ?_, size_two n⟩
  have f : ∀ x : Int, 0 ≤ x → x ≤ 3000000 → Builtin.Range.rangeFitsLong x = true := fun x h0 h1 => by
    unfold Builtin.Range.rangeFitsLong
    rw [Bool.and_eq_true, decide_eq_true_eq, decide_eq_true_eq]
    omega
  unfold Builtin.Range.small
  rw [size_two, f 0 (by decide) (by decide), f ((2 * n : Nat) : Int) (by omega) (by omega), f 2 (by decide) (by decide), f (n : Int) (by omega) (by omega)]
  simp only [Bool.true_and, show (2 : Int) > 0 from by decide, if_true, Bool.or_eq_true, beq_iff_eq]
  exact .inr (f _ (by omega) (by omega))
end Sip
namespace Sip
open PySem PySem.Spec PyProof.Rows L2 TL
def spWorth : Sp := fun vs H Q _ => ∃ j : Nat, j < 16 ∧ vs = [.str ⟨#[figs.getD j 0]⟩] ∧ Q (.int j) H
def spRead : Sp := fun vs H Q _ => ∃ bs : List Int, vs = [.str (tx bs)] ∧ Bytes bs ∧ bs.length ≤ 8000 ∧ ∀ (H' : Hp) (p : Addr), H p = none → H' p = some (.lst (bs.map V.int)) → Same H H' → Q (.ref p) H'
def spTxt (K : PySem.W.Frag) : Sp := fun vs H Q _ => ∃ (a : Addr) (bs : List Int), vs = [.ref a] ∧ SqL K H a (bs.map V.int) ∧ Bytes bs ∧ bs.length ≤ 8000 ∧ ∀ H' : Hp, Same H H' → Q (.str (tx bs)) H'
theorem get_int {xs : List Int} {i : Nat} {x : V} (h : (xs.map V.int)[i]? = some x) : ∃ hi : i < xs.length, x = .int xs[i] := by
  have hi : i < xs.length := by
    have := (List.getElem?_eq_some_iff.mp h).1
    rwa [List.length_map] at this
  refine ⟨hi, ?_⟩
  rw [List.getElem?_map, List.getElem?_eq_getElem hi] at h
  exact (Option.some.inj h).symm
theorem sum_two : ∀ bs : List Int, ((bs.map fun b => two b.toNat).map (·.length)).sum = 2 * bs.length
  | [] => rfl
  | b :: r => by
    show 2 + ((r.map fun b => two b.toNat).map (·.length)).sum = 2 * (r.length + 1)
    rw [sum_two r]; omega
theorem fit_two (bs : List Int) (h : bs.length ≤ 8000) : ((bs.map fun b => two b.toNat).map (·.length)).sum + (bs.map fun b => two b.toNat).length * (Str.ofString "").length ≤ 16777216 := by
  rw [sum_two, show (Str.ofString "").length = 0 by decide +kernel]; omega
end Sip
namespace Sip
open PySem PySem.Spec PyProof.Rows L2 TL
def spAsked : Sp := fun vs H Q _ => ∃ (a : Addr) (bs : List Int), vs = [.ref a] ∧ H a = some (.lst (bs.map V.int)) ∧ Bytes bs ∧ bs.length ≤ 4000 ∧ ∀ H' : Hp, Same H H' → Q (.bl true) H'
end Sip
/-! a list comprehension whose element may raise: what is raised leaves the comprehension -/
namespace Sip
open PySem PySem.Spec PyProof.Rows L2

theorem note_same {e : Value} {a b : Env} (h : a.frame = b.frame) : noteFrame e a = noteFrame e b := by
  unfold noteFrame PySem.frameOf
  rw [h]

/-- a comprehension's end, either way -/
def endX (M : Model) (A : Around) (E : Value → Shared → Prop) (Q : Value → Shared → Prop) (acc : Value) (ce : Env) (r : Result) (s' : Shared) : Prop :=
  ∃ m, s'.heap.Ns ce.locals m ∧ ∀ h', Heap.SameBut ce.locals s'.heap h' → match r with
    | .ok _ => Q acc { s' with heap := h' }
    | .error x => wpAny M A (passOn "comprehension.variables-let-go" x ce : Sem Value) (fun _ _ => False) E { s' with heap := h' }

theorem comp_run {M : Model} {A : Around} {E : Value → Shared → Prop} {s : Shared} {env : Env} {e : Expr} {scope : Scope} {pos : Pos} {na fi : Sem Value} {g : Comprehension} {gs : List Comprehension} {cl : List (Str × Addr)} {Q : Value → Shared → Prop}
    (hg : clausesOf e = g :: gs) (hs : ∀ x, foldedSetIterable g.iter env x = pure x) (hcl : closureFor scope env = pure cl) (hk : scope.kind = .function)
    (hn : ∀ x ∈ scope.names, x.2 = .local → scope.names.lookup x.1 = some .local)
    (h : wpAny M A fi (fun x s1 => wpAny M A (pyIter x) (fun it s2 => wpAny M A na (fun acc s3 => wpAny M A (newFunctionEnv scope env.globals cl [] env.qual none .none (some env)) (fun ce s4 =>
      codeAny M A (.compStart e 0 it acc { ce with scope := relabel scope env }) (endX M A E Q acc { ce with scope := relabel scope env }) s4) E s3) E s2) E s1) E s) :
    wpAny M A (comprehension e scope env pos na false fi none) Q E s := by
  unfold comprehension
  rw [hcl, hg]
  refine wpAny_bind (wpAny_mono h (fun x s1 h1 => ?_) fun _ _ z => z)
  refine wpAny_bind (wpAny_standAt (wpAny_bind (wpAny_of_eq (hs x) ?_)))
  refine wpAny_bind (wpAny_holding (wpAny_mono h1 (fun it s2 h2 => ?_) fun _ _ z => z))
  refine wpAny_standIf (wpAny_bind (wpAny_mono h2 (fun acc s3 h3 => ?_) fun _ _ z => z))
  refine wpAny_bind (wpAny_pure (wpAny_bind (wpAny_mono h3 (fun ce s4 h4 => ?_) fun _ _ z => z)))
  dsimp only
  have vs : ∀ x ∈ (scope.names.filter fun x => (x.2 == .local || x.2 == .cell) && x.1 != (".0" : Str)).reverse, x.2 = .local → Env.kindOf { ce with scope := relabel scope env } x.1 = some .local :=
    fun x hx hl => lookup_relabel_local (hn x (List.mem_filter.mp (List.mem_reverse.mp hx)).1 hl)
  refine wpAny_holding (wpAny_bind (wpAny_attempt (wpAny_holding (wpAny_run (codeAny_mono h4 fun r s' hr => ?_)))))
  obtain ⟨m, nm, hr⟩ := hr
  cases r with
  | ok f => exact wpAny_bind (wpAny_holding (wpAny_comp_letGo (cenv := { ce with scope := relabel scope env }) hk _ s' m vs nm fun h' _ _ sb => wpAny_pure (hr h' sb)))
  | error x => exact wpAny_bind (wpAny_holding (wpAny_comp_letGo (cenv := { ce with scope := relabel scope env }) hk _ s' m vs nm fun h' _ _ sb => wpAny_mono (hr h' sb) (fun _ _ f => f.elim) fun _ _ z => z))

theorem frames_to {h h' B B' : Heap} : ∀ {l : List Env}, h.FunFrames B l → (∀ b ∈ frs l, ∀ o, h.get? b = some o → h'.get? b = some o) → (∀ b ∈ frs l, B'.get? b = none) → h'.FunFrames B' l
  | [], _, _, _ => trivial
  | v :: l, f, k, n => by
    obtain ⟨f1, ⟨L, o, f2, f3, f4, f5⟩, f6⟩ := f
    have up : ∀ b ∈ frs l, b ∈ frs (v :: l) := fun b hb => by
      obtain ⟨x, hx, q⟩ := List.mem_filterMap.mp hb
      exact List.mem_filterMap.mpr ⟨x, List.mem_cons_of_mem _ hx, q⟩
    have hL : L ∈ frs (v :: l) := List.mem_filterMap.mpr ⟨v, List.mem_cons_self, f2⟩
    exact ⟨f1, ⟨L, o, f2, n L hL, k L hL o f4, f5⟩, frames_to f6 (fun b hb => k b (up b hb)) fun b hb => n b (up b hb)⟩

section
variable {X : Cx} {pins : List (Addr × Obj)} {σ : L2.St} {H3 : Hp} {s3 : Shared}
set_option maxHeartbeats 1000000 in
theorem comp_out {scope : Scope} {ce : Env} {fp : List Addr} {W : WX} {E : XK} {pb : List (Addr × Obj)} {σb : L2.St} {Hb : Hp} {sb s' : Shared} {u acc : Value} {Q : Value → Shared → Prop}
    (I3 : Inv X pins σ H3 s3) (hst : X.stack = X.env :: X.outer) (hfr : X.env.frame = some X.env.locals) (tk : Takes X W) (hfp : ∀ b ∈ fp, FpOk X pins H3 b)
    (cf : ce.frame = X.env.frame) (cL : ce.locals = s3.heap.objs.size) (Ib : Inv (X.blk s3 H3 scope ce fp) pb σb Hb sb) (hE : ∀ cls d H', E cls d H' → W cls d σ H')
    (c : CX X.prog X.w X.stack Hb sb E u s') :
    notedBy (model X.prog X.w) X.A ce (fun e s'' => endX (model X.prog X.w) X.A X.xe Q acc ce (.error e) s'') u s' := by
  obtain ⟨a, B, H', cls, d, rfl, fl, hok, ub, na, os, ag, hw⟩ := c
  have hA : X.A.frames = some (X.env :: X.outer) := by rw [I3.ok.frames, hst]
  have Bu : Un (frs X.stack) fp H3 Hb s3.heap sb.heap := Ib.base
  have HbC : Hb ce.locals = none := Ib.free
  obtain ⟨m, ⟨oC, es, ep, eC, dC, rC⟩, _⟩ := Ib.loc
  have eC : sb.heap.get? ce.locals = some oC := eC
  have nC : ce.locals ∉ frs X.stack := fun z => by
    rcases List.mem_cons.mp (I3.stkSub _ z) with z | z
    · have := I3.lt
      rw [← z, cL] at this
      exact absurd this (Nat.lt_irrefl _)
    · exact I3.nofs (Nat.le_of_eq cL.symm) z
  have BC : B.get? ce.locals = some oC := ub.keep _ _ eC HbC nC
  have H'C : H' ce.locals = none := ub.free _ _ eC HbC
  have ffl : ∀ b ∈ frs X.stack, ∃ o, s'.heap.get? b = some o ∧ ∀ vs, o.data ≠ .fields vs := fun b hb => (fl.2.2.1.mem hb).2
  show wpAny _ _ (noteFrame (.ref a) ce) _ _ s'
  rw [note_same cf]
  have fl2 := fl
  rw [hst] at fl2
  refine HandSPX.looks_onZ Zc.steady hA hfr fl2 fun h1 hh up1 => ?_
  obtain ⟨st1, en1, ff1, tr1⟩ := hh
  refine ⟨m, ⟨oC, es, ep, st1 _ _ BC, dC, rC⟩, fun h' sbut => ?_⟩
  -- the ground without the comprehension's own names
  obtain ⟨B', b1, b2⟩ := restrict B fun b => !decide (b = ce.locals)
  have Bto : ∀ b o, B.get? b = some o → b ≠ ce.locals → B'.get? b = some o := fun b o e n => by
    rw [b1 b (by simp [n])]; exact e
  have Bof : ∀ b o, B'.get? b = some o → B.get? b = some o ∧ b ≠ ce.locals := fun b o e => by
    by_cases n : b = ce.locals
    · rw [b2 b (by simp [n])] at e; cases e
    · rw [b1 b (by simp [n])] at e; exact ⟨e, n⟩
  have Bno : ∀ b, B.get? b = none → B'.get? b = none ∧ b ≠ ce.locals := fun b e => by
    have n : b ≠ ce.locals := fun z => by rw [z, BC] at e; cases e
    exact ⟨by rw [b1 b (by simp [n])]; exact e, n⟩
  have st2 : B'.StaysIn h' := fun b o e => by
    obtain ⟨e1, n⟩ := Bof b o e
    rw [sbut.2 b n]; exact st1 b o e1
  have ff2 : h'.FunFrames B' (X.env :: X.outer) := frames_to ff1 (fun b hb o e => by
    rw [sbut.2 b (Bno b (ff1.mem hb).1).2]; exact e) fun b hb => (Bno b (ff1.mem hb).1).1
  have tr2 : HandSPX.TracedZ h' B' a (Zc cls d) (rawInt X.env.locals) := by
    obtain ⟨oe, vs, T, oT, ts, t1, t2, t3, t4, t5, t6, t7, t8, t9⟩ := tr1
    exact ⟨oe, vs, T, oT, ts, by rw [sbut.2 a (Bno a en1).2]; exact t1, t2, t3, t4, (Bno T t5).1, t6, by rw [sbut.2 T (Bno T t5).2]; exact t7, t8, t9⟩
  show wpAny _ _ (passOn "comprehension.variables-let-go" (.ref a) ce : Sem Value) _ _ _
  obtain ⟨oe, vs, T, oT, ts, t1, t2, t3, t4, t5, t6, t7, t8, t9⟩ := id tr2
  unfold PySem.passOn
  refine wpAny_bind (wpAny_field t1 t3 t4 ?_)
  rw [if_neg (show ¬ ((Value.ref T == Value.none) = true) from by simp)]
  try refine wpAny_bind (wpAny_pure ?_)
  refine wpAny_bind (HandSPX.setFlight_anyZ (s := { s' with heap := h' }) st2 ff2 tr2 fun h2 k1 k2 k3 k4 => wpAny_throw (tk _ _ ?_))
  rw [cf, hfr] at k3
  -- the state without it
  obtain ⟨G, g1, g2⟩ := restrict h2 fun b => (B'.get? b).isSome || decide (b ∈ frs X.stack)
  have gB : ∀ b o, B'.get? b = some o → G.get? b = some o := fun b o e => by
    rw [g1 b (by simp [e])]; exact k1 b o e
  have gF : ∀ b ∈ frs X.stack, G.get? b = h2.get? b := fun b hb => g1 b (by simp [hb])
  have og : ∀ b o, G.get? b = some o → h2.get? b = some o ∧ ((B'.get? b).isSome = true ∨ b ∈ frs X.stack) := fun b o e => by
    cases q : ((B'.get? b).isSome || decide (b ∈ frs X.stack)) with
    | false => rw [g2 b q] at e; cases e
    | true => rw [g1 b q] at e; exact ⟨e, by simpa [Bool.or_eq_true] using q⟩
  -- a frame's object through all of it
  have fr : ∀ b ∈ frs X.stack, ∀ o, s'.heap.get? b = some o → ∃ sl, h2.get? b = some { o with slots := sl } := fun b hb o e => by
    obtain ⟨o2, e2, nf⟩ := ffl b hb
    rw [e] at e2; cases e2
    obtain ⟨sl1, e3⟩ := up1 b o e nf
    have nb : b ≠ ce.locals := fun z => nC (z ▸ hb)
    rw [← sbut.2 b nb] at e3
    obtain ⟨sl2, e4⟩ := k4 b _ e3 nf
    exact ⟨sl2, e4⟩
  have lt3 : ∀ b o, s3.heap.get? b = some o → b ≠ ce.locals := fun b o e z => by
    have := Heap.lt_size e
    rw [z, cL] at this
    exact absurd this (Nat.lt_irrefl _)
  have U : Un (frs X.stack) fp H3 H' s3.heap G := by
    refine ⟨fun b o e n hb hx => ?_, fun b o e n hb hx => ?_, fun b o e n hx => ?_, fun b o e hx => ?_, fun b xs e => ub.tups b xs (Bu.tups b xs e), fun b o v e => ub.frzs b o v (Bu.frzs b o v e), fun b ps e => ?_⟩
    · exact gB b o (Bto b o (ub.keep b o (Bu.keep b o e n hb hx) (Bu.free b o e n hx) hb) (lt3 b o e))
    · obtain ⟨sl, e1⟩ := Bu.slot b o e n hb hx
      obtain ⟨sl1, e2⟩ := ub.slot b _ e1 hb
      obtain ⟨sl2, e3⟩ := fr b hb _ e2
      exact ⟨sl2, by rw [gF b hb]; exact e3⟩
    · obtain ⟨o1, e1⟩ := Bu.there b o e hx
      exact ub.free b o1 e1 (Bu.free b o e n hx)
    · obtain ⟨o1, e1⟩ := Bu.there b o e hx
      by_cases hb : b ∈ frs X.stack
      · obtain ⟨sl1, e2⟩ := ub.slot b _ e1 hb
        obtain ⟨sl2, e3⟩ := fr b hb _ e2
        exact ⟨_, by rw [gF b hb]; exact e3⟩
      · obtain ⟨o2, e2⟩ := ub.there b o1 e1 hb
        exact ⟨o2, gB b o2 (Bto b o2 e2 (lt3 b o e))⟩
    · obtain ⟨m1, e1⟩ := Bu.tbls b ps e
      obtain ⟨m2, e2⟩ := ub.tbls b _ e1
      exact ⟨m1 ++ m2, by rw [e2]; simp⟩
  have hokG : HOk X.prog X.w H' G := fun b o q => (hok b o q).stay (fun c v hc r => gB c v (Bto c v r fun z => by
    rcases hc with hc | hc
    · rw [← hc, z, H'C] at q; cases q
    · rw [z, H'C] at hc; cases hc)) (fun _ r => r) fun _ _ r => r
  have IX : Inv X pins σ H' { s3 with heap := G, gens := s'.gens, drawn := s'.drawn, toks := s'.toks } :=
    I3.call (ch := fp) U hokG ag fun b hb => ⟨(hfp b hb).2.2.2.1, (hfp b hb).2.1, (hfp b hb).2.2.2.2.1, (hfp b hb).2.2.2.2.2⟩
  refine ⟨a, B', _, pins, σ, H', cls, d, rfl, IX, fun b o e hb => ?_, Heap.UpToSlots.of_keeps fun b o e => (og b o e).1, .inr (.inr ⟨k1, (Bno a en1).1, by rw [hst]; exact k2, k3⟩), na, os.trans Ib.os, ag, hE _ _ _ hw⟩
  obtain ⟨e1, w1⟩ := og b o e
  rcases w1 with w1 | w1
  · obtain ⟨o2, q2⟩ := Option.isSome_iff_exists.mp w1
    have := k1 b o2 q2
    rw [e1] at this; cases this
    exact q2
  · exact absurd w1 hb
end

/-- another wish about what is raised -/
abbrev withX (X : Cx) (xe : Value → Shared → Prop) : Cx := { X with xe := xe }
theorem swapX {X : Cx} {pins : List (Addr × Obj)} {σ : L2.St} {H : Hp} {s : Shared} (xe : Value → Shared → Prop) (I : Inv X pins σ H s) : Inv (withX X xe) pins σ H s :=
  ⟨⟨I.ok.mod, I.ok.kind, I.ok.glob, I.ok.blt, I.ok.above, I.ok.inj, I.ok.has, I.ok.cab, I.ok.hd, I.ok.frames, I.ok.stk, I.ok.exf, I.ok.bs, I.ok.bsz, I.ok.noex, I.ok.exfs, I.ok.funs, I.ok.frf⟩,
    I.os, I.bare, I.base, I.loc, I.cell, I.free, I.freeC, I.pin, I.hok, I.len⟩
theorem unswapX {X : Cx} {pins : List (Addr × Obj)} {σ : L2.St} {H : Hp} {s : Shared} {xe : Value → Shared → Prop} (I : Inv (withX X xe) pins σ H s) : Inv X pins σ H s :=
  ⟨⟨I.ok.mod, I.ok.kind, I.ok.glob, I.ok.blt, I.ok.above, I.ok.inj, I.ok.has, I.ok.cab, I.ok.hd, I.ok.frames, I.ok.stk, I.ok.exf, I.ok.bs, I.ok.bsz, I.ok.noex, I.ok.exfs, I.ok.funs, I.ok.frf⟩,
    I.os, I.bare, I.base, I.loc, I.cell, I.free, I.freeC, I.pin, I.hok, I.len⟩
section
variable {X : Cx}
/-- [elt for target in iter], where elt may raise: W tells what is then wanted -/
def tLcX (wi : TI) (g : TG) (te : XK → TE) (vs : List Nat) (W : WX) : TE := fun σ H Q => tLc wi g tYes (te fun cls d H' => W cls d σ H') vs σ H Q
set_option maxHeartbeats 2000000 in
theorem pe_lcX {elt tg iter : Expr} {scope : Scope} {own : List (Str × Nat)} {pos : Pos} {wi : TI} {g : TG} {te : XK → TE} {W : WX} (hc : X.calm = true) (hst : X.stack = X.env :: X.outer) (hfr : X.env.frame = some X.env.locals) (tk : Takes X W) (hN : X.N.Nodup)
    (hi : PI X tg iter wi) (ok : BlkOk X.N X.env.scope scope own)
    (hg : ∀ (s : Shared) (H : Hp) (C : Addr) (cl : List (Str × Addr)) (fp : List Addr), PG (X.blk s H scope (compEnvC scope cl C X.env) fp) tg g)
    (he : ∀ (s : Shared) (H : Hp) (C : Addr) (cl : List (Str × Addr)) (fp : List Addr) (xe : Value → Shared → Prop) (E : XK), Passes (CX X.prog X.w) (withX (X.blk s H scope (compEnvC scope cl C X.env) fp) xe) E →
      PE (withX (X.blk s H scope (compEnvC scope cl C X.env) fp) xe) elt (te E))
    (hs : ∀ x, foldedSetIterable iter X.env x = pure x := by intro _; rfl) : PE X (.ListComp elt [⟨tg, iter, [], 0⟩] scope pos) (tLcX wi g te (own.map (·.2)) W) := by
  refine ⟨fun pins s σ H Q I h => ?_⟩
  have h : tLc wi g tYes (te fun cls d H' => W cls d σ H') (own.map (·.2)) σ H Q := h
  generalize hE : (fun cls d H' => W cls d σ H' : XK) = E at h
  have hEW : ∀ cls d H', E cls d H' → W cls d σ H' := fun cls d H' q => by rw [← hE] at q; exact q
  rw [eval_ListComp]
  have cells : ∀ y ∈ scope.names, y.2 = .free → ∃ c, X.env.cells.lookup y.1 = some c := fun y hy e => (ok.free y hy e).elim (fun k => I.ok.has _ (.inl k)) fun k => I.ok.has _ (.inr k)
  refine comp_run rfl hs (closure_ok cells) ok.kind (fun y hy e => by rw [ok.uniq y hy, e]) (thn (hi.run pins s σ H _ I h) fun xv s1 hx => ?_)
  refine thn hx fun itv s2 h2 => ?_
  obtain ⟨it, fp, tn, J, H2, rfl, I2, T, st2, f2, q⟩ := h2
  refine wpAny_newObj_type (newEnv_comp ?_) (by show 0 ≤ sizeLine; decide)
  generalize eD : s2.heap.objs.size = D
  have nD : H2 D = none := I2.hok.fresh (Nat.le_of_eq eD)
  obtain ⟨Wi, ⟨m0, w0⟩, turn⟩ := q D nD
  generalize es3 : ({ s2 with heap := s2.heap.push { cls := .type "list", data := .seq ([] : List Value).toArray } } : Shared) = s3
  have p3 : s3.heap = s2.heap.push { cls := .type "list", data := .seq ([] : List Value).toArray } := by rw [← es3]
  have I3 : Inv X pins σ (upd H2 D (.lst [])) s3 := by
    subst es3
    refine I2.laid (t' := s2.toks) (fun b o e => Heap.get?_push_of_some _ e) (Nat.le_of_eq eD) ⟨Nat.zero_le _, [], 0, .nil, ?_⟩
    subst eD
    exact Heap.get?_push_size _ rfl
  have f3 : ∀ b ∈ fp, FpOk X pins (upd H2 D (.lst [])) b ∧ b < s3.heap.objs.size := fun b hb => by
    obtain ⟨o, e, _⟩ := T.obj _ _ st2 b hb
    have lt := Heap.lt_size e
    refine ⟨⟨?_, (f2 b hb).2⟩, by rw [p3, Heap.size_push]; exact Nat.lt_succ_of_lt lt⟩
    rw [upd_ne (by rw [← eD]; exact Nat.ne_of_lt lt)]
    exact (f2 b hb).1
  have st3 : tn 0 s3.heap := T.keep _ _ _ st2 fun b _ o e => by rw [p3]; exact Heap.get?_push_of_some _ e
  have I4 := block_start I3 ok hN f3
  generalize ecl : cellsFrom (s3.heap.objs.size + 1) scope.names (cloFrom X.env.cells scope.names []) = cl at I4 ⊢
  have pg := hg s3 (upd H2 D (.lst [])) s3.heap.objs.size cl fp
  have pe := he s3 (upd H2 D (.lst [])) s3.heap.objs.size cl fp
  have nf : ∀ b ∈ fp, (upd H2 D (.lst [])) b = none := fun b hb => (f3 b hb).1.1
  show codeAny _ _ (.compStart (.ListComp elt [⟨tg, iter, [], 0⟩] scope pos) 0 (.ref it) (.ref D) (compEnvC scope cl s3.heap.objs.size X.env)) (endX (model X.prog X.w) X.A X.xe (EP X pins σ Q) (.ref D) (compEnvC scope cl s3.heap.objs.size X.env)) { s3 with heap := pushCells (s3.heap.push { cls := .type "dict", data := .dict #[] }) scope.names }
  generalize ece : compEnvC scope cl s3.heap.objs.size X.env = ce at I4 pg pe ⊢
  have cL : ce.locals = s3.heap.objs.size := by subst ece; rfl
  have cF : ce.frame = X.env.frame := by subst ece; rfl
  generalize eH3 : upd H2 D (.lst []) = H3 at I3 I4 pg pe w0 nf f3
  generalize es4 : ({ s3 with heap := pushCells (s3.heap.push { cls := .type "dict", data := .dict #[] }) scope.names } : Shared) = s4 at I4 ⊢
  have st4 : tn 0 s4.heap := T.keep _ _ _ st3 fun b _ o e => by rw [← es4]; exact pushCells_keeps _ _ _ _ (Heap.get?_push_of_some _ e)
  generalize eY : X.blk s3 H3 scope ce fp = Y at I4 pg pe
  have Yi : ∀ {σ' : L2.St} {H' : Hp} {s' : Shared}, Inv Y [] σ' H' s' → (∀ b ∈ fp, H' b = none) → ∀ b ∈ fp, FpOk Y [] H' b := fun {σ' H' s'} I' hn b hb => by
    subst eY
    exact ⟨hn b hb, (I'.ok.exf b hb).1, I'.ok.exfs b hb, .inl hb, fun x c e => (I'.ok.exf b hb).2 x c e, fun p hp => absurd (show p ∈ ([] : List (Addr × Obj)) ++ [] from hp) (by simp)⟩
  -- what is raised in the block
  have out : ∀ {pb : List (Addr × Obj)} {σb : L2.St} {Hb : Hp} {sb s' : Shared} {u : Value}, Inv Y pb σb Hb sb → CX X.prog X.w X.stack Hb sb E u s' →
      notedBy (model X.prog X.w) X.A ce (fun e s'' => endX (model X.prog X.w) X.A X.xe (EP X pins σ Q) (.ref D) ce (.error e) s'') u s' := fun {pb σb Hb sb s' u} Ib c => by
    subst eY
    exact comp_out I3 hst hfr tk (fun b hb => (f3 b hb).1) cF cL Ib hEW c
  have Yp : Y.prog = X.prog ∧ Y.w = X.w ∧ Y.K = X.K ∧ Y.A = X.A ∧ Y.env = ce ∧ Y.stack = X.stack ∧ Y.xe = (fun _ _ => False) := by subst eY; exact ⟨rfl, rfl, rfl, rfl, rfl, rfl, rfl⟩
  have back : ∀ {H5 : Hp} {s6 : Shared}, Inv Y [] (wipe σ (own.map (·.2))) H5 s6 → Inv X pins σ H5 s6 ∧ H5 s3.heap.objs.size = none ∧ ∃ m, s6.heap.Ns ce.locals m := fun {H5 s6} I6 => by
    subst eY
    refine ⟨I3.call' (ch := fp) I6.os I6.base I6.hok I6.bare fun b hb => ?_, ?_, ?_⟩
    · obtain ⟨⟨_, z1, _, z3, z4, z5⟩, _⟩ := f3 b hb
      exact ⟨z3, z1, z4, z5⟩
    · have z : H5 ce.locals = none := I6.free
      rw [cL] at z; exact z
    · obtain ⟨m, hn, _⟩ := I6.loc
      exact ⟨m, hn⟩
  subst eY
  have loop : codeAny (model X.prog X.w) X.A (.compLoop (.ListComp elt [⟨tg, iter, [], 0⟩] scope pos) 0 (.ref it) (.ref D) ce) (endX (model X.prog X.w) X.A X.xe (EP X pins σ Q) (.ref D) ce) s4 := by
    refine compLoop_any (fun n s' => ∃ i H', Inv (X.blk s3 H3 scope ce fp) [] (wipe σ (own.map (·.2))) H' s' ∧ tn i s'.heap ∧ (∀ b ∈ fp, H' b = none) ∧ Wi i n H') (fun n s5 hI => ?_) m0 ⟨0, H3, I4, st4, nf, w0⟩
    obtain ⟨i, H5, I5, st5, n5, w5⟩ := hI
    rcases turn i n H5 w5 with ⟨stop, qq⟩ | ⟨go, Nx, hNx, step⟩
    · refine thnF (T.done (X.blk s3 H3 scope ce fp) rfl rfl rfl hc i [] s5 _ H5 (fun _ _ => False) I5 (Yi I5 n5) st5 stop) fun r s6 ⟨hr, I6⟩ => ?_
      subst hr
      obtain ⟨I7, nC, m, hn⟩ := back I6
      refine ⟨m, hn, fun h' sb => ?_⟩
      obtain ⟨c0, c1, c2, c3, c4, c5⟩ := I3.fpOk (Nat.le_refl _) nC
      rw [cL] at sb
      exact ⟨.ref D, H5, I7.turned (t' := s6.toks) (fun b o hb e => (sb.2 b hb).trans e) c0 c1 c3 c4 c5, rfl, qq⟩
    · refine thnF (T.item (X.blk s3 H3 scope ce fp) rfl rfl rfl hc i [] s5 _ H5 (fun _ _ => False) I5 (Yi I5 n5) st5 go) fun r s6 ⟨u, hr, h6⟩ => ?_
      subst hr
      refine thnF h6 fun _ s7 ⟨x, H7, I7, r7, y7, st7, n7⟩ => ?_
      have I7p := I7.pinned (Yi I7 n7) (T.obj _ _ st7)
      refine thnF (pg.run _ s7 _ H7 x u _ I7p r7 (step x H7 y7)) fun _ s8 ⟨σ8, H8, I8, w8, q8⟩ => wpAny_tests_nil ?_
      have q9 : te E σ8 H8 fun y H4 => ∃ acc, H4 D = some (.lst acc) ∧ acc.length < sizeLine ∧ Nx (upd H4 D (.lst (acc ++ [y]))) := q8
      rw [if_pos rfl]
      have pe1 := pe (fun u s' => ∃ pb σb Hb sb, Inv (X.blk s3 H3 scope ce fp) pb σb Hb sb ∧ CX X.prog X.w X.stack Hb sb E u s') E (fun pb σb Hb sb e s' Ib c => ⟨pb, σb, Hb, sb, unswapX Ib, c⟩)
      refine wpAny_mono (pe1.run _ s8 σ8 H8 _ (swapX _ I8) q9) (fun z s10 hz => ?_) (fun e s' hx => ?_)
      · obtain ⟨yv, H10, I10, r10, acc, d10, z10, nx⟩ := hz
        refine app_ok (X := X.blk s3 H3 scope ce fp) (unswapX I10) d10 z10 r10 fun s11 I11 => ?_
        obtain ⟨m', hm, w'⟩ := hNx _ nx
        have pin : ∀ b ∈ fp, ∀ o, s7.heap.get? b = some o → s11.heap.get? b = some o ∧ (upd H10 D (.lst (acc ++ [yv]))) b = none := fun b hb o e => by
          have z := I11.pin (b, o) (List.mem_append_right _ (List.mem_append_right _ (mem_pinsAt hb e)))
          exact ⟨z.1, z.2.1⟩
        refine ⟨m', hm, i + 1, _, (I11.unpinned (pins := [])).weak (by rw [← w8, wipe_length]) (fun j v e => ?_), T.keep _ _ _ st7 fun b hb o e => (pin b hb o e).1, fun b hb => ?_, w'⟩
        · rw [← w8] at e
          exact (wipe_some e).1
        · obtain ⟨o, e, _⟩ := T.obj _ _ st7 b hb
          exact (pin b hb o e).2
      · obtain ⟨pb, σb, Hb, sb, Ib, c⟩ := hx
        exact out Ib c
  exact codeAny_compStart_list loop (T.self X.A 0 _ _ _ st4 loop)
end
end Sip
namespace Sip
open PySem PySem.Spec PyProof.Rows L2 TL

section
variable {X : Cx}
/-- X(), X an own error class without an __init__ of its own -/
theorem pmk_own0 {C : Addr} {bmB : List Value} {B newId initId : String} {x : Str} {p pos : Pos} (F : ExcBaseFacts B newId initId bmB) (q : PySem.W.excIn X.K C bmB newId = true) (gC : X.mg x = some (.ref C)) (kC : PySem.W.keepIn X.K (.ref C) = true)
    (r : Raises X (.ref C)) (hg : Gl X x) (hdb : (x == ("__debug__" : Str)) = false := by decide) : PMk X (.Call (.Name x p) [] [] pos) (fun _ H Q => Q (.ref C) none H) := by
  intro pins s σ H Q I h
  refine wpAny_Call_Name_kw (ld_glob I hg gC (PySem.W.callWith_K0 I.kIn kC ?_) hdb)
  obtain ⟨bm, N, nm, qn, bs, hdct, sn, sub, ab, col, dd, k0, k1, k2, k3, k5, mN, hC, hN, hni, T⟩ := exc_obj I.kIn q
  exact wpAny_call_exc_subT (rest := []) F T hC hN hni (fun h' e hm => mk_of I hm r h (I.hok.gone hm.new)) (Nat.zero_le _)
/-- isinstance(e, c), e the caught error, whose class is to be shown -/
def rIsX (K : PySem.W.Frag) (D : Addr) (cls : Value) (d : Option Addr) (a : Addr) : List V → Hp → VK → Prop := fun xs H Q => cls = .ref D ∧ d = none ∧ rIsE K D a xs H Q
theorem call_isX {a D : Addr} {oe : Obj} {cls : Value} {d : Option Addr} {pn : List (Addr × Obj)} (C : ExcC X.K D) (hz : Zc cls d oe) (hf : ∃ vs, oe.data = .fields vs) : CallR (X.suite a ((a, oe) :: pn)) (.builtin "isinstance") (rIsX X.K D cls d a) := by
  intro pins s σ H xs us Q I r h
  obtain ⟨rfl, rfl, h⟩ := h
  exact call_isE C hz hf pins s σ H xs us Q I r h
end
/-- what the text's error classes are: C the one that is raised, S the one above it -/
structure Errs (K : PySem.W.Frag) (mg : Str → Option Value) (C S : Addr) : Prop where
  gP : mg "NoRow" = some (.ref C)
  gS : mg "SipError" = some (.ref S)
  xP : PySem.W.excIn K C [.type "ValueError", .type "Exception", .type "BaseException", .type "object"] "ValueError.__new__" = true
  kP : PySem.W.keepIn K (.ref C) = true
  bP : PySem.W.subIn K (.ref C) (.type "BaseException") = some true
  tP : PySem.W.typeIn K (.ref C) = some (.type "type")
  te : PySem.W.exmOne K (.ref C) (.ref C) = some true
  i1 : PySem.W.kitOne K (.ref C) (.ref S) = some true
  i2 : PySem.W.kitOne K (.ref C) (.type "ValueError") = some true
  ec : ExcC K C

/-! texts of plain signs -/
def Asc (z : Str) : Prop := ∀ c ∈ z.cps.toList, c < 128
theorem asc_append {a b : Str} (ha : Asc a) (hb : Asc b) : Asc (a ++ b) := fun c hc => by
  have e : (a ++ b).cps.toList = a.cps.toList ++ b.cps.toList := tl_append a b
  rw [e] at hc
  exact (List.mem_append.mp hc).elim (ha c) (hb c)
theorem asc_cut {z : Str} (h : Asc z) (lo hi : Option Int) : Asc (cutS z lo hi) := fun c hc => by
  have e : (cutS z lo hi).cps.toList = (z.cps.toList.drop (HT.sIx z.length 0 lo)).take (HT.sIx z.length z.length hi - HT.sIx z.length 0 lo) := rfl
  rw [e] at hc
  exact h c (List.mem_of_mem_drop (List.mem_of_mem_take hc))
theorem up_small : ∀ c : Fin 128, up1 c.val < 128 := by decide +kernel
theorem asc_upper {z : Str} (h : Asc z) : Asc (Txt.upper z) ∧ (Txt.upper z).length = z.length := by
  rw [upper_ascii h]
  refine ⟨fun c hc => ?_, ?_⟩
  · have e : (z.cps.map up1).toList = z.cps.toList.map up1 := Array.toList_map ..
    have hc : c ∈ (z.cps.map up1).toList := hc
    rw [e] at hc
    obtain ⟨b, hb, rfl⟩ := List.mem_map.mp hc
    exact up_small ⟨b, h b hb⟩
  · show (z.cps.map up1).size = z.cps.size
    exact Array.size_map ..
theorem len_append (a b : Str) : (a ++ b).length = a.length + b.length := strLen_append ..
theorem asc_one {c : Nat} (h : c < 128) : Asc ⟨#[c]⟩ := fun x hx => by
  have : x ∈ [c] := hx
  rw [List.mem_singleton.mp this]; exact h

/-! which texts are read, and to what -/
theorem find_fig : ∀ c : Fin 128, Txt.find FIG ⟨#[c.val]⟩ = if c.val ∈ figs then (wor c.val : Int) else -1 := by decide +kernel
theorem index_fig : ∀ c : Fin 128, c.val ∈ figs → Txt.index0 FIG ⟨#[c.val]⟩ = some (wor c.val) := by decide +kernel
def okT (cs : List Nat) : Prop := cs.length % 2 = 0 ∧ ∀ c ∈ cs, c ∈ figs
def rd (cs : List Nat) (i : Nat) : Int := 16 * (wor (cs.getD (2 * i) 0) : Int) + (wor (cs.getD (2 * i + 1) 0) : Int)
def rdL (cs : List Nat) : List Int := (List.range (cs.length / 2)).map (rd cs)
theorem rdL_length (cs : List Nat) : (rdL cs).length = cs.length / 2 := by
  unfold rdL; rw [List.length_map, List.length_range]
theorem rdL_get {cs : List Nat} {i : Nat} (h : i < cs.length / 2) : (rdL cs)[i]? = some (rd cs i) := by
  unfold rdL; rw [List.getElem?_map, List.getElem?_range h]; rfl
theorem get_at {cs : List Nat} {i : Nat} (h : i < cs.length) : atI cs (i : Int) = some (cs.getD i 0) ∧ cs.getD i 0 ∈ cs := by
  have e : cs.getD i 0 = cs[i] := by rw [List.getD_eq_getElem?_getD, List.getElem?_eq_getElem h]; rfl
  rw [e]
  exact ⟨atI_nat (List.getElem?_eq_getElem h), List.getElem_mem h⟩
theorem len_codes (z : Str) : z.length = z.cps.toList.length := by
  show z.cps.size = _
  exact (Array.length_toList ..).symm
def spWorthX (C : Addr) : Sp := fun vs H Q E => ∃ c : Nat, c < 128 ∧ vs = [.str ⟨#[c]⟩] ∧ (c ∈ figs → Q (.int (wor c : Nat)) H) ∧ (c ∉ figs → E (.ref C) none H)
def spReadX (C : Addr) : Sp := fun vs H Q E => ∃ z : Str, vs = [.str z] ∧ Asc z ∧ z.length ≤ 1000 ∧
  (okT z.cps.toList → ∀ (H' : Hp) (p : Addr), H p = none → H' p = some (.lst ((rdL z.cps.toList).map V.int)) → Same H H' → Q (.ref p) H') ∧ (¬ okT z.cps.toList → ∀ H' : Hp, Same H H' → E (.ref C) none H')
def spDueT : Sp := fun vs H Q _ => ∃ z : Str, vs = [.str z] ∧ Asc z ∧ z.length ≤ 1000 ∧
  (okT z.cps.toList → ∀ (H' : Hp) (p : Addr), H p = none → H' p = some (.lst ((rdL z.cps.toList).map V.int)) → Same H H' → Q (.ref p) H') ∧ (¬ okT z.cps.toList → ∀ H' : Hp, Same H H' → Q .non H')
/-- a text drawn from a pool -/
def spDraw : Sp := fun vs H Q _ => ∃ (p : Addr) (n : Int) (o : HO), vs = [.ref p] ∧ H p = some o ∧ PoolO n o ∧ n ≤ 900000000 ∧
  ∀ (H' : Hp) (z : Str) (o' : HO), H' p = some o' → PoolO (n + 100) o' → Kp [p] H H' → Asc z → z.length ≤ 60 → Q (.str z) H'
def spSign : Sp := fun vs H Q _ => ∃ (p : Addr) (n : Int) (o : HO), vs = [.ref p] ∧ H p = some o ∧ PoolO n o ∧ n ≤ 999999000 ∧
  ∀ (c : Nat) (o' : HO), c < 128 → PoolO (n + 1) o' → Q (.str ⟨#[c]⟩) (upd H p o')
def spSpoilt : Sp := fun vs H Q _ => ∃ (p : Addr) (n : Int) (o : HO) (z : Str), vs = [.ref p, .str z] ∧ H p = some o ∧ PoolO n o ∧ n ≤ 999990000 ∧ Asc z ∧ z.length ≤ 100 ∧
  ∀ (y : Str) (o' : HO), Asc y → y.length ≤ z.length + 1 → PoolO (n + 3) o' → Q (.str y) (upd H p o')
def spAskedT : Sp := fun vs H Q _ => ∃ z : Str, vs = [.str z] ∧ Asc z ∧ z.length ≤ 1000 ∧ ∀ H' : Hp, Same H H' → Q (.bl true) H'
def SIGNS : Str := Str.ofString " !\"#$&'()*+,-./0123456789:;<=>?@ABCDEFGHIJKLMNOPQRSTUVWXYZ[\\]^_`abcdefghijklmnopqrstuvwxyz{|}~"
theorem signs_asc : SIGNS.cps.toList.length = 94 ∧ ∀ c ∈ SIGNS.cps.toList, c < 128 := by decide +kernel
def GIF : Str := Str.ofString "fedcba9876543210"
theorem gif_asc : GIF.cps.toList.length = 16 ∧ ∀ c ∈ GIF.cps.toList, c < 128 := by decide +kernel
theorem fig_asc : FIG.cps.toList.length = 16 ∧ ∀ c ∈ FIG.cps.toList, c < 128 := by decide +kernel
theorem str_at {z : Str} {n : Nat} (hz : z.cps.toList.length = n ∧ ∀ c ∈ z.cps.toList, c < 128) {r : Int} (r0 : 0 ≤ r) (r1 : r < n) : ∃ c, c < 128 ∧ atI z.cps.toList r = some c := by
  obtain ⟨j, rfl⟩ := Int.eq_ofNat_of_zero_le r0
  obtain ⟨e, m⟩ := get_at (cs := z.cps.toList) (i := j) (by rw [hz.1]; omega)
  exact ⟨_, hz.2 _ m, e⟩
end Sip
namespace Sip
open PySem PySem.Spec PyProof.Rows L2 TL
theorem cut_codes (z : Str) (lo hi : Option Int) : (cutS z lo hi).length = ((z.cps.toList.drop (HT.sIx z.length 0 lo)).take (HT.sIx z.length z.length hi - HT.sIx z.length 0 lo)).length := by
  rw [len_codes]; rfl
theorem cut_len1 (z : Str) {k : Nat} (h : k ≤ z.length) : (cutS z none (some (k : Int))).length = k := by
  have lc := len_codes z
  rw [cut_codes, HT.sIx_none, HT.sIx_nat, List.length_take, List.length_drop]; omega
theorem cut_len2 (z : Str) {k : Nat} (h : k ≤ z.length) : (cutS z (some (k : Int)) none).length = z.length - k := by
  have lc := len_codes z
  rw [cut_codes, HT.sIx_none, HT.sIx_nat, List.length_take, List.length_drop]; omega
theorem cut_len3 (z : Str) {k : Nat} (h : k ≤ z.length) : (cutS z (some ((k : Nat) + 1 : Int)) none).length ≤ z.length - k := by
  have lc := len_codes z
  rw [show ((k : Nat) + 1 : Int) = ((k + 1 : Nat) : Int) by omega, cut_codes, HT.sIx_none, HT.sIx_nat, List.length_take, List.length_drop]; omega
end Sip
namespace Sip
open PySem PySem.Spec PyProof.Rows L2 TL
theorem all_figs {cs : List Nat} : ((cs.map fun c => decide (c ∈ figs)).all id) = true ↔ ∀ c ∈ cs, c ∈ figs := by
  rw [List.all_eq_true]
  constructor
  · intro h c hc
    exact of_decide_eq_true (h _ (List.mem_map.mpr ⟨c, hc, rfl⟩))
  · intro h x hx
    obtain ⟨c, hc, rfl⟩ := List.mem_map.mp hx
    exact decide_eq_true (h c hc)
end Sip
namespace Sip
open PySem PySem.Spec PyProof.Rows L2 TL
theorem asc_nil : Asc (Str.ofString "") := fun c hc => by
  have e : (Str.ofString "").cps.toList = [] := by decide +kernel
  rw [e] at hc; cases hc
end Sip
namespace Sip
open PySem PySem.Spec PyProof.Rows L2 TL
theorem kit_own {K : PySem.W.Frag} {C S : Addr} (h1 : PySem.W.isClsIn K S = true) (h2 : PySem.W.typeIn K (.ref S) = some (.type "type")) (h3 : PySem.W.subIn K (.ref C) (.ref S) = some true) : PySem.W.kitOne K (.ref C) (.ref S) = some true := by
  have a : ((PySem.W.clsIn K S).isSome && PySem.W.typeIn K (.ref S) == some (.type "type")) = true := by
    have h1' : (PySem.W.clsIn K S).isSome = true := h1
    rw [h1', h2]; rfl
  unfold PySem.W.kitOne PySem.W.kitCls
  split
  · rfl
  · exact (if_pos a).trans h3
theorem kit_bltn {K : PySem.W.Frag} {C : Addr} {T : String} (h1 : PySem.W.kitMeta T = true) (h3 : PySem.W.subIn K (.ref C) (.type T) = some true) : PySem.W.kitOne K (.ref C) (.type T) = some true := by
  unfold PySem.W.kitOne PySem.W.kitCls
  split
  · rfl
  · exact (if_pos h1).trans h3
end Sip
namespace Sip
open PySem PySem.Spec PyProof.Rows L2 TL

/-- a def of the text, whatever its defaults -/
structure FunA (K : PySem.W.Frag) (x qual : Str) (st : Stmt) (f : Addr) (fd : FuncData) : Prop where
  ex : ∃ (oc : Value) (od : Option Addr) (dV kV doc pm : Value) (an : Option Addr) (cdv ct : Value) (osl : Array (Option Value)),
    fd = PySem.W.fnOf x qual (defArgs st) (defBody st) (defScope st) dV kV doc pm an cdv ct ∧ K.lookup f = some ⟨oc, od, .func fd, osl⟩ ∧ PySem.W.codeIn K cdv qual = true
  kp : PySem.W.keepIn K (.ref f) = true
section
variable {P : Program} {w : World} {K : PySem.W.Frag} {mg : Str → Option Value} {base : Heap} {x qual : Str} {st : Stmt} {f : Addr} {fd : FuncData} {N ps : List Str} {k : Nat} {sp : Sp}
theorem FunA.ok (F : FunA K x qual st f fd) (S : FnScope N ps (defScope st)) (len : ∀ vs H Q E, sp vs H Q E → vs.length = ps.length)
    (hb : ∀ (cdv : Value) (A : Around) (outer : List Env) (s : Shared) (H : Hp) (vs : List V) (Q : VK) (E : XK), Room k (A.deeper (envOfC qual (defScope st) s.heap.objs.size f cdv)) → sp vs H Q E →
      ∃ t, PSs (cxOf CX0 P w K mg base N qual (defScope st) f cdv A outer s H E).nox (defBody st) t ∧ t { nx := fun _ H' => Q .non H', rt := Q } (start N vs) H) : FnOk P w K mg base CX0 (k + 1) f fd ps sp := by
  obtain ⟨oc, od, dV, kV, doc, pm, an, cdv, ct, osl, rfl, lk, hcd⟩ := F.ex
  refine fn_of lk hcd S len fun A outer s H vs Q E hr hsp => ?_
  obtain ⟨t, h, q⟩ := hb cdv A outer s H vs Q E hr hsp
  exact ⟨t, h.nox, q⟩
theorem FunA.okX (F : FunA K x qual st f fd) (S : FnScope N ps (defScope st)) (len : ∀ vs H Q E, sp vs H Q E → vs.length = ps.length)
    (hb : ∀ (cdv : Value) (A : Around) (outer : List Env) (s : Shared) (H : Hp) (vs : List V) (Q : VK) (E : XK), Room k (A.deeper (envOfC qual (defScope st) s.heap.objs.size f cdv)) → sp vs H Q E →
      ∃ t, PSs (cxOf (L2.CX P w) P w K mg base N qual (defScope st) f cdv A outer s H E) (defBody st) t ∧ t { nx := fun _ H' => Q .non H', rt := Q } (start N vs) H) : FnOk P w K mg base (L2.CX P w) (k + 1) f fd ps sp := by
  obtain ⟨oc, od, dV, kV, doc, pm, an, cdv, ct, osl, rfl, lk, hcd⟩ := F.ex
  exact fn_of lk hcd S len fun A outer s H vs Q E hr hsp => hb cdv A outer s H vs Q E hr hsp
end
/-- o.m(e, .., k = v, ..) -/
def tMethN (C : Addr) (m : Str) (n j : Nat) (sp : Sp) (gV : List V → List V → List V) (E : XK) (ta : TE) (t tk : TA) : TE := fun σ H Q => ta σ H fun x H1 =>
  ∃ a dx fs, x = .ref a ∧ H1 a = some (.ins C dx fs) ∧ fs.lookup m = none ∧ t σ H1 fun vs H2 => tk σ H2 fun zs H3 => vs.length = n ∧ zs.length = j ∧ sp (gV (x :: vs) zs) H3 Q E
section
variable {X : Cx} {CX : CXT} {k n : Nat} {f C : Addr} {fd : FuncData} {ps ks : List Str} {sp : Sp} {E : XK} {m : Str} {apos pos : Pos} {o e : Expr} {es : List Expr} {kws : List Keyword} {ta : TE} {t tk : TA} {g : List Value → List Value → List Value} {gV : List V → List V → List V}
theorem pe_methN {pl : Sem Bool} (he : PE X o ta) (c : Cls X.K C) (hm : Meth X.K C m f) (F : FnOk X.prog X.w X.K X.mg X.base CX k f fd ps sp) (hr : Room k X.A) (hb : KBn X.K fd ps (n + 1) ks g gV) (hx : Passes CX X E) (ha : PA X (e :: es) t) (hkw : PK X kws tk)
    (hall : (backToKw pos (keywordEach kws X.env)).all (·.1.isSome) = true := by rfl) (hks : (backToKw pos (keywordEach kws X.env)).filterMap (·.1) = ks := by rfl) (hst : starEach (e :: es) X.env = (false, eval e X.env) :: starEach es X.env := by rfl)
    (hpl : ((backTo pos (starEach (e :: es) X.env)).any (·.1) || (backToKw pos (keywordEach kws X.env)).any (·.1.isNone)) = false := by rfl)
    (ht : eval (.Call (.Attribute o m apos) (e :: es) kws pos) X.env = (do
      let ov ← eval o X.env
      standAt apos.atName
      let (f, first) ← holding [ov] (getMethod ov m pl)
      callWith pos f first (backTo pos (starEach (e :: es) X.env)) (backToKw pos (keywordEach kws X.env))) := by rfl) :
    PE X (.Call (.Attribute o m apos) (e :: es) kws pos) (tMethN C m n ks.length sp gV E ta t tk) := by
  refine ⟨fun pins s σ H Q I h => ?_⟩
  refine PySem.W.methodCall_KW (pl := pl) (thn (he.run pins s σ H _ I h) fun u s1 ⟨x, H1, I1, rx, a, dx, fs, ex, ea, l, q⟩ => ?_) ht
  subst ex
  obtain rfl : u = Value.ref a := rx
  refine getmeth_ok I1 ea c hm l ?_
  refine PySem.W.callWith_KW (first := [.ref a]) (h₀ := X.base) I.ok.mod.kin hm.kp hall (thn (ha.run pos pins s1 σ H1 _ I1 q) fun us s2 ⟨vs, H2, I2, r, q2⟩ => ?_) hpl hst
  refine thn (hkw.run pos pins s2 σ H2 _ I2 q2) fun ws s3 ⟨zs, H3, I3, rz, l1, l2, q3⟩ => ⟨I3.kIn, ?_⟩
  rw [hks]
  exact run_fnN (us := .ref a :: us) (vs := .ref a :: vs) F hr hb hx I3 (.cons rfl r) rz (by rw [List.length_cons, l1]) l2 q3
end
/-- fields by name -/
abbrev Fs := List (Str × V)
example (h c d : V) : putF ("cursor" : Str) d ([("held", h), ("cursor", c)] : Fs) = ([("held", h), ("cursor", d)] : Fs) := by kernel_rfl
example (h c d : V) : putF ("cursor" : Str) d ([("held", h)] : Fs) = ([("held", h), ("cursor", d)] : Fs) := by kernel_rfl
end Sip
namespace Sip
open PySem PySem.Spec PyProof.Rows L2 TL
/-- a def of the top, a method of a class -/
structure Dg (K : PySem.W.Frag) (mg : Str → Option Value) (x : Str) (st : Stmt) (f : Addr) (fd : FuncData) : Prop where
  F : FunA K x x st f fd
  g : mg x = some (.ref f)
structure Mf (K : PySem.W.Frag) (C : Addr) (x qual : Str) (st : Stmt) (f : Addr) (fd : FuncData) : Prop where
  F : FunA K x qual st f fd
  m : Meth K C x f
theorem funA_mk {K : PySem.W.Frag} {x qual : Str} {st : Stmt} {f : Addr} {oc : Value} {od an : Option Addr} {osl : Array (Option Value)} {dV kV doc pm cdv ct : Value} (l : K.lookup f = some ⟨oc, od, .func (PySem.W.fnOf x qual (defArgs st) (defBody st) (defScope st) dV kV doc pm an cdv ct), osl⟩)
    (c : PySem.W.codeIn K cdv qual = true) (k : PySem.W.keepIn K (.ref f) = true) : FunA K x qual st f (PySem.W.fnOf x qual (defArgs st) (defBody st) (defScope st) dV kV doc pm an cdv ct) := ⟨⟨oc, od, dV, kV, doc, pm, an, cdv, ct, osl, rfl, l, c⟩, k⟩
end Sip
namespace Sip
open PySem PySem.Spec PyProof.Rows L2 TL

abbrev Piece := Nat × List Int
/-! all pieces laid one behind another -/
def allF (r : List Int) (ps : List Piece) : List Int := ps.foldl (fun acc p => laidF acc p.1 p.2) r
def mostF (m : Nat) (ps : List Piece) : Nat := ps.foldl (fun m p => if 0 < p.2.length then max m (p.1 + p.2.length) else m) m
def stepB (k : Nat) (b : Int) (p : Piece) : Int := if p.1 ≤ k ∧ k < p.1 + p.2.length then p.2.getD (k - p.1) 0 else b
def byteF (b : Int) (k : Nat) (ps : List Piece) : Int := ps.foldl (stepB k) b
theorem laidF_len (r : List Int) (p : Piece) : (laidF r p.1 p.2).length = if 0 < p.2.length then max r.length (p.1 + p.2.length) else r.length := by
  by_cases h : p.2 = []
  · rw [h, laidF_nil]; rfl
  · rw [laidF_length h, if_pos (List.length_pos_iff.mpr h)]
theorem laidF_byte (r : List Int) (p : Piece) (k : Nat) : (laidF r p.1 p.2)[k]?.getD 0 = stepB k (r[k]?.getD 0) p := by
  unfold stepB
  by_cases h : p.2 = []
  · rw [h, laidF_nil, if_neg (by simp)]
  · rw [laidF_getD h, List.getD_eq_getElem?_getD, List.getD_eq_getElem?_getD]
theorem allF_len : ∀ (ps : List Piece) (r : List Int), (allF r ps).length = mostF r.length ps
  | [], _ => rfl
  | p :: q, r => by
    show (allF (laidF r p.1 p.2) q).length = mostF (if 0 < p.2.length then max r.length (p.1 + p.2.length) else r.length) q
    rw [allF_len q, laidF_len]
theorem allF_byte : ∀ (ps : List Piece) (r : List Int) (k : Nat), (allF r ps)[k]?.getD 0 = byteF (r[k]?.getD 0) k ps
  | [], _, _ => rfl
  | p :: q, r, k => by
    show (allF (laidF r p.1 p.2) q)[k]?.getD 0 = byteF (stepB k (r[k]?.getD 0) p) k q
    rw [allF_byte q, laidF_byte]
theorem allF_append (r : List Int) (a b : List Piece) : allF r (a ++ b) = allF (allF r a) b := List.foldl_append
/-- a piece in two parts -/
theorem laidF_parts (r : List Int) (n c : Nat) (d : List Int) (h : c ≤ d.length) : laidF (laidF r n (d.take c)) (n + c) (d.drop c) = laidF r n d := by
  have l1 := laidF_len r (n, d.take c)
  have l2 := laidF_len (laidF r n (d.take c)) (n + c, d.drop c)
  have l3 := laidF_len r (n, d)
  simp only [List.length_take, List.length_drop] at l1 l2 l3
  refine ext_getD ?_ fun k hk => ?_
  · rw [l2, l3, l1]
    split <;> split <;> split <;> omega
  · rw [laidF_byte _ (n + c, d.drop c), laidF_byte r (n, d.take c), laidF_byte r (n, d)]
    unfold stepB
    simp only [List.length_take, List.length_drop, List.getD_eq_getElem?_getD, List.getElem?_drop]
    by_cases h1 : n + c ≤ k ∧ k < n + c + (d.length - c)
    · rw [if_pos h1, if_pos (by omega)]
      congr 2
      omega
    · rw [if_neg h1]
      by_cases h2 : n ≤ k ∧ k < n + min c d.length
      · rw [if_pos h2, if_pos (by omega), List.getElem?_take_of_lt (by omega)]
      · rw [if_neg h2, if_neg (by omega)]
theorem allF_parts (r : List Int) (a b : List Piece) (n c : Nat) (d : List Int) (h : c ≤ d.length) :
    allF r (a ++ [(n, d.take c), (n + c, d.drop c)] ++ b) = allF r (a ++ [(n, d)] ++ b) := by
  rw [allF_append, allF_append, allF_append, allF_append]
  show allF (laidF (laidF (allF r a) n (d.take c)) (n + c) (d.drop c)) b = allF (laidF (allF r a) n d) b
  rw [laidF_parts _ _ _ _ h]
def Small (p : Piece) : Prop := p.1 ≤ 340 ∧ p.2.length ≤ 400 ∧ Bytes p.2
theorem bytes_getD {bs : List Int} (h : Bytes bs) (k : Nat) : 0 ≤ bs[k]?.getD 0 ∧ bs[k]?.getD 0 ≤ 255 := by
  cases e : bs[k]? with
  | none => exact ⟨by decide, by decide⟩
  | some b =>
    obtain ⟨hk, rfl⟩ := List.getElem?_eq_some_iff.mp e
    exact h _ (List.getElem_mem hk)
theorem bytes_of {bs : List Int} (h : ∀ k, k < bs.length → 0 ≤ bs[k]?.getD 0 ∧ bs[k]?.getD 0 ≤ 255) : Bytes bs := fun b hb => by
  obtain ⟨k, hk, rfl⟩ := List.getElem_of_mem hb
  have := h k hk
  rw [List.getElem?_eq_getElem hk] at this
  exact this
theorem laid_bytes {r : List Int} {p : Piece} (hr : Bytes r) (hp : Bytes p.2) : Bytes (laidF r p.1 p.2) := bytes_of fun k _ => by
  rw [laidF_byte]
  unfold stepB
  split
  · rw [List.getD_eq_getElem?_getD]; exact bytes_getD hp _
  · exact bytes_getD hr k
theorem allF_good : ∀ (ps : List Piece) (r : List Int), Bytes r → r.length ≤ 740 → (∀ p ∈ ps, Small p) → Bytes (allF r ps) ∧ (allF r ps).length ≤ 740
  | [], r, hb, hl, _ => ⟨hb, hl⟩
  | p :: q, r, hb, hl, hp => by
    have h1 := hp p (List.mem_cons_self ..)
    refine allF_good q (laidF r p.1 p.2) (laid_bytes hb h1.2.2) ?_ (fun z hz => hp z (List.mem_cons_of_mem _ hz))
    exact laidF_le ⟨hl, by have := h1.1; have := h1.2.1; omega⟩

/-! pieces in the heap -/
def PieceAt (H : Hp) (v : V) (p : Piece) : Prop := ∃ T D : Addr, v = .ref T ∧ H T = some (.tup [.int (p.1 : Nat), .ref D]) ∧ H D = some (.lst (p.2.map V.int))
def Pieces (H : Hp) (vs : List V) (ps : List Piece) : Prop := vs.length = ps.length ∧ ∀ (i : Nat) (v : V) (p : Piece), vs[i]? = some v → ps[i]? = some p → PieceAt H v p
theorem PieceAt.mono {H H' : Hp} {v : V} {p : Piece} (s : Same H H') (h : PieceAt H v p) : PieceAt H' v p := by
  obtain ⟨T, D, e, h1, h2⟩ := h
  exact ⟨T, D, e, s _ _ h1, s _ _ h2⟩
theorem Pieces.mono {H H' : Hp} {vs : List V} {ps : List Piece} (s : Same H H') (h : Pieces H vs ps) : Pieces H' vs ps :=
  ⟨h.1, fun i v p a b => (h.2 i v p a b).mono s⟩
theorem Pieces.at {H : Hp} {vs : List V} {ps : List Piece} {i : Nat} {v : V} (h : Pieces H vs ps) (e : vs[i]? = some v) : ∃ hi : i < ps.length, PieceAt H v ps[i] := by
  have hi : i < ps.length := by
    have := (List.getElem?_eq_some_iff.mp e).1
    rw [h.1] at this; exact this
  exact ⟨hi, h.2 i v _ e (List.getElem?_eq_getElem hi)⟩
theorem Pieces.nil {H : Hp} : Pieces H [] [] := ⟨rfl, fun i v p a => by simp at a⟩
theorem Pieces.append {H : Hp} {vs us : List V} {ps qs : List Piece} (h : Pieces H vs ps) (k : Pieces H us qs) : Pieces H (vs ++ us) (ps ++ qs) := by
  refine ⟨by rw [List.length_append, List.length_append, h.1, k.1], fun i v p a b => ?_⟩
  by_cases hi : i < vs.length
  · rw [List.getElem?_append_left hi] at a
    rw [List.getElem?_append_left (by rw [← h.1]; exact hi)] at b
    exact h.2 i v p a b
  · rw [List.getElem?_append_right (by omega)] at a
    rw [List.getElem?_append_right (by rw [← h.1]; omega), ← h.1] at b
    exact k.2 _ v p a b
theorem Pieces.one {H : Hp} {v : V} {p : Piece} (h : PieceAt H v p) : Pieces H [v] [p] := ⟨rfl, fun i w q a b => by
  cases i with
  | zero =>
    have e1 : v = w := Option.some.inj a
    have e2 : p = q := Option.some.inj b
    rw [← e1, ← e2]; exact h
  | succ i => simp at a⟩
theorem Pieces.take {H : Hp} {vs : List V} {ps : List Piece} (h : Pieces H vs ps) (n : Nat) : Pieces H (vs.take n) (ps.take n) := by
  refine ⟨by rw [List.length_take, List.length_take, h.1], fun i v p a b => ?_⟩
  have hi : i < n := by
    have := (List.getElem?_eq_some_iff.mp a).1
    rw [List.length_take] at this; omega
  rw [List.getElem?_take_of_lt hi] at a b
  exact h.2 i v p a b
theorem Pieces.drop {H : Hp} {vs : List V} {ps : List Piece} (h : Pieces H vs ps) (n : Nat) : Pieces H (vs.drop n) (ps.drop n) := by
  refine ⟨by rw [List.length_drop, List.length_drop, h.1], fun i v p a b => ?_⟩
  rw [List.getElem?_drop] at a b
  exact h.2 _ v p a b
theorem cut_to (xs : List V) (n : Nat) (h : n ≤ xs.length) : cutV xs none (some (n : Int)) = xs.take n := by
  unfold cutV
  rw [HT.sIx_none, HT.sIx_nat, Nat.min_eq_left h]; rfl
theorem cut_from (xs : List V) (n : Nat) (h : n ≤ xs.length) : cutV xs (some (n : Int)) none = xs.drop n := by
  unfold cutV
  rw [HT.sIx_none, HT.sIx_nat, Nat.min_eq_left h]
  exact List.take_of_length_le (by rw [List.length_drop]; omega)
theorem split_at {α : Type} {ps : List α} {i : Nat} (hi : i < ps.length) : ps.take i ++ [ps[i]] ++ ps.drop (i + 1) = ps := by
  rw [List.append_assoc]
  show ps.take i ++ (ps[i] :: ps.drop (i + 1)) = ps
  rw [List.getElem_cons_drop, List.take_append_drop]
theorem foldl_next {α β : Type} (f : β → α → β) (b : β) (xs : List α) (i : Nat) (hi : i < xs.length) : (xs.take (i + 1)).foldl f b = f ((xs.take i).foldl f b) xs[i] := by
  rw [List.take_add_one, List.getElem?_eq_getElem hi, List.foldl_append]; rfl

def spBytesM (K : PySem.W.Frag) : Sp := fun vs H Q _ => ∃ (p m : Addr) (n : Int) (o : HO) (ms : List Int), vs = [.ref p, .ref m] ∧ H p = some o ∧ PoolO n o ∧ n ≤ 900000000 ∧ SqL K H m (ms.map V.int) ∧ p ≠ m ∧ ms ≠ [] ∧ ms.length ≤ 100 ∧ (∀ z ∈ ms, 0 ≤ z ∧ z ≤ 400) ∧
  ∀ (H' : Hp) (q : Addr) (bs : List Int) (o' : HO), H q = none → H' q = some (.lst (bs.map V.int)) → H' p = some o' → PoolO (n + 1000) o' → Kp [p] H H' → (∃ z ∈ ms, (bs.length : Int) = z) → Bytes bs → Q (.ref q) H'
def spDueP (K : PySem.W.Frag) : Sp := fun vs H Q _ => ∃ (a b : Addr) (r : List Int) (us : List V) (ps : List Piece), vs = [.ref a, .ref b] ∧ SqL K H a (r.map V.int) ∧ SqL K H b us ∧ Pieces H us ps ∧ r.length ≤ 740 ∧ Bytes r ∧ (∀ p ∈ ps, Small p) ∧ ps.length ≤ 100 ∧
  ∀ (H' : Hp) (q : Addr), H q = none → H' q = some (.lst ((allF r ps).map V.int)) → Same H H' → Q (.ref q) H'
/-! what stands apart from some places -/
def mask (qs : List Addr) (H : Hp) : Hp := fun b => if b ∈ qs then none else H b
theorem mask_le (qs : List Addr) (H : Hp) : Same (mask qs H) H := fun b o e => by
  unfold mask at e
  split at e
  · cases e
  · exact e
theorem mask_upd {qs : List Addr} {H : Hp} {q : Addr} {o : HO} (h : q ∈ qs) : mask qs (upd H q o) = mask qs H := by
  funext b
  unfold mask
  split
  · rfl
  · next n =>
    have : b ≠ q := fun z => n (by rw [z]; exact h)
    rw [upd_ne this]
theorem mask_kp {qs : List Addr} {H H' : Hp} (k : Kp qs H H') : Same (mask qs H) (mask qs H') := fun b o e => by
  unfold mask at e ⊢
  split at e
  · cases e
  · next n => rw [if_neg n]; exact k b o n e
theorem mask_at {qs : List Addr} {H : Hp} {b : Addr} (h : b ∉ qs) : mask qs H b = H b := if_neg h
theorem Kp.sub {ps qs : List Addr} {H H' : Hp} (k : Kp ps H H') (h : ∀ x ∈ ps, x ∈ qs ∨ H x = none) : Kp qs H H' := fun b o n e => by
  refine k b o (fun z => ?_) e
  rcases h b z with h | h
  · exact n h
  · rw [h] at e; cases e
def Tiny (p : Piece) : Prop := p.1 ≤ 299 ∧ p.2.length ≤ 40 ∧ Bytes p.2
theorem Tiny.small {p : Piece} (h : Tiny p) : Small p := ⟨by have := h.1; omega, by have := h.2.1; omega, h.2.2⟩
end Sip
namespace Sip
open PySem PySem.Spec PyProof.Rows L2 TL

/-! an object with all that is its own (F): what a call may change -/
def Step (F : Addr → Prop) (H : Hp) (F' : Addr → Prop) (H' : Hp) : Prop := (∀ b o, ¬ F b → H b = some o → H' b = some o) ∧ ∀ b, F' b → F b ∨ H b = none
theorem Step.keep {F F' : Addr → Prop} {H H' : Hp} {b : Addr} {o : HO} (s : Step F H F' H') (n : ¬ F b) (e : H b = some o) : H' b = some o ∧ ¬ F' b :=
  ⟨s.1 b o n e, fun z => (s.2 b z).elim n fun q => by rw [q] at e; cases e⟩
/-- own objects made since H0 alone -/
theorem Step.since {F F' : Addr → Prop} {H0 H H' : Hp} (s : Step F H F' H') (a : Same H0 H) (n : ∀ b, F b → H0 b = none) : Same H0 H' ∧ ∀ b, F' b → H0 b = none := by
  refine ⟨fun b o e => s.1 b o (fun z => by rw [n b z] at e; cases e) (a b o e), fun b z => ?_⟩
  rcases s.2 b z with q | q
  · exact n b q
  · exact a.free q
theorem Step.of {F : Addr → Prop} {H H' : Hp} (s : Same H H') : Step F H F H' := ⟨fun b o _ e => s b o e, fun b z => .inl z⟩
theorem Step.trans {F F' F2 : Addr → Prop} {H H' H2 : Hp} (a : Step F H F' H') (b : Step F' H' F2 H2) : Step F H F2 H2 := by
  refine ⟨fun x o n e => b.1 x o (a.keep n e).2 (a.keep n e).1, fun x z => ?_⟩
  rcases b.2 x z with q | q
  · exact a.2 x q
  · by_cases f : F x
    · exact .inl f
    · cases e : H x with
      | none => exact .inr rfl
      | some o => rw [a.1 x o f e] at q; cases q

/-- a plain file in the heap, however it keeps its row: heap, address, what is its own, row, cursor -/
abbrev PP := Hp → Addr → (Addr → Prop) → List Int → Nat → Prop
structure IsPlain (C : Addr) (PA : PP) : Prop where
  loc : ∀ {H H' : Hp} {p : Addr} {F : Addr → Prop} {r : List Int} {c : Nat}, PA H p F r c → (∀ b o, F b → H b = some o → H' b = some o) → PA H' p F r c
  own : ∀ {H : Hp} {p : Addr} {F : Addr → Prop} {r : List Int} {c : Nat}, PA H p F r c → ∀ b, F b → ∃ o, H b = some o
  ins : ∀ {H : Hp} {p : Addr} {F : Addr → Prop} {r : List Int} {c : Nat}, PA H p F r c → ∃ dx fs, H p = some (.ins C dx fs) ∧ ∀ m ∈ (["read", "read_some", "peek", "readline", "write", "seek", "tell", "size", "row", "cut"] : List Str), fs.lookup m = none
theorem IsPlain.same {C : Addr} {PA : PP} (I : IsPlain C PA) {H H' : Hp} {p : Addr} {F : Addr → Prop} {r : List Int} {c : Nat} (h : PA H p F r c) (s : Same H H') : PA H' p F r c := I.loc h fun b o _ e => s b o e
theorem IsPlain.kp {C : Addr} {PA : PP} (I : IsPlain C PA) {H H' : Hp} {qs : List Addr} {p : Addr} {F : Addr → Prop} {r : List Int} {c : Nat} (h : PA H p F r c) (k : Kp qs H H') (n : ∀ q ∈ qs, ¬ F q) : PA H' p F r c :=
  I.loc h fun b o f e => k b o (fun z => n b z f) e
theorem IsPlain.new {C : Addr} {PA : PP} (I : IsPlain C PA) {H : Hp} {q p : Addr} {F : Addr → Prop} {r : List Int} {c : Nat} (h : PA H p F r c) (n : H q = none) : ¬ F q := fun f => by
  obtain ⟨o, e⟩ := I.own h q f
  rw [n] at e; cases e

def spPInit (K : PySem.W.Frag) (C : Addr) (PA : PP) : Sp := fun vs H Q _ => ∃ (p a dx : Addr) (r : List Int) (c : Nat), vs = [.ref p, .ref a, .int c] ∧ H p = some (.ins C dx []) ∧ H dx = some (.own p) ∧ SqL K H a (r.map V.int) ∧ p ≠ a ∧ r.length ≤ 400 ∧ c ≤ 4000 ∧
  ∀ (H' : Hp) (F' : Addr → Prop), PA H' p F' r c → Step (fun b => b = p ∨ b = dx) H F' H' → Q .non H'
def spPTell (PA : PP) : Sp := fun vs H Q _ => ∃ (p : Addr) (F : Addr → Prop) (r : List Int) (c : Nat), vs = [.ref p] ∧ PA H p F r c ∧ Q (.int c) H
def spPSize (PA : PP) : Sp := fun vs H Q _ => ∃ (p : Addr) (F : Addr → Prop) (r : List Int) (c : Nat), vs = [.ref p] ∧ PA H p F r c ∧ Q (.int r.length) H
def spPRow (PA : PP) : Sp := fun vs H Q _ => ∃ (p : Addr) (F : Addr → Prop) (r : List Int) (c : Nat), vs = [.ref p] ∧ PA H p F r c ∧ ∀ (H' : Hp) (q : Addr), H q = none → H' q = some (.lst (r.map V.int)) → Same H H' → Q (.ref q) H'
def spPSeek (PA : PP) : Sp := fun vs H Q _ => ∃ (p : Addr) (F : Addr → Prop) (r : List Int) (c g : Nat) (pl : Int) (st : Str), vs = [.ref p, .int pl, .str st] ∧ PA H p F r c ∧
  ((st = Str.ofString "head" ∧ (g : Int) = pl) ∨ (st = Str.ofString "here" ∧ (g : Int) = c + pl) ∨ (st = Str.ofString "tail" ∧ (g : Int) = r.length + pl)) ∧ g ≤ 4000 ∧ ∀ (H' : Hp) (F' : Addr → Prop), PA H' p F' r g → Step F H F' H' → Q (.int g) H'
def spPCut (PA : PP) : Sp := fun vs H Q _ => ∃ (p : Addr) (F : Addr → Prop) (r : List Int) (c g : Nat) (v : V), vs = [.ref p, v] ∧ PA H p F r c ∧ ((v = .non ∧ g = c) ∨ v = .int g) ∧ g ≤ 4000 ∧ ∀ (H' : Hp) (F' : Addr → Prop), PA H' p F' (r.take g) c → Step F H F' H' → Q .non H'
def spPWrite (PA : PP) : Sp := fun vs H Q _ => ∃ (p b : Addr) (F : Addr → Prop) (r : List Int) (c : Nat) (d : List Int), vs = [.ref p, .ref b] ∧ PA H p F r c ∧ ¬ F b ∧ H b = some (.lst (d.map V.int)) ∧ Bytes d ∧ r.length ≤ 4000 ∧ c ≤ 4000 ∧ d.length ≤ 400 ∧ (laidF r c d).length ≤ 4000 ∧
  ∀ (H' : Hp) (F' : Addr → Prop), PA H' p F' (laidF r c d) (c + d.length) → Step F H F' H' → Q (.int d.length) H'
/-- a place drawn for a row of n bytes -/
def spGoal (K : PySem.W.Frag) : Sp := fun vs H Q _ => ∃ (p x : Addr) (n : Int) (o : HO) (r : List Int), vs = [.ref p, .ref x] ∧ H p = some o ∧ PoolO n o ∧ n ≤ 900000000 ∧ SqL K H x (r.map V.int) ∧ p ≠ x ∧ r.length ≤ 5000 ∧
  ∀ (H' : Hp) (g : Nat) (o' : HO), g ≤ max (r.length + 20) 4000 → H' p = some o' → PoolO (n + 4) o' → Kp [p] H H' → Q (.int g) H'
def spSought (K : PySem.W.Frag) (PA : PP) : Sp := fun vs H Q _ => ∃ (p x : Addr) (F : Addr → Prop) (r : List Int) (c g : Nat) (way : Int), vs = [.ref p, .int way, .int g, .ref x, .int c] ∧ 0 ≤ way ∧ way ≤ 3 ∧ PA H p F r c ∧ SqL K H x (r.map V.int) ∧ g ≤ 4000 ∧
  ∀ (H' : Hp) (F' : Addr → Prop), PA H' p F' r g → Step F H F' H' → Q (.int g) H'
def spCutL (PA : PP) : Sp := fun vs H Q _ => ∃ (p : Addr) (F : Addr → Prop) (r : List Int) (c g : Nat) (way : Int), vs = [.ref p, .int way, .int g] ∧ 0 ≤ way ∧ way ≤ 2 ∧ (way < 2 → g = c) ∧ PA H p F r c ∧ g ≤ 4000 ∧
  ∀ (H' : Hp) (F' : Addr → Prop), PA H' p F' (r.take g) c → Step F H F' H' → Q .non H'
theorem take_cut (r : List Int) (g : Nat) : cutV (r.map V.int) none (some (g : Int)) = (r.take g).map V.int := by
  unfold cutV
  rw [HT.sIx_none, HT.sIx_nat, List.length_map, List.map_take]
  show (r.map V.int).take (min g r.length - 0) = _
  by_cases h : g ≤ r.length
  · rw [Nat.min_eq_left h]; rfl
  · rw [Nat.min_eq_right (by omega), List.take_of_length_le (by rw [List.length_map]; omega), List.take_of_length_le (by rw [List.length_map]; omega)]
theorem drop_cut (r : List Int) (g : Nat) : cutV (r.map V.int) (some (g : Int)) none = (r.drop g).map V.int := by
  unfold cutV
  rw [HT.sIx_none, HT.sIx_nat, List.length_map, List.map_drop]
  by_cases h : g ≤ r.length
  · rw [Nat.min_eq_left h]
    exact List.take_of_length_le (by rw [List.length_drop, List.length_map]; omega)
  · rw [Nat.min_eq_right (by omega), List.drop_of_length_le (by rw [List.length_map]; omega), List.drop_of_length_le (l := r.map V.int) (by rw [List.length_map]; omega)]
    simp
/-- one byte laid over by hand -/
theorem laid_one (r : List Int) (c : Nat) (v : Int) : (r ++ List.replicate (c - r.length) 0).take c ++ [v] ++ r.drop (c + 1) = laidF r c [v] := by
  rw [laidF_cons (by simp)]
  congr 1
  by_cases h : c + 1 ≤ r.length
  · rw [show c - r.length = 0 by omega]; simp
  · rw [List.drop_of_length_le (l := r) (by omega), List.drop_of_length_le]
    rw [List.length_append, List.length_replicate]
    show _ ≤ c + 1
    omega
end Sip
namespace Sip
open PySem PySem.Spec PyProof.Rows L2 TL
/-! a heap by name: what was made, what was written -/
theorem updG {H H' : Hp} {q : Addr} {o : HO} (g : upd H q o = H') (n : H q = none) : H' q = some o ∧ Same H H' := by
  subst g; exact ⟨upd_same, (Kp.new (ps := []) n).same⟩
theorem updK {H H' : Hp} {q : Addr} {o : HO} (g : upd H q o = H') : H' q = some o ∧ Kp [q] H H' := by
  subst g; exact ⟨upd_same, Kp.at (by simp)⟩
theorem neN {H : Hp} {p x : Addr} {o : HO} (n : H p = none) (e : H x = some o) : x ≠ p := ne_of_none e n
theorem neM {H : Hp} {p x : Addr} {o : HO} (n : H x = none) (e : H p = some o) : x ≠ p := (ne_of_none e n).symm
theorem kp1 {H H' : Hp} {p x : Addr} {o : HO} (k : Kp [p] H H') (n : x ≠ p) (e : H x = some o) : H' x = some o := k x o (by simpa using n) e
theorem sm1 {H H' : Hp} {x : Addr} {o : HO} (k : Same H H') (e : H x = some o) : H' x = some o := k x o e
theorem sqS {K : PySem.W.Frag} {H H' : Hp} {a : Addr} {l : List V} (s : Same H H') (h : SqL K H a l) : SqL K H' a l := s.seq h
theorem sqK {K : PySem.W.Frag} {H H' : Hp} {p a : Addr} {l : List V} (s : Kp [p] H H') (n : a ≠ p) (h : SqL K H a l) : SqL K H' a l := s.seq (by simpa using n) h
end Sip
namespace Sip
open PySem PySem.Spec PyProof.Rows L2 TL
theorem mapI_nil : ([] : List V) = List.map V.int [] := rfl
theorem mapI_cons {a : Int} {l : List V} {ms : List Int} (h : l = List.map V.int ms) : V.int a :: l = List.map V.int (a :: ms) := by rw [h]; rfl
theorem sq_lit {K : PySem.W.Frag} {H : Hp} {m : Addr} {l : List V} {ms : List Int} (h : H m = some (.lst l)) (e : l = ms.map V.int) : SqL K H m (ms.map V.int) := by rw [← e]; exact sq_at h
theorem hp_lit {H : Hp} {m : Addr} {l : List V} {ms : List Int} (h : H m = some (.lst l)) (e : l = ms.map V.int) : H m = some (.lst (ms.map V.int)) := by rw [← e]; exact h
end Sip
namespace Sip
open PySem PySem.Spec PyProof.Rows L2 TL
theorem iteFc {b : Bool} {A B : Prop} (e : b = false) (h : B) : if b = true then A else B := by subst e; exact iteF h
theorem iteTc {b : Bool} {A B : Prop} (e : b = true) (h : A) : if b = true then A else B := by subst e; exact iteT h
theorem free1 {H H' : Hp} {l : Addr} (h : H' l = none) (e : Same H H') : H l = none := e.free h
theorem same_tr {H H1 H2 : Hp} (b : Same H1 H2) (a : Same H H1) : Same H H2 := a.trans b
theorem step_sm {H H1 H2 : Hp} {p : Addr} (k : Kp [p] H1 H2) (n : H p = none) (s : Same H H1) : Same H H2 := step_same s n k
end Sip
namespace Sip
open PySem PySem.Spec PyProof.Rows L2 TL
theorem upd_get {H : Hp} {a b : Addr} {o u : HO} (n : b ≠ a) (e : H b = some u) : upd H a o b = some u := by rw [upd_ne n]; exact e
end Sip
namespace Sip
open PySem PySem.Spec PyProof.Rows L2 TL
/-- an object made: the older ones stay, and are not its own -/
theorem made_new {H H5 : Hp} {f dx : Addr} {o1 o2 : HO} {F : Addr → Prop} (st : Step (fun b => b = f ∨ b = dx) (upd (upd H dx o2) f o1) F H5) (nf : H f = none) (nd : H dx = none) : Same H H5 ∧ ∀ b o, H b = some o → ¬ F b := by
  have k : ∀ b o, H b = some o → H5 b = some o ∧ ¬ F b := fun b o e => by
    have bf : b ≠ f := ne_of_none e nf
    have bd : b ≠ dx := ne_of_none e nd
    exact st.keep (fun z => z.elim bf bd) (by rw [upd_ne bf, upd_ne bd]; exact e)
  exact ⟨fun b o e => (k b o e).1, fun b o e => (k b o e).2⟩
end Sip
namespace Sip
open PySem PySem.Spec PyProof.Rows L2 TL
theorem sqA {K : PySem.W.Frag} {H H' : Hp} {a : Addr} {l : List V} (h : SqL K H a l) (s : Same H H') : SqL K H' a l := s.seq h
end Sip
namespace Sip
open PySem PySem.Spec PyProof.Rows L2 TL
theorem sqB {K K' : PySem.W.Frag} {H H' : Hp} {a : Addr} {l : List V} (h : SqL K H a l) (s : Same H H') (e : K = K') : SqL K' H' a l := e ▸ s.seq h
end Sip
namespace Sip
open PySem PySem.Spec PyProof.Rows L2 TL
/-- what may be found by the way (no word over a frame) -/
class Wit (α : Type) : Prop where
  ok : True
instance : Wit V := ⟨trivial⟩
instance : Wit Int := ⟨trivial⟩
instance : Wit Nat := ⟨trivial⟩
instance : Wit Bool := ⟨trivial⟩
instance : Wit HO := ⟨trivial⟩
instance : Wit Str := ⟨trivial⟩
instance : Wit Value := ⟨trivial⟩
instance : Wit (Addr → Prop) := ⟨trivial⟩
instance {α β : Type} [Wit α] [Wit β] : Wit (α × β) := ⟨trivial⟩
instance {α : Type} [Wit α] : Wit (Option α) := ⟨trivial⟩
instance {α : Type} [Wit α] : Wit (List α) := ⟨trivial⟩
theorem exI {α : Type} [Wit α] {p : α → Prop} (a : α) (h : p a) : ∃ x, p x := ⟨a, h⟩
end Sip
namespace Sip
open PySem PySem.Spec PyProof.Rows L2 TL
theorem isi_ii {K : PySem.W.Frag} {v : Int} {H : Hp} {Q : VK} (h : Q (.bl true) H) : rIsi K [.int v, .ty "int"] H Q := ⟨.int v, .ty "int", _, _, true, rfl, .ty "int", .base (.int v), kit_ty (by decide +kernel), h⟩
theorem isi_ib {K : PySem.W.Frag} {v : Int} {H : Hp} {Q : VK} (h : Q (.bl false) H) : rIsi K [.int v, .ty "bool"] H Q := ⟨.int v, .ty "bool", _, _, false, rfl, .ty "bool", .base (.int v), kit_ty (by decide +kernel), h⟩
end Sip
namespace Sip
open PySem PySem.Spec PyProof.Rows L2

/-! del xs[lo:hi] -/
def delL {α : Type} (xs : List α) (a c : Nat) : List α := xs.take a ++ xs.drop (max a c)
theorem sel_filter {α : Type} (sel : Nat → Bool) (a c : Nat) (h : ∀ k, sel k = (decide (a ≤ k) && decide (k < c))) (xs : List α) :
    ∀ j, (xs.zipIdx j).filterMap (fun p => if sel p.2 = true then none else some p.1) = xs.take (a - j) ++ xs.drop (max (a - j) (c - j)) := by
  induction xs with
  | nil => intro j; simp
  | cons x r ih =>
    intro j
    rw [List.zipIdx_cons, List.filterMap_cons]
    have e := h j
    by_cases h1 : a ≤ j
    · by_cases h2 : j < c
      · rw [decide_eq_true h1, decide_eq_true h2] at e
        have e' : sel j = true := e
        simp only [e', if_true]
        rw [ih (j + 1)]
        have : a - j = 0 := by omega
        have : a - (j + 1) = 0 := by omega
        have : c - j = (c - (j + 1)) + 1 := by omega
        simp [*]
      · rw [decide_eq_true h1, decide_eq_false h2] at e
        have e' : ¬ (sel j = true) := by rw [e]; decide
        simp only [if_neg e']
        rw [ih (j + 1)]
        have : a - j = 0 := by omega
        have : a - (j + 1) = 0 := by omega
        have : c - j = 0 := by omega
        have : c - (j + 1) = 0 := by omega
        simp [*]
    · rw [decide_eq_false h1] at e
      have e' : ¬ (sel j = true) := by rw [e]; simp
      simp only [if_neg e']
      rw [ih (j + 1)]
      have e1 : a - j = (a - (j + 1)) + 1 := by omega
      have e2 : max (a - j) (c - j) = max (a - (j + 1)) (c - (j + 1)) + 1 := by omega
      rw [e2, e1, List.take_succ_cons, List.drop_succ_cons]
      rfl
def selF (a c : Nat) (i : Nat) : Bool :=
  if (1 : Int) > 0 then (a : Int) ≤ i && i < (c : Int) && (i - (a : Int)) % 1 == 0
  else (c : Int) < i && i ≤ (a : Int) && ((a : Int) - i) % (-1) == 0
theorem selF_eq (a c k : Nat) : selF a c k = (decide (a ≤ k) && decide (k < c)) := by
  unfold selF
  rw [if_pos (by decide)]
  have : ((k : Int) - (a : Int)) % 1 = 0 := by omega
  rw [this]
  simp
theorem selF_fun (a c : Nat) : (fun xs : Array Value => (List.filterMap (fun x => if selF a c x.snd = true then none else some x.fst) xs.toList.zipIdx).toArray) = fun t => (delL t.toList a c).toArray := by
  funext t
  have := sel_filter (selF a c) a c (selF_eq a c) t.toList 0
  rw [Nat.sub_zero, Nat.sub_zero] at this
  exact congrArg _ this
theorem sel_fun {sel : Nat → Bool} {a c : Nat} (h : ∀ k, sel k = selF a c k) : (fun xs : Array Value => (List.filterMap (fun x => if sel x.snd = true then none else some x.fst) xs.toList.zipIdx).toArray) = fun t => (delL t.toList a c).toArray := by
  have e : sel = selF a c := funext h
  subst e
  exact selF_fun a c
section
variable {pr : Program} {wd : World} {ar : Around} {er : Value → Shared → Prop} {s : Shared}
set_option maxHeartbeats 4000000 in
theorem del_slice {l z : Addr} {old : Array Value} {m a c : Nat} {lo hi : Option Int} {vl vu : Value} {Q : Unit → Shared → Prop}
    (eo : s.heap.get? l = some { cls := .type "list", data := .seq old m })
    (hz : s.heap.IsSliceOf z vl vu .none) (pl : IsPart vl lo) (pu : IsPart vu hi)
    (bd : sliceBounds lo hi none old.size = ((a : Int), (c : Int), 1)) (fit : old.size ≤ sizeLine)
    (k : Q () { s with heap := s.heap.update l (Obj.mapSeq fun t => (delL t.toList a c).toArray) }) :
    wpAny (model pr wd) ar (delItem (.ref l) (.ref z)) Q er s := by
  have lo' : s.heap.IsList l old := PySem.IsL.isList eo
  obtain ⟨oz, gz, cz, dz⟩ := id hz
  have tz : s.TypeIs (.ref z) "slice" := ⟨oz, gz, cz⟩
  refine wpAny_delItem_slot lo'.typeIs (by decide) PySem.F.slot_list_delitem ?_
  refine wpAny_call_entry PySem.F.slot_list_delitem lo'.typeIs PySem.F.entry_list_delitem ?_ (PySem.F.args_list_delitem_2 _ _)
  show wpAny _ _ (Builtin.List.listSubscript? (.ref z) >>= _) _ _ s
  refine wpAny_bind ?_
  unfold Builtin.List.listSubscript?
  refine wpAny_bind (wpAny_specialOf tz slice_no_index ?_)
  simp only [Option.isNone_none, if_true]
  refine wpAny_pure ?_
  show wpAny _ _ (typeOf (.ref z) >>= _) _ _ s
  refine wpAny_bind (wpAny_typeOf tz ?_)
  first
    | rw [if_neg (by decide)]
    | refine PySem.W.KFB.if_not (by decide) ?_
  rw [listSliceParts_eq]
  refine wpAny_bind (wpAny_bind (wpAny_field gz dz (x := .none) rfl (wpAny_bind (wpAny_listPart .none ?_))))
  rw [if_neg (show ¬ ((rawPart none == rawInt 0) = true) from Bool.false_ne_true)]
  refine wpAny_bind (wpAny_field gz dz (x := vl) rfl (wpAny_bind (wpAny_listPart pl ?_)))
  refine wpAny_bind (wpAny_field gz dz (x := vu) rfl (wpAny_bind (wpAny_listPart pu (wpAny_pure ?_))))
  unfold Builtin.List.listItems
  refine wpAny_bind (wpAny_bind (wpAny_seqItems eo rfl (wpAny_pure ?_)))
  have si := (sliceIndices_raw lo hi none old.size (by simp)).trans (congrArg (pure : Int × Int × Int → Sem (Int × Int × Int)) bd)
  refine wpAny_bind (wpAny_of_eq si ?_)
  refine wpAny_bind (wpAny_rule ?_)
  refine wpAny_bind ?_
  unfold Builtin.List.listUpdate
  simp only []
  rw [sel_fun (a := a) (c := c) (fun k => by with_unfolding_all rfl)]
  have zz : ((fun t : Array Value => (delL t.toList a c).toArray) old).size ≤ sizeLine + 1 := by
    show (delL old.toList a c).toArray.size ≤ _
    rw [List.size_toArray]
    unfold delL
    rw [List.length_append, List.length_take, List.length_drop, Array.length_toList]; omega
  refine wpAny_updateSeq (hz := fit) (_hz' := zz) eo rfl (wpAny_bind (wpAny_letGo ?_))
  first
    | with_reducible exact wpAny_pure ⟨.none, rfl, k⟩
    | exact wpAny_bind (wpAny_pure (wpAny_pure ⟨.none, rfl, k⟩))
    | exact wpAny_pure ⟨.none, rfl, k⟩
end
/-- what is left of a list whose part from lo to hi is deleted -/
def delV (xs : List V) (lo hi : Option Int) : List V := delL xs (HT.sIx xs.length 0 lo) (HT.sIx xs.length xs.length hi)
theorem bounds_sIx (lo hi : Option Int) (n : Nat) : sliceBounds lo hi none n = ((HT.sIx n 0 lo : Int), (HT.sIx n n hi : Int), 1) := by
  have f : ∀ (v : Option Int) (d : Nat), d ≤ n → (match v with | none => (d : Int) | some i => max 0 (min (if i < 0 then i + (n : Int) else i) (n : Int))) = (HT.sIx n d v : Int) ∨ (∃ i, v = some i ∧ i < 0 ∧ i + (n : Int) > n) := by
    intro v d hd
    cases v with
    | none => exact .inl rfl
    | some i =>
      left
      show max 0 (min (if i < 0 then i + (n : Int) else i) (n : Int)) = ((if i < 0 then (i + (n : Int)).toNat else min i.toNat n : Nat) : Int)
      split <;> omega
  have f1 := (f lo 0 (by omega)).resolve_right (by rintro ⟨i, _, h1, h2⟩; omega)
  have f2 := (f hi n (by omega)).resolve_right (by rintro ⟨i, _, h1, h2⟩; omega)
  rw [← f1, ← f2]
  unfold sliceBounds
  cases lo <;> cases hi <;> rfl
section
variable {X : Cx} {pos : Pos}
def tDelS (to : TE) (tl th : TO) : TS := fun D σ H => to σ H fun o H1 => tl σ H1 fun lo H2 => th σ H2 fun hi H3 => ∃ (l : Addr) (xs : List V), o = .ref l ∧ H3 l = some (.lst xs) ∧ D.nx σ (upd H3 l (.lst (delV xs lo hi)))
theorem ps_delS {o : Expr} {lo hi : Option Expr} {to : TE} {tl th : TO} {p2 tpos : Pos} (ho : PE X o to) (hl : PO X lo tl) (hh : PO X hi th) : PS X (.Delete [.Subscript o (.Slice lo hi none p2) tpos] pos) (tDelS to tl th) := by
  refine ⟨fun pins s σ H D I h => ?_⟩
  refine wpAny_Delete (wpAny_deleteEach_cons (wpAny_delete_Subscript (thn (ho.run pins s σ H _ I h) fun ov s1 ⟨x, H1, I1, r1, q1⟩ => ?_)))
  refine wpAny_Slice (thn (hl.run pins s1 σ H1 _ I1 q1) fun wl s2 ⟨l, H2, I2, pl, q2⟩ => ?_)
  refine thn (hh.run pins s2 σ H2 _ I2 q2) fun wu s3 ⟨uu, H3, I3, pu, q3⟩ => ?_
  rw [evalPart_none]
  refine wpAny_pure ?_
  obtain ⟨p, xs, rfl, hp, fin⟩ := q3
  cases r1
  have I4 : Inv X pins σ H3 { s3 with heap := s3.heap.push { cls := .type "slice", data := .fields #[wl, wu, .none] } } := I3.kept (t' := s3.toks) fun b ob e => Heap.get?_push_of_some _ e
  obtain ⟨z1, us1, n1, rv1, hz1, e1⟩ := I4.lstM hp
  have L1 := rv1.length
  refine del_slice (a := HT.sIx xs.length 0 l) (c := HT.sIx xs.length xs.length uu) e1 (Heap.IsSliceOf.new ..) pl pu (by rw [List.size_toArray, ← L1]; exact bounds_sIx _ _ _) (by rw [List.size_toArray]; omega) ?_
  refine wpAny_deleteEach_nil ⟨σ, _, ?_, fin⟩
  refine I4.lset (its' := delL us1 (HT.sIx xs.length 0 l) (HT.sIx xs.length xs.length uu)) (t' := s3.toks) hp e1 rfl (Vals.append (rv1.take _) (rv1.drop _)) ?_
  show (delL _ _ _).length ≤ _
  unfold delL
  rw [List.length_append, List.length_take, List.length_drop]
  omega
end
end Sip
namespace Sip
open PySem PySem.Spec PyProof.Rows L2 TL
/-- for i, x in enumerate(xs), the list standing -/
theorem for_enum {K : PySem.W.Frag} {a : Addr} {xs : List V} {g : TG} {tb : TS} {D : Ends} {σ : L2.St} {H : Hp} (Pv : Nat → L2.St → Hp → Prop) (h0 : Pv 0 σ H) (hl : ∀ i σ H, i ≤ xs.length → Pv i σ H → SqL K H a xs)
    (hs : ∀ i x σ H T, xs[i]? = some x → Pv i σ H → H T = none → g (.ref T) σ (upd H T (.tup [.int (i : Nat), x])) fun σ2 H2 => tb { D with nx := Pv (i + 1), ct := Pv (i + 1), bk := D.nx } σ2 H2) (hd : ∀ σ H, Pv xs.length σ H → D.nx σ H) :
    ∃ W : Nat → Nat → L2.St → Hp → Prop, (∃ m, W 0 m σ H) ∧ ∀ i m σ H, W i m σ H →
      ((Ite K a).stop i H ∧ D.nx σ H) ∨ ((Ite K a).go i H ∧ ∃ N : L2.St → Hp → Prop, (∀ σ' H', N σ' H' → ∃ m', m' < m ∧ W (i + 1) m' σ' H') ∧ ∀ x H', (Ite K a).yld i H x H' → g x σ H' fun σ2 H2 => tb { D with nx := N, ct := N, bk := D.nx } σ2 H2) := by
  refine ⟨fun i m σ H => m = xs.length - i ∧ i ≤ xs.length ∧ Pv i σ H, ⟨xs.length, by simp, Nat.zero_le _, h0⟩, ?_⟩
  rintro i m σ H ⟨rfl, hi, p⟩
  have q := hl i σ H hi p
  by_cases hlt : i < xs.length
  · refine .inr ⟨⟨xs, xs[i], q, by simp [hlt]⟩, Pv (i + 1), fun σ' H' p' => ⟨xs.length - (i + 1), by omega, rfl, hlt, p'⟩, fun x H' y => ?_⟩
    obtain ⟨T, y, rfl, nT, rfl, hy⟩ := y
    exact hs i y σ _ T (hy xs q) p nT
  · have e : i = xs.length := by omega
    subst e
    exact .inl ⟨⟨xs, q, Nat.le_refl _⟩, hd σ H p⟩
end Sip
namespace Sip
open PySem PySem.Spec PyProof.Rows L2 TL
/-! ### own errors that keep a value -/
/-- __init__(self, f): self.f = f -/
def spErr1 (C : Addr) (f : Str) : Sp := fun vs H Q _ => ∃ (a : Addr) (v : V), vs = [.ref a, v] ∧ H a = some (exo a C none) ∧ ∀ dx, H dx = none → dx ≠ a → Q .non (upd (upd H dx (exd dx [(f, v)])) a (exo a C (some dx)))
/-- what a raise of it asks, once its value stands -/
theorem mk1_fin {C : Addr} {f : Str} {H1 : Hp} {v : V} {Q : XK} (h : ∀ d, H1 d = none → Q (.ref C) (some d) (upd H1 d (.xd [(f, v)]))) :
    [v].length ≤ 1000 ∧ ∀ a, H1 a = none → spErr1 C f (.ref a :: ([v] ++ [])) (upd H1 a (exo a C none))
      (fun v H2 => v = .non ∧ ∃ (d : Addr) (fs : List (Str × V)), H2 a = some (exo a C (some d)) ∧ H2 d = some (exd d fs) ∧ H1 d = none ∧ Q (.ref C) (some d) (upd (del H2 a) d (.xd fs))) (fun _ _ _ => False) := by
  refine ⟨by show 1 ≤ 1000; decide, fun a na => ⟨a, v, rfl, upd_same, fun dx nd ne => ⟨rfl, dx, [(f, v)], upd_same, ?_, ?_, ?_⟩⟩⟩
  · rw [upd_ne ne]; exact upd_same
  · rw [upd_ne ne] at nd; exact nd
  · have nd' : H1 dx = none := by rw [upd_ne ne] at nd; exact nd
    have e : upd (del (upd (upd (upd H1 a (exo a C none)) dx (exd dx [(f, v)])) a (exo a C (some dx))) a) dx (.xd [(f, v)]) = upd H1 dx (.xd [(f, v)]) := by
      funext b
      by_cases hb : b = dx
      · subst hb; rw [upd_same, upd_same]
      · rw [upd_ne hb, upd_ne hb]
        by_cases ha : b = a
        · subst ha; rw [del_same, na]
        · rw [del_ne ha, upd_ne ha, upd_ne hb, upd_ne ha]
    rw [e]
    exact h dx nd'
section
variable {X : Cx}
/-- isinstance(e, c): e is the error that the suite holds, whatever it keeps -/
def rIsO (K : PySem.W.Frag) (cls : Value) (d : Option Addr) (a : Addr) : List V → Hp → VK → Prop := fun xs H Q => ∃ D : Addr, cls = .ref D ∧ ExcC K D ∧ (d = none ∨ ∃ dd fs, d = some dd ∧ H dd = some (.xd fs)) ∧ rIsE K D a xs H Q
theorem inst_of {a D : Addr} {oe : Obj} {d : Option Addr} {H : Hp} {s : Shared} {pins : List (Addr × Obj)} {σ : L2.St} {Y : Cx} (I : Inv Y pins σ H s) (ha : s.heap.get? a = some oe) (hz : Zc (.ref D) d oe) (hf : ∃ vs, oe.data = .fields vs)
    (hd : d = none ∨ ∃ dd fs, d = some dd ∧ H dd = some (.xd fs)) : ∃ od, PySem.W.InstAt s.heap a oe D od := by
  obtain ⟨vs, hv⟩ := hf
  obtain ⟨z1, z2⟩ := hz
  have nc : PySem.W.notCls oe = true := by unfold PySem.W.notCls; rw [hv]
  rcases hd with rfl | ⟨dd, fs, rfl, ed⟩
  · refine ⟨none, ha, z1, nc, ?_⟩
    rw [z2]; trivial
  · have ob : ObjOk Y.prog Y.w H s.heap dd (.xd fs) := I.hok dd _ ed
    obtain ⟨mA, hns, _⟩ := ob
    obtain ⟨od, ho, _⟩ := lookIn_ns hns
    refine ⟨some od, ha, z1, nc, ?_⟩
    rw [z2]; exact ho
theorem call_isO {a : Addr} {oe : Obj} {cls : Value} {d : Option Addr} {pn : List (Addr × Obj)} (hz : Zc cls d oe) (hf : ∃ vs, oe.data = .fields vs) : CallR (X.suite a ((a, oe) :: pn)) (.builtin "isinstance") (rIsO X.K cls d a) := by
  intro pins s σ H xs us Q I r h
  obtain ⟨D, rfl, C, hd, c, cv, b, rfl, hcv, e, q⟩ := h
  obtain ⟨u1, u2, rfl, r1, r2⟩ := vals2 r
  obtain rfl : u1 = Value.ref a := r1
  obtain rfl := hcv _ r2
  obtain ⟨ha, _⟩ := I.pin (a, oe) (List.mem_append_left _ List.mem_cons_self)
  obtain ⟨od, J⟩ := inst_of I ha hz hf hd
  have hcl : (PySem.W.clsIn X.K D).isSome = true := by
    obtain ⟨cd, h1, _⟩ := PySem.W.any_some C.hd
    rw [h1]; rfl
  exact PySem.W.kia_one (PySem.W.kitx_exc hcl C.hg C.hk C.hs C.ha C.hn C.ht C.hm) I.kIn J e (fun z => nomatch z) fun tk => ⟨.bl b, H, I.kept (t' := tk) fun _ _ z => z, rfl, q⟩
/-- e.f of that error -/
def tXf (K : PySem.W.Frag) (f : Str) (a : Addr) (cls : Value) (d : Option Addr) (te : TE) : TE := fun σ H Q => te σ H fun x H1 => ∃ (D dd : Addr) (fs : List (Str × V)) (v : V), x = .ref a ∧ cls = .ref D ∧ ExcC K D ∧ PySem.W.findIn K (.ref D) f = some none ∧ d = some dd ∧ H1 dd = some (.xd fs) ∧ fs.lookup f = some v ∧ Q v H1
theorem pe_xf {f : Str} {a : Addr} {oe : Obj} {cls : Value} {d : Option Addr} {pn : List (Addr × Obj)} {e : Expr} {te : TE} {pos : Pos} (hz : Zc cls d oe) (hf : ∃ vs, oe.data = .fields vs) (he : PE (X.suite a ((a, oe) :: pn)) e te)
    (hb : attributeBase e f X.env (eval e X.env) = eval e X.env := by rfl) : PE (X.suite a ((a, oe) :: pn)) (.Attribute e f pos) (tXf X.K f a cls d te) := by
  refine ⟨fun pins s σ H Q I h => attr_of hb (thn (he.run pins s σ H _ I h) fun u s1 hh => ?_)⟩
  obtain ⟨x, H1, I1, rx, D, dd, fs, v, rfl, rfl, C, no, rfl, ed, lk, q⟩ := hh
  obtain rfl : u = Value.ref a := rx
  obtain ⟨ha, _⟩ := I1.pin (a, oe) (List.mem_append_left _ List.mem_cons_self)
  have ob : ObjOk X.prog X.w H1 s1.heap dd (.xd fs) := I1.hok dd _ ed
  obtain ⟨mA, hns, hr⟩ := ob
  obtain ⟨od, ho, hl⟩ := lookIn_ns hns
  obtain ⟨v', hv', rv⟩ := RelO.some_of (v := v) (o := mA f) (by rw [← lk]; exact hr f)
  obtain ⟨vs, hd⟩ := hf
  have J : PySem.W.InstAt s1.heap a oe D (some od) := by
    refine ⟨ha, hz.1, ?_, ?_⟩
    · unfold PySem.W.notCls; rw [hd]
    · rw [hz.2]; exact ho
  exact HandSPX.exc_get I1.kIn J C.hg C.hk C.hs (PySem.W.findObj_own C.hd no rfl (by rw [hl, hv'])) (handed_of rv) ⟨v, H1, I1.tok _, rv, q⟩
end
/-! ### calls within a try -/
section
variable {X : Cx} {CX : CXT} {k n : Nat} {f : Addr} {fd : FuncData} {ps ks : List Str} {sp : Sp} {E : L2.St → XK} {x : Str} {p pos : Pos} {e : Expr} {es : List Expr} {kws : List Keyword} {t tk : TA} {g : List Value → List Value → List Value} {gV : List V → List V → List V}
def tCallNS (n m : Nat) (sp : Sp) (gV : List V → List V → List V) (E : L2.St → XK) (t tk : TA) : TE := fun σ H Q => t σ H fun vs H1 => tk σ H1 fun zs H2 => vs.length = n ∧ zs.length = m ∧ sp (gV vs zs) H2 Q (E σ)
theorem pe_callNS (F : FnOk X.prog X.w X.K X.mg X.base CX k f fd ps sp) (hr : Room k X.A) (hg : Gl X x) (hm : X.mg x = some (.ref f)) (hk : PySem.W.keepIn X.K (.ref f) = true) (hb : KBn X.K fd ps n ks g gV) (hx : ∀ σ, PassesAt CX X σ (E σ))
    (ha : PA X (e :: es) t) (hkw : PK X kws tk) (hall : (backToKw pos (keywordEach kws X.env)).all (·.1.isSome) = true := by rfl) (hks : (backToKw pos (keywordEach kws X.env)).filterMap (·.1) = ks := by rfl)
    (hdb : (x == ("__debug__" : Str)) = false := by decide) (he : starEach (e :: es) X.env = (false, eval e X.env) :: starEach es X.env := by rfl)
    (hpl : ((backTo pos (starEach (e :: es) X.env)).any (·.1) || (backToKw pos (keywordEach kws X.env)).any (·.1.isNone)) = false := by rfl) :
    PE X (.Call (.Name x p) (e :: es) kws pos) (tCallNS n ks.length sp gV E t tk) := by
  refine ⟨fun pins s σ H Q I h => wpAny_Call_Name_kw (ld_glob I hg hm ?_ hdb)⟩
  refine PySem.W.callWith_KW (h₀ := X.base) I.ok.mod.kin hk hall (thn (ha.run pos pins s σ H _ I h) fun us s1 ⟨vs, H1, I1, r, q⟩ => ?_) hpl he
  refine thn (hkw.run pos pins s1 σ H1 _ I1 q) fun ws s2 w2 => ?_
  obtain ⟨zs, H2, I2, rz, l1, l2, q2⟩ := w2
  refine ⟨I2.kIn, ?_⟩
  rw [hks]
  have bt := hb.to s2 us ws I2.kIn (r.length.symm.trans l1) (rz.length.symm.trans l2)
  refine wpAny_call (codeAny_mono (F.run X.A X.stack s2 H2 ⟨us, ks.zip ws⟩ (g us ws) (gV vs zs) Q (E σ) hr I2.env0 bt (hb.rel r rz) q2) fun out s' hq => ?_)
  match out, hq with
  | .error e, hq => exact hx σ pins H2 s2 e s' I2 hq
  | .ok (.ret u), hq => exact I2.after hq
  | .ok .next, hq => exact hq.elim
  | .ok .brk, hq => exact hq.elim
  | .ok .cont, hq => exact hq.elim
end
/-- a raising callee within a def that lets the error out -/
theorem passX {X : Cx} {E : XK} (tk : Takes X (fun cls d _ H => E cls d H)) : Passes (L2.CX X.prog X.w) X E := fun pins σ H s e s' I c => passes_call tk (fun _ _ _ _ h => h) pins σ H s e s' I c
end Sip
namespace Sip
open PySem PySem.Spec PyProof.Rows L2 TL
theorem kit_ownF {K : PySem.W.Frag} {C S : Addr} (h1 : PySem.W.isClsIn K S = true) (h2 : PySem.W.typeIn K (.ref S) = some (.type "type")) (h0 : PySem.W.subIn K (.ref C) (.ref C) = some true) (h3 : PySem.W.subIn K (.ref C) (.ref S) = some false) : PySem.W.kitOne K (.ref C) (.ref S) = some false := by
  have ne : C ≠ S := fun z => by
    rw [z] at h0 h3
    rw [h0] at h3
    cases h3
  have a : ((PySem.W.clsIn K S).isSome && PySem.W.typeIn K (.ref S) == some (.type "type")) = true := by
    have h1' : (PySem.W.clsIn K S).isSome = true := h1
    rw [h1', h2]; rfl
  unfold PySem.W.kitOne PySem.W.kitCls
  split
  · next h =>
    exfalso
    exact ne (by simpa using h)
  · exact (if_pos a).trans h3
/-- the written class of an own error straight beneath S -/
def IsExcObj (K : PySem.W.Frag) (C S : Addr) : Prop := ∃ nm q N bs bm sn sub ab col dd k0 k1 k2 k3 k5, K.lookup C = some (excClassObj nm q C N bs bm true sn sub ab col dd k0 k1 k2 k3 k5 "ValueError.__new__") ∧ PySem.HandSPX.refsVE bm = true
end Sip
/-! SipHead: the facts of a text read off the heap behind the top, by one run in the kernel (own hook over the kit's). -/
namespace Sip
open PySem PySem.Spec PyProof.Rows L2
/-- the class of an own error, by sight -/
def excObjB (K : PySem.W.Frag) (C : Addr) : Bool := match K.lookup C with
  | some ⟨.type c, _, .cls cd, sl⟩ => decide (c = "type") && (cd.hasDict && (!cd.hasDel && (match cd.mro, sl.toList with
    | .ref C' :: bm, [_, _, _, _, some (.builtin n), _] => decide (C' = C) && (decide (n = "ValueError.__new__") && PySem.HandSPX.refsVE bm)
    | _, _ => false)))
  | _ => false
theorem excObjB_ok {K : PySem.W.Frag} {C S : Addr} (h : excObjB K C = true) : IsExcObj K C S := by
  unfold excObjB at h
  split at h
  · rename_i c dd cd sl q
    obtain ⟨h1, h⟩ := He.ba h
    obtain ⟨h2, h⟩ := He.ba h
    obtain ⟨h3, h⟩ := He.ba h
    split at h
    · rename_i C' bm k0 k1 k2 k3 n k5 hm hs
      obtain ⟨h4, h⟩ := He.ba h
      obtain ⟨h5, h6⟩ := He.ba h
      obtain ⟨nm, bs, mro, ns, qn, hd, sn, sub, ab, col, del⟩ := cd
      have e1 := of_decide_eq_true h1
      have e4 := of_decide_eq_true h4
      have e5 := of_decide_eq_true h5
      have e3 : del = false := by simpa using h3
      have e2 : hd = true := h2
      have hm' : mro = .ref C' :: bm := hm
      have hsl : sl = #[k0, k1, k2, k3, some (.builtin n), k5] := by
        obtain ⟨l⟩ := sl
        simp only at hs
        rw [hs]
      subst e1 e2 e3 e4 e5 hm' hsl
      exact ⟨nm, qn, ns, bs, bm, sn, sub, ab, col, dd, k0, k1, k2, k3, k5, q, h6⟩
    · cases h
  · cases h
/-- a constant of the module -/
def conB (K : PySem.W.Frag) (x : Str) (v : V) : Bool := match PySem.W.nsIn K mainGlobals x with
  | some (some u) => He.relB v u
  | _ => false
theorem conB_ok {K : PySem.W.Frag} {x : Str} {v : V} (h : conB K x v = true) : ∃ u, PySem.W.nsIn K mainGlobals x = some (some u) ∧ RelV v u := by
  unfold conB at h
  split at h
  · exact ⟨_, by assumption, He.relB_ok h⟩
  · cases h
/-- a class's own def, read from the class -/
def clsB (K : PySem.W.Frag) (c mc : Value) (x : Str) (v : Value) : Bool := match PySem.W.findCls K c mc x with
  | some (.val u) => decide (u = v)
  | _ => false
theorem clsB_ok {K : PySem.W.Frag} {c mc v : Value} {x : Str} (h : clsB K c mc x v = true) : PySem.W.findCls K c mc x = some (.val v) := by
  unfold clsB at h
  split at h
  · rename_i u e
    rw [e, of_decide_eq_true h]
  · cases h
/-- where the default of a keyword-only parameter lies -/
def kwAd (K : PySem.W.Frag) (at_ : Str × Option Str) (x : Str) : Addr := match K.lookup (He.fAd K at_) with
  | some ⟨_, _, .func fd, _⟩ => (match fd.kwdefaults with
    | .ref D => (match PySem.W.nsIn K D x with
      | some (some (.ref a)) => a
      | _ => 0)
    | _ => 0)
  | _ => 0
/-- an empty tuple -/
def tupA (K : PySem.W.Frag) (a : Addr) : Bool := match K.lookup a with
  | some ⟨.type c, _, .seq its _, _⟩ => decide (c = "tuple") && its.toList.isEmpty
  | _ => false
theorem tupA_ok {K : PySem.W.Frag} {a : Addr} (h : tupA K a = true) (H : Hp) : SqT K H a [] := by
  unfold tupA at h
  split at h
  · rename_i c dd its n sl q
    obtain ⟨h1, h2⟩ := He.ba h
    have e1 := of_decide_eq_true h1
    subst e1
    have e2 : its.toList = [] := List.isEmpty_iff.mp h2
    obtain ⟨l⟩ := its
    have e2 : l = [] := e2
    subst e2
    exact .inr ⟨_, _, _, q, rfl, rfl, Nat.zero_le _, .nil⟩
  · cases h
/-! ### the hook -/
def obsS (fa : PySem.W.Frag → Bool) (fn : List He.DefD) (K : PySem.W.Frag) : He.AlD := (fa K && fn.all fun d => d.ok K, fn.map fun d => He.fnW K d.at_)
def SaysS (fa : PySem.W.Frag → Bool) (fn : List He.DefD) (K : PySem.W.Frag) : Prop := obsS fa fn K = He.valD fn
def obsSG (as : List Addr) (fa : PySem.W.Frag → Bool) (fn : List He.DefD) (g : Addr → Option Obj) : He.AlD := obsS fa fn (He.frG g as)
def hookS (as : List Addr) (fa : PySem.W.Frag → Bool) (fn : List He.DefD) : PySem.W.Hook where
  α := He.AlD
  obs := fun s => obsSG as fa fn s.heap.get?
  val := fun _ => He.valD fn
  says := fun _ h => ∃ K : PySem.W.Frag, K.In h ∧ SaysS fa fn K
  of := fun _ _ e => ⟨_, He.frG_in, e⟩
  keeps := fun _ _ _ ⟨K, hK, c⟩ k => ⟨K, PySem.W.Frag.In.keeps hK k, c⟩
theorem obsSG_eq {as : List Addr} {fa : PySem.W.Frag → Bool} {fn : List He.DefD} {g : Addr → Option Obj} {s : Shared} (h : ∀ a, g a = s.heap.get? a) : obsSG as fa fn g = (hookS as fa fn).obs s := by
  have e : g = s.heap.get? := funext h
  rw [e] <;> rfl
section
variable {fa : PySem.W.Frag → Bool} {fn : List He.DefD} {K : PySem.W.Frag}
theorem SaysS.facts (c : SaysS fa fn K) : fa K = true := (He.ba (show (fa K && fn.all fun d => d.ok K) = true from congrArg (fun z : He.AlD => z.1) c)).1
theorem SaysS.def_ (c : SaysS fa fn K) (i : Nat) {d : He.DefD} (h : fn[i]? = some d := by rfl) : ∃ fd, FunD K d.name d.qual d.params d.body d.scope (d.dvs K) (d.kws K) (He.fAd K d.at_) fd := by
  have c2 := (He.ba (show (fa K && fn.all fun d => d.ok K) = true from congrArg (fun z : He.AlD => z.1) c)).2
  have e : fn.map (fun d => He.fnW K d.at_) = fn.map He.DefD.val := congrArg (fun z : He.AlD => z.2) c
  have e2 : (fn.map fun d => He.fnW K d.at_)[i]? = (fn.map He.DefD.val)[i]? := by rw [e]
  rw [List.getElem?_map, List.getElem?_map, h] at e2
  exact He.DefD.funD (Option.some.inj e2) (List.all_eq_true.mp c2 d (List.mem_of_getElem? h))
end
theorem dfl_none {K : PySem.W.Frag} {dV : Value} (h : DflV K dV []) : dV = .none := by
  rcases h with h | h
  · exact h.2
  · exact absurd rfl h.1
end Sip
namespace Sip
open PySem PySem.Spec PyProof.Rows L2 TL
def topS (i : Nat) : Stmt := PySem.Challenge.pw_sipstack_k11_whole_device_log_walks.main.body.getD i (.Pass ⟨0, 0, 0, 0⟩)
abbrev s_iFault : Stmt := inClass (topS 5) 0
abbrev N_iFault : List Str := ["self", "number", "taken"]
abbrev P_iFault : List Str := ["self", "number", "taken"]
theorem sc_iFault : FnScope N_iFault P_iFault (defScope s_iFault) := ⟨rfl, rfl, rfl, by decide +kernel, rfl, by decide +kernel, by decide +kernel⟩
abbrev s_clen : Stmt := topS 9
abbrev N_clen : List Str := ["length"]
abbrev P_clen : List Str := ["length"]
theorem sc_clen : FnScope N_clen P_clen (defScope s_clen) := ⟨rfl, rfl, rfl, by decide +kernel, rfl, by decide +kernel, by decide +kernel⟩
abbrev s_ocopy : Stmt := topS 12
abbrev N_ocopy : List Str := ["thing"]
abbrev P_ocopy : List Str := ["thing"]
theorem sc_ocopy : FnScope N_ocopy P_ocopy (defScope s_ocopy) := ⟨rfl, rfl, rfl, by decide +kernel, rfl, by decide +kernel, by decide +kernel⟩
abbrev s_laid : Stmt := topS 14
abbrev N_laid : List Str := ["row", "place", "data", "told"]
abbrev P_laid : List Str := ["row", "place", "data"]
theorem sc_laid : FnScope N_laid P_laid (defScope s_laid) := ⟨rfl, rfl, rfl, by decide +kernel, rfl, by decide +kernel, by decide +kernel⟩
abbrev s_rinit : Stmt := inClass (topS 11) 0
abbrev N_rinit : List Str := ["self", "can_seek"]
abbrev P_rinit : List Str := ["self", "can_seek"]
theorem sc_rinit : FnScope N_rinit P_rinit (defScope s_rinit) := ⟨rfl, rfl, rfl, by decide +kernel, rfl, by decide +kernel, by decide +kernel⟩
abbrev s_dinit : Stmt := inClass (topS 17) 0
abbrev N_dinit : List Str := ["self", "content", "plan", "seeks"]
abbrev P_dinit : List Str := ["self", "content", "plan", "seeks"]
theorem sc_dinit : FnScope N_dinit P_dinit (defScope s_dinit) := ⟨rfl, rfl, rfl, by decide +kernel, rfl, by decide +kernel, by decide +kernel⟩
abbrev s_dgrow : Stmt := inClass (topS 17) 1
abbrev N_dgrow : List Str := ["self", "data"]
abbrev P_dgrow : List Str := ["self", "data"]
theorem sc_dgrow : FnScope N_dgrow P_dgrow (defScope s_dgrow) := ⟨rfl, rfl, rfl, by decide +kernel, rfl, by decide +kernel, by decide +kernel⟩
abbrev s_dcontent : Stmt := inClass (topS 17) 2
abbrev N_dcontent : List Str := ["self"]
abbrev P_dcontent : List Str := ["self"]
theorem sc_dcontent : FnScope N_dcontent P_dcontent (defScope s_dcontent) := ⟨rfl, rfl, rfl, by decide +kernel, rfl, by decide +kernel, by decide +kernel⟩
abbrev s_dleft : Stmt := inClass (topS 17) 3
abbrev N_dleft : List Str := ["self"]
abbrev P_dleft : List Str := ["self"]
theorem sc_dleft : FnScope N_dleft P_dleft (defScope s_dleft) := ⟨rfl, rfl, rfl, by decide +kernel, rfl, by decide +kernel, by decide +kernel⟩
abbrev s_dgive : Stmt := inClass (topS 17) 7
abbrev N_dgive : List Str := ["self", "many", "most"]
abbrev P_dgive : List Str := ["self", "many"]
theorem sc_dgive : FnScope N_dgive P_dgive (defScope s_dgive) := ⟨rfl, rfl, rfl, by decide +kernel, rfl, by decide +kernel, by decide +kernel⟩
abbrev s_daccept : Stmt := inClass (topS 17) 8
abbrev N_daccept : List Str := ["self", "data", "most"]
abbrev P_daccept : List Str := ["self", "data"]
theorem sc_daccept : FnScope N_daccept P_daccept (defScope s_daccept) := ⟨rfl, rfl, rfl, by decide +kernel, rfl, by decide +kernel, by decide +kernel⟩
abbrev s_dmove : Stmt := inClass (topS 17) 9
abbrev N_dmove : List Str := ["self", "place"]
abbrev P_dmove : List Str := ["self", "place"]
theorem sc_dmove : FnScope N_dmove P_dmove (defScope s_dmove) := ⟨rfl, rfl, rfl, by decide +kernel, rfl, by decide +kernel, by decide +kernel⟩
abbrev s_dtrim : Stmt := inClass (topS 17) 10
abbrev N_dtrim : List Str := ["self", "size"]
abbrev P_dtrim : List Str := ["self", "size"]
theorem sc_dtrim : FnScope N_dtrim P_dtrim (defScope s_dtrim) := ⟨rfl, rfl, rfl, by decide +kernel, rfl, by decide +kernel, by decide +kernel⟩
abbrev s_dextent : Stmt := inClass (topS 17) 11
abbrev N_dextent : List Str := ["self"]
abbrev P_dextent : List Str := ["self"]
theorem sc_dextent : FnScope N_dextent P_dextent (defScope s_dextent) := ⟨rfl, rfl, rfl, by decide +kernel, rfl, by decide +kernel, by decide +kernel⟩
abbrev s_dallowed : Stmt := inClass (topS 17) 12
abbrev N_dallowed : List Str := ["self", "many", "number"]
abbrev P_dallowed : List Str := ["self", "many"]
theorem sc_dallowed : FnScope N_dallowed P_dallowed (defScope s_dallowed) := ⟨rfl, rfl, rfl, by decide +kernel, rfl, by decide +kernel, by decide +kernel⟩
abbrev s_dtake : Stmt := inClass (topS 11) 1
abbrev N_dtake : List Str := ["self", "many", "came"]
abbrev P_dtake : List Str := ["self", "many"]
theorem sc_dtake : FnScope N_dtake P_dtake (defScope s_dtake) := ⟨rfl, rfl, rfl, by decide +kernel, rfl, by decide +kernel, by decide +kernel⟩
abbrev s_dput : Stmt := inClass (topS 11) 2
abbrev N_dput : List Str := ["self", "data", "handed", "took"]
abbrev P_dput : List Str := ["self", "data"]
theorem sc_dput : FnScope N_dput P_dput (defScope s_dput) := ⟨rfl, rfl, rfl, by decide +kernel, rfl, by decide +kernel, by decide +kernel⟩
abbrev s_dgo : Stmt := inClass (topS 11) 3
abbrev N_dgo : List Str := ["self", "place"]
abbrev P_dgo : List Str := ["self", "place"]
theorem sc_dgo : FnScope N_dgo P_dgo (defScope s_dgo) := ⟨rfl, rfl, rfl, by decide +kernel, rfl, by decide +kernel, by decide +kernel⟩
abbrev s_dcut : Stmt := inClass (topS 11) 4
abbrev N_dcut : List Str := ["self", "size"]
abbrev P_dcut : List Str := ["self", "size"]
theorem sc_dcut : FnScope N_dcut P_dcut (defScope s_dcut) := ⟨rfl, rfl, rfl, by decide +kernel, rfl, by decide +kernel, by decide +kernel⟩
abbrev s_dnote : Stmt := inClass (topS 11) 12
abbrev N_dnote : List Str := ["self", "word", "handed", "came"]
abbrev P_dnote : List Str := ["self", "word", "handed", "came"]
theorem sc_dnote : FnScope N_dnote P_dnote (defScope s_dnote) := ⟨rfl, rfl, rfl, by decide +kernel, rfl, by decide +kernel, by decide +kernel⟩
abbrev s_dopen : Stmt := inClass (topS 11) 13
abbrev N_dopen : List Str := ["self"]
abbrev P_dopen : List Str := ["self"]
theorem sc_dopen : FnScope N_dopen P_dopen (defScope s_dopen) := ⟨rfl, rfl, rfl, by decide +kernel, rfl, by decide +kernel, by decide +kernel⟩
abbrev s_dseeks : Stmt := inClass (topS 11) 14
abbrev N_dseeks : List Str := ["self"]
abbrev P_dseeks : List Str := ["self"]
theorem sc_dseeks : FnScope N_dseeks P_dseeks (defScope s_dseeks) := ⟨rfl, rfl, rfl, by decide +kernel, rfl, by decide +kernel, by decide +kernel⟩
abbrev s_dmayt : Stmt := inClass (topS 11) 15
abbrev N_dmayt : List Str := ["self"]
abbrev P_dmayt : List Str := ["self"]
theorem sc_dmayt : FnScope N_dmayt P_dmayt (defScope s_dmayt) := ⟨rfl, rfl, rfl, by decide +kernel, rfl, by decide +kernel, by decide +kernel⟩
abbrev s_dmayp : Stmt := inClass (topS 11) 16
abbrev N_dmayp : List Str := ["self", "data"]
abbrev P_dmayp : List Str := ["self", "data"]
theorem sc_dmayp : FnScope N_dmayp P_dmayp (defScope s_dmayp) := ⟨rfl, rfl, rfl, by decide +kernel, rfl, by decide +kernel, by decide +kernel⟩
abbrev s_dmayc : Stmt := inClass (topS 11) 17
abbrev N_dmayc : List Str := ["self"]
abbrev P_dmayc : List Str := ["self"]
theorem sc_dmayc : FnScope N_dmayc P_dmayc (defScope s_dmayc) := ⟨rfl, rfl, rfl, by decide +kernel, rfl, by decide +kernel, by decide +kernel⟩
abbrev s_dlog : Stmt := inClass (topS 11) 10
abbrev N_dlog : List Str := ["self"]
abbrev P_dlog : List Str := ["self"]
theorem sc_dlog : FnScope N_dlog P_dlog (defScope s_dlog) := ⟨rfl, rfl, rfl, by decide +kernel, rfl, by decide +kernel, by decide +kernel⟩
abbrev s_dlogb : Stmt := inClass (topS 11) 11
abbrev N_dlogb : List Str := ["self", "many", "word", "place", "handed", "came"]
abbrev P_dlogb : List Str := ["self", "many"]
theorem sc_dlogb : FnScope N_dlogb P_dlogb (defScope s_dlogb) := ⟨rfl, rfl, rfl, by decide +kernel, rfl, by decide +kernel, by decide +kernel⟩
abbrev s_dsk : Stmt := inClass (topS 11) 8
abbrev N_dsk : List Str := ["self"]
abbrev P_dsk : List Str := ["self"]
theorem sc_dsk : FnScope N_dsk P_dsk (defScope s_dsk) := ⟨rfl, rfl, rfl, by decide +kernel, rfl, by decide +kernel, by decide +kernel⟩
abbrev s_dplace : Stmt := inClass (topS 11) 6
abbrev N_dplace : List Str := ["self"]
abbrev P_dplace : List Str := ["self"]
theorem sc_dplace : FnScope N_dplace P_dplace (defScope s_dplace) := ⟨rfl, rfl, rfl, by decide +kernel, rfl, by decide +kernel, by decide +kernel⟩
abbrev s_dlen : Stmt := inClass (topS 17) 4
abbrev N_dlen : List Str := ["self"]
abbrev P_dlen : List Str := ["self"]
theorem sc_dlen : FnScope N_dlen P_dlen (defScope s_dlen) := ⟨rfl, rfl, rfl, by decide +kernel, rfl, by decide +kernel, by decide +kernel⟩
abbrev s_deq : Stmt := inClass (topS 17) 6
abbrev N_deq : List Str := ["self", "other"]
abbrev P_deq : List Str := ["self", "other"]
theorem sc_deq : FnScope N_deq P_deq (defScope s_deq) := ⟨rfl, rfl, rfl, by decide +kernel, rfl, by decide +kernel, by decide +kernel⟩
abbrev s_pool : Stmt := topS 19
abbrev N_pool : List Str := ["_law_script", "_law_at", "_law_cell", "_law_digits"]
abbrev P_pool : List Str := ["_law_script", "_law_at"]
theorem sc_pool : FnScope N_pool P_pool (defScope s_pool) := ⟨rfl, rfl, rfl, by decide +kernel, rfl, by decide +kernel, by decide +kernel⟩
abbrev s_take : Stmt := topS 20
abbrev N_take : List Str := ["_law_pool_here", "_law_wide", "_law_found", "_law_seed"]
abbrev P_take : List Str := ["_law_pool_here", "_law_wide"]
theorem sc_take : FnScope N_take P_take (defScope s_take) := ⟨rfl, rfl, rfl, by decide +kernel, rfl, by decide +kernel, by decide +kernel⟩
abbrev s_lrow : Stmt := topS 21
abbrev N_lrow : List Str := ["_law_pool_here", "_law_most", "_law_row_here", "_law_k", "_law_way"]
abbrev P_lrow : List Str := ["_law_pool_here", "_law_most"]
theorem sc_lrow : FnScope N_lrow P_lrow (defScope s_lrow) := ⟨rfl, rfl, rfl, by decide +kernel, rfl, by decide +kernel, by decide +kernel⟩
abbrev s_lplan : Stmt := topS 22
abbrev N_lplan : List Str := ["_law_pool_here", "_law_most", "_law_troubles", "_law_numbers", "_law_k", "_law_way"]
abbrev P_lplan : List Str := ["_law_pool_here", "_law_most", "_law_troubles"]
theorem sc_lplan : FnScope N_lplan P_lplan (defScope s_lplan) := ⟨rfl, rfl, rfl, by decide +kernel, rfl, by decide +kernel, by decide +kernel⟩
abbrev s_llaid : Stmt := topS 23
abbrev N_llaid : List Str := ["_law_row_here", "_law_place", "_law_data", "_law_found"]
abbrev P_llaid : List Str := ["_law_row_here", "_law_place", "_law_data"]
theorem sc_llaid : FnScope N_llaid P_llaid (defScope s_llaid) := ⟨rfl, rfl, rfl, by decide +kernel, rfl, by decide +kernel, by decide +kernel⟩
abbrev s_ldevice : Stmt := topS 24
abbrev N_ldevice : List Str := ["_law_row_here", "_law_numbers"]
abbrev P_ldevice : List Str := ["_law_row_here", "_law_numbers"]
theorem sc_ldevice : FnScope N_ldevice P_ldevice (defScope s_ldevice) := ⟨rfl, rfl, rfl, by decide +kernel, rfl, by decide +kernel, by decide +kernel⟩
abbrev s_lasked : Stmt := topS 25
abbrev N_lasked : List Str := ["_law_m", "_law_word", "_law_handed", "_law_number", "_law_spot", "_law_came"]
abbrev P_lasked : List Str := ["_law_m", "_law_word", "_law_handed"]
theorem sc_lasked : FnScope N_lasked P_lasked (defScope s_lasked) := ⟨rfl, rfl, rfl, by decide +kernel, rfl, by decide +kernel, by decide +kernel⟩
abbrev s_ltold : Stmt := topS 27
abbrev N_ltold : List Str := ["_law_raw", "_law_word", "_law_handed", "_law_found", "e"]
abbrev P_ltold : List Str := ["_law_raw", "_law_word", "_law_handed"]
theorem sc_ltold : FnScope N_ltold P_ltold (defScope s_ltold) := ⟨rfl, rfl, rfl, by decide +kernel, rfl, by decide +kernel, by decide +kernel⟩
abbrev s_lhouse : Stmt := topS 28
abbrev N_lhouse : List Str := ["_law_pool_here", "_law_goes", "_law_row_here", "_law_numbers", "_law_device_here"]
abbrev P_lhouse : List Str := ["_law_pool_here", "_law_goes"]
theorem sc_lhouse : FnScope N_lhouse P_lhouse (defScope s_lhouse) := ⟨rfl, rfl, rfl, by decide +kernel, rfl, by decide +kernel, by decide +kernel⟩
abbrev s_lwalked : Stmt := topS 29
abbrev N_lwalked : List Str := ["_law_house_here", "_law_row_here", "_law_numbers", "_law_goes", "_law_m", "_law_log", "_law_word", "_law_handed"]
abbrev P_lwalked : List Str := ["_law_house_here"]
theorem sc_lwalked : FnScope N_lwalked P_lwalked (defScope s_lwalked) := ⟨rfl, rfl, rfl, by decide +kernel, rfl, by decide +kernel, by decide +kernel⟩
abbrev s_lagain : Stmt := topS 30
abbrev N_lagain : List Str := ["_law_house_here", "_law_row_here", "_law_numbers", "_law_goes", "_law_device_here", "_law_word", "_law_handed"]
abbrev P_lagain : List Str := ["_law_house_here"]
theorem sc_lagain : FnScope N_lagain P_lagain (defScope s_lagain) := ⟨rfl, rfl, rfl, by decide +kernel, rfl, by decide +kernel, by decide +kernel⟩
abbrev s_law : Stmt := topS 31
abbrev N_law : List Str := ["_law_script", "_law_pool_here", "_law_houses", "_law_k", "_law_house_here", "_law_word", "_law_handed", "_law_one", "_law_m", "_law_again_here"]
abbrev P_law : List Str := ["_law_script"]
theorem sc_law : FnScope N_law P_law (defScope s_law) := ⟨rfl, rfl, rfl, by decide +kernel, rfl, by decide +kernel, by decide +kernel⟩
abbrev s_ldeed : Stmt := topS 26
abbrev N_ldeed : List Str := ["_law_pool_here", "_law_m", "_law_way"]
abbrev P_ldeed : List Str := ["_law_pool_here", "_law_m"]
theorem sc_ldeed : FnScope N_ldeed P_ldeed (defScope s_ldeed) := ⟨rfl, rfl, rfl, by decide +kernel, rfl, by decide +kernel, by decide +kernel⟩
noncomputable section
def re_129 (_ : PySem.W.Frag) : Bool := true
def re_128 (K : PySem.W.Frag) : Bool := decide (PySem.W.nsIn K mainGlobals "bool" = some none) && re_129 K
def re_127 (K : PySem.W.Frag) : Bool := decide (PySem.W.nsIn K mainGlobals "int" = some none) && re_128 K
def re_126 (K : PySem.W.Frag) : Bool := decide (PySem.W.nsIn K mainGlobals "isinstance" = some none) && re_127 K
def re_125 (K : PySem.W.Frag) : Bool := decide (PySem.W.nsIn K mainGlobals "min" = some none) && re_126 K
def re_124 (K : PySem.W.Frag) : Bool := decide (PySem.W.nsIn K mainGlobals "max" = some none) && re_125 K
def re_123 (K : PySem.W.Frag) : Bool := decide (PySem.W.nsIn K mainGlobals "range" = some none) && re_124 K
def re_122 (K : PySem.W.Frag) : Bool := decide (PySem.W.nsIn K mainGlobals "len" = some none) && re_123 K
def re_121 (K : PySem.W.Frag) : Bool := decide (PySem.W.nsIn K mainGlobals "list" = some none) && re_122 K
def re_120 (K : PySem.W.Frag) : Bool := Sip.conB K "LONGEST" (.int 4000) && re_121 K
def re_119 (K : PySem.W.Frag) : Bool := decide (PySem.W.mroIn K (He.ga K "Device") (.type "object") = some true) && re_120 K
def re_118 (K : PySem.W.Frag) : Bool := decide (PySem.W.takesIn K (.builtin "object.__class__") = some true) && re_119 K
def re_117 (K : PySem.W.Frag) : Bool := decide (PySem.W.specialIn K (.builtin "object.__class__") "__get__" = some (some (.builtin "getset_descriptor.__get__"))) && re_118 K
def re_116 (K : PySem.W.Frag) : Bool := decide (PySem.W.findIn K (.ref (He.ga K "Device")) "__class__" = some (some (.builtin "object.__class__"))) && re_117 K
def re_115 (K : PySem.W.Frag) : Bool := decide (PySem.W.findIn K (.ref (He.ga K "Device")) "__ne__" = some (some (.builtin "object.__ne__"))) && re_116 K
def re_114 (K : PySem.W.Frag) : Bool := decide (PySem.W.findIn K (.ref (He.ga K "Device")) "used" = some none) && re_115 K
def re_113 (K : PySem.W.Frag) : Bool := decide (PySem.W.findIn K (.ref (He.ga K "Device")) "plan" = some none) && re_114 K
def re_112 (K : PySem.W.Frag) : Bool := decide (PySem.W.findIn K (.ref (He.ga K "Device")) "cells" = some none) && re_113 K
def re_111 (K : PySem.W.Frag) : Bool := decide (PySem.W.findIn K (.ref (He.ga K "Device")) "notes" = some none) && re_112 K
def re_110 (K : PySem.W.Frag) : Bool := decide (PySem.W.findIn K (.ref (He.ga K "Device")) "barred" = some none) && re_111 K
def re_109 (K : PySem.W.Frag) : Bool := decide (PySem.W.findIn K (.ref (He.ga K "Device")) "spot" = some none) && re_110 K
def re_108 (K : PySem.W.Frag) : Bool := decide (PySem.W.findIn K (.ref (He.ga K "Device")) "can_seek" = some none) && re_109 K
def re_107 (K : PySem.W.Frag) : Bool := decide (PySem.W.keepIn K (.ref (He.ga K "Device")) = true) && re_108 K
def re_106 (K : PySem.W.Frag) : Bool := decide (PySem.W.makesIn K (He.ga K "Device") = true) && re_107 K
def re_105 (K : PySem.W.Frag) : Bool := decide (PySem.W.findIn K (.ref (He.ga K "Device")) "__setattr__" = some (some (.builtin "object.__setattr__"))) && re_106 K
def re_104 (K : PySem.W.Frag) : Bool := decide (PySem.W.plainOver K (He.ga K "Device") = true) && re_105 K
def re_103 (K : PySem.W.Frag) : Bool := decide (PySem.W.hasDictIn K (He.ga K "Device") = true) && re_104 K
def re_102 (K : PySem.W.Frag) : Bool := decide (PySem.W.plainGet K (He.ga K "Device") Str.empty = true) && re_103 K
def re_101 (K : PySem.W.Frag) : Bool := decide (PySem.W.nsIn K mainGlobals "_law_deed" = some (some (.ref (He.fAd K ("_law_deed", none))))) && re_102 K
def re_100 (K : PySem.W.Frag) : Bool := decide (PySem.W.nsIn K mainGlobals "law" = some (some (.ref (He.fAd K ("law", none))))) && re_101 K
def re_99 (K : PySem.W.Frag) : Bool := decide (PySem.W.nsIn K mainGlobals "_law_again" = some (some (.ref (He.fAd K ("_law_again", none))))) && re_100 K
def re_98 (K : PySem.W.Frag) : Bool := decide (PySem.W.nsIn K mainGlobals "_law_walked" = some (some (.ref (He.fAd K ("_law_walked", none))))) && re_99 K
def re_97 (K : PySem.W.Frag) : Bool := decide (PySem.W.nsIn K mainGlobals "_law_house" = some (some (.ref (He.fAd K ("_law_house", none))))) && re_98 K
def re_96 (K : PySem.W.Frag) : Bool := decide (PySem.W.nsIn K mainGlobals "_law_told" = some (some (.ref (He.fAd K ("_law_told", none))))) && re_97 K
def re_95 (K : PySem.W.Frag) : Bool := decide (PySem.W.nsIn K mainGlobals "_law_asked" = some (some (.ref (He.fAd K ("_law_asked", none))))) && re_96 K
def re_94 (K : PySem.W.Frag) : Bool := decide (PySem.W.nsIn K mainGlobals "_law_device" = some (some (.ref (He.fAd K ("_law_device", none))))) && re_95 K
def re_93 (K : PySem.W.Frag) : Bool := decide (PySem.W.nsIn K mainGlobals "_law_laid" = some (some (.ref (He.fAd K ("_law_laid", none))))) && re_94 K
def re_92 (K : PySem.W.Frag) : Bool := decide (PySem.W.nsIn K mainGlobals "_law_plan" = some (some (.ref (He.fAd K ("_law_plan", none))))) && re_93 K
def re_91 (K : PySem.W.Frag) : Bool := decide (PySem.W.nsIn K mainGlobals "_law_row" = some (some (.ref (He.fAd K ("_law_row", none))))) && re_92 K
def re_90 (K : PySem.W.Frag) : Bool := decide (PySem.W.nsIn K mainGlobals "_law_take" = some (some (.ref (He.fAd K ("_law_take", none))))) && re_91 K
def re_89 (K : PySem.W.Frag) : Bool := decide (PySem.W.nsIn K mainGlobals "_law_pool" = some (some (.ref (He.fAd K ("_law_pool", none))))) && re_90 K
def re_88 (K : PySem.W.Frag) : Bool := decide (PySem.W.isFn K (.ref (He.fAd K ("Device", some "__eq__"))) = true) && re_89 K
def re_87 (K : PySem.W.Frag) : Bool := decide (PySem.W.findIn K (.ref (He.ga K "Device")) "__eq__" = some (some (.ref (He.fAd K ("Device", some "__eq__"))))) && re_88 K
def re_86 (K : PySem.W.Frag) : Bool := decide (PySem.W.isFn K (.ref (He.fAd K ("Device", some "__len__"))) = true) && re_87 K
def re_85 (K : PySem.W.Frag) : Bool := decide (PySem.W.findIn K (.ref (He.ga K "Device")) "__len__" = some (some (.ref (He.fAd K ("Device", some "__len__"))))) && re_86 K
def re_84 (K : PySem.W.Frag) : Bool := decide (PySem.W.isFn K (.ref (He.fAd K ("Device", some "place"))) = true) && re_85 K
def re_83 (K : PySem.W.Frag) : Bool := decide (PySem.W.findIn K (.ref (He.ga K "Device")) "place" = some (some (.ref (He.fAd K ("Device", some "place"))))) && re_84 K
def re_82 (K : PySem.W.Frag) : Bool := decide (PySem.W.isFn K (.ref (He.fAd K ("Device", some "seeks"))) = true) && re_83 K
def re_81 (K : PySem.W.Frag) : Bool := decide (PySem.W.findIn K (.ref (He.ga K "Device")) "seeks" = some (some (.ref (He.fAd K ("Device", some "seeks"))))) && re_82 K
def re_80 (K : PySem.W.Frag) : Bool := decide (PySem.W.isFn K (.ref (He.fAd K ("Device", some "log_behind"))) = true) && re_81 K
def re_79 (K : PySem.W.Frag) : Bool := decide (PySem.W.findIn K (.ref (He.ga K "Device")) "log_behind" = some (some (.ref (He.fAd K ("Device", some "log_behind"))))) && re_80 K
def re_78 (K : PySem.W.Frag) : Bool := decide (PySem.W.isFn K (.ref (He.fAd K ("Device", some "log"))) = true) && re_79 K
def re_77 (K : PySem.W.Frag) : Bool := decide (PySem.W.findIn K (.ref (He.ga K "Device")) "log" = some (some (.ref (He.fAd K ("Device", some "log"))))) && re_78 K
def re_76 (K : PySem.W.Frag) : Bool := decide (PySem.W.isFn K (.ref (He.fAd K ("Device", some "may_cut"))) = true) && re_77 K
def re_75 (K : PySem.W.Frag) : Bool := decide (PySem.W.findIn K (.ref (He.ga K "Device")) "may_cut" = some (some (.ref (He.fAd K ("Device", some "may_cut"))))) && re_76 K
def re_74 (K : PySem.W.Frag) : Bool := decide (PySem.W.isFn K (.ref (He.fAd K ("Device", some "may_put"))) = true) && re_75 K
def re_73 (K : PySem.W.Frag) : Bool := decide (PySem.W.findIn K (.ref (He.ga K "Device")) "may_put" = some (some (.ref (He.fAd K ("Device", some "may_put"))))) && re_74 K
def re_72 (K : PySem.W.Frag) : Bool := decide (PySem.W.isFn K (.ref (He.fAd K ("Device", some "may_take"))) = true) && re_73 K
def re_71 (K : PySem.W.Frag) : Bool := decide (PySem.W.findIn K (.ref (He.ga K "Device")) "may_take" = some (some (.ref (He.fAd K ("Device", some "may_take"))))) && re_72 K
def re_70 (K : PySem.W.Frag) : Bool := decide (PySem.W.isFn K (.ref (He.fAd K ("Device", some "check_seeks"))) = true) && re_71 K
def re_69 (K : PySem.W.Frag) : Bool := decide (PySem.W.findIn K (.ref (He.ga K "Device")) "check_seeks" = some (some (.ref (He.fAd K ("Device", some "check_seeks"))))) && re_70 K
def re_68 (K : PySem.W.Frag) : Bool := decide (PySem.W.isFn K (.ref (He.fAd K ("Device", some "check_open"))) = true) && re_69 K
def re_67 (K : PySem.W.Frag) : Bool := decide (PySem.W.findIn K (.ref (He.ga K "Device")) "check_open" = some (some (.ref (He.fAd K ("Device", some "check_open"))))) && re_68 K
def re_66 (K : PySem.W.Frag) : Bool := decide (PySem.W.isFn K (.ref (He.fAd K ("Device", some "note"))) = true) && re_67 K
def re_65 (K : PySem.W.Frag) : Bool := decide (PySem.W.findIn K (.ref (He.ga K "Device")) "note" = some (some (.ref (He.fAd K ("Device", some "note"))))) && re_66 K
def re_64 (K : PySem.W.Frag) : Bool := decide (PySem.W.isFn K (.ref (He.fAd K ("Device", some "cut"))) = true) && re_65 K
def re_63 (K : PySem.W.Frag) : Bool := decide (PySem.W.findIn K (.ref (He.ga K "Device")) "cut" = some (some (.ref (He.fAd K ("Device", some "cut"))))) && re_64 K
def re_62 (K : PySem.W.Frag) : Bool := decide (PySem.W.isFn K (.ref (He.fAd K ("Device", some "go"))) = true) && re_63 K
def re_61 (K : PySem.W.Frag) : Bool := decide (PySem.W.findIn K (.ref (He.ga K "Device")) "go" = some (some (.ref (He.fAd K ("Device", some "go"))))) && re_62 K
def re_60 (K : PySem.W.Frag) : Bool := decide (PySem.W.isFn K (.ref (He.fAd K ("Device", some "put"))) = true) && re_61 K
def re_59 (K : PySem.W.Frag) : Bool := decide (PySem.W.findIn K (.ref (He.ga K "Device")) "put" = some (some (.ref (He.fAd K ("Device", some "put"))))) && re_60 K
def re_58 (K : PySem.W.Frag) : Bool := decide (PySem.W.isFn K (.ref (He.fAd K ("Device", some "take"))) = true) && re_59 K
def re_57 (K : PySem.W.Frag) : Bool := decide (PySem.W.findIn K (.ref (He.ga K "Device")) "take" = some (some (.ref (He.fAd K ("Device", some "take"))))) && re_58 K
def re_56 (K : PySem.W.Frag) : Bool := decide (PySem.W.isFn K (.ref (He.fAd K ("Device", some "allowed"))) = true) && re_57 K
def re_55 (K : PySem.W.Frag) : Bool := decide (PySem.W.findIn K (.ref (He.ga K "Device")) "allowed" = some (some (.ref (He.fAd K ("Device", some "allowed"))))) && re_56 K
def re_54 (K : PySem.W.Frag) : Bool := decide (PySem.W.isFn K (.ref (He.fAd K ("Device", some "extent"))) = true) && re_55 K
def re_53 (K : PySem.W.Frag) : Bool := decide (PySem.W.findIn K (.ref (He.ga K "Device")) "extent" = some (some (.ref (He.fAd K ("Device", some "extent"))))) && re_54 K
def re_52 (K : PySem.W.Frag) : Bool := decide (PySem.W.isFn K (.ref (He.fAd K ("Device", some "trim"))) = true) && re_53 K
def re_51 (K : PySem.W.Frag) : Bool := decide (PySem.W.findIn K (.ref (He.ga K "Device")) "trim" = some (some (.ref (He.fAd K ("Device", some "trim"))))) && re_52 K
def re_50 (K : PySem.W.Frag) : Bool := decide (PySem.W.isFn K (.ref (He.fAd K ("Device", some "move"))) = true) && re_51 K
def re_49 (K : PySem.W.Frag) : Bool := decide (PySem.W.findIn K (.ref (He.ga K "Device")) "move" = some (some (.ref (He.fAd K ("Device", some "move"))))) && re_50 K
def re_48 (K : PySem.W.Frag) : Bool := decide (PySem.W.isFn K (.ref (He.fAd K ("Device", some "accept"))) = true) && re_49 K
def re_47 (K : PySem.W.Frag) : Bool := decide (PySem.W.findIn K (.ref (He.ga K "Device")) "accept" = some (some (.ref (He.fAd K ("Device", some "accept"))))) && re_48 K
def re_46 (K : PySem.W.Frag) : Bool := decide (PySem.W.isFn K (.ref (He.fAd K ("Device", some "give"))) = true) && re_47 K
def re_45 (K : PySem.W.Frag) : Bool := decide (PySem.W.findIn K (.ref (He.ga K "Device")) "give" = some (some (.ref (He.fAd K ("Device", some "give"))))) && re_46 K
def re_44 (K : PySem.W.Frag) : Bool := decide (PySem.W.isFn K (.ref (He.fAd K ("Device", some "left"))) = true) && re_45 K
def re_43 (K : PySem.W.Frag) : Bool := decide (PySem.W.findIn K (.ref (He.ga K "Device")) "left" = some (some (.ref (He.fAd K ("Device", some "left"))))) && re_44 K
def re_42 (K : PySem.W.Frag) : Bool := decide (PySem.W.isFn K (.ref (He.fAd K ("Device", some "content"))) = true) && re_43 K
def re_41 (K : PySem.W.Frag) : Bool := decide (PySem.W.findIn K (.ref (He.ga K "Device")) "content" = some (some (.ref (He.fAd K ("Device", some "content"))))) && re_42 K
def re_40 (K : PySem.W.Frag) : Bool := decide (PySem.W.isFn K (.ref (He.fAd K ("Device", some "grow"))) = true) && re_41 K
def re_39 (K : PySem.W.Frag) : Bool := decide (PySem.W.findIn K (.ref (He.ga K "Device")) "grow" = some (some (.ref (He.fAd K ("Device", some "grow"))))) && re_40 K
def re_38 (K : PySem.W.Frag) : Bool := decide (PySem.W.isFn K (.ref (He.fAd K ("Device", some "__init__"))) = true) && re_39 K
def re_37 (K : PySem.W.Frag) : Bool := decide (PySem.W.findIn K (.ref (He.ga K "Device")) "__init__" = some (some (.ref (He.fAd K ("Device", some "__init__"))))) && re_38 K
def re_36 (K : PySem.W.Frag) : Bool := Sip.clsB K (.ref (He.ga K "Raw")) (.type "type") "__init__" (.ref (He.fAd K ("Raw", some "__init__"))) && re_37 K
def re_35 (K : PySem.W.Frag) : Bool := decide (PySem.W.isFn K (.ref (He.fAd K ("Raw", some "__init__"))) = true) && re_36 K
def re_34 (K : PySem.W.Frag) : Bool := decide (PySem.W.findIn K (.ref (He.ga K "Raw")) "__init__" = some (some (.ref (He.fAd K ("Raw", some "__init__"))))) && re_35 K
def re_33 (K : PySem.W.Frag) : Bool := decide (PySem.W.nsIn K mainGlobals "laid" = some (some (.ref (He.fAd K ("laid", none))))) && re_34 K
def re_32 (K : PySem.W.Frag) : Bool := decide (PySem.W.nsIn K mainGlobals "own_copy" = some (some (.ref (He.fAd K ("own_copy", none))))) && re_33 K
def re_31 (K : PySem.W.Frag) : Bool := decide (PySem.W.nsIn K mainGlobals "check_length" = some (some (.ref (He.fAd K ("check_length", none))))) && re_32 K
def re_30 (K : PySem.W.Frag) : Bool := decide (PySem.W.typeIn K (.ref (He.fAd K ("Fault", some "__init__"))) = some (.type "function")) && re_31 K
def re_29 (K : PySem.W.Frag) : Bool := decide (PySem.W.findIn K (.ref (He.ga K "Fault")) "__init__" = some (some (.ref (He.fAd K ("Fault", some "__init__"))))) && re_30 K
def re_28 (K : PySem.W.Frag) : Bool := decide (PySem.W.findIn K (.ref (He.ga K "Fault")) "taken" = some none) && re_29 K
def re_27 (K : PySem.W.Frag) : Bool := decide (PySem.W.subIn K (.ref (He.ga K "Fault")) (.ref (He.ga K "Fault")) = some true) && re_28 K
def re_26 (K : PySem.W.Frag) : Bool := decide (PySem.W.subIn K (.ref (He.ga K "Fault")) (.ref (He.ga K "SipError")) = some true) && re_27 K
def re_25 (K : PySem.W.Frag) : Bool := decide (PySem.W.findIn K (.ref (He.ga K "Fault")) "number" = some none) && re_26 K
def re_24 (K : PySem.W.Frag) : Bool := decide (PySem.W.mroIn K (He.ga K "Fault") (.type "object") = some true) && re_25 K
def re_23 (K : PySem.W.Frag) : Bool := decide (PySem.W.takesIn K (.builtin "object.__class__") = some true) && re_24 K
def re_22 (K : PySem.W.Frag) : Bool := decide (PySem.W.specialIn K (.builtin "object.__class__") "__get__" = some (some (.builtin "getset_descriptor.__get__"))) && re_23 K
def re_21 (K : PySem.W.Frag) : Bool := decide (PySem.W.findIn K (.ref (He.ga K "Fault")) "__class__" = some (some (.builtin "object.__class__"))) && re_22 K
def re_20 (K : PySem.W.Frag) : Bool := decide (PySem.W.hasDictIn K (He.ga K "Fault") = true) && re_21 K
def re_19 (K : PySem.W.Frag) : Bool := decide (PySem.W.findIn K (.ref (He.ga K "Fault")) "__getattr__" = some none) && re_20 K
def re_18 (K : PySem.W.Frag) : Bool := decide (PySem.W.findIn K (.ref (He.ga K "Fault")) "__getattribute__" = some (some (.builtin "BaseException.__getattribute__"))) && re_19 K
def re_17 (K : PySem.W.Frag) : Bool := decide (PySem.W.keepIn K (.ref (He.ga K "Fault")) = true) && re_18 K
def re_16 (K : PySem.W.Frag) : Bool := decide (PySem.W.typeIn K (.ref (He.ga K "Fault")) = some (.type "type")) && re_17 K
def re_15 (K : PySem.W.Frag) : Bool := decide (PySem.W.subIn K (.ref (He.ga K "Fault")) (.type "BaseException") = some true) && re_16 K
def re_14 (K : PySem.W.Frag) : Bool := decide (PySem.W.findIn K (.ref (He.ga K "Fault")) "__setattr__" = some (some (.builtin "object.__setattr__"))) && re_15 K
def re_13 (K : PySem.W.Frag) : Bool := Sip.excObjB K (He.ga K "Fault") && re_14 K
def re_12 (K : PySem.W.Frag) : Bool := decide (PySem.W.subIn K (.ref (He.ga K "Fault")) (.ref (He.ga K "Fault")) = some true) && re_13 K
def re_11 (K : PySem.W.Frag) : Bool := decide (PySem.W.typeIn K (.ref (He.ga K "Fault")) = some (.type "type")) && re_12 K
def re_10 (K : PySem.W.Frag) : Bool := decide (PySem.W.hasDictIn K (He.ga K "Fault") = true) && re_11 K
def re_9 (K : PySem.W.Frag) : Bool := decide (PySem.W.subIn K (.ref (He.ga K "Fault")) (.type "BaseException") = some true) && re_10 K
def re_8 (K : PySem.W.Frag) : Bool := decide (PySem.W.typeIn K (.ref (He.ga K "SipError")) = some (.type "type")) && re_9 K
def re_7 (K : PySem.W.Frag) : Bool := decide (PySem.W.hasDictIn K (He.ga K "SipError") = true) && re_8 K
def re_6 (K : PySem.W.Frag) : Bool := decide (PySem.W.subIn K (.ref (He.ga K "SipError")) (.type "BaseException") = some true) && re_7 K
def re_5 (K : PySem.W.Frag) : Bool := decide (PySem.W.nsIn K mainGlobals "Fault" = some (some (.ref (He.ga K "Fault")))) && re_6 K
def re_4 (K : PySem.W.Frag) : Bool := decide (PySem.W.nsIn K mainGlobals "SipError" = some (some (.ref (He.ga K "SipError")))) && re_5 K
def re_3 (K : PySem.W.Frag) : Bool := decide (PySem.W.specialIn K (.ref (He.ga K "Raw")) "__getattribute__" = some (some (.builtin "type.__getattribute__"))) && re_4 K
def re_2 (K : PySem.W.Frag) : Bool := decide (PySem.W.readsIn K (He.ga K "Raw") (.type "type") = true) && re_3 K
def re_1 (K : PySem.W.Frag) : Bool := decide (PySem.W.nsIn K mainGlobals "Raw" = some (some (.ref (He.ga K "Raw")))) && re_2 K
def re_0 (K : PySem.W.Frag) : Bool := decide (PySem.W.nsIn K mainGlobals "Device" = some (some (.ref (He.ga K "Device")))) && re_1 K
def dd_iFault : He.DefD := ⟨("Fault", some "__init__"), "__init__", "Fault.__init__", (defArgs s_iFault), (defBody s_iFault), (defScope s_iFault), [], [("taken", .int 0)]⟩
def dd_clen : He.DefD := ⟨("check_length", none), "check_length", "check_length", (defArgs s_clen), (defBody s_clen), (defScope s_clen), [], []⟩
def dd_ocopy : He.DefD := ⟨("own_copy", none), "own_copy", "own_copy", (defArgs s_ocopy), (defBody s_ocopy), (defScope s_ocopy), [], []⟩
def dd_laid : He.DefD := ⟨("laid", none), "laid", "laid", (defArgs s_laid), (defBody s_laid), (defScope s_laid), [], []⟩
def dd_rinit : He.DefD := ⟨("Raw", some "__init__"), "__init__", "Raw.__init__", (defArgs s_rinit), (defBody s_rinit), (defScope s_rinit), [], []⟩
def dd_dinit : He.DefD := ⟨("Device", some "__init__"), "__init__", "Device.__init__", (defArgs s_dinit), (defBody s_dinit), (defScope s_dinit), [], [("seeks", .bl true)]⟩
def dd_dgrow : He.DefD := ⟨("Device", some "grow"), "grow", "Device.grow", (defArgs s_dgrow), (defBody s_dgrow), (defScope s_dgrow), [], []⟩
def dd_dcontent : He.DefD := ⟨("Device", some "content"), "content", "Device.content", (defArgs s_dcontent), (defBody s_dcontent), (defScope s_dcontent), [], []⟩
def dd_dleft : He.DefD := ⟨("Device", some "left"), "left", "Device.left", (defArgs s_dleft), (defBody s_dleft), (defScope s_dleft), [], []⟩
def dd_dgive : He.DefD := ⟨("Device", some "give"), "give", "Device.give", (defArgs s_dgive), (defBody s_dgive), (defScope s_dgive), [], []⟩
def dd_daccept : He.DefD := ⟨("Device", some "accept"), "accept", "Device.accept", (defArgs s_daccept), (defBody s_daccept), (defScope s_daccept), [], []⟩
def dd_dmove : He.DefD := ⟨("Device", some "move"), "move", "Device.move", (defArgs s_dmove), (defBody s_dmove), (defScope s_dmove), [], []⟩
def dd_dtrim : He.DefD := ⟨("Device", some "trim"), "trim", "Device.trim", (defArgs s_dtrim), (defBody s_dtrim), (defScope s_dtrim), [], []⟩
def dd_dextent : He.DefD := ⟨("Device", some "extent"), "extent", "Device.extent", (defArgs s_dextent), (defBody s_dextent), (defScope s_dextent), [], []⟩
def dd_dallowed : He.DefD := ⟨("Device", some "allowed"), "allowed", "Device.allowed", (defArgs s_dallowed), (defBody s_dallowed), (defScope s_dallowed), [], []⟩
def dd_dtake : He.DefD := ⟨("Device", some "take"), "take", "Raw.take", (defArgs s_dtake), (defBody s_dtake), (defScope s_dtake), [], []⟩
def dd_dput : He.DefD := ⟨("Device", some "put"), "put", "Raw.put", (defArgs s_dput), (defBody s_dput), (defScope s_dput), [], []⟩
def dd_dgo : He.DefD := ⟨("Device", some "go"), "go", "Raw.go", (defArgs s_dgo), (defBody s_dgo), (defScope s_dgo), [], []⟩
def dd_dcut : He.DefD := ⟨("Device", some "cut"), "cut", "Raw.cut", (defArgs s_dcut), (defBody s_dcut), (defScope s_dcut), [], []⟩
def dd_dnote : He.DefD := ⟨("Device", some "note"), "note", "Raw.note", (defArgs s_dnote), (defBody s_dnote), (defScope s_dnote), [], []⟩
def dd_dopen : He.DefD := ⟨("Device", some "check_open"), "check_open", "Raw.check_open", (defArgs s_dopen), (defBody s_dopen), (defScope s_dopen), [], []⟩
def dd_dseeks : He.DefD := ⟨("Device", some "check_seeks"), "check_seeks", "Raw.check_seeks", (defArgs s_dseeks), (defBody s_dseeks), (defScope s_dseeks), [], []⟩
def dd_dmayt : He.DefD := ⟨("Device", some "may_take"), "may_take", "Raw.may_take", (defArgs s_dmayt), (defBody s_dmayt), (defScope s_dmayt), [], []⟩
def dd_dmayp : He.DefD := ⟨("Device", some "may_put"), "may_put", "Raw.may_put", (defArgs s_dmayp), (defBody s_dmayp), (defScope s_dmayp), [], []⟩
def dd_dmayc : He.DefD := ⟨("Device", some "may_cut"), "may_cut", "Raw.may_cut", (defArgs s_dmayc), (defBody s_dmayc), (defScope s_dmayc), [], []⟩
def dd_dlog : He.DefD := ⟨("Device", some "log"), "log", "Raw.log", (defArgs s_dlog), (defBody s_dlog), (defScope s_dlog), [], []⟩
def dd_dlogb : He.DefD := ⟨("Device", some "log_behind"), "log_behind", "Raw.log_behind", (defArgs s_dlogb), (defBody s_dlogb), (defScope s_dlogb), [], []⟩
def dd_dsk : He.DefD := ⟨("Device", some "seeks"), "seeks", "Raw.seeks", (defArgs s_dsk), (defBody s_dsk), (defScope s_dsk), [], []⟩
def dd_dplace : He.DefD := ⟨("Device", some "place"), "place", "Raw.place", (defArgs s_dplace), (defBody s_dplace), (defScope s_dplace), [], []⟩
def dd_dlen : He.DefD := ⟨("Device", some "__len__"), "__len__", "Device.__len__", (defArgs s_dlen), (defBody s_dlen), (defScope s_dlen), [], []⟩
def dd_deq : He.DefD := ⟨("Device", some "__eq__"), "__eq__", "Device.__eq__", (defArgs s_deq), (defBody s_deq), (defScope s_deq), [], []⟩
def dd_pool : He.DefD := ⟨("_law_pool", none), "_law_pool", "_law_pool", (defArgs s_pool), (defBody s_pool), (defScope s_pool), [], []⟩
def dd_take : He.DefD := ⟨("_law_take", none), "_law_take", "_law_take", (defArgs s_take), (defBody s_take), (defScope s_take), [], []⟩
def dd_lrow : He.DefD := ⟨("_law_row", none), "_law_row", "_law_row", (defArgs s_lrow), (defBody s_lrow), (defScope s_lrow), [], []⟩
def dd_lplan : He.DefD := ⟨("_law_plan", none), "_law_plan", "_law_plan", (defArgs s_lplan), (defBody s_lplan), (defScope s_lplan), [], []⟩
def dd_llaid : He.DefD := ⟨("_law_laid", none), "_law_laid", "_law_laid", (defArgs s_llaid), (defBody s_llaid), (defScope s_llaid), [], []⟩
def dd_ldevice : He.DefD := ⟨("_law_device", none), "_law_device", "_law_device", (defArgs s_ldevice), (defBody s_ldevice), (defScope s_ldevice), [], []⟩
def dd_lasked : He.DefD := ⟨("_law_asked", none), "_law_asked", "_law_asked", (defArgs s_lasked), (defBody s_lasked), (defScope s_lasked), [], []⟩
def dd_ltold : He.DefD := ⟨("_law_told", none), "_law_told", "_law_told", (defArgs s_ltold), (defBody s_ltold), (defScope s_ltold), [], []⟩
def dd_lhouse : He.DefD := ⟨("_law_house", none), "_law_house", "_law_house", (defArgs s_lhouse), (defBody s_lhouse), (defScope s_lhouse), [], []⟩
def dd_lwalked : He.DefD := ⟨("_law_walked", none), "_law_walked", "_law_walked", (defArgs s_lwalked), (defBody s_lwalked), (defScope s_lwalked), [], []⟩
def dd_lagain : He.DefD := ⟨("_law_again", none), "_law_again", "_law_again", (defArgs s_lagain), (defBody s_lagain), (defScope s_lagain), [], []⟩
def dd_law : He.DefD := ⟨("law", none), "law", "law", (defArgs s_law), (defBody s_law), (defScope s_law), [], []⟩
def dd_ldeed : He.DefD := ⟨("_law_deed", none), "_law_deed", "_law_deed", (defArgs s_ldeed), (defBody s_ldeed), (defScope s_ldeed), [], []⟩
def hdF_0 : List He.DefD := [dd_iFault, dd_clen, dd_ocopy, dd_laid, dd_rinit, dd_dinit, dd_dgrow, dd_dcontent, dd_dleft, dd_dgive, dd_daccept, dd_dmove, dd_dtrim, dd_dextent, dd_dallowed, dd_dtake, dd_dput, dd_dgo, dd_dcut, dd_dnote, dd_dopen, dd_dseeks, dd_dmayt, dd_dmayp, dd_dmayc, dd_dlog, dd_dlogb, dd_dsk, dd_dplace, dd_dlen, dd_deq, dd_pool, dd_take, dd_lrow, dd_lplan, dd_llaid, dd_ldevice, dd_lasked, dd_ltold, dd_lhouse]
def hdF_1 : List He.DefD := [dd_lwalked, dd_lagain, dd_law, dd_ldeed]
def hdF : List He.DefD := hdF_0 ++ hdF_1
def hdN_0 : List PySem.Str := [PySem.Str.ofString "_wall", PySem.Str.ofString "__name__", PySem.Str.ofString "SipError", PySem.Str.ofString "Closed", PySem.Str.ofString "NoSeek", PySem.Str.ofString "Fault", PySem.Str.ofString "TooLong", PySem.Str.ofString "LONGEST", PySem.Str.ofString "check_length", PySem.Str.ofString "Raw", PySem.Str.ofString "own_copy", PySem.Str.ofString "laid", PySem.Str.ofString "row_text", PySem.Str.ofString "Device", PySem.Str.ofString "_law_pool", PySem.Str.ofString "_law_take", PySem.Str.ofString "_law_row", PySem.Str.ofString "_law_plan", PySem.Str.ofString "_law_laid", PySem.Str.ofString "_law_device", PySem.Str.ofString "_law_asked", PySem.Str.ofString "_law_deed", PySem.Str.ofString "_law_told", PySem.Str.ofString "_law_house", PySem.Str.ofString "_law_walked", PySem.Str.ofString "_law_again"]
def hdN : List PySem.Str := hdN_0
def hdA_0 : List Addr := [2, 3, 15, 17, 18, 20, 21, 22, 29, 30, 31, 32, 35, 42, 43, 44, 47, 54, 55, 56, 59, 66, 67, 69, 70, 72, 73, 74, 75, 76, 79, 86, 88, 89, 91, 92, 93, 94, 95, 98]
def hdA_1 : List Addr := [100, 101, 103, 104, 112, 114, 115, 117, 118, 119, 121, 122, 124, 125, 126, 128, 129, 131, 132, 133, 135, 136, 138, 139, 140, 142, 143, 145, 146, 147, 149, 150, 152, 153, 154, 156, 157, 159, 160, 161]
def hdA_2 : List Addr := [163, 164, 166, 167, 168, 170, 171, 173, 174, 175, 177, 178, 180, 181, 182, 184, 185, 187, 188, 189, 192, 193, 194, 196, 197, 199, 200, 201, 203, 204, 206, 207, 208, 210, 211, 213, 214, 215, 217, 218]
def hdA_3 : List Addr := [220, 221, 222, 224, 225, 227, 228, 229, 231, 232, 234, 235, 236, 238, 239, 241, 242, 243, 245, 246, 248, 249, 250, 252, 253, 255, 256, 257, 259, 260, 262, 263, 264, 266, 267, 269, 270, 271, 272, 273]
def hdA_4 : List Addr := [274, 275, 278, 280, 281, 283, 284, 285, 287, 288, 290, 291, 292, 295, 296, 297, 304, 305, 306, 308, 309, 311, 312, 313, 315, 316, 318, 319, 320, 322, 323, 325, 326, 327, 329, 330, 332, 333, 334, 336]
def hdA_5 : List Addr := [337, 339, 340, 341, 343, 344, 346, 347, 348, 350, 351, 353, 354, 355, 357, 358, 360, 361, 362, 364, 365, 367, 368, 369, 371, 372, 374, 375, 376, 378, 379, 381, 382, 383, 385, 386, 388, 389, 390, 392]
def hdA_6 : List Addr := [393, 395, 396, 397, 398, 399, 402, 404, 405, 407, 408, 409, 411, 412, 414, 415, 416, 418, 419, 421, 422, 423, 425, 426, 428, 429, 430, 432, 433, 435, 436, 437, 439, 440, 442, 443, 444, 446, 447, 449]
def hdA_7 : List Addr := [450, 451, 453, 454, 456, 457, 458, 460, 461, 463, 464, 465, 467, 468, 470, 471, 472, 474, 475, 477, 478, 479, 481, 482, 484, 485, 486, 488, 489, 491, 492]
def hdA : List Addr := hdA_0 ++ hdA_1 ++ hdA_2 ++ hdA_3 ++ hdA_4 ++ hdA_5 ++ hdA_6 ++ hdA_7
abbrev hdR : PySem.W.OpenRow := PySem.W.OpenLaw.row PySem.Challenge.rw_sipstack_k11_whole_device_log_walks
abbrev hdK : PySem.W.Hook := Sip.hookS hdA re_0 hdF
def hdO (s : PySem.W.SharedT) : He.AlD := Sip.obsSG hdA re_0 hdF (HandSHeadRun.getT s)
theorem hdO_eq (s : PySem.W.SharedT) : hdO s = hdK.obs s.abs := Sip.obsSG_eq (HandSHeadRun.getT_eq s)
theorem hdRun (w : World) : HandSHeadRun.RunEq hdR (PySem.W.view hdR.prog [31]) hdK hdO 60000 hdN w := by
  intro os
  kernel_rfl
end

end Sip
namespace Sip
open PySem PySem.Spec PyProof.Rows L2 TL
section
variable {X : Cx} {e : Expr} {te : TE}
/-- a bound of a slice that may be None -/
def tPartO (te : TE) : TO := fun σ H Q => te σ H fun x H1 => ∃ k : Option Int, x = (match k with | none => .non | some i => .int i) ∧ Q k H1
theorem po_opt (h : PE X e te) : PO X (some e) (tPartO te) := by
  refine ⟨fun pins s σ H Q I hw => ?_⟩
  rw [evalPart_some]
  refine thn (h.run pins s σ H _ I hw) fun u s1 ⟨x, H1, I1, r1, q1⟩ => ?_
  obtain ⟨k, rfl, q⟩ := q1
  cases k with
  | none =>
    cases (show u = Value.none from r1)
    exact ⟨none, H1, I1, .none, q⟩
  | some i =>
    obtain ⟨t, rfl⟩ := (show ∃ t, u = Value.int i t from r1)
    exact ⟨some i, H1, I1, .int i t, q⟩
end
def cntV : Option Nat → V
  | none => .non
  | some n => .int n
def cntI : Option Nat → Option Int
  | none => none
  | some n => some n
theorem cntV_eq (k : Option Nat) : cntV k = (match cntI k with | none => V.non | some i => .int i) := by cases k <;> rfl
def takeO (k : Option Nat) (xs : List Int) : List Int := match k with
  | none => xs
  | some n => xs.take n
theorem cut_O (r : List Int) (k : Option Nat) : cutV (r.map V.int) none (cntI k) = (takeO k r).map V.int := by
  cases k with
  | none =>
    unfold cutV cntI takeO
    rw [HT.sIx_none, HT.sIx_none, List.length_map]
    show (r.map V.int).take (r.length - 0) = _
    exact List.take_of_length_le (by rw [List.length_map]; omega)
  | some n => exact take_cut r n
theorem takeO_len (k : Option Nat) (xs : List Int) : (takeO k xs).length ≤ xs.length := by
  cases k with
  | none => exact Nat.le_refl _
  | some n => show (xs.take n).length ≤ _; rw [List.length_take]; omega
def lineF (xs : List Int) : List Int := xs.take (xs.idxOf 10 + 1)
theorem lineF_no {xs : List Int} (h : (10 : Int) ∉ xs) : lineF xs = xs := by
  unfold lineF
  exact List.take_of_length_le (by rw [List.idxOf_eq_length h]; omega)
theorem idx_take (xs : List Int) (n : Nat) : (xs.take n).idxOf 10 = min (xs.idxOf 10) (xs.take n).length := by
  induction xs generalizing n with
  | nil => simp
  | cons x r ih =>
    cases n with
    | zero => simp
    | succ n =>
      rw [List.take_succ_cons, List.idxOf_cons, List.idxOf_cons, List.length_cons]
      by_cases h : x = 10
      · subst h; simp
      · have : (x == 10) = false := by simpa using h
        rw [this]
        simp only [cond_false]
        rw [ih n]; omega
theorem lineF_take (xs : List Int) (n : Nat) : lineF (xs.take n) = (lineF xs).take n := by
  unfold lineF
  rw [idx_take, List.take_take, List.take_take]
  rw [List.length_take]
  by_cases h : n ≤ xs.length
  · congr 1; omega
  · rw [List.take_of_length_le (l := xs) (by omega : xs.length ≤ n) |>.symm]
    by_cases g : xs.idxOf 10 < xs.length
    · rw [List.take_of_length_le (l := xs) (by omega : xs.length ≤ n)]; congr 1; omega
    · rw [List.take_of_length_le (l := xs) (by omega : xs.length ≤ n)]
      have : xs.idxOf 10 ≤ xs.length := List.idxOf_le_length
      rw [List.take_of_length_le (by omega), List.take_of_length_le (by omega)]
theorem lineF_O (xs : List Int) (k : Option Nat) : lineF (takeO k xs) = takeO k (lineF xs) := by
  cases k with
  | none => rfl
  | some n => exact lineF_take xs n
theorem inV_ten (xs : List Int) (v : Int) : inV (.int v) (xs.map V.int) = decide (v ∈ xs) := by
  unfold inV
  rw [List.any_map]
  rw [Bool.eq_iff_iff, List.any_eq_true, decide_eq_true_iff]
  constructor
  · rintro ⟨x, hx, e⟩
    have e1 : x = v := by
      have : eqV (.int x) (.int v) = true := e
      simpa [eqV] using this
    rw [← e1]; exact hx
  · intro h
    exact ⟨v, h, by show eqV (.int v) (.int v) = true; simp [eqV]⟩
theorem flat_ints (xs : List Int) : (xs.map V.int).all flatV = true := by
  rw [List.all_map, List.all_eq_true]
  intro x _
  rfl
theorem idx_facts {xs : List Int} {v : Int} (h : v ∈ xs) : (xs.map V.int)[xs.idxOf v]? = some (.int v) ∧ ∀ (m : Nat) (z : V), m < xs.idxOf v → (xs.map V.int)[m]? = some z → eqV z (.int v) = false := by
  have hl : xs.idxOf v < xs.length := List.idxOf_lt_length_of_mem h
  refine ⟨?_, fun m z hm hz => ?_⟩
  · rw [List.getElem?_map, List.getElem?_eq_getElem hl, List.getElem_idxOf hl]; rfl
  · rw [List.getElem?_map] at hz
    obtain ⟨y, hy, rfl⟩ := Option.map_eq_some_iff.mp hz
    have : y ≠ v := by
      intro e
      subst e
      have hm' : m < xs.length := by omega
      rw [List.getElem?_eq_getElem hm'] at hy
      have := List.not_of_lt_findIdx (p := (· == y)) (xs := xs) (i := m) hm
      have e2 : xs[m] = y := Option.some.inj hy
      rw [e2] at this
      simp at this
    show eqV (.int y) (.int v) = false
    simpa [eqV] using this
theorem mid_cut (r : List Int) (c n : Nat) : cutV (r.map V.int) (some (c : Int)) (some ((c + n : Nat) : Int)) = ((r.drop c).take n).map V.int := by
  unfold cutV
  rw [HT.sIx_nat, HT.sIx_nat, List.length_map, ← List.map_drop, ← List.map_take]
  congr 1
  by_cases h : c ≤ r.length
  · rw [Nat.min_eq_left h]
    by_cases g : c + n ≤ r.length
    · rw [Nat.min_eq_left g, Nat.add_sub_cancel_left]
    · rw [Nat.min_eq_right (by omega), List.take_of_length_le (by rw [List.length_drop]; omega), List.take_of_length_le (by rw [List.length_drop]; omega)]
  · rw [Nat.min_eq_right (by omega : r.length ≤ c), Nat.min_eq_right (by omega), List.drop_of_length_le (Nat.le_refl _), List.drop_of_length_le (by omega : r.length ≤ c)]
    simp
theorem past_le (r : List Int) (c n m : Nat) (h1 : r.length ≤ m) (h2 : c ≤ m) : c + ((r.drop c).take n).length ≤ m := by
  rw [List.length_take, List.length_drop]; omega
/-! promises of the reading calls -/
def spPPeek (PA : PP) : Sp := fun vs H Q _ => ∃ (p : Addr) (F : Addr → Prop) (r : List Int) (c : Nat) (k : Option Nat), vs = [.ref p, cntV k] ∧ PA H p F r c ∧
  ∀ (H' : Hp) (q : Addr), H q = none → H' q = some (.lst ((takeO k (r.drop c)).map V.int)) → Same H H' → Q (.ref q) H'
def spPRead (PA : PP) : Sp := fun vs H Q _ => ∃ (p : Addr) (F : Addr → Prop) (r : List Int) (c : Nat) (k : Option Nat), vs = [.ref p, cntV k] ∧ PA H p F r c ∧
  ∀ (H' : Hp) (F' : Addr → Prop) (q : Addr), PA H' p F' r (c + (takeO k (r.drop c)).length) → H q = none → ¬ F' q → H' q = some (.lst ((takeO k (r.drop c)).map V.int)) → Step F H F' H' → Q (.ref q) H'
def spPLine (PA : PP) : Sp := fun vs H Q _ => ∃ (p : Addr) (F : Addr → Prop) (r : List Int) (c : Nat) (k : Option Nat), vs = [.ref p, cntV k] ∧ PA H p F r c ∧ r.length ≤ 10000 ∧
  ∀ (H' : Hp) (F' : Addr → Prop) (q : Addr), PA H' p F' r (c + (takeO k (lineF (r.drop c))).length) → H q = none → ¬ F' q → H' q = some (.lst ((takeO k (lineF (r.drop c))).map V.int)) → Step F H F' H' → Q (.ref q) H'
def spFLine (K : PySem.W.Frag) : Sp := fun vs H Q _ => ∃ (a : Addr) (xs : List Int) (k : Option Nat), vs = [.ref a, cntV k] ∧ SqL K H a (xs.map V.int) ∧ xs.length ≤ 10000 ∧
  ∀ (H' : Hp) (q : Addr), H q = none → H' q = some (.lst ((takeO k (lineF xs)).map V.int)) → Same H H' → Q (.ref q) H'
def spCount : Sp := fun vs H Q _ => ∃ k : Option Nat, vs = [cntV k] ∧ Q .non H
def spAhead (PA : PP) : Sp := fun vs H Q _ => ∃ (p : Addr) (F : Addr → Prop) (r : List Int) (c : Nat), vs = [.ref p] ∧ PA H p F r c ∧
  ∀ (H' : Hp) (q : Addr), H q = none → H' q = some (.lst ((r.drop c).map V.int)) → Same H H' → Q (.ref q) H'
def spPassed (PA : PP) : Sp := fun vs H Q _ => ∃ (p t : Addr) (F : Addr → Prop) (r xs : List Int) (c : Nat), vs = [.ref p, .ref t] ∧ PA H p F r c ∧ ¬ F t ∧ H t = some (.lst (xs.map V.int)) ∧
  ∀ (H' : Hp) (F' : Addr → Prop), PA H' p F' r (c + xs.length) → ¬ F' t → H' t = some (.lst (xs.map V.int)) → Step F H F' H' → Q (.ref t) H'
end Sip
namespace Sip
open PySem PySem.Spec PyProof.Rows L2 TL
/-! ### tuples alike -/
section
variable {X : Cx}
def rEqS (K : PySem.W.Frag) : R2 := fun x y H Q => ∃ d, Dp K H x d ∧ Dp K H y d ∧ SeqAt.shaped d = true ∧ Q (.bl true) H
def rNeS (K : PySem.W.Frag) : R2 := fun x y H Q => ∃ d, Dp K H x d ∧ Dp K H y d ∧ SeqAt.shaped d = true ∧ Q (.bl false) H
theorem eqv_same {d : PyData} (h : SeqAt.shaped d = true) : PyData.eqv d d = true := SeqAt.eqv_refl d (SeqAt.canLay_of_shaped h)
theorem op_eqS (hu : X.A.units + 64 < cLine) : OpR X (compareOp .Eq) (rEqS X.K) := by
  intro pins s σ H x y v u Q I rx ry h
  obtain ⟨d, h1, h2, h3, q⟩ := h
  exact op_eqD hu pins s σ H x y v u Q I rx ry ⟨d, d, h1, h2, h3, h3, by rw [eqv_same h3]; exact q⟩
theorem op_neS (hu : X.A.units + 64 < cLine) : OpR X (compareOp .NotEq) (rNeS X.K) := by
  intro pins s σ H x y v u Q I rx ry h
  obtain ⟨d, h1, h2, h3, q⟩ := h
  exact op_neD hu pins s σ H x y v u Q I rx ry ⟨d, d, h1, h2, h3, h3, by rw [eqv_same h3]; exact q⟩
/-- == of two tuples of ints -/
def rEqTI (K : PySem.W.Frag) : R2 := fun x y H Q => ∃ (a b : Addr) (ns ms : List Int), x = .ref a ∧ y = .ref b ∧ SqT K H a (ns.map V.int) ∧ SqT K H b (ms.map V.int) ∧ Q (.bl (decide (ns = ms))) H
theorem lay_ints : ∀ ns : List Int, PyData.canLayAll0 (ns.map PyData.int) = true
  | [] => rfl
  | n :: r => by
    have := lay_ints r
    simp [PyData.canLayAll0, PyData.canLay0, this]
theorem eqv_ints : ∀ ns ms : List Int, PyData.eqvAll (ns.map PyData.int) (ms.map PyData.int) = decide (ns = ms)
  | [], [] => rfl
  | [], _ :: _ => by simp [PyData.eqvAll]
  | _ :: _, [] => by simp [PyData.eqvAll]
  | n :: r, m :: t => by
    show (PyData.eqv (.int n) (.int m) && PyData.eqvAll (r.map PyData.int) (t.map PyData.int)) = _
    rw [eqv_ints r t]
    show ((n == m) && decide (r = t)) = _
    by_cases h : n = m <;> by_cases g : r = t <;> simp [h, g]
end
theorem shaped_ints (ns : List Int) : SeqAt.shaped (.tuple (ns.map PyData.int)) = true := by
  unfold SeqAt.shaped
  rw [Bool.and_eq_true]
  refine ⟨lay_ints ns, decide_eq_true ?_⟩
  have : ∀ ms : List Int, PyData.depthAll (ms.map PyData.int) ≤ 1 := by
    intro ms
    induction ms with
    | nil => simp [PyData.depthAll]
    | cons m r ih => simp [PyData.depthAll, PyData.depth]; try omega
  have h := this ns
  show PyData.depth (.tuple (ns.map PyData.int)) ≤ 64
  simp [PyData.depth]; try omega
section
variable {X : Cx}
theorem op_eqTI (hu : X.A.units + 64 < cLine) : OpR X (compareOp .Eq) (rEqTI X.K) := by
  intro pins s σ H x y v u Q I rx ry h
  obtain ⟨a, b, ns, ms, rfl, rfl, ha, hb, q⟩ := h
  exact op_eqD hu pins s σ H _ _ v u Q I rx ry ⟨.tuple (ns.map PyData.int), .tuple (ms.map PyData.int), .tup ha (dp_ints ns), .tup hb (dp_ints ms), shaped_ints ns, shaped_ints ms, by
    rw [show PyData.eqv (.tuple (ns.map PyData.int)) (.tuple (ms.map PyData.int)) = decide (ns = ms) from eqv_ints ns ms]; exact q⟩
end
theorem dp4 {K : PySem.W.Frag} {H : Hp} {q : Addr} {w : Str} {a b c : Int} (h : SqT K H q [.str w, .int a, .int b, .int c]) : Dp K H (.ref q) (.tuple [.str w, .int a, .int b, .int c]) :=
  .tup h (.cons (.str _) (.cons (.int _) (.cons (.int _) (.cons (.int _) .nil))))
theorem sh4 {w : Str} (h : PyData.strOk w = true) (a b c : Int) : SeqAt.shaped (.tuple [.str w, .int a, .int b, .int c]) = true := by
  simp [SeqAt.shaped, PyData.canLay0, PyData.canLayAll0, PyData.depth, PyData.depthAll, h]
/-! ### the codes -/
inductive Cd
  | plain | steps | wide | turn
def Cd.w : Cd → Str
  | .plain => Str.ofString "plain"
  | .steps => Str.ofString "steps"
  | .wide => Str.ofString "wide"
  | .turn => Str.ofString "turn"
def skipT : List Int → Nat → Int → Nat × Int
  | [], p, s => (p, s)
  | x :: r, p, s => if 128 ≤ x then skipT r (p + 1) (x - 128) else (p, s)
def markW (row : List Int) (p : Nat) : Nat × Int :=
  if (row.drop p).take 2 = [254, 255] then (p + 2, 2) else if (row.drop p).take 2 = [255, 254] then (p + 2, 1) else (p, 2)
def goneF (c : Cd) (row : List Int) (p : Nat) (s : Int) : Nat × Int := match c with
  | .turn => skipT (row.drop p) p s
  | .wide => if s = 0 then markW row p else (p, s)
  | _ => (p, s)
def leadF (x : Int) : Nat × Int :=
  if x < 128 then (1, 0) else if x < 192 then (0, 0) else if x < 224 then (2, 192) else if x < 240 then (3, 224) else if x < 248 then (4, 240) else (0, 0)
def stepsW (n : Int) : List Int :=
  if n < 128 then [n] else if n < 2048 then [192 + n / 64, 128 + n % 64] else if n < 65536 then [224 + n / 4096, 128 + n / 64 % 64, 128 + n % 64]
  else [240 + n / 262144, 128 + n / 4096 % 64, 128 + n / 64 % 64, 128 + n % 64]
def foldS (s : Int) (xs : List Int) : Int := xs.foldl (fun s b => 64 * s + b - 128) s
def stepsAt (xs : List Int) : Int × Nat :=
  let l := leadF (xs.headD 0)
  let wr := xs.take l.1
  let sg := foldS (xs.headD 0 - l.2) (wr.drop 1)
  if stepsW sg = wr then (sg, l.1) else (0, 0)
def signF (c : Cd) (row : List Int) (b : Nat) (s : Int) : Int × Nat := match c with
  | .steps => stepsAt (row.drop b)
  | .wide => if row.length < b + 2 then (0, 0) else if s = 1 then (row.getD b 0 + 256 * row.getD (b + 1) 0, 2) else (256 * row.getD b 0 + row.getD (b + 1) 0, 2)
  | .turn => (128 * s + row.getD b 0, 1)
  | .plain => (row.getD b 0, 1)
def fourV (w : Str) (a : Int) (p : Nat) (s : Int) : List V := [.str w, .int a, .int p, .int s]
def tellF (row : List Int) (p : Nat) (s : Int) (g : Nat × Int) (t : Int × Nat) : List V :=
  if row.length ≤ g.1 then fourV (Str.ofString "end") 0 p s else if t.2 = 0 then fourV (Str.ofString "wrong") 0 (g.1 + 1) g.2 else fourV (Str.ofString "sign") t.1 (g.1 + t.2) g.2
def readF (c : Cd) (row : List Int) (p : Nat) (s : Int) : List V := tellF row p s (goneF c row p s) (signF c row (goneF c row p s).1 (goneF c row p s).2)
theorem readF_shape (c : Cd) (row : List Int) (p : Nat) (s : Int) : ∃ (w : Str) (a : Int) (p' : Nat) (s' : Int), readF c row p s = fourV w a p' s' ∧ PyData.strOk w = true := by
  unfold readF tellF
  split
  · exact ⟨_, _, _, _, rfl, by decide +kernel⟩
  · split
    · exact ⟨_, _, _, _, rfl, by decide +kernel⟩
    · exact ⟨_, _, _, _, rfl, by decide +kernel⟩
/-- two told tuples alike -/
theorem dp_read {K : PySem.W.Frag} {H : Hp} {a b : Addr} {c : Cd} {row : List Int} {p : Nat} {s : Int} (ha : SqT K H a (readF c row p s)) (hb : SqT K H b (readF c row p s)) : ∃ d, Dp K H (.ref a) d ∧ Dp K H (.ref b) d ∧ SeqAt.shaped d = true := by
  obtain ⟨w, x, p', s', e, h⟩ := readF_shape c row p s
  rw [e] at ha hb
  exact ⟨_, dp4 ha, dp4 hb, sh4 h _ _ _⟩
/-! promises -/
def newT (H : Hp) (vs : List V) (Q : VK) : Prop := ∀ (H' : Hp) (q : Addr), H q = none → H' q = some (.tup vs) → Same H H' → Q (.ref q) H'
def spChk : Sp := fun vs H Q _ => ∃ c : Cd, vs = [.str c.w] ∧ ∀ H', Same H H' → Q .non H'
def spBT (K : PySem.W.Frag) : Sp := fun vs H Q _ => ∃ (a : Addr) (row : List Int) (p : Nat) (s : Int), vs = [.ref a, .int p, .int s] ∧ SqL K H a (row.map V.int) ∧ newT H [.int (skipT (row.drop p) p s).1, .int (skipT (row.drop p) p s).2] Q
def spBM (K : PySem.W.Frag) : Sp := fun vs H Q _ => ∃ (a : Addr) (row : List Int) (p : Nat), vs = [.ref a, .int p] ∧ SqL K H a (row.map V.int) ∧ newT H [.int (markW row p).1, .int (markW row p).2] Q
def spGone (K : PySem.W.Frag) : Sp := fun vs H Q _ => ∃ (a : Addr) (row : List Int) (p : Nat) (s : Int) (c : Cd), vs = [.ref a, .int p, .int s, .str c.w] ∧ SqL K H a (row.map V.int) ∧ newT H [.int (goneF c row p s).1, .int (goneF c row p s).2] Q
def spWideAt (K : PySem.W.Frag) : Sp := fun vs H Q _ => ∃ (a : Addr) (row : List Int) (b : Nat) (s : Int), vs = [.ref a, .int b, .int s] ∧ SqL K H a (row.map V.int) ∧ b < row.length ∧ newT H [.int (signF .wide row b s).1, .int (signF .wide row b s).2] Q
def spStepsAt (K : PySem.W.Frag) : Sp := fun vs H Q _ => ∃ (a : Addr) (row : List Int) (b : Nat), vs = [.ref a, .int b] ∧ SqL K H a (row.map V.int) ∧ b < row.length ∧ newT H [.int (stepsAt (row.drop b)).1, .int (stepsAt (row.drop b)).2] Q
def spLead : Sp := fun vs H Q _ => ∃ x : Int, vs = [.int x] ∧ newT H [.int (leadF x).1, .int (leadF x).2] Q
def spStepsW : Sp := fun vs H Q _ => ∃ n : Int, vs = [.int n] ∧ ∀ (H' : Hp) (q : Addr), H q = none → H' q = some (.lst ((stepsW n).map V.int)) → Same H H' → Q (.ref q) H'
def spSignAt (K : PySem.W.Frag) (ok : Cd → Prop) : Sp := fun vs H Q _ => ∃ (a : Addr) (row : List Int) (b : Nat) (s : Int) (c : Cd), vs = [.ref a, .int b, .int s, .str c.w] ∧ ok c ∧ SqL K H a (row.map V.int) ∧ b < row.length ∧ newT H [.int (signF c row b s).1, .int (signF c row b s).2] Q
def spReadS (K : PySem.W.Frag) (ok : Cd → Prop) : Sp := fun vs H Q _ => ∃ (a : Addr) (row : List Int) (p : Nat) (s : Int) (c : Cd), vs = [.ref a, .int p, .int s, .str c.w] ∧ ok c ∧ SqL K H a (row.map V.int) ∧ newT H (readF c row p s) Q
end Sip
/-! several except clauses, some with a name -/
namespace Sip
open PySem PySem.Spec PyProof.Rows L2 TL
/-- a clause: its class, the slot of its name, its suite -/
abbrev Cl := Value × Option Nat × (Addr → Value → Option Addr → TS)
/-- behind a suite its name is gone -/
def offD (i : Nat) (D : Ends) : Ends where
  nx := fun σ H => D.nx (σ.set i none) H
  rt := D.rt
  bk := fun σ H => D.bk (σ.set i none) H
  ct := fun σ H => D.ct (σ.set i none) H
def suiteW (D : Ends) (ts : Addr → Value → Option Addr → TS) (cls : Value) (d : Option Addr) (σ : L2.St) (H : Hp) (a : Addr) : Option Nat → Prop
  | none => ts a cls d D σ H
  | some i => ts a cls d (offD i D) (σ.set i (some (.ref a))) H
def wMix (K : PySem.W.Frag) (Wo : WX) (D : Ends) : List Cl → WX
  | [] => Wo
  | (c, o, ts) :: r => fun cls d σ H => ∃ b, PySem.W.exmOne K cls c = some b ∧ (b = true → ∀ a, H a = none → suiteW D ts cls d σ H a o) ∧ (b = false → wMix K Wo D r cls d σ H)
/-- the slot of a clause's name -/
def AsOk (X : Cx) : Option Str → Option Nat → Prop
  | none, none => True
  | some n, some i => X.N.Nodup ∧ X.N[i]? = some n ∧ X.env.kindOf n = some .local
  | _, _ => False
abbrev SuiteOk (X : Cx) (su : List Stmt) (ts : Addr → Value → Option Addr → TS) : Prop := ∀ (a : Addr) (oe : Obj) (cls : Value) (d : Option Addr) (pn : List (Addr × Obj)), Zc cls d oe → (∃ vs, oe.data = .fields vs) → PSs (X.suite a ((a, oe) :: pn)) su (ts a cls d)
inductive ClsOk (X : Cx) : List ExceptHandler → List Cl → Prop
  | nil : ClsOk X [] []
  | cons {x : Str} {c : Value} {nm : Option Str} {o : Option Nat} {ts : Addr → Value → Option Addr → TS} {st : Stmt} {su : List Stmt} {q1 q2 : Pos} {hs : List ExceptHandler} {l : List Cl} (hc : Names X x c) (ha : AsOk X nm o) (hsu : SuiteOk X (st :: su) ts) (r : ClsOk X hs l) :
      ClsOk X (.ExceptHandler (some (.Name x q1)) nm (st :: su) q2 :: hs) ((c, o, ts) :: l)
/-- an error that has come to the clauses of a try -/
structure Caught (X : Cx) (pins : List (Addr × Obj)) (a : Addr) (B : Heap) (sI s1 : Shared) (h3 : Heap) (σ : L2.St) (H : Hp) (cls : Value) (d : Option Addr) : Prop where
  ok : X.Ok
  stk : X.stack = X.env :: X.outer
  frm : X.env.frame = some X.env.locals
  inv : Inv X pins σ H sI
  nb : ∀ b o, sI.heap.get? b = some o → b ∉ frs X.stack → B.get? b = some o
  up : sI.heap.UpToSlots h3
  fl : HandSPX.FlyingZ B (X.env :: X.outer) a (Zc cls d) h3
  na : H a = none
  nL : a ≠ X.env.locals
  nF : a ∉ X.fs
  os : s1.os = sI.os
  ag : AllBare s1.gens
section
variable {X : Cx} {pins : List (Addr × Obj)} {a : Addr} {B : Heap} {sI s1 : Shared} {h3 : Heap} {σ : L2.St} {H : Hp} {cls : Value} {d : Option Addr} {D : Ends} {Wo : WX}
theorem Caught.at (C : Caught X pins a B sI s1 h3 σ H cls d) {h4 : Heap} (f : HandSPX.FlyingZ B (X.env :: X.outer) a (Zc cls d) h4) (u : h3.UpToSlots h4) : Inv X pins σ H { s1 with heap := h4 } :=
  C.inv.landed (s' := { s1 with heap := h4 }) (by have := C.nb; exact this) f.1 (C.up.trans u) C.os C.ag
/-- no clause takes it -/
theorem Caught.none (C : Caught X pins a B sI s1 h3 σ H cls d) (tk : Takes X Wo) (w : Wo cls d σ H) : wpAny (model X.prog X.w) X.A (handleBy (.ref a) X.env []) (SP X pins D) X.xe { s1 with heap := h3 } := by
  have C2 := C
  obtain ⟨_, _, _, _, _, T, _, _, he, _, hd, h1, _⟩ := C2.fl
  have go : wpAny (model X.prog X.w) X.A (setFlight (.ref a) X.env.frame) (fun _ s4 => wpAny (model X.prog X.w) X.A (throw (.ref a) : Sem Flow) (SP X pins D) X.xe s4) X.xe { s1 with heap := h3 } := by
    rw [C.frm]
    exact HandSPX.setFlight_upZ C.fl fun h4 held u4 => wpAny_throw (tk _ _ ⟨a, B, sI, pins, σ, H, cls, d, rfl, C.inv, C.nb, C.up.trans u4, .inr (.inr (by rw [C.stk]; exact held)), C.na, C.os, C.ag, w⟩)
  refine wpAny_handleBy_nil ?_
  unfold PySem.passOn
  refine wpAny_bind (wpAny_field he hd h1 ?_)
  have nn : ¬ ((Value.ref T == Value.none) = true) := by simp
  rw [if_neg nn]
  first | exact wpAny_bind (wpAny_pure (wpAny_bind go)) | exact wpAny_bind go
theorem caught_go (C : Caught X pins a B sI s1 h3 σ H cls d) (tk : Takes X Wo) : ∀ {hs : List ExceptHandler} {l : List Cl}, ClsOk X hs l → wMix X.K Wo D l cls d σ H → wpAny (model X.prog X.w) X.A (handleBy (.ref a) X.env hs) (SP X pins D) X.xe { s1 with heap := h3 } := by
  intro hs l hk
  induction hk with
  | nil => exact fun w => C.none tk w
  | @cons x c nm o ts st su q1 q2 hs2 l2 hc ha hsu r ih =>
    rintro ⟨b, hb, yes, no⟩
    have J3 := C.at C.fl (Heap.UpToSlots.refl _)
    obtain ⟨oe, vs, he, hz, hd⟩ := C.fl.there
    have S3 := J3.suite he hd C.na C.nL C.nF
    refine wpAny_handleBy_cons (codeAny_handlers_test ?_) (by intro q; cases q)
    have knows : PySem.W.Looks (model X.prog X.w) h3 (typeOf (.ref a)) cls := fun _ _ _ _ k q => wpAny_typeOf_ref (k _ _ he) (by rw [hz.1]; exact q)
    have look := PySem.W.exm_one (M := model X.prog X.w) J3.kIn knows hb
    have named : ∀ {Q E : Value → Shared → Prop}, Q c { s1 with heap := h3 } → wpAny (model X.prog X.w) (X.A.mark (some (.ref a))) (eval (.Name x q1) X.env) Q E { s1 with heap := h3 } := fun q => by
      rcases hc with ⟨g1, g2, m1 | ⟨m1, m2, m3⟩⟩
      · exact ld_glob (X := X.suite a ((a, oe) :: (X.pn ++ pins))) S3 g1 m1 q g2
      · exact ld_blt (X := X.suite a ((a, oe) :: (X.pn ++ pins))) S3 g1 m1 m2 q m3 g2
    refine named (look.here ?_)
    cases b with
    | false => exact ih (no rfl)
    | true =>
      cases nm with
      | none =>
        cases o with
        | some i => exact ha.elim
        | none =>
          refine codeAny_handlers_suite (HandSPX.lands_againZ C.fl fun h4 f4 u4 => ?_)
          obtain ⟨oe4, _, e4, z4, d4⟩ := f4.there
          have S4 := (C.at f4 u4).suite e4 d4 C.na C.nL C.nF
          refine wpAny_mono ((hsu a oe4 cls d (X.pn ++ pins) z4 ⟨_, d4⟩).run [] _ _ H _ S4 (yes rfl a C.na)) (fun f s6 hp => ?_) fun _ _ z => z.elim
          match f, hp with
          | .next, ⟨_, _, S6, q6⟩ => exact ⟨_, _, S6.unsuite C.ok, q6⟩
          | .brk, ⟨_, _, S6, q6⟩ => exact ⟨_, _, S6.unsuite C.ok, q6⟩
          | .cont, ⟨_, _, S6, q6⟩ => exact ⟨_, _, S6.unsuite C.ok, q6⟩
          | .ret _, ⟨_, _, _, S6, r6, q6⟩ => exact ⟨_, _, _, S6.unsuite C.ok, r6, q6⟩
      | some n =>
        cases o with
        | none => exact ha.elim
        | some i =>
          obtain ⟨hN, hi, hl⟩ := ha
          refine codeAny_handlers_suite_as (HandSPX.lands_againZ C.fl fun h4 f4 u4 => ?_)
          obtain ⟨oe4, _, e4, z4, d4⟩ := f4.there
          have S4 := (C.at f4 u4).suite e4 d4 C.na C.nL C.nF
          refine store_ok (X := X.suite a ((a, oe4) :: (X.pn ++ pins))) (v := .ref a) S4 hN hi (.inl hl) rfl (fun s5 S5 => ?_) (.inr hl)
          refine wpAny_mono ((hsu a oe4 cls d (X.pn ++ pins) z4 ⟨_, d4⟩).run [] s5 _ H _ S5 (yes rfl a C.na)) (fun f s6 hp => ?_) fun _ _ z => z.elim
          have off : ∀ {σ6 : L2.St} {H6 : Hp} {Q : Shared → Prop}, Inv (X.suite a ((a, oe4) :: (X.pn ++ pins))) [] σ6 H6 s6 → (∀ s7, Inv X pins (σ6.set i none) H6 s7 → Q s7) → wpAny (model X.prog X.w) X.A (do bindName X.env n .none; unbindBehindTheSuite X.env n q2) (fun _ s7 => Q s7) X.xe s6 :=
            fun S6 hq => gone_ok (S6.unsuite C.ok) hN hi hl hq
          match f, hp with
          | .next, ⟨_, _, S6, q6⟩ => exact off S6 fun _ J7 => ⟨_, _, J7, q6⟩
          | .brk, ⟨_, _, S6, q6⟩ => exact off S6 fun _ J7 => ⟨_, _, J7, q6⟩
          | .cont, ⟨_, _, S6, q6⟩ => exact off S6 fun _ J7 => ⟨_, _, J7, q6⟩
          | .ret _, ⟨_, _, _, S6, r6, q6⟩ => exact off S6 fun _ J7 => ⟨_, _, _, J7, r6, q6⟩
/-- try: .. except X: .. except Y as n: .. -/
theorem ps_try_mix {body : List Stmt} {h0 : ExceptHandler} {hs : List ExceptHandler} {l : List Cl} {pos : Pos} {tb : WX → TS} (stk : X.stack = X.env :: X.outer) (frm : X.env.frame = some X.env.locals) (tk : Takes X Wo)
    (hb : ∀ (W : WX) (pn : List (Addr × Obj)) (xe : Value → Shared → Prop), Takes (X.tr pn xe) W → PassesOwn (model X.prog X.w) X.A X.env xe → PSs (X.tr pn xe) body (tb W)) (hh : ClsOk X (h0 :: hs) l) :
    PS X (.Try body (h0 :: hs) [] [] pos) (fun D σ H => tb (wMix X.K Wo D l) D σ H) := by
  refine ⟨fun pins s σ H D I h => wpAny_Try_except ?_⟩
  have ok := I.ok
  have fr : X.A.frames = some (X.env :: X.outer) := by rw [ok.frames, stk]
  have run := (hb (wMix X.K Wo D l) (X.pn ++ pins) (fun e t1 => wpAny (model X.prog X.w) X.A (noteFrame e X.env) (fun _ t2 => wpAny (model X.prog X.w) X.A (setFlight e none) (fun _ t3 => wpAny (model X.prog X.w) X.A (handleBy e X.env (h0 :: hs)) (SP X pins D) X.xe t3) X.xe t2) X.xe t1) ?_ PassesOwn.looking).run [] s σ H D (I.toTry _) h
  · refine wpAny_mono run (fun f s1 hp => ?_) fun _ _ he => he
    match f, hp with
    | .next, ⟨_, _, J, q⟩ => exact wpAny_execs_nil ⟨_, _, J.ofTry ok, q⟩
    | .brk, ⟨_, _, J, q⟩ => exact ⟨_, _, J.ofTry ok, q⟩
    | .cont, ⟨_, _, J, q⟩ => exact ⟨_, _, J.ofTry ok, q⟩
    | .ret _, ⟨_, _, _, J, r, q⟩ => exact ⟨_, _, _, J.ofTry ok, r, q⟩
  · rintro u s1 ⟨a, B, sI, pins2, σ2, H2, cls, d, rfl, J2, nb, up, sky, na, os, ag, w⟩
    have sky2 : Sky B (X.env :: X.outer) a (Zc cls d) X.env.locals s1.heap := by rw [← stk]; exact sky
    refine Sky.land Zc.steady fr frm sky2 fun h3 f3 u3 => ?_
    obtain ⟨oe, vs, he, _, hd⟩ := f3.there
    have far : a ∉ frs (X.env :: X.outer) := fun m => by
      obtain ⟨_, o2, e2, nf⟩ := f3.2.2.1.mem m
      rw [he] at e2; cases e2
      exact nf _ hd
    have nL : a ≠ X.env.locals := fun z => far (List.mem_filterMap.mpr ⟨X.env, List.mem_cons_self, by rw [frm, z]⟩)
    have nF : a ∉ X.fs := fun m => by
      obtain ⟨e, h1, h2⟩ := List.mem_filterMap.mp m
      exact far (List.mem_filterMap.mpr ⟨e, List.mem_cons_of_mem _ h1, h2⟩)
    exact caught_go ⟨ok, stk, frm, J2.ofTry ok, nb, up.trans u3, f3, na, nL, nF, os, ag⟩ tk hh w
end
/-- a promise that raises nothing, where one that may raise is asked; two promises of one def -/
theorem FnOk.lift {P : Program} {w : World} {K : PySem.W.Frag} {mg : Str → Option Value} {base : Heap} {CX : CXT} {k : Nat} {f : Addr} {fd : FuncData} {ps : List Str} {sp : Sp} (F : FnOk P w K mg base CX0 k f fd ps sp) : FnOk P w K mg base CX k f fd ps sp :=
  ⟨F.len, fun A outer s H args us vs Q E hr he hb hv h => codeAny_mono (F.run A outer s H args us vs Q E hr he hb hv h) fun r s2 q => match r, q with
    | .ok (.ret _), q => q⟩
theorem FnOk.or {P : Program} {w : World} {K : PySem.W.Frag} {mg : Str → Option Value} {base : Heap} {CX : CXT} {k : Nat} {f : Addr} {fd : FuncData} {ps : List Str} {sp sq : Sp} (F : FnOk P w K mg base CX k f fd ps sp) (G : FnOk P w K mg base CX k f fd ps sq) :
    FnOk P w K mg base CX k f fd ps (fun vs H Q E => sp vs H Q E ∨ sq vs H Q E) :=
  ⟨fun vs H Q E h => h.elim (F.len vs H Q E) (G.len vs H Q E), fun A outer s H args us vs Q E hr he hb hv h => h.elim (F.run A outer s H args us vs Q E hr he hb hv) (G.run A outer s H args us vs Q E hr he hb hv)⟩
end Sip
/-! classes that stand upon another one: a base's def called by its name; a try whose body raises nothing -/
namespace Sip
open PySem PySem.Spec PyProof.Rows L2 TL
/-- C.m(e, ..) where C is a class and m a def of it -/
def tCfn (C : Addr) (sp : Sp) (dvs : List V) (E : XK) (ta : TE) (t : TA) : TE := fun σ H Q => ta σ H fun x H1 => x = .ref C ∧ t σ H1 fun vs H2 => sp (vs ++ dvs) H2 Q E
section
variable {X : Cx} {CX : CXT} {k n : Nat} {f C : Addr} {mc : Value} {fd : FuncData} {ps ks : List Str} {sp : Sp} {E : XK} {m : Str} {apos pos : Pos} {o e : Expr} {es : List Expr} {ta : TE} {t : TA} {dvs : List V} {ds : List Value}
theorem pe_cfn {pl : Sem Bool} (he : PE X o ta) (r : ClX.CRead X.K C mc) (at_ : PySem.W.findCls X.K (.ref C) mc m = some (.val (.ref f))) (hk : PySem.W.keepIn X.K (.ref f) = true) (F : FnOk X.prog X.w X.K X.mg X.base CX k f fd ps sp) (hr : Room k X.A) (hb : Binds X.K fd ps ds) (hd : Vals dvs ds) (hx : Passes CX X E) (ha : PA X (e :: es) t)
    (hst : starEach (e :: es) X.env = (false, eval e X.env) :: starEach es X.env := by rfl) (hpl : ((backTo pos (starEach es X.env)).any (·.1)) = false := by rfl)
    (ht : eval (.Call (.Attribute o m apos) (e :: es) [] pos) X.env = (do
      let ov ← eval o X.env
      standAt apos.atName
      let (f, first) ← holding [ov] (getMethod ov m pl)
      callWith pos f first (backTo pos (starEach (e :: es) X.env)) (backToKw pos (keywordEach [] X.env))) := by rfl) :
    PE X (.Call (.Attribute o m apos) (e :: es) [] pos) (tCfn C sp dvs E ta t) := by
  refine ⟨fun pins s σ H Q I h => ?_⟩
  refine PySem.W.methodCall_KW (pl := pl) (thn (he.run pins s σ H _ I h) fun u s1 ⟨x, H1, I1, rx, ex, q⟩ => ?_) ht
  subst ex
  obtain rfl : u = Value.ref C := rx
  refine PySem.W.method_cls I1.kIn r.ga (PySem.W.cls_value I1.kIn r.rd at_ rfl ?_)
  refine PySem.W.callWith_K (h₀ := X.base) I.ok.mod.kin hk (thn (ha.run pos pins _ σ H1 _ (I1.tok _) q) fun us s2 ⟨vs, H2, I2, rv, q2⟩ => ⟨I2.kIn, ?_⟩) hst hpl
  exact run_fn F hr hb hd hx I2 rv q2
end
section
variable {X : Cx}
/-- try: .. except C: .. where nothing is raised -/
theorem ps_try_calm {body : List Stmt} {h0 : ExceptHandler} {hs : List ExceptHandler} {pos : Pos} {tb : TS}
    (hb : ∀ (pn : List (Addr × Obj)) (xe : Value → Shared → Prop), PassesOwn (model X.prog X.w) X.A X.env xe → PSs (X.tr pn xe) body tb) :
    PS X (.Try body (h0 :: hs) [] [] pos) tb := by
  refine ⟨fun pins s σ H D I h => wpAny_Try_except ?_⟩
  have ok := I.ok
  have run := (hb (X.pn ++ pins) (fun e t1 => wpAny (model X.prog X.w) X.A (noteFrame e X.env) (fun _ t2 => wpAny (model X.prog X.w) X.A (setFlight e none) (fun _ t3 => wpAny (model X.prog X.w) X.A (handleBy e X.env (h0 :: hs)) (SP X pins D) X.xe t3) X.xe t2) X.xe t1) PassesOwn.looking).run [] s σ H D (I.toTry _) h
  refine wpAny_mono run (fun f s1 hp => ?_) fun _ _ he => he
  match f, hp with
  | .next, ⟨_, _, J, q⟩ => exact wpAny_execs_nil ⟨_, _, J.ofTry ok, q⟩
  | .brk, ⟨_, _, J, q⟩ => exact ⟨_, _, J.ofTry ok, q⟩
  | .cont, ⟨_, _, J, q⟩ => exact ⟨_, _, J.ofTry ok, q⟩
  | .ret _, ⟨_, _, _, J, r, q⟩ => exact ⟨_, _, _, J.ofTry ok, r, q⟩
end
end Sip
namespace Sip
open PySem PySem.Spec PyProof.Rows L2 TL
/-- o.m() where o is of one of two classes -/
def tMethOr (C1 C2 : Addr) (m : Str) (sp1 sp2 : Sp) (d1 d2 : List V) (E : XK) (ta : TE) : TE := fun σ H Q => ta σ H fun x H1 =>
  (∃ a dx fs, x = .ref a ∧ H1 a = some (.ins C1 dx fs) ∧ fs.lookup m = none ∧ sp1 (x :: d1) H1 Q E) ∨ ∃ a dx fs, x = .ref a ∧ H1 a = some (.ins C2 dx fs) ∧ fs.lookup m = none ∧ sp2 (x :: d2) H1 Q E
section
variable {X : Cx} {CX : CXT} {k1 k2 : Nat} {f1 f2 C1 C2 : Addr} {fd1 fd2 : FuncData} {ps1 ps2 : List Str} {sp1 sp2 : Sp} {E : XK} {m : Str} {apos pos : Pos} {o : Expr} {ta : TE} {dv1 dv2 : List V} {ds1 ds2 : List Value}
theorem pe_meth0or {pl : Sem Bool} (he : PE X o ta) (c1 : Cls X.K C1) (m1 : Meth X.K C1 m f1) (F1 : FnOk X.prog X.w X.K X.mg X.base CX k1 f1 fd1 ps1 sp1) (r1 : Room k1 X.A) (b1 : Binds X.K fd1 ps1 ds1) (h1 : Vals dv1 ds1)
    (c2 : Cls X.K C2) (m2 : Meth X.K C2 m f2) (F2 : FnOk X.prog X.w X.K X.mg X.base CX k2 f2 fd2 ps2 sp2) (r2 : Room k2 X.A) (b2 : Binds X.K fd2 ps2 ds2) (h2 : Vals dv2 ds2) (hx : Passes CX X E)
    (ht : eval (.Call (.Attribute o m apos) [] [] pos) X.env = (do
      let ov ← eval o X.env
      standAt apos.atName
      let (f, first) ← holding [ov] (getMethod ov m pl)
      callWith pos f first (backTo pos (starEach [] X.env)) (backToKw pos (keywordEach [] X.env))) := by rfl) :
    PE X (.Call (.Attribute o m apos) [] [] pos) (tMethOr C1 C2 m sp1 sp2 dv1 dv2 E ta) := by
  refine ⟨fun pins s σ H Q I h => ?_⟩
  refine PySem.W.methodCall_KW (pl := pl) (thn (he.run pins s σ H _ I h) fun u s1 ⟨x, H1, I1, rx, q⟩ => ?_) ht
  rcases q with ⟨a, dx, fs, ex, ea, l, q⟩ | ⟨a, dx, fs, ex, ea, l, q⟩
  · subst ex
    obtain rfl : u = Value.ref a := rx
    refine getmeth_ok I1 ea c1 m1 l ?_
    refine PySem.W.callWith_K0 (first := [.ref a]) I1.kIn m1.kp ?_
    exact run_fn (us := [.ref a]) (vs := [.ref a]) F1 r1 b1 h1 hx I1 (.cons rfl .nil) q
  · subst ex
    obtain rfl : u = Value.ref a := rx
    refine getmeth_ok I1 ea c2 m2 l ?_
    refine PySem.W.callWith_K0 (first := [.ref a]) I1.kIn m2.kp ?_
    exact run_fn (us := [.ref a]) (vs := [.ref a]) F2 r2 b2 h2 hx I1 (.cons rfl .nil) q
end
end Sip
/-! the notes of a raw; a pipe with its two ends -/
namespace Sip
open PySem PySem.Spec PyProof.Rows L2 TL
/-- a thing that a note holds -/
inductive Tg
  | i (n : Int) | s (w : Str) | l (xs : List Int)
structure Nt where
  w : Str
  p : Nat
  h : Tg
  c : Tg
def tgOk : Tg → Prop
  | .s w => PyData.strOk w = true
  | _ => True
def NtOk (n : Nt) : Prop := PyData.strOk n.w = true ∧ tgOk n.h ∧ tgOk n.c
def TgAt (H : Hp) (G : Addr → Prop) (v : V) : Tg → Prop
  | .i n => v = .int n
  | .s w => v = .str w
  | .l xs => ∃ a, v = .ref a ∧ G a ∧ H a = some (.lst (xs.map V.int))
def NtAt (H : Hp) (G : Addr → Prop) (v : V) (n : Nt) : Prop := ∃ t hv cv, v = .ref t ∧ G t ∧ H t = some (.tup [.str n.w, .int n.p, hv, cv]) ∧ TgAt H G hv n.h ∧ TgAt H G cv n.c ∧ NtOk n
def Nts (H : Hp) (G : Addr → Prop) : List V → List Nt → Prop
  | [], [] => True
  | v :: vs, n :: ns => NtAt H G v n ∧ Nts H G vs ns
  | _, _ => False
theorem TgAt.keep {H H' : Hp} {G G' : Addr → Prop} {v : V} {t : Tg} (h : TgAt H G v t) (k : ∀ b o, G b → H b = some o → H' b = some o) (g : ∀ b, G b → G' b) : TgAt H' G' v t := by
  cases t with
  | i n => exact h
  | s w => exact h
  | l xs => obtain ⟨a, e, ga, ha⟩ := h; exact ⟨a, e, g a ga, k a _ ga ha⟩
theorem NtAt.keep {H H' : Hp} {G G' : Addr → Prop} {v : V} {n : Nt} (h : NtAt H G v n) (k : ∀ b o, G b → H b = some o → H' b = some o) (g : ∀ b, G b → G' b) : NtAt H' G' v n := by
  obtain ⟨t, hv, cv, e, gt, ht, a, b, c⟩ := h
  exact ⟨t, hv, cv, e, g t gt, k t _ gt ht, a.keep k g, b.keep k g, c⟩
theorem Nts.keep {H H' : Hp} {G G' : Addr → Prop} (k : ∀ b o, G b → H b = some o → H' b = some o) (g : ∀ b, G b → G' b) : ∀ {vs : List V} {ns : List Nt}, Nts H G vs ns → Nts H' G' vs ns
  | [], [], _ => trivial
  | v :: vs, n :: ns, ⟨a, b⟩ => ⟨a.keep k g, Nts.keep k g b⟩
theorem Nts.snoc {H : Hp} {G : Addr → Prop} {v : V} {n : Nt} (h : NtAt H G v n) : ∀ {vs : List V} {ns : List Nt}, Nts H G vs ns → Nts H G (vs ++ [v]) (ns ++ [n])
  | [], [], _ => ⟨h, trivial⟩
  | v :: vs, n :: ns, ⟨a, b⟩ => ⟨a, Nts.snoc h b⟩
theorem Nts.len {H : Hp} {G : Addr → Prop} : ∀ {vs : List V} {ns : List Nt}, Nts H G vs ns → vs.length = ns.length
  | [], [], _ => rfl
  | v :: vs, n :: ns, ⟨a, b⟩ => congrArg (· + 1) (Nts.len b)
theorem Nts.at {H : Hp} {G : Addr → Prop} : ∀ {vs : List V} {ns : List Nt} {i : Nat} {v : V}, Nts H G vs ns → vs[i]? = some v → ∃ n, ns[i]? = some n ∧ NtAt H G v n
  | v :: vs, n :: ns, 0, x, ⟨a, b⟩, e => by cases e; exact ⟨n, rfl, a⟩
  | v :: vs, n :: ns, i + 1, x, ⟨a, b⟩, e => by
    obtain ⟨m, h1, h2⟩ := Nts.at b (i := i) (v := x) (by simpa using e)
    exact ⟨m, by simpa using h1, h2⟩
def tgD : Tg → PyData
  | .i n => .int n
  | .s w => .str w
  | .l xs => .list (xs.map .int)
def ntD (n : Nt) : PyData := .tuple [.str n.w, .int n.p, tgD n.h, tgD n.c]
def ntsD (ns : List Nt) : PyData := .list (ns.map ntD)
theorem TgAt.dp {K : PySem.W.Frag} {H : Hp} {G : Addr → Prop} {v : V} {t : Tg} (h : TgAt H G v t) : Dp K H v (tgD t) := by
  cases t with
  | i n => cases (show v = _ from h); exact .int _
  | s w => cases (show v = _ from h); exact .str _
  | l xs => obtain ⟨a, e, ga, ha⟩ := h; subst e; exact dp_lst (sq_at ha)
theorem NtAt.dp {K : PySem.W.Frag} {H : Hp} {G : Addr → Prop} {v : V} {n : Nt} (h : NtAt H G v n) : Dp K H v (ntD n) := by
  obtain ⟨t, hv, cv, e, gt, ht, a, b, c⟩ := h
  subst e
  exact .tup (.inl (.inl ht)) (.cons (.str _) (.cons (.int _) (.cons a.dp (.cons b.dp .nil))))
theorem Nts.dpA {K : PySem.W.Frag} {H : Hp} {G : Addr → Prop} : ∀ {vs : List V} {ns : List Nt}, Nts H G vs ns → DpAll K H vs (ns.map ntD)
  | [], [], _ => .nil
  | v :: vs, n :: ns, ⟨a, b⟩ => .cons a.dp b.dpA
theorem Nts.dp {K : PySem.W.Frag} {H : Hp} {G : Addr → Prop} {vs : List V} {ns : List Nt} {q : Addr} (h : Nts H G vs ns) (e : H q = some (.lst vs)) : Dp K H (.ref q) (ntsD ns) := .lst (sq_at e) h.dpA
theorem tg_lay {t : Tg} (h : tgOk t) : (tgD t).canLay0 = true := by
  cases t with
  | i n => rfl
  | s w => exact h
  | l xs =>
    show PyData.canLayAll0 (xs.map PyData.int) = true
    exact lay_ints xs
theorem ints_depth : ∀ xs : List Int, PyData.depthAll (xs.map PyData.int) = 0
  | [] => rfl
  | x :: xs => by
    show max (PyData.depth (.int x)) (PyData.depthAll (xs.map PyData.int)) = 0
    rw [ints_depth xs]; rfl
theorem tg_depth (t : Tg) : (tgD t).depth ≤ 1 := by
  cases t with
  | i n => exact Nat.zero_le _
  | s w => exact Nat.zero_le _
  | l xs =>
    show PyData.depthAll (xs.map PyData.int) + 1 ≤ 1
    rw [ints_depth]; exact Nat.le_refl _
theorem nt_lay {n : Nt} (h : NtOk n) : (ntD n).canLay0 = true := by
  obtain ⟨a, b, c⟩ := h
  show PyData.canLayAll0 [.str n.w, .int n.p, tgD n.h, tgD n.c] = true
  simp [PyData.canLayAll0, PyData.canLay0, a, tg_lay b, tg_lay c]
theorem nt_depth (n : Nt) : (ntD n).depth ≤ 2 := by
  show PyData.depthAll [.str n.w, .int n.p, tgD n.h, tgD n.c] + 1 ≤ 2
  have h := tg_depth n.h
  have c := tg_depth n.c
  simp [PyData.depthAll, PyData.depth]
  omega
theorem nts_lay : ∀ {ns : List Nt}, (∀ n ∈ ns, NtOk n) → PyData.canLayAll0 (ns.map ntD) = true ∧ PyData.depthAll (ns.map ntD) ≤ 2
  | [], _ => ⟨rfl, Nat.zero_le _⟩
  | n :: ns, h => by
    obtain ⟨a, b⟩ := nts_lay (ns := ns) (fun m hm => h m (List.mem_cons_of_mem _ hm))
    refine ⟨?_, ?_⟩
    · show ((ntD n).canLay0 && PyData.canLayAll0 (ns.map ntD)) = true
      rw [nt_lay (h n List.mem_cons_self), a]; rfl
    · show max (ntD n).depth (PyData.depthAll (ns.map ntD)) ≤ 2
      have := nt_depth n
      omega
theorem Nts.ok {H : Hp} {G : Addr → Prop} : ∀ {vs : List V} {ns : List Nt}, Nts H G vs ns → ∀ n ∈ ns, NtOk n
  | [], [], _, n, h => nomatch h
  | v :: vs, m :: ns, ⟨a, b⟩, n, h => by
    rcases List.mem_cons.mp h with e | e
    · subst e; obtain ⟨_, _, _, _, _, _, _, _, c⟩ := a; exact c
    · exact Nts.ok b n e
theorem two_nts {a b : List Nt} (ha : ∀ n ∈ a, NtOk n) (hb : ∀ n ∈ b, NtOk n) : SeqAt.shaped (.list [ntsD a, ntsD b]) = true := by
  obtain ⟨a1, a2⟩ := nts_lay ha
  obtain ⟨b1, b2⟩ := nts_lay hb
  unfold SeqAt.shaped
  have e1 : (ntsD a).canLay0 = true := a1
  have e2 : (ntsD b).canLay0 = true := b1
  have d1 : (ntsD a).depth ≤ 3 := Nat.succ_le_succ a2
  have d2 : (ntsD b).depth ≤ 3 := Nat.succ_le_succ b2
  simp [PyData.canLay0, PyData.canLayAll0, PyData.depth, PyData.depthAll, e1, e2]
  omega
/-! ### the pipe -/
structure Pst where
  R : Nat
  ws : List Int
  si : Nat
  so : Nat
  bi : Bool
  bo : Bool
  ni : List Nt
  no : List Nt
structure Pad where
  p : Addr
  w : Addr
  ei : Addr
  eo : Addr
  li : Addr
  lo : Addr
def pifs (w ei eo : Addr) (R : Nat) : Fs := [("room", .int R), ("within", .ref w), ("into_end", .ref ei), ("out_end", .ref eo)]
def efs (s : Nat) (b : Bool) (l p : Addr) : Fs := [("can_seek", .bl false), ("spot", .int s), ("barred", .bl b), ("notes", .ref l), ("pipe", .ref p)]
structure PipeIn (CP CI CO : Addr) (H : Hp) (A : Pad) (S : Pst) (dp di dq : Addr) (vi vo : List V) (G : Addr → Prop) : Prop where
  hp : H A.p = some (.ins CP dp (pifs A.w A.ei A.eo S.R))
  hw : H A.w = some (.lst (S.ws.map V.int))
  hi : H A.ei = some (.ins CI di (efs S.si S.bi A.li A.p))
  ho : H A.eo = some (.ins CO dq (efs S.so S.bo A.lo A.p))
  hli : H A.li = some (.lst vi)
  hlo : H A.lo = some (.lst vo)
  ni : Nts H G vi S.ni
  no : Nts H G vo S.no
  al : ∀ b, G b → ∃ o, H b = some o
  ag : ∀ b, G b → b ≠ A.p ∧ b ≠ A.w ∧ b ≠ A.ei ∧ b ≠ A.eo ∧ b ≠ A.li ∧ b ≠ A.lo
  d1 : A.p ≠ A.ei
  d2 : A.p ≠ A.eo
  d3 : A.ei ≠ A.eo
  d4 : A.w ≠ A.li
  d5 : A.w ≠ A.lo
  d6 : A.li ≠ A.lo
def Own6 (A : Pad) (b : Addr) : Prop := b = A.p ∨ b = A.w ∨ b = A.ei ∨ b = A.eo ∨ b = A.li ∨ b = A.lo
def PipeAt (CP CI CO : Addr) (H : Hp) (A : Pad) (F : Addr → Prop) (S : Pst) : Prop := ∃ dp di dq vi vo G, PipeIn CP CI CO H A S dp di dq vi vo G ∧ ∀ b, F b ↔ Own6 A b ∨ G b
section
variable {CP CI CO : Addr} {H H' : Hp} {A : Pad} {S : Pst} {dp di dq : Addr} {vi vo : List V} {G F : Addr → Prop}
theorem lst_ins {C d : Addr} {a b : Addr} {xs : List V} {fs : List (Str × V)} (h1 : H a = some (.lst xs)) (h2 : H b = some (.ins C d fs)) : a ≠ b := ne_of h1 h2 (by intro z; cases z)
theorem PipeIn.nes (h : PipeIn CP CI CO H A S dp di dq vi vo G) : A.w ≠ A.p ∧ A.w ≠ A.ei ∧ A.w ≠ A.eo ∧ A.li ≠ A.p ∧ A.li ≠ A.ei ∧ A.li ≠ A.eo ∧ A.lo ≠ A.p ∧ A.lo ≠ A.ei ∧ A.lo ≠ A.eo :=
  ⟨lst_ins h.hw h.hp, lst_ins h.hw h.hi, lst_ins h.hw h.ho, lst_ins h.hli h.hp, lst_ins h.hli h.hi, lst_ins h.hli h.ho, lst_ins h.hlo h.hp, lst_ins h.hlo h.hi, lst_ins h.hlo h.ho⟩
theorem PipeAt.loc (h : PipeAt CP CI CO H A F S) (k : ∀ b o, F b → H b = some o → H' b = some o) : PipeAt CP CI CO H' A F S := by
  obtain ⟨dp, di, dq, vi, vo, G, I, hF⟩ := h
  have o6 : ∀ {b o}, Own6 A b → H b = some o → H' b = some o := fun {b o} z e => k b o ((hF b).mpr (.inl z)) e
  have kg : ∀ b o, G b → H b = some o → H' b = some o := fun b o z e => k b o ((hF b).mpr (.inr z)) e
  exact ⟨dp, di, dq, vi, vo, G, ⟨o6 (.inl rfl) I.hp, o6 (.inr (.inl rfl)) I.hw, o6 (.inr (.inr (.inl rfl))) I.hi, o6 (.inr (.inr (.inr (.inl rfl)))) I.ho, o6 (.inr (.inr (.inr (.inr (.inl rfl))))) I.hli, o6 (.inr (.inr (.inr (.inr (.inr rfl))))) I.hlo,
    I.ni.keep kg (fun _ z => z), I.no.keep kg (fun _ z => z), fun b z => (I.al b z).elim fun o e => ⟨o, kg b o z e⟩, I.ag, I.d1, I.d2, I.d3, I.d4, I.d5, I.d6⟩, hF⟩
theorem PipeAt.same (h : PipeAt CP CI CO H A F S) (s : Same H H') : PipeAt CP CI CO H' A F S := h.loc fun b o _ e => s b o e
theorem PipeAt.kp {qs : List Addr} (h : PipeAt CP CI CO H A F S) (k : Kp qs H H') (n : ∀ q ∈ qs, ¬ F q) : PipeAt CP CI CO H' A F S := h.loc fun b o f e => k b o (fun z => n b z f) e
theorem PipeAt.own (h : PipeAt CP CI CO H A F S) : ∀ b, F b → ∃ o, H b = some o := by
  obtain ⟨dp, di, dq, vi, vo, G, I, hF⟩ := h
  intro b z
  rcases (hF b).mp z with (rfl | rfl | rfl | rfl | rfl | rfl) | z
  · exact ⟨_, I.hp⟩
  · exact ⟨_, I.hw⟩
  · exact ⟨_, I.hi⟩
  · exact ⟨_, I.ho⟩
  · exact ⟨_, I.hli⟩
  · exact ⟨_, I.hlo⟩
  · exact I.al b z
theorem PipeAt.new {q : Addr} (h : PipeAt CP CI CO H A F S) (n : H q = none) : ¬ F q := fun f => by
  obtain ⟨o, e⟩ := h.own q f
  rw [n] at e; cases e
/-- what lies within is put anew -/
theorem PipeIn.setw (I : PipeIn CP CI CO H A S dp di dq vi vo G) (xs : List Int) : PipeIn CP CI CO (upd H A.w (.lst (xs.map V.int))) A { S with ws := xs } dp di dq vi vo G := by
  obtain ⟨n1, n2, n3, n4, n5, n6, n7, n8, n9⟩ := I.nes
  have kg : ∀ b o, G b → H b = some o → (upd H A.w (.lst (xs.map V.int))) b = some o := fun b o z e => by rw [upd_ne (I.ag b z).2.1]; exact e
  exact ⟨by rw [upd_ne n1.symm]; exact I.hp, upd_same, by rw [upd_ne n2.symm]; exact I.hi, by rw [upd_ne n3.symm]; exact I.ho, by rw [upd_ne I.d4.symm]; exact I.hli, by rw [upd_ne I.d5.symm]; exact I.hlo,
    I.ni.keep kg (fun _ z => z), I.no.keep kg (fun _ z => z), fun b z => (I.al b z).elim fun o e => ⟨o, kg b o z e⟩, I.ag, I.d1, I.d2, I.d3, I.d4, I.d5, I.d6⟩
theorem PipeIn.seti (I : PipeIn CP CI CO H A S dp di dq vi vo G) (s : Nat) (b : Bool) : PipeIn CP CI CO (upd H A.ei (.ins CI di (efs s b A.li A.p))) A { S with si := s, bi := b } dp di dq vi vo G := by
  obtain ⟨n1, n2, n3, n4, n5, n6, n7, n8, n9⟩ := I.nes
  have kg : ∀ x o, G x → H x = some o → (upd H A.ei (.ins CI di (efs s b A.li A.p))) x = some o := fun x o z e => by rw [upd_ne (I.ag x z).2.2.1]; exact e
  exact ⟨by rw [upd_ne I.d1]; exact I.hp, by rw [upd_ne n2]; exact I.hw, upd_same, by rw [upd_ne I.d3.symm]; exact I.ho, by rw [upd_ne n5]; exact I.hli, by rw [upd_ne n8]; exact I.hlo,
    I.ni.keep kg (fun _ z => z), I.no.keep kg (fun _ z => z), fun b z => (I.al b z).elim fun o e => ⟨o, kg b o z e⟩, I.ag, I.d1, I.d2, I.d3, I.d4, I.d5, I.d6⟩
theorem PipeIn.seto (I : PipeIn CP CI CO H A S dp di dq vi vo G) (s : Nat) (b : Bool) : PipeIn CP CI CO (upd H A.eo (.ins CO dq (efs s b A.lo A.p))) A { S with so := s, bo := b } dp di dq vi vo G := by
  obtain ⟨n1, n2, n3, n4, n5, n6, n7, n8, n9⟩ := I.nes
  have kg : ∀ x o, G x → H x = some o → (upd H A.eo (.ins CO dq (efs s b A.lo A.p))) x = some o := fun x o z e => by rw [upd_ne (I.ag x z).2.2.2.1]; exact e
  exact ⟨by rw [upd_ne I.d2]; exact I.hp, by rw [upd_ne n3]; exact I.hw, by rw [upd_ne I.d3]; exact I.hi, upd_same, by rw [upd_ne n6]; exact I.hli, by rw [upd_ne n9]; exact I.hlo,
    I.ni.keep kg (fun _ z => z), I.no.keep kg (fun _ z => z), fun b z => (I.al b z).elim fun o e => ⟨o, kg b o z e⟩, I.ag, I.d1, I.d2, I.d3, I.d4, I.d5, I.d6⟩
/-- a note more: its tuple new, its lists G0 handed over -/
theorem PipeIn.notei (I : PipeIn CP CI CO H A S dp di dq vi vo G) {t : Addr} {n : Nt} {hv cv : V} {G0 : Addr → Prop} (nt : H t = none) (h0 : TgAt H G0 hv n.h) (c0 : TgAt H G0 cv n.c) (ok : NtOk n) (ep : n.p = S.si) (a0 : ∀ b, G0 b → ∃ o, H b = some o) (n0 : ∀ b, G0 b → ¬ Own6 A b) :
    PipeIn CP CI CO (upd (upd H t (.tup [.str n.w, .int S.si, hv, cv])) A.li (.lst (vi ++ [.ref t]))) A { S with ni := S.ni ++ [n] } dp di dq (vi ++ [.ref t]) vo (fun b => G b ∨ b = t ∨ G0 b) := by
  obtain ⟨n1, n2, n3, n4, n5, n6, n7, n8, n9⟩ := I.nes
  have ne : ∀ {b o}, H b = some o → b ≠ t := fun {b o} e => ne_of_none e nt
  have kp : ∀ b o, b ≠ A.li → H b = some o → (upd (upd H t (.tup [.str n.w, .int S.si, hv, cv])) A.li (.lst (vi ++ [.ref t]))) b = some o := fun b o z e => by rw [upd_ne z, upd_ne (ne e)]; exact e
  have kg : ∀ b o, G b → H b = some o → (upd (upd H t (.tup [.str n.w, .int S.si, hv, cv])) A.li (.lst (vi ++ [.ref t]))) b = some o := fun b o z e => kp b o (I.ag b z).2.2.2.2.1 e
  have k0 : ∀ b o, G0 b → H b = some o → (upd (upd H t (.tup [.str n.w, .int S.si, hv, cv])) A.li (.lst (vi ++ [.ref t]))) b = some o := fun b o z e => kp b o (fun y => n0 b z (.inr (.inr (.inr (.inr (.inl y)))))) e
  have tl : t ≠ A.li := (ne I.hli).symm
  refine ⟨kp _ _ n4.symm I.hp, kp _ _ I.d4 I.hw, kp _ _ n5.symm I.hi, kp _ _ n6.symm I.ho, upd_same, kp _ _ I.d6.symm I.hlo, Nts.snoc ⟨t, hv, cv, rfl, .inr (.inl rfl), ?_, h0.keep k0 (fun _ z => .inr (.inr z)), c0.keep k0 (fun _ z => .inr (.inr z)), ok⟩ (I.ni.keep kg (fun _ z => .inl z)), I.no.keep kg (fun _ z => .inl z), ?_, ?_, I.d1, I.d2, I.d3, I.d4, I.d5, I.d6⟩
  · rw [upd_ne tl, upd_same, ep]
  · rintro b (z | rfl | z)
    · exact (I.al b z).elim fun o e => ⟨o, kg b o z e⟩
    · exact ⟨_, by rw [upd_ne tl]; exact upd_same⟩
    · exact (a0 b z).elim fun o e => ⟨o, k0 b o z e⟩
  · rintro b (z | rfl | z)
    · exact I.ag b z
    · exact ⟨(ne I.hp).symm, (ne I.hw).symm, (ne I.hi).symm, (ne I.ho).symm, (ne I.hli).symm, (ne I.hlo).symm⟩
    · have h := n0 b z
      exact ⟨fun y => h (.inl y), fun y => h (.inr (.inl y)), fun y => h (.inr (.inr (.inl y))), fun y => h (.inr (.inr (.inr (.inl y)))), fun y => h (.inr (.inr (.inr (.inr (.inl y))))), fun y => h (.inr (.inr (.inr (.inr (.inr y)))))⟩
theorem PipeIn.noteo (I : PipeIn CP CI CO H A S dp di dq vi vo G) {t : Addr} {n : Nt} {hv cv : V} {G0 : Addr → Prop} (nt : H t = none) (h0 : TgAt H G0 hv n.h) (c0 : TgAt H G0 cv n.c) (ok : NtOk n) (ep : n.p = S.so) (a0 : ∀ b, G0 b → ∃ o, H b = some o) (n0 : ∀ b, G0 b → ¬ Own6 A b) :
    PipeIn CP CI CO (upd (upd H t (.tup [.str n.w, .int S.so, hv, cv])) A.lo (.lst (vo ++ [.ref t]))) A { S with no := S.no ++ [n] } dp di dq vi (vo ++ [.ref t]) (fun b => G b ∨ b = t ∨ G0 b) := by
  obtain ⟨n1, n2, n3, n4, n5, n6, n7, n8, n9⟩ := I.nes
  have ne : ∀ {b o}, H b = some o → b ≠ t := fun {b o} e => ne_of_none e nt
  have kp : ∀ b o, b ≠ A.lo → H b = some o → (upd (upd H t (.tup [.str n.w, .int S.so, hv, cv])) A.lo (.lst (vo ++ [.ref t]))) b = some o := fun b o z e => by rw [upd_ne z, upd_ne (ne e)]; exact e
  have kg : ∀ b o, G b → H b = some o → (upd (upd H t (.tup [.str n.w, .int S.so, hv, cv])) A.lo (.lst (vo ++ [.ref t]))) b = some o := fun b o z e => kp b o (I.ag b z).2.2.2.2.2 e
  have k0 : ∀ b o, G0 b → H b = some o → (upd (upd H t (.tup [.str n.w, .int S.so, hv, cv])) A.lo (.lst (vo ++ [.ref t]))) b = some o := fun b o z e => kp b o (fun y => n0 b z (.inr (.inr (.inr (.inr (.inr y)))))) e
  have tl : t ≠ A.lo := (ne I.hlo).symm
  refine ⟨kp _ _ n7.symm I.hp, kp _ _ I.d5 I.hw, kp _ _ n8.symm I.hi, kp _ _ n9.symm I.ho, kp _ _ I.d6 I.hli, upd_same, I.ni.keep kg (fun _ z => .inl z), Nts.snoc ⟨t, hv, cv, rfl, .inr (.inl rfl), ?_, h0.keep k0 (fun _ z => .inr (.inr z)), c0.keep k0 (fun _ z => .inr (.inr z)), ok⟩ (I.no.keep kg (fun _ z => .inl z)), ?_, ?_, I.d1, I.d2, I.d3, I.d4, I.d5, I.d6⟩
  · rw [upd_ne tl, upd_same, ep]
  · rintro b (z | rfl | z)
    · exact (I.al b z).elim fun o e => ⟨o, kg b o z e⟩
    · exact ⟨_, by rw [upd_ne tl]; exact upd_same⟩
    · exact (a0 b z).elim fun o e => ⟨o, k0 b o z e⟩
  · rintro b (z | rfl | z)
    · exact I.ag b z
    · exact ⟨(ne I.hp).symm, (ne I.hw).symm, (ne I.hi).symm, (ne I.ho).symm, (ne I.hli).symm, (ne I.hlo).symm⟩
    · have h := n0 b z
      exact ⟨fun y => h (.inl y), fun y => h (.inr (.inl y)), fun y => h (.inr (.inr (.inl y))), fun y => h (.inr (.inr (.inr (.inl y)))), fun y => h (.inr (.inr (.inr (.inr (.inl y))))), fun y => h (.inr (.inr (.inr (.inr (.inr y)))))⟩
/-- one of the six is stored to -/
theorem own_one {x : Addr} {o : HO} (hF : ∀ b, F b ↔ Own6 A b ∨ G b) (hx : Own6 A x) : Step F H F (upd H x o) := ⟨fun b o nf e => by
  have n : b ≠ x := fun z => nf ((hF b).mpr (.inl (by rw [z]; exact hx)))
  rw [upd_ne n]; exact e, fun b z => .inl z⟩
end
end Sip
/-! calls within a try whose last parameters keep their defaults; parts of values -/
namespace Sip
open PySem PySem.Spec PyProof.Rows L2 TL
theorem vals_cut : ∀ {zs : List V} {ws : List Value} (i n : Nat), Vals zs ws → Vals ((zs.drop i).take n) ((ws.drop i).take n)
  | [], [], i, n, .nil => by simp; exact .nil
  | z :: zs, w :: ws, 0, 0, .cons h t => .nil
  | z :: zs, w :: ws, 0, n + 1, .cons h t => .cons h (vals_cut 0 n t)
  | z :: zs, w :: ws, i + 1, n, .cons h t => vals_cut i n t
section
variable {X : Cx} {CX : CXT} {k n : Nat} {f : Addr} {fd : FuncData} {ps : List Str} {sp : Sp} {E : L2.St → XK} {x : Str} {p pos : Pos} {e : Expr} {es : List Expr} {t : TA} {ds : List Value} {dvs : List V}
def tCallDS (sp : Sp) (dvs : List V) (E : L2.St → XK) (t : TA) : TE := fun σ H Q => t σ H fun vs H1 => sp (vs ++ dvs) H1 Q (E σ)
theorem pe_callDS (F : FnOk X.prog X.w X.K X.mg X.base CX k f fd ps sp) (hr : Room k X.A) (hg : Gl X x) (hm : X.mg x = some (.ref f)) (hk : PySem.W.keepIn X.K (.ref f) = true) (hb : Binds X.K fd ps ds) (hd : Vals dvs ds) (hx : ∀ σ, PassesAt CX X σ (E σ))
    (ha : PA X (e :: es) t) (hdb : (x == ("__debug__" : Str)) = false := by decide) (he : starEach (e :: es) X.env = (false, eval e X.env) :: starEach es X.env := by rfl)
    (hpl : ((backTo pos (starEach es X.env)).any (·.1)) = false := by rfl) :
    PE X (.Call (.Name x p) (e :: es) [] pos) (tCallDS sp dvs E t) := by
  refine ⟨fun pins s σ H Q I h => wpAny_Call_Name_kw (ld_glob I hg hm ?_ hdb)⟩
  refine PySem.W.callWith_K (h₀ := X.base) I.ok.mod.kin hk (thn (ha.run pos pins s σ H _ I h) fun us s1 w1 => ?_) he hpl
  obtain ⟨vs, H1, I1, r, q⟩ := w1
  refine ⟨I1.kIn, ?_⟩
  have rv : Vals (vs ++ dvs) (us ++ ds) := Vals.append r hd
  have ln : (us ++ ds).length = ps.length := rv.length.symm.trans (F.len _ _ _ _ q)
  have bt := hb s1 us I1.kIn ln
  refine wpAny_call (codeAny_mono (F.run X.A X.stack s1 H1 ⟨us, []⟩ (us ++ ds) (vs ++ dvs) Q (E σ) hr I1.env0 bt rv q) fun out s' hq => ?_)
  match out, hq with
  | .error e, hq => exact hx σ pins H1 s1 e s' I1 hq
  | .ok (.ret u), hq => exact I1.after hq
  | .ok .next, hq => exact hq.elim
  | .ok .brk, hq => exact hq.elim
  | .ok .cont, hq => exact hq.elim
end
end Sip
/-! defs that raise nothing, called also where an error is handled -/
theorem L2H.RoomH.units {k : Nat} {A : PySem.Around} (r : L2H.RoomH k A) : A.units + 64 < PySem.cLine := by have := r.un; omega
namespace Sip
open PySem PySem.Spec PyProof.Rows L2 TL L2H
/-- a promise that is kept whatever is handled; nothing is raised -/
structure FnC (P : Program) (w : World) (K : PySem.W.Frag) (mg : Str → Option Value) (base : Heap) (k : Nat) (f : Addr) (fd : FuncData) (ps : List Str) (sp : Sp) : Prop where
  len : ∀ vs H Q E, sp vs H Q E → vs.length = ps.length
  run : ∀ (A : Around) (outer : List Env) (s : Shared) (H : Hp) (args : Args) (us : List Value) (vs : List V) (Q : VK) (E : XK), RoomH k A →
    Env0 P w K mg base A outer s H → BindsTo s fd args (ps.zip us) → Vals vs us → sp vs H Q E → codeAny (model P w) A (.call (.ref f) args) (CR CX0 outer P w H s Q E) s
/-- the context of its body -/
def cxC (P : Program) (w : World) (K : PySem.W.Frag) (mg : Str → Option Value) (base : Heap) (N : List Str) (qual : Str) (scope : Scope) (f : Addr) (cd : Value) (A : Around) (outer : List Env) (s : Shared) (H : Hp) (E : XK) : Cx :=
  { cxOf CX0 P w K mg base N qual scope f cd A outer s H E with calm := false }
section
variable {P : Program} {w : World} {K : PySem.W.Frag} {mg : Str → Option Value} {base : Heap} {x qual : Str} {st : Stmt} {f : Addr} {fd : FuncData} {N ps : List Str} {k : Nat} {sp : Sp}
theorem FnC.ok (F : FnC P w K mg base k f fd ps sp) : FnOk P w K mg base CX0 k f fd ps sp := ⟨F.len, fun A outer s H args us vs Q E hr => F.run A outer s H args us vs Q E (roomH_of hr)⟩
theorem FunA.okC (F : FunA K x qual st f fd) (S : FnScope N ps (defScope st)) (len : ∀ vs H Q E, sp vs H Q E → vs.length = ps.length)
    (hb : ∀ (cdv : Value) (A : Around) (outer : List Env) (s : Shared) (H : Hp) (vs : List V) (Q : VK) (E : XK), RoomH k (A.deeper (envOfC qual (defScope st) s.heap.objs.size f cdv)) → sp vs H Q E →
      ∃ t, PSs (cxC P w K mg base N qual (defScope st) f cdv A outer s H E).nox (defBody st) t ∧ t { nx := fun _ H' => Q .non H', rt := Q } (start N vs) H) : FnC P w K mg base (k + 1) f fd ps sp := by
  obtain ⟨oc, od, dV, kV, doc, pm, an, cdv, ct, osl, rfl, lk, hcd⟩ := F.ex
  refine ⟨len, fun A outer s H args us vs Q E hr e0 hbd r hsp => ?_⟩
  have keep : ∀ b o, base.get? b = some o → s.heap.get? b = some o := fun b o e => (e0.bs b o e).1
  have KX := e0.mod.kin.keeps keep
  refine codeAny_call_function hr.depth (KX _ _ lk) rfl S.co S.gen rfl (PySem.W.codeRec_of KX hcd) (hbd _ _ _ _ (wpAny_newFunctionEnv_cells S.kind (fun y hy => ?_) fun env he s1 z => ?_))
  · rcases S.par y.1 (List.of_mem_zip hy).1 with q | q
    · exact .inl q
    · exact .inr ⟨q, PySem.W.cellsFrom_some _ _ _ (.inl q)⟩
  subst he
  obtain ⟨t, ht, hq⟩ := hb cdv A outer s H vs Q E (hr.deeper _) hsp
  have ht := ht.nox
  have e1 : Env0 P w K mg base { A with handled := none } outer s H := ⟨e0.frames, e0.mod, e0.bs, e0.bsz, e0.funs, e0.frf, e0.hok, e0.bare⟩
  have I0 := inv_start (CX := CX0) (N := N) (E := E) (A := { A with handled := none }) S rfl e1 (len _ _ _ _ hsp) r z
  have o := I0.ok
  have I : Inv (cxC P w K mg base N qual (defScope st) f cdv A outer s H E) [] (start N vs) H s1 :=
    ⟨⟨o.mod, o.kind, o.glob, o.blt, o.above, o.inj, o.has, o.cab, (fun z => Bool.noConfusion (show false = true from z)), Around.frames_deeper e0.frames, .inr ⟨rfl, rfl⟩, o.exf, o.bs, o.bsz, o.noex, o.exfs, o.funs, o.frf⟩, I0.os, I0.bare, I0.base, I0.loc, I0.cell, I0.free, I0.freeC, I0.pin, I0.hok, I0.len⟩
  refine ⟨(e0.mod.nolimit.keeps keep).keeps z.toInCall.keep, codeAny_func (wpAny_mono (ht.run [] s1 _ H _ I hq) (fun fl s' hs => ?_) fun _ _ h => h)⟩
  cases fl with
  | ret u =>
    obtain ⟨v, _, H', J, rv, q⟩ := hs
    exact ⟨v, H', J.os, J.bare, J.base, J.hok, rv, q⟩
  | next =>
    obtain ⟨_, H', J, q⟩ := hs
    exact ⟨.non, H', J.os, J.bare, J.base, J.hok, rfl, q⟩
  | brk => exact (hs.choose_spec.choose_spec.2 : False).elim
  | cont => exact (hs.choose_spec.choose_spec.2 : False).elim
end
section
variable {X : Cx} {k : Nat} {f C : Addr} {fd : FuncData} {ps : List Str} {sp : Sp} {dvs : List V} {ds : List Value} {E : XK} {x m : Str} {p pos apos : Pos} {o e : Expr} {es : List Expr} {ta : TE} {t : TA}
theorem run_fnC {pins : List (Addr × Obj)} {σ : L2.St} {H : Hp} {s : Shared} {Q : VK} {us : List Value} {vs : List V} (F : FnC X.prog X.w X.K X.mg X.base k f fd ps sp) (hr : RoomH k X.A) (hb : Binds X.K fd ps ds) (hd : Vals dvs ds)
    (I : Inv X pins σ H s) (r : Vals vs us) (h : sp (vs ++ dvs) H Q E) : wpAny (model X.prog X.w) X.A (call (.ref f) us) (EP X pins σ Q) X.xe s := by
  have r2 : Vals (vs ++ dvs) (us ++ ds) := r.append hd
  refine wpAny_call (codeAny_mono (F.run X.A X.stack s H ⟨us, []⟩ (us ++ ds) (vs ++ dvs) Q E hr I.env0 (hb s us I.kIn (by rw [← r2.length]; exact F.len _ _ _ _ h)) r2 h) fun r s' hq => ?_)
  match r, hq with
  | .ok (.ret u), hq => exact I.after hq
theorem pe_callC (F : FnC X.prog X.w X.K X.mg X.base k f fd ps sp) (hr : RoomH k X.A) (hg : Gl X x) (hm : X.mg x = some (.ref f)) (hk : PySem.W.keepIn X.K (.ref f) = true) (hb : Binds X.K fd ps ds) (hd : Vals dvs ds)
    (ha : PA X (e :: es) t) (n1 : (x == ("__debug__" : Str)) = false := by decide) (n2 : starEach (e :: es) X.env = (false, eval e X.env) :: starEach es X.env := by rfl) (n3 : (backTo pos (starEach es X.env)).any (·.1) = false := by rfl) :
    PE X (.Call (.Name x p) (e :: es) [] pos) (tCall sp dvs E t) := by
  refine ⟨fun pins s σ H Q I h => wpAny_Call_Name_kw (ld_glob I hg hm (PySem.W.callWith_K (h₀ := X.base) I.ok.mod.kin hk (thn (ha.run pos pins s σ H _ I h) fun us s1 ⟨vs, H1, I1, r, q⟩ => ⟨I1.kIn, ?_⟩) n2 n3) n1)⟩
  exact run_fnC F hr hb hd I1 r q
theorem pe_methC {pl : Sem Bool} (he : PE X o ta) (c : Cls X.K C) (hm : Meth X.K C m f) (F : FnC X.prog X.w X.K X.mg X.base k f fd ps sp) (hr : RoomH k X.A) (hb : Binds X.K fd ps ds) (hd : Vals dvs ds) (ha : PA X (e :: es) t)
    (hst : starEach (e :: es) X.env = (false, eval e X.env) :: starEach es X.env := by rfl) (hpl : (backTo pos (starEach es X.env)).any (·.1) = false := by rfl)
    (ht : eval (.Call (.Attribute o m apos) (e :: es) [] pos) X.env = (do
      let ov ← eval o X.env
      standAt apos.atName
      let (f, first) ← holding [ov] (getMethod ov m pl)
      callWith pos f first (backTo pos (starEach (e :: es) X.env)) (backToKw pos (keywordEach [] X.env))) := by rfl) :
    PE X (.Call (.Attribute o m apos) (e :: es) [] pos) (tMeth C m sp dvs E ta t) := by
  refine ⟨fun pins s σ H Q I h => ?_⟩
  refine PySem.W.methodCall_KW (pl := pl) (thn (he.run pins s σ H _ I h) fun u s1 ⟨x, H1, I1, rx, a, dx, fs, ex, ea, l, q⟩ => ?_) ht
  subst ex
  obtain rfl : u = Value.ref a := rx
  refine getmeth_ok I1 ea c hm l ?_
  refine PySem.W.callWith_K (first := [.ref a]) (h₀ := X.base) I.ok.mod.kin hm.kp (thn (ha.run pos pins s1 σ H1 _ I1 q) fun us s2 ⟨vs, H2, I2, r, q2⟩ => ⟨I2.kIn, ?_⟩) hst hpl
  exact run_fnC (us := .ref a :: us) (vs := .ref a :: vs) F hr hb hd I2 (.cons rfl r) q2
end
end Sip
namespace Sip
open PySem PySem.Spec PyProof.Rows L2 TL L2H
theorem roomM {k : Nat} {A : Around} {v : Value} (r : Room k A) : RoomH k (A.mark (some v)) := ⟨r.dp, r.un⟩
section
variable {X : Cx} {CX : CXT} {k : Nat} {f C : Addr} {fd : FuncData} {ps : List Str} {sp : Sp} {E : L2.St → XK} {m : Str} {pos apos : Pos} {o e : Expr} {es : List Expr} {ta : TE} {t : TA}
/-- o.m(e, ..) within a try -/
theorem pe_methT {pl : Sem Bool} (he : PE X o ta) (c : Cls X.K C) (hm : Meth X.K C m f) (F : FnOk X.prog X.w X.K X.mg X.base CX k f fd ps sp) (hr : Room k X.A) (hb : Binds X.K fd ps []) (hx : ∀ σ, PassesAt CX X σ (E σ)) (ha : PA X (e :: es) t)
    (hst : starEach (e :: es) X.env = (false, eval e X.env) :: starEach es X.env := by rfl) (hpl : (backTo pos (starEach es X.env)).any (·.1) = false := by rfl)
    (ht : eval (.Call (.Attribute o m apos) (e :: es) [] pos) X.env = (do
      let ov ← eval o X.env
      standAt apos.atName
      let (f, first) ← holding [ov] (getMethod ov m pl)
      callWith pos f first (backTo pos (starEach (e :: es) X.env)) (backToKw pos (keywordEach [] X.env))) := by rfl) :
    PE X (.Call (.Attribute o m apos) (e :: es) [] pos) (tMethH C m sp E ta t) := by
  refine ⟨fun pins s σ H Q I h => ?_⟩
  refine PySem.W.methodCall_KW (pl := pl) (thn (he.run pins s σ H _ I h) fun u s1 ⟨x, H1, I1, rx, a, dx, fs, ex, ea, l, q⟩ => ?_) ht
  subst ex
  obtain rfl : u = Value.ref a := rx
  refine getmeth_ok I1 ea c hm l ?_
  refine PySem.W.callWith_K (first := [.ref a]) (h₀ := X.base) I.ok.mod.kin hm.kp (thn (ha.run pos pins s1 σ H1 _ I1 q) fun us s2 ⟨vs, H2, I2, r, q2⟩ => ⟨I2.kIn, ?_⟩) hst hpl
  exact run_fnS (us := .ref a :: us) (vs := .ref a :: vs) F hr hb (hx σ) I2 (.cons rfl r) q2
end
/-- __init__(self, f, g): self.f = f; self.g = g -/
def spErr2 (C : Addr) (f g : Str) : Sp := fun vs H Q _ => ∃ (a : Addr) (v u : V), vs = [.ref a, v, u] ∧ H a = some (exo a C none) ∧ ∀ dx, H dx = none → dx ≠ a → Q .non (upd (upd H dx (exd dx [(g, u), (f, v)])) a (exo a C (some dx)))
theorem mk2_fin {C : Addr} {f g : Str} {H1 : Hp} {v u : V} {Q : XK} (h : ∀ d, H1 d = none → Q (.ref C) (some d) (upd H1 d (.xd [(g, u), (f, v)]))) :
    [v].length ≤ 1000 ∧ ∀ a, H1 a = none → spErr2 C f g (.ref a :: ([v] ++ [u])) (upd H1 a (exo a C none))
      (fun v H2 => v = .non ∧ ∃ (d : Addr) (fs : List (Str × V)), H2 a = some (exo a C (some d)) ∧ H2 d = some (exd d fs) ∧ H1 d = none ∧ Q (.ref C) (some d) (upd (del H2 a) d (.xd fs))) (fun _ _ _ => False) := by
  refine ⟨by show 1 ≤ 1000; decide, fun a na => ⟨a, v, u, rfl, upd_same, fun dx nd ne => ⟨rfl, dx, [(g, u), (f, v)], upd_same, ?_, ?_, ?_⟩⟩⟩
  · rw [upd_ne ne]; exact upd_same
  · rw [upd_ne ne] at nd; exact nd
  · have nd' : H1 dx = none := by rw [upd_ne ne] at nd; exact nd
    have e : upd (del (upd (upd (upd H1 a (exo a C none)) dx (exd dx [(g, u), (f, v)])) a (exo a C (some dx))) a) dx (.xd [(g, u), (f, v)]) = upd H1 dx (.xd [(g, u), (f, v)]) := by
      funext b
      by_cases hb : b = dx
      · subst hb; rw [upd_same, upd_same]
      · rw [upd_ne hb, upd_ne hb]
        by_cases ha : b = a
        · subst ha; rw [del_same, na]
        · rw [del_ne ha, upd_ne ha, upd_ne hb, upd_ne ha]
    rw [e]
    exact h dx nd'
end Sip
/-! a caught error is lent to a def -/
namespace Sip
open PySem PySem.Spec PyProof.Rows L2 TL
abbrev SuiteOkB (X : Cx) (su : List Stmt) (ts : Addr → Value → Option Addr → TS) : Prop := ∀ (a : Addr) (oe : Obj) (cls : Value) (d : Option Addr) (pn : List (Addr × Obj)), Zc cls d oe → (∃ vs, oe.data = .fields vs) → X.base.get? a = none → PSs (X.suite a ((a, oe) :: pn)) su (ts a cls d)
inductive ClsOkB (X : Cx) : List ExceptHandler → List Cl → Prop
  | nil : ClsOkB X [] []
  | cons {x : Str} {c : Value} {nm : Option Str} {o : Option Nat} {ts : Addr → Value → Option Addr → TS} {st : Stmt} {su : List Stmt} {q1 q2 : Pos} {hs : List ExceptHandler} {l : List Cl} (hc : Names X x c) (ha : AsOk X nm o) (hsu : SuiteOkB X (st :: su) ts) (r : ClsOkB X hs l) :
      ClsOkB X (.ExceptHandler (some (.Name x q1)) nm (st :: su) q2 :: hs) ((c, o, ts) :: l)
section
variable {X : Cx} {pins : List (Addr × Obj)} {a : Addr} {B : Heap} {sI s1 : Shared} {h3 : Heap} {σ : L2.St} {H : Hp} {cls : Value} {d : Option Addr} {D : Ends} {Wo : WX}
/-- it is none of the module's things -/
theorem caught_nobase (C : Caught X pins a B sI s1 h3 σ H cls d) : X.base.get? a = none := by
  cases q : X.base.get? a with
  | none => rfl
  | some o =>
    have h1 := C.inv.bk a o q
    have nf : a ∉ frs X.stack := by
      rw [C.stk]
      intro m
      obtain ⟨e, h2, h3⟩ := List.mem_filterMap.mp m
      rcases List.mem_cons.mp h2 with rfl | h2
      · rw [C.frm] at h3; exact C.nL (Option.some.inj h3).symm
      · exact C.nF (List.mem_filterMap.mpr ⟨e, h2, h3⟩)
    have h2 := C.nb a o h1 nf
    rw [C.fl.2.1] at h2; cases h2
theorem caught_goB (C : Caught X pins a B sI s1 h3 σ H cls d) (tk : Takes X Wo) : ∀ {hs : List ExceptHandler} {l : List Cl}, ClsOkB X hs l → wMix X.K Wo D l cls d σ H → wpAny (model X.prog X.w) X.A (handleBy (.ref a) X.env hs) (SP X pins D) X.xe { s1 with heap := h3 } := by
  intro hs l hk
  induction hk with
  | nil => exact fun w => C.none tk w
  | @cons x c nm o ts st su q1 q2 hs2 l2 hc ha hsu r ih =>
    rintro ⟨b, hb, yes, no⟩
    have J3 := C.at C.fl (Heap.UpToSlots.refl _)
    have nbase := caught_nobase C
    obtain ⟨oe, vs, he, hz, hd⟩ := C.fl.there
    have S3 := J3.suite he hd C.na C.nL C.nF
    refine wpAny_handleBy_cons (codeAny_handlers_test ?_) (by intro q; cases q)
    have knows : PySem.W.Looks (model X.prog X.w) h3 (typeOf (.ref a)) cls := fun _ _ _ _ k q => wpAny_typeOf_ref (k _ _ he) (by rw [hz.1]; exact q)
    have look := PySem.W.exm_one (M := model X.prog X.w) J3.kIn knows hb
    have named : ∀ {Q E : Value → Shared → Prop}, Q c { s1 with heap := h3 } → wpAny (model X.prog X.w) (X.A.mark (some (.ref a))) (eval (.Name x q1) X.env) Q E { s1 with heap := h3 } := fun q => by
      rcases hc with ⟨g1, g2, m1 | ⟨m1, m2, m3⟩⟩
      · exact ld_glob (X := X.suite a ((a, oe) :: (X.pn ++ pins))) S3 g1 m1 q g2
      · exact ld_blt (X := X.suite a ((a, oe) :: (X.pn ++ pins))) S3 g1 m1 m2 q m3 g2
    refine named (look.here ?_)
    cases b with
    | false => exact ih (no rfl)
    | true =>
      cases nm with
      | none =>
        cases o with
        | some i => exact ha.elim
        | none =>
          refine codeAny_handlers_suite (HandSPX.lands_againZ C.fl fun h4 f4 u4 => ?_)
          obtain ⟨oe4, _, e4, z4, d4⟩ := f4.there
          have S4 := (C.at f4 u4).suite e4 d4 C.na C.nL C.nF
          refine wpAny_mono ((hsu a oe4 cls d (X.pn ++ pins) z4 ⟨_, d4⟩ nbase).run [] _ _ H _ S4 (yes rfl a C.na)) (fun f s6 hp => ?_) fun _ _ z => z.elim
          match f, hp with
          | .next, ⟨_, _, S6, q6⟩ => exact ⟨_, _, S6.unsuite C.ok, q6⟩
          | .brk, ⟨_, _, S6, q6⟩ => exact ⟨_, _, S6.unsuite C.ok, q6⟩
          | .cont, ⟨_, _, S6, q6⟩ => exact ⟨_, _, S6.unsuite C.ok, q6⟩
          | .ret _, ⟨_, _, _, S6, r6, q6⟩ => exact ⟨_, _, _, S6.unsuite C.ok, r6, q6⟩
      | some n =>
        cases o with
        | none => exact ha.elim
        | some i =>
          obtain ⟨hN, hi, hl⟩ := ha
          refine codeAny_handlers_suite_as (HandSPX.lands_againZ C.fl fun h4 f4 u4 => ?_)
          obtain ⟨oe4, _, e4, z4, d4⟩ := f4.there
          have S4 := (C.at f4 u4).suite e4 d4 C.na C.nL C.nF
          refine store_ok (X := X.suite a ((a, oe4) :: (X.pn ++ pins))) (v := .ref a) S4 hN hi (.inl hl) rfl (fun s5 S5 => ?_) (.inr hl)
          refine wpAny_mono ((hsu a oe4 cls d (X.pn ++ pins) z4 ⟨_, d4⟩ nbase).run [] s5 _ H _ S5 (yes rfl a C.na)) (fun f s6 hp => ?_) fun _ _ z => z.elim
          have off : ∀ {σ6 : L2.St} {H6 : Hp} {Q : Shared → Prop}, Inv (X.suite a ((a, oe4) :: (X.pn ++ pins))) [] σ6 H6 s6 → (∀ s7, Inv X pins (σ6.set i none) H6 s7 → Q s7) → wpAny (model X.prog X.w) X.A (do bindName X.env n .none; unbindBehindTheSuite X.env n q2) (fun _ s7 => Q s7) X.xe s6 :=
            fun S6 hq => gone_ok (S6.unsuite C.ok) hN hi hl hq
          match f, hp with
          | .next, ⟨_, _, S6, q6⟩ => exact off S6 fun _ J7 => ⟨_, _, J7, q6⟩
          | .brk, ⟨_, _, S6, q6⟩ => exact off S6 fun _ J7 => ⟨_, _, J7, q6⟩
          | .cont, ⟨_, _, S6, q6⟩ => exact off S6 fun _ J7 => ⟨_, _, J7, q6⟩
          | .ret _, ⟨_, _, _, S6, r6, q6⟩ => exact off S6 fun _ J7 => ⟨_, _, _, J7, r6, q6⟩
/-- try: .. except X: .. except Y as n: .. -/
theorem ps_try_mixB {body : List Stmt} {h0 : ExceptHandler} {hs : List ExceptHandler} {l : List Cl} {pos : Pos} {tb : WX → TS} (stk : X.stack = X.env :: X.outer) (frm : X.env.frame = some X.env.locals) (tk : Takes X Wo)
    (hb : ∀ (W : WX) (pn : List (Addr × Obj)) (xe : Value → Shared → Prop), Takes (X.tr pn xe) W → PassesOwn (model X.prog X.w) X.A X.env xe → PSs (X.tr pn xe) body (tb W)) (hh : ClsOkB X (h0 :: hs) l) :
    PS X (.Try body (h0 :: hs) [] [] pos) (fun D σ H => tb (wMix X.K Wo D l) D σ H) := by
  refine ⟨fun pins s σ H D I h => wpAny_Try_except ?_⟩
  have ok := I.ok
  have fr : X.A.frames = some (X.env :: X.outer) := by rw [ok.frames, stk]
  have run := (hb (wMix X.K Wo D l) (X.pn ++ pins) (fun e t1 => wpAny (model X.prog X.w) X.A (noteFrame e X.env) (fun _ t2 => wpAny (model X.prog X.w) X.A (setFlight e none) (fun _ t3 => wpAny (model X.prog X.w) X.A (handleBy e X.env (h0 :: hs)) (SP X pins D) X.xe t3) X.xe t2) X.xe t1) ?_ PassesOwn.looking).run [] s σ H D (I.toTry _) h
  · refine wpAny_mono run (fun f s1 hp => ?_) fun _ _ he => he
    match f, hp with
    | .next, ⟨_, _, J, q⟩ => exact wpAny_execs_nil ⟨_, _, J.ofTry ok, q⟩
    | .brk, ⟨_, _, J, q⟩ => exact ⟨_, _, J.ofTry ok, q⟩
    | .cont, ⟨_, _, J, q⟩ => exact ⟨_, _, J.ofTry ok, q⟩
    | .ret _, ⟨_, _, _, J, r, q⟩ => exact ⟨_, _, _, J.ofTry ok, r, q⟩
  · rintro u s1 ⟨a, B, sI, pins2, σ2, H2, cls, d, rfl, J2, nb, up, sky, na, os, ag, w⟩
    have sky2 : Sky B (X.env :: X.outer) a (Zc cls d) X.env.locals s1.heap := by rw [← stk]; exact sky
    refine Sky.land Zc.steady fr frm sky2 fun h3 f3 u3 => ?_
    obtain ⟨oe, vs, he, _, hd⟩ := f3.there
    have far : a ∉ frs (X.env :: X.outer) := fun m => by
      obtain ⟨_, o2, e2, nf⟩ := f3.2.2.1.mem m
      rw [he] at e2; cases e2
      exact nf _ hd
    have nL : a ≠ X.env.locals := fun z => far (List.mem_filterMap.mpr ⟨X.env, List.mem_cons_self, by rw [frm, z]⟩)
    have nF : a ∉ X.fs := fun m => by
      obtain ⟨e, h1, h2⟩ := List.mem_filterMap.mp m
      exact far (List.mem_filterMap.mpr ⟨e, List.mem_cons_of_mem _ h1, h2⟩)
    exact caught_goB ⟨ok, stk, frm, J2.ofTry ok, nb, up.trans u3, f3, na, nL, nF, os, ag⟩ tk hh w
end

/-- a caught error while a def has it -/
def lentE (o : Obj) : HO := .frz o (.ext fun _ => True)
section
variable {Y : Cx} {pins : List (Addr × Obj)} {σ : L2.St} {H : Hp} {s s' : Shared} {a : Addr} {oe : Obj}
theorem lent_ok {P : Program} {w : World} {h : Heap} (ha : h.get? a = some oe) (hok : HOk P w H h) (na : H a = none) : HOk P w (upd H a (lentE oe)) h := fun b u e => by
  by_cases hb : b = a
  · subst hb; rw [upd_same] at e; cases e
    exact ⟨ha, trivial, ⟨oe, ha⟩, fun _ _ _ _ => trivial⟩
  · rw [upd_ne hb] at e
    exact (hok b u e).stay (fun _ _ _ q => q) (fun c q => by rw [upd_ne (ne_of_none q na)]; exact q) fun c xs q => by rw [upd_ne (ne_of_none q na)]; exact q
theorem lent_env (I : Inv Y pins σ H s) (hp : (a, oe) ∈ Y.pn ++ pins) (nb : Y.base.get? a = none) : Env0 Y.prog Y.w Y.K Y.mg Y.base Y.A Y.stack s (upd H a (lentE oe)) := by
  obtain ⟨ha, na, nL, nF, _⟩ := I.pin _ hp
  have e := I.env0
  refine ⟨e.frames, e.mod, fun b o q => ⟨(e.bs b o q).1, ?_⟩, e.bsz, e.funs, fun b hb => ?_, lent_ok ha e.hok na, e.bare⟩
  · rw [upd_ne (fun z => by rw [z, nb] at q; cases q)]; exact (e.bs b o q).2
  · have : b ≠ a := fun z => by
      subst z
      rcases I.ok.stk with h | ⟨h, hf⟩
      · rw [h] at hb; exact nF hb
      · rw [h] at hb
        obtain ⟨e, h2, h3⟩ := List.mem_filterMap.mp hb
        rcases List.mem_cons.mp h2 with rfl | h2
        · rw [hf] at h3; exact nL (Option.some.inj h3).symm
        · exact nF (List.mem_filterMap.mpr ⟨e, h2, h3⟩)
    rw [upd_ne this]; exact e.frf b hb
theorem lent_back {Q : VK} {u : Value} (I : Inv Y pins σ H s) (hp : (a, oe) ∈ Y.pn ++ pins) (h : CE Y.stack Y.prog Y.w (upd H a (lentE oe)) s (fun v H2 => Q v (del H2 a)) u s') : CE Y.stack Y.prog Y.w H s Q u s' := by
  obtain ⟨ha, na, nL, nF, _⟩ := I.pin _ hp
  obtain ⟨v, H', os, bare, un, hok, r, q⟩ := h
  have eH : H' a = some (lentE oe) := un.frzs a oe _ upd_same
  have ea : s'.heap.get? a = some oe := (hok a _ eH).1
  have nst : a ∉ frs Y.stack := fun hb => by
    rcases I.ok.stk with h | ⟨h, hf⟩
    · rw [h] at hb; exact nF hb
    · rw [h] at hb
      obtain ⟨e, h2, h3⟩ := List.mem_filterMap.mp hb
      rcases List.mem_cons.mp h2 with rfl | h2
      · rw [hf] at h3; exact nL (Option.some.inj h3).symm
      · exact nF (List.mem_filterMap.mpr ⟨e, h2, h3⟩)
  refine ⟨v, del H' a, os, bare, ⟨fun b o e n hb hx => ?_, fun b o e n hb hx => ?_, fun b o e n hx => ?_, fun b o e hx => un.there b o e hx, fun b xs e => ?_, fun b o u e => ?_, fun b ps e => ?_⟩, fun b o e => ?_, r, q⟩
  · by_cases z : b = a
    · subst z; rw [ha] at e; cases e; exact ea
    · exact un.keep b o e (by rw [upd_ne z]; exact n) hb hx
  · have z : b ≠ a := fun z => nst (by rw [← z]; exact hb)
    exact un.slot b o e (by rw [upd_ne z]; exact n) hb hx
  · by_cases z : b = a
    · subst z; exact del_same
    · rw [del_ne z]; exact un.free b o e (by rw [upd_ne z]; exact n) hx
  · have z : b ≠ a := ne_of_none e na
    rw [del_ne z]; exact un.tups b xs (by rw [upd_ne z]; exact e)
  · have z : b ≠ a := ne_of_none e na
    rw [del_ne z]; exact un.frzs b o u (by rw [upd_ne z]; exact e)
  · have z : b ≠ a := ne_of_none e na
    rw [del_ne z]; exact un.tbls b ps (by rw [upd_ne z]; exact e)
  · by_cases z : b = a
    · subst z; rw [del_same] at e; cases e
    · rw [del_ne z] at e
      exact (hok b o e).stay (fun _ _ _ q => q) (fun c q => by rw [del_ne (fun z => by rw [z, eH] at q; cases q)]; exact q) fun c xs q => by rw [del_ne (fun z => by rw [z, eH] at q; cases q)]; exact q
end
section
variable {X : Cx} {CX : CXT} {k : Nat} {f : Addr} {fd : FuncData} {ps : List Str} {sp : Sp} {x : Str} {p pos : Pos} {e : Expr} {te : TE}
def one1 (P : V → Hp → Prop) : List V → Hp → Prop
  | [x], H => P x H
  | _, _ => False
/-- f(e) in a suite: e is the error that the suite holds -/
def tCallE (sp : Sp) (a : Addr) (cls : Value) (d : Option Addr) (te : TE) : TE := fun σ H Q => te σ H fun x H1 => x = .ref a ∧ (H1 a = none → ∀ o, Zc cls d o → (∃ vs, o.data = .fields vs) → sp [.ref a] (upd H1 a (lentE o)) (fun v H2 => Q v (del H2 a)) (fun _ _ _ => False))
theorem pe_callE {a : Addr} {oe : Obj} {cls : Value} {d : Option Addr} {pn : List (Addr × Obj)} (F : FnC X.prog X.w X.K X.mg X.base k f fd ps sp) (hr : L2H.RoomH k (X.suite a ((a, oe) :: pn)).A) (hg : Gl (X.suite a ((a, oe) :: pn)) x) (hm : X.mg x = some (.ref f)) (hk : PySem.W.keepIn X.K (.ref f) = true) (hb : Binds X.K fd ps [])
    (hz : Zc cls d oe) (hf : ∃ vs, oe.data = .fields vs) (hnb : X.base.get? a = none) (he0 : PE (X.suite a ((a, oe) :: pn)) e te)
    (hdb : (x == ("__debug__" : Str)) = false := by decide) (he : starEach [e] X.env = (false, eval e X.env) :: starEach [] X.env := by rfl) (hpl : (backTo pos (starEach [] X.env)).any (·.1) = false := by rfl) :
    PE (X.suite a ((a, oe) :: pn)) (.Call (.Name x p) [e] [] pos) (tCallE sp a cls d te) := by
  refine ⟨fun pins s σ H Q I h => ?_⟩
  refine wpAny_Call_Name_kw (ld_glob I hg hm ?_ hdb)
  have ha : PA (X.suite a ((a, oe) :: pn)) [e] (tCons te tNil) := pa_cons he0 pa_nil (hs := he)
  have h' : tCons te tNil σ H (one1 fun x H1 => x = .ref a ∧ (H1 a = none → ∀ o, Zc cls d o → (∃ vs, o.data = .fields vs) → sp [.ref a] (upd H1 a (lentE o)) (fun v H2 => Q v (del H2 a)) (fun _ _ _ => False))) := h
  refine PySem.W.callWith_K (h₀ := X.base) I.ok.mod.kin hk (thn (ha.run pos pins s σ H _ I h') fun us s1 ⟨vs, H1, I1, r, q⟩ => ⟨I1.kIn, ?_⟩) he hpl
  match vs, q with
  | [x], q =>
  obtain ⟨rfl, q⟩ := q
  have hp : (a, oe) ∈ (X.suite a ((a, oe) :: pn)).pn ++ pins := List.mem_append_left _ List.mem_cons_self
  have na := (I1.pin _ hp).2.1
  have q := q na oe hz hf
  have hl : us.length = ps.length := by rw [← r.length]; exact F.len _ _ _ _ q
  have b := hb s1 us I1.kIn (by rw [List.append_nil]; exact hl)
  rw [List.append_nil] at b
  refine wpAny_call (codeAny_mono (F.run _ _ s1 _ ⟨us, []⟩ us _ _ _ hr (lent_env I1 hp hnb) b r q) fun r s' hq => ?_)
  match r, hq with
  | .error e, hq => exact hq.elim
  | .ok (.ret u), hq => exact I1.after (lent_back I1 hp hq)
  | .ok .next, hq => exact hq.elim
  | .ok .brk, hq => exact hq.elim
  | .ok .cont, hq => exact hq.elim
/-- isinstance of it, in the def that has it -/
def rIsL (K : PySem.W.Frag) : List V → Hp → VK → Prop := fun xs H Q => ∃ (a D : Addr) (o : Obj) (d : Option Addr), H a = some (lentE o) ∧ Zc (.ref D) d o ∧ (∃ vs, o.data = .fields vs) ∧ ExcC K D ∧ (d = none ∨ ∃ dd fs, d = some dd ∧ H dd = some (.xd fs)) ∧ rIsE K D a xs H Q
theorem call_isL : CallR X (.builtin "isinstance") (rIsL X.K) := by
  intro pins s σ H xs us Q I r h
  obtain ⟨a, D, o, d, eo, hz, hf, C, hd, c, cv, b, rfl, hcv, e, q⟩ := h
  obtain ⟨u1, u2, rfl, r1, r2⟩ := vals2 r
  obtain rfl : u1 = Value.ref a := r1
  obtain rfl := hcv _ r2
  have ha : s.heap.get? a = some o := (I.hok a _ eo).1
  obtain ⟨od, J⟩ := inst_of I ha hz hf hd
  have hcl : (PySem.W.clsIn X.K D).isSome = true := by
    obtain ⟨cd, h1, _⟩ := PySem.W.any_some C.hd
    rw [h1]; rfl
  exact PySem.W.kia_one (PySem.W.kitx_exc hcl C.hg C.hk C.hs C.ha C.hn C.ht C.hm) I.kIn J e (fun z => nomatch z) fun tk => ⟨.bl b, H, I.kept (t' := tk) fun _ _ z => z, rfl, q⟩
/-- list.count of flat things -/
def rCntV (K : PySem.W.Frag) : V → List V → Hp → VK → Prop := fun x xs H Q => ∃ (a : Addr) (ys : List V) (y : V), x = V.ref a ∧ xs = [y] ∧ SqL K H a ys ∧ flatV y = true ∧ ys.all flatV = true ∧ Q (.int (ys.countP fun z => eqV z y : Nat)) H
theorem cnt_eq {y : V} : ∀ {ys : List V} {us : List Value}, Vals ys us → ys.all flatV = true → us.countP (eqU y) = ys.countP fun z => eqV z y
  | _, _, .nil, _ => rfl
  | _, _, .cons r t, h => by
    rw [List.all_cons, Bool.and_eq_true] at h
    rw [List.countP_cons, List.countP_cons, cnt_eq t h.2, eqU_of r h.1]
theorem mt_countV : MtR X "list.count" (rCntV X.K) := by
  intro pins s σ H x xs v us Q I rx rxs h
  obtain ⟨a, ys, y, rfl, rfl, hs, fy, fys, q⟩ := h
  cases rx
  cases rxs with
  | cons ry rt =>
    rename_i uy ut
    cases rt
    obtain ⟨its, rv, ⟨⟨cls, dd, data, sl⟩, n, ho, hc, hdn, hd⟩, hlen⟩ := I.list hs
    simp only at hc hd
    subst hc hd
    refine call_meets PySem.F.slot_list_count ⟨_, ho, rfl⟩ PySem.F.entry_list_count (PySem.F.args_list_count_2 _ _)
      (SeqAt.list_countAt a its.toArray n dd sl uy (eqU y)) ⟨ho, fun u' hu' => mem_eqAt ry fy rv fys u' (by simpa using hu'), ?_⟩
    have ec : its.toArray.toList.countP (eqU y) = ys.countP fun z => eqV z y := cnt_eq rv fys
    refine ⟨.int (ys.countP fun z => eqV z y : Nat), H, I.tok _, ⟨s.toks, ?_⟩, q⟩
    show Value.int ((its.toArray.toList.countP (eqU y) : Nat) : Int) s.toks = Value.int ((ys.countP fun z => eqV z y : Nat) : Int) s.toks
    rw [ec]
end
end Sip
/-! except C: ..; raise -/
namespace Sip
open PySem PySem.Spec PyProof.Rows L2 TL
/-- a caught error that stands to be raised again: its class, its traceback at T -/
structure Ag (X : Cx) (a : Addr) (oe : Obj) (T : Addr) (oT : Obj) (cls : Value) (d : Option Addr) (pn : List (Addr × Obj)) : Prop where
  ok : X.Ok
  hz : Zc cls d oe
  dat : ∃ vs, oe.data = .fields vs ∧ vs[1]? = some (.ref T)
  tb : ∃ ts, oT.data = .fields ts ∧ ts[3]? = some .none
  ne : T ≠ a
  old : ∀ b o, X.s_0.heap.get? b = some o → b ∉ X.ex → b ≠ a ∧ b ≠ T
  pns : ∀ p ∈ X.pn, p ∈ pn ∧ p.1 ≠ a ∧ p.1 ≠ T
section
variable {X : Cx} {a T : Addr} {oe oT : Obj} {cls : Value} {d : Option Addr} {pn : List (Addr × Obj)} {Wout : WX} {rp : Pos}
abbrev agX (X : Cx) (a : Addr) (oe : Obj) (T : Addr) (oT : Obj) (pn : List (Addr × Obj)) : Cx := L2H.suiteX X a ((a, oe) :: (T, oT) :: pn)
/-- a bare raise in the suite -/
theorem ps_again (stk : X.stack = X.env :: X.outer) (frm : X.env.frame = some X.env.locals) (tk : Takes X Wout) (g : Ag X a oe T oT cls d pn) : PS (agX X a oe T oT pn) (.Raise none none rp) (fun _ σ H => Wout cls d σ H) := by
  refine ⟨fun pins s σ H D I h => wpAny_Raise_bare ?_⟩
  obtain ⟨ha, na, aL, aF, _⟩ := I.pin (a, oe) (List.mem_append_left _ List.mem_cons_self)
  obtain ⟨hT, nT, TL, TF, _⟩ := I.pin (T, oT) (List.mem_append_left _ (List.mem_cons_of_mem _ List.mem_cons_self))
  dsimp only at ha na aL aF hT nT TL TF
  obtain ⟨vs, hd, h1⟩ := g.dat
  obtain ⟨ts, hdT, h3⟩ := g.tb
  have sz : 3 < ts.size := (Array.getElem?_eq_some_iff.mp h3).1
  suffices go : X.xe (.ref a) { s with heap := s.heap.update T (Obj.mapFields (·.setIfInBounds 3 (rawInt X.env.locals))) } by
    unfold raiseBare raiseStmt
    dsimp only
    refine wpAny_bind (wpAny_handled ?_)
    show wpAny _ _ (match (some (Value.ref a) : Option Value) with | _ => _) _ _ _
    dsimp only
    refine wpAny_bind (wpAny_rule ?_)
    refine wpAny_bind (wpAny_field ha hd h1 ?_)
    rw [if_neg (show ¬ ((Value.ref T == Value.none) = true) from by simp)]
    rw [show (agX X a oe T oT pn).env.frame = some X.env.locals from frm]
    first
      | exact wpAny_bind (setFlight_tb (fr := some X.env.locals) ha hd h1 hT hdT sz (wpAny_throw go))
      | exact wpAny_bind (wpAny_pure (wpAny_bind (setFlight_tb (fr := some X.env.locals) ha hd h1 hT hdT sz (wpAny_throw go))))
  have two : ∀ b, b ≠ a → b ≠ T → b ∉ [a, T] := fun b x y => by simp [x, y]
  have hid : ∀ b o, s.heap.get? b = some o → b ≠ a → b ≠ T → (PySem.W.hideAll s.heap [a, T]).get? b = some o := fun b o e x y => PySem.W.hideAll_get _ e (two b x y)
  have off : ∀ b o, (PySem.W.hideAll s.heap [a, T]).get? b = some o → b ≠ a ∧ b ≠ T := fun b o e => by
    constructor
    · rintro rfl; rw [PySem.W.hideAll_none _ (by simp)] at e; cases e
    · rintro rfl; rw [PySem.W.hideAll_none _ (by simp)] at e; cases e
  have cel : ∀ c v, s.heap.IsCell c v → (PySem.W.hideAll s.heap [a, T]).IsCell c v := fun c v ⟨o, ho, hc⟩ => by
    refine ⟨o, hid c o ho ?_ ?_, hc⟩
    · rintro rfl; rw [ha] at ho; cases ho; rw [hd] at hc; cases hc
    · rintro rfl; rw [hT] at ho; cases ho; rw [hdT] at hc; cases hc
  have J : Inv X [] σ H { s with heap := PySem.W.hideAll s.heap [a, T] } := by
    refine ⟨g.ok, I.os, I.bare, ⟨fun b o e n hb hx => ?_, fun b o e n hb hx => ?_, I.base.free, fun b o e hx => ?_, I.base.tups, I.base.frzs, I.base.tbls⟩, ?_, fun x c e => ?_, I.free, I.freeC, fun p hp => ?_, fun b u e => ?_, I.len⟩
    · exact hid b o (I.base.keep b o e n hb hx) (g.old b o e hx).1 (g.old b o e hx).2
    · obtain ⟨sl, q⟩ := I.base.slot b o e n hb hx
      exact ⟨sl, hid b _ q (g.old b o e hx).1 (g.old b o e hx).2⟩
    · obtain ⟨o', q⟩ := I.base.there b o e hx
      exact ⟨o', hid b _ q (g.old b o e hx).1 (g.old b o e hx).2⟩
    · obtain ⟨m, ⟨o, es, ep, ho, r⟩, hl⟩ := I.loc
      refine ⟨m, ⟨o, es, ep, hid _ o ho aL.symm TL.symm, r⟩, fun i x v e1 e2 e3 => ?_⟩
      obtain ⟨u, ru, lk⟩ := hl i x v e1 e2 e3
      refine ⟨u, ru, ?_⟩
      rcases lk with lk | ⟨k, c, e, ic⟩
      · exact .inl lk
      · exact .inr ⟨k, c, e, cel c _ ic⟩
    · obtain ⟨v, ic⟩ := I.cell x c e
      exact ⟨v, cel c v ic⟩
    · rw [List.append_nil] at hp
      obtain ⟨p1, p2, p3⟩ := g.pns p hp
      obtain ⟨q1, q2⟩ := I.pin p (List.mem_append_left _ (List.mem_cons_of_mem _ (List.mem_cons_of_mem _ p1)))
      exact ⟨hid _ _ q1 p2 p3, q2⟩
    · refine (I.hok b u e).stay (fun c v hc q => ?_) (fun _ q => q) fun _ _ q => q
      rcases hc with rfl | hc
      · exact hid _ _ q (ne_of_none e na) (ne_of_none e nT)
      · exact hid _ _ q (ne_of_none hc na) (ne_of_none hc nT)
  have upT : ∀ b o, b ≠ T → s.heap.get? b = some o → (s.heap.update T (Obj.mapFields (·.setIfInBounds 3 (rawInt X.env.locals)))).get? b = some o := fun b o x e => (Heap.get?_update_other _ _ (Ne.symm x)).trans e
  refine tk _ _ ⟨a, PySem.W.hideAll s.heap (a :: T :: frs X.stack), _, [], σ, H, cls, d, rfl, J, fun b o e nb => ?_, fun b o e _ => ⟨o.slots, upT b o (off b o e).2 (PySem.W.of_hideAll _ e)⟩, .inr (.inr ⟨fun b o e => ?_, PySem.W.hideAll_none _ (by simp), ?_, ?_⟩), na, rfl, I.bare, h⟩
  · refine PySem.W.hideAll_get _ (PySem.W.of_hideAll _ e) fun m => ?_
    rcases List.mem_cons.mp m with z | m
    · exact (off b o e).1 z
    rcases List.mem_cons.mp m with z | m
    · exact (off b o e).2 z
    · exact nb m
  · refine upT b o (fun z => ?_) (PySem.W.of_hideAll _ e)
    rw [z, PySem.W.hideAll_none _ (by simp)] at e; cases e
  · refine Heap.FunFrames.of_keeps (fun b o e nf => ⟨o, upT b o (fun z => ?_) e, rfl⟩) (funFrames_none (show s.heap.FunFrames X.base X.stack from I.stack) fun b hb => PySem.W.hideAll_none _ (List.mem_cons_of_mem _ (List.mem_cons_of_mem _ hb)))
    rw [z, hT] at e; cases e
    exact nf _ hdT
  · exact ⟨oe, vs, T, _, _, upT a oe g.ne.symm ha, g.hz, hd, h1, PySem.W.hideAll_none _ (by simp), g.ne, Heap.get?_update_self _ hT (Obj.isFreed_of_fields (Obj.data_mapFields hdT _)), Obj.data_mapFields hdT _, by simp [sz]⟩
end
end Sip
namespace Sip
open PySem PySem.Spec PyProof.Rows L2 TL
section
variable {X : Cx} {x : Str} {c : Value} {body : List Stmt} {b₀ : Stmt} {suite : List Stmt} {np pos pos' : Pos} {tb : WX → TS} {ts : Addr → Value → Option Addr → TS} {Wout : WX}
theorem stk_in {X : Cx} (stk : X.stack = X.env :: X.outer) (frm : X.env.frame = some X.env.locals) {a : Addr} (nL : a ≠ X.env.locals) (nF : a ∉ X.fs) : a ∉ frs X.stack := by
  rw [stk]
  intro m
  obtain ⟨e, h2, h3⟩ := List.mem_filterMap.mp m
  rcases List.mem_cons.mp h2 with rfl | h2
  · rw [frm] at h3; exact nL (Option.some.inj h3).symm
  · exact nF (List.mem_filterMap.mpr ⟨e, h2, h3⟩)
theorem okX {X : Cx} (ok : X.Ok) (a : Addr) (pn : List (Addr × Obj)) : (L2H.suiteX X a pn).Ok :=
  ⟨ok.mod, ok.kind, ok.glob, ok.blt, ok.above, ok.inj, ok.has, ok.cab, (fun z => absurd (show false = true from z) Bool.false_ne_true), ok.frames, ok.stk, ok.exf, ok.bs, ok.bsz, ok.noex, ok.exfs, ok.funs, ok.frf⟩
/-- try: .. except C: .. (a suite that may raise the error again) -/
theorem ps_try_again (stk : X.stack = X.env :: X.outer) (frm : X.env.frame = some X.env.locals) (hc : Names X x c) (hpa : ∀ hd : Option Value, PassesOwnAt (model X.prog X.w) (X.A.mark hd) X.A X.env X.xe) (tk : Takes X Wout)
    (hb : ∀ (W : WX) (pn : List (Addr × Obj)) (xe : Value → Shared → Prop), Takes (X.tr pn xe) W → PassesOwn (model X.prog X.w) X.A X.env xe → PSs (X.tr pn xe) body (tb W))
    (hsu : ∀ (a : Addr) (oe : Obj) (T : Addr) (oT : Obj) (cls : Value) (d : Option Addr) (pn : List (Addr × Obj)), Ag X a oe T oT cls d pn → PSs (agX X a oe T oT pn) (b₀ :: suite) (ts a cls d)) :
    PS X (.Try body [.ExceptHandler (some (.Name x np)) none (b₀ :: suite) pos'] [] [] pos) (fun D σ H => tb (wOnly X.K c ts Wout D) D σ H) := by
  refine ⟨fun pins s σ H D I h => wpAny_Try_except ?_⟩
  have ok := I.ok
  have fr : X.A.frames = some (X.env :: X.outer) := by rw [ok.frames, stk]
  have run := (hb (wOnly X.K c ts Wout D) (X.pn ++ pins) (fun e t1 => wpAny (model X.prog X.w) X.A (noteFrame e X.env) (fun _ t2 => wpAny (model X.prog X.w) X.A (setFlight e none) (fun _ t3 => wpAny (model X.prog X.w) X.A (handleBy e X.env [.ExceptHandler (some (.Name x np)) none (b₀ :: suite) pos']) (SP X pins D) X.xe t3) X.xe t2) X.xe t1) ?_ PassesOwn.looking).run [] s σ H D (I.toTry _) h
  · refine wpAny_mono run (fun f s1 hp => ?_) fun _ _ he => he
    match f, hp with
    | .next, ⟨_, _, J, q⟩ => exact wpAny_execs_nil ⟨_, _, J.ofTry ok, q⟩
    | .brk, ⟨_, _, J, q⟩ => exact ⟨_, _, J.ofTry ok, q⟩
    | .cont, ⟨_, _, J, q⟩ => exact ⟨_, _, J.ofTry ok, q⟩
    | .ret _, ⟨_, _, _, J, r, q⟩ => exact ⟨_, _, _, J.ofTry ok, r, q⟩
  · rintro u s1 ⟨a, B, sI, pins2, σ2, H2, cls, d, rfl, J2, nb, up, sky, na, os, ag, b, hb1, yes, no⟩
    have sky2 : Sky B (X.env :: X.outer) a (Zc cls d) X.env.locals s1.heap := by rw [← stk]; exact sky
    refine Sky.land Zc.steady fr frm sky2 fun h3 f3 u3 => ?_
    obtain ⟨oe, vs, he, hz, hd⟩ := f3.there
    have far : a ∉ frs (X.env :: X.outer) := fun m => by
      obtain ⟨_, o2, e2, nf⟩ := f3.2.2.1.mem m
      rw [he] at e2; cases e2
      exact nf _ hd
    have nL : a ≠ X.env.locals := fun z => far (List.mem_filterMap.mpr ⟨X.env, List.mem_cons_self, by rw [frm, z]⟩)
    have nF : a ∉ X.fs := fun m => by
      obtain ⟨e, h1, h2⟩ := List.mem_filterMap.mp m
      exact far (List.mem_filterMap.mpr ⟨e, List.mem_cons_of_mem _ h1, h2⟩)
    have C : Caught X pins a B sI s1 h3 σ2 H2 cls d := ⟨ok, stk, frm, J2.ofTry ok, nb, up.trans u3, f3, na, nL, nF, os, ag⟩
    have J3 := C.at C.fl (Heap.UpToSlots.refl _)
    have S3 := J3.suite he hd C.na C.nL C.nF
    refine wpAny_handleBy_cons (codeAny_handlers_test ?_) (by intro q; cases q)
    have knows : PySem.W.Looks (model X.prog X.w) h3 (typeOf (.ref a)) cls := fun _ _ _ _ k q => wpAny_typeOf_ref (k _ _ he) (by rw [hz.1]; exact q)
    have look := PySem.W.exm_one (M := model X.prog X.w) J3.kIn knows hb1
    have named : ∀ {Q E : Value → Shared → Prop}, Q c { s1 with heap := h3 } → wpAny (model X.prog X.w) (X.A.mark (some (.ref a))) (eval (.Name x np) X.env) Q E { s1 with heap := h3 } := fun q => by
      rcases hc with ⟨g1, g2, m1 | ⟨m1, m2, m3⟩⟩
      · exact ld_glob (X := X.suite a ((a, oe) :: (X.pn ++ pins))) S3 g1 m1 q g2
      · exact ld_blt (X := X.suite a ((a, oe) :: (X.pn ++ pins))) S3 g1 m1 m2 q m3 g2
    refine named (look.here ?_)
    cases b with
    | false => exact C.none tk (no rfl)
    | true =>
      refine codeAny_handlers_suite (HandSPX.lands_againZ C.fl fun h4 f4 u4 => ?_)
      have J4 := C.at f4 u4
      obtain ⟨k1, k2, k3, oe4, vs4, T, oT, tss, e4, z4, d4, v4, bT, Ta, eT, dT, t3⟩ := id f4
      have farT : T ∉ frs X.stack := fun m => by
        rw [stk] at m
        obtain ⟨_, o2, e2, nf⟩ := f4.2.2.1.mem m
        rw [eT] at e2; cases e2
        exact nf _ dT
      have TL : T ≠ X.env.locals := fun z => farT (by rw [stk]; exact List.mem_filterMap.mpr ⟨X.env, List.mem_cons_self, by rw [frm, z]⟩)
      have TF : T ∉ X.fs := fun m => by
        obtain ⟨e, h1, h2⟩ := List.mem_filterMap.mp m
        exact farT (by rw [stk]; exact List.mem_filterMap.mpr ⟨e, List.mem_cons_of_mem _ h1, h2⟩)
      have farA : a ∉ frs X.stack := by rw [stk]; exact far
      -- what stood ahead of the error is neither it nor its traceback
      have away : ∀ b o, sI.heap.get? b = some o → b ≠ a ∧ b ≠ T := fun b o e => by
        constructor
        · rintro rfl
          have := nb b o e farA
          rw [k2] at this; cases this
        · rintro rfl
          have := nb b o e farT
          rw [bT] at this; cases this
      have I2 : Inv X pins σ2 H2 sI := J2.ofTry ok
      have nT : H2 T = none := by
        cases q : H2 T with
        | none => rfl
        | some u =>
          obtain ⟨o, e⟩ := objOk_get (I2.hok T u q)
          exact absurd rfl (away T o e).2
      have G : Ag X a oe4 T oT cls d (X.pn ++ pins) := ⟨ok, z4, ⟨vs4, d4, v4⟩, ⟨tss, dT, t3⟩, Ta, fun b o e hx => by
        obtain ⟨o', q⟩ := I2.base.there b o e hx
        exact away b o' q, fun p hp => ⟨List.mem_append_left _ hp, away _ _ (I2.pin p (List.mem_append_left _ hp)).1⟩⟩
      have S4 : Inv (agX X a oe4 T oT (X.pn ++ pins)) [] σ2 H2 { s1 with heap := h4 } := by
        refine ⟨okX ok _ _, J4.os, J4.bare, J4.base, J4.loc, J4.cell, J4.free, J4.freeC, fun p hp => ?_, J4.hok, J4.len⟩
        rw [List.append_nil] at hp
        rcases List.mem_cons.mp hp with e | hp
        · rw [e]; exact ⟨e4, na, nL, nF, fun v z => by have z' : oe4.data = .cell v := z; rw [d4] at z'; cases z'⟩
        rcases List.mem_cons.mp hp with e | hp
        · rw [e]; exact ⟨eT, nT, TL, TF, fun v z => by have z' : oT.data = .cell v := z; rw [dT] at z'; cases z'⟩
        · exact J4.pin p hp
      refine wpAny_mono ((hsu a oe4 T oT cls d (X.pn ++ pins) G).run [] _ _ H2 _ S4 (yes rfl a na)) (fun f s6 hp => ?_) fun e6 s6 z => hpa (some (.ref a)) e6 s6 z
      have back : ∀ {σ6 : L2.St} {H6 : Hp}, Inv (agX X a oe4 T oT (X.pn ++ pins)) [] σ6 H6 s6 → Inv X pins σ6 H6 s6 := fun S6 => ⟨ok, S6.os, S6.bare, S6.base, S6.loc, S6.cell, S6.free, S6.freeC, fun p hp => S6.pin p (List.mem_append_left _ (List.mem_cons_of_mem _ (List.mem_cons_of_mem _ hp))), S6.hok, S6.len⟩
      match f, hp with
      | .next, ⟨_, _, S6, q6⟩ => exact ⟨_, _, back S6, q6⟩
      | .brk, ⟨_, _, S6, q6⟩ => exact ⟨_, _, back S6, q6⟩
      | .cont, ⟨_, _, S6, q6⟩ => exact ⟨_, _, back S6, q6⟩
      | .ret _, ⟨_, _, _, S6, r6, q6⟩ => exact ⟨_, _, _, back S6, r6, q6⟩
end
end Sip
/-! a device -/
namespace Sip
open PySem PySem.Spec PyProof.Rows L2 TL
structure Dad where
  d : Addr
  c : Addr
  p : Addr
  l : Addr
structure Dst where
  seek : Bool
  spot : Nat
  bar : Bool
  ns : List Nt
  cells : List Int
  plan : List Int
  used : Nat
def dfs (A : Dad) (seek : Bool) (spot : Nat) (bar : Bool) (used : Nat) : Fs := [("can_seek", .bl seek), ("spot", .int spot), ("barred", .bl bar), ("notes", .ref A.l), ("cells", .ref A.c), ("plan", .ref A.p), ("used", .int used)]
structure DevIn (CD : Addr) (H : Hp) (A : Dad) (S : Dst) (dd : Addr) (vs : List V) (G : Addr → Prop) : Prop where
  hd : H A.d = some (.ins CD dd (dfs A S.seek S.spot S.bar S.used))
  hc : H A.c = some (.lst (S.cells.map V.int))
  hp : H A.p = some (.lst (S.plan.map V.int))
  hl : H A.l = some (.lst vs)
  nn : Nts H G vs S.ns
  al : ∀ b, G b → ∃ o, H b = some o
  ag : ∀ b, G b → b ≠ A.d ∧ b ≠ A.c ∧ b ≠ A.p ∧ b ≠ A.l
  d1 : A.c ≠ A.p
  d2 : A.c ≠ A.l
  d3 : A.p ≠ A.l
def Own4 (A : Dad) (b : Addr) : Prop := b = A.d ∨ b = A.c ∨ b = A.p ∨ b = A.l
def DevAt (CD : Addr) (H : Hp) (A : Dad) (F : Addr → Prop) (S : Dst) : Prop := ∃ dd vs G, DevIn CD H A S dd vs G ∧ ∀ b, F b ↔ Own4 A b ∨ G b
section
variable {CD : Addr} {H H' : Hp} {A : Dad} {S : Dst} {dd : Addr} {vs : List V} {G F : Addr → Prop}
theorem DevIn.nes (h : DevIn CD H A S dd vs G) : A.c ≠ A.d ∧ A.p ≠ A.d ∧ A.l ≠ A.d := ⟨lst_ins h.hc h.hd, lst_ins h.hp h.hd, lst_ins h.hl h.hd⟩
theorem DevAt.loc (h : DevAt CD H A F S) (k : ∀ b o, F b → H b = some o → H' b = some o) : DevAt CD H' A F S := by
  obtain ⟨dd, vs, G, I, hF⟩ := h
  have o4 : ∀ {b o}, Own4 A b → H b = some o → H' b = some o := fun {b o} z e => k b o ((hF b).mpr (.inl z)) e
  have kg : ∀ b o, G b → H b = some o → H' b = some o := fun b o z e => k b o ((hF b).mpr (.inr z)) e
  exact ⟨dd, vs, G, ⟨o4 (.inl rfl) I.hd, o4 (.inr (.inl rfl)) I.hc, o4 (.inr (.inr (.inl rfl))) I.hp, o4 (.inr (.inr (.inr rfl))) I.hl, I.nn.keep kg (fun _ z => z), fun b z => (I.al b z).elim fun o e => ⟨o, kg b o z e⟩, I.ag, I.d1, I.d2, I.d3⟩, hF⟩
theorem DevAt.same (h : DevAt CD H A F S) (s : Same H H') : DevAt CD H' A F S := h.loc fun b o _ e => s b o e
theorem DevAt.kp {qs : List Addr} (h : DevAt CD H A F S) (k : Kp qs H H') (n : ∀ q ∈ qs, ¬ F q) : DevAt CD H' A F S := h.loc fun b o f e => k b o (fun z => n b z f) e
theorem DevAt.own (h : DevAt CD H A F S) : ∀ b, F b → ∃ o, H b = some o := by
  obtain ⟨dd, vs, G, I, hF⟩ := h
  intro b z
  rcases (hF b).mp z with (rfl | rfl | rfl | rfl) | z
  · exact ⟨_, I.hd⟩
  · exact ⟨_, I.hc⟩
  · exact ⟨_, I.hp⟩
  · exact ⟨_, I.hl⟩
  · exact I.al b z
theorem DevAt.new {q : Addr} (h : DevAt CD H A F S) (n : H q = none) : ¬ F q := fun f => by
  obtain ⟨o, e⟩ := h.own q f
  rw [n] at e; cases e
/-- its own fields are put anew -/
theorem DevIn.setd (I : DevIn CD H A S dd vs G) (spot : Nat) (bar : Bool) (used : Nat) : DevIn CD (upd H A.d (.ins CD dd (dfs A S.seek spot bar used))) A { S with spot := spot, bar := bar, used := used } dd vs G := by
  obtain ⟨n1, n2, n3⟩ := I.nes
  have kg : ∀ x o, G x → H x = some o → (upd H A.d (.ins CD dd (dfs A S.seek spot bar used))) x = some o := fun x o z e => by rw [upd_ne (I.ag x z).1]; exact e
  exact ⟨upd_same, by rw [upd_ne n1]; exact I.hc, by rw [upd_ne n2]; exact I.hp, by rw [upd_ne n3]; exact I.hl, I.nn.keep kg (fun _ z => z), fun b z => (I.al b z).elim fun o e => ⟨o, kg b o z e⟩, I.ag, I.d1, I.d2, I.d3⟩
/-- the row, in its list -/
theorem DevIn.setc (I : DevIn CD H A S dd vs G) (xs : List Int) : DevIn CD (upd H A.c (.lst (xs.map V.int))) A { S with cells := xs } dd vs G := by
  obtain ⟨n1, n2, n3⟩ := I.nes
  have kg : ∀ x o, G x → H x = some o → (upd H A.c (.lst (xs.map V.int))) x = some o := fun x o z e => by rw [upd_ne (I.ag x z).2.1]; exact e
  exact ⟨by rw [upd_ne n1.symm]; exact I.hd, upd_same, by rw [upd_ne I.d1.symm]; exact I.hp, by rw [upd_ne I.d2.symm]; exact I.hl, I.nn.keep kg (fun _ z => z), fun b z => (I.al b z).elim fun o e => ⟨o, kg b o z e⟩, I.ag, I.d1, I.d2, I.d3⟩
/-- the row, in another list c -/
theorem DevIn.newc (I : DevIn CD H A S dd vs G) {c : Addr} {xs : List Int} (hc : H c = some (.lst (xs.map V.int))) (nF : ¬ (Own4 A c ∨ G c)) :
    DevIn CD (upd H A.d (.ins CD dd (dfs { A with c := c } S.seek S.spot S.bar S.used))) { A with c := c } { S with cells := xs } dd vs G := by
  obtain ⟨n1, n2, n3⟩ := I.nes
  have cd : c ≠ A.d := fun z => nF (.inl (.inl z))
  have kg : ∀ x o, G x → H x = some o → (upd H A.d (.ins CD dd (dfs { A with c := c } S.seek S.spot S.bar S.used))) x = some o := fun x o z e => by rw [upd_ne (I.ag x z).1]; exact e
  exact ⟨upd_same, by rw [upd_ne cd]; exact hc, by show (upd H A.d _) A.p = _; rw [upd_ne n2]; exact I.hp, by show (upd H A.d _) A.l = _; rw [upd_ne n3]; exact I.hl, I.nn.keep kg (fun _ z => z), fun b z => (I.al b z).elim fun o e => ⟨o, kg b o z e⟩,
    fun b z => ⟨(I.ag b z).1, fun y => nF (.inr (by rw [← show b = c from y]; exact z)), (I.ag b z).2.2.1, (I.ag b z).2.2.2⟩, fun z => nF (.inl (.inr (.inr (.inl z)))), fun z => nF (.inl (.inr (.inr (.inr z)))), I.d3⟩
/-- a note more: its tuple new, its lists G0 handed over -/
theorem DevIn.note (I : DevIn CD H A S dd vs G) {t : Addr} {n : Nt} {hv cv : V} {G0 : Addr → Prop} (nt : H t = none) (h0 : TgAt H G0 hv n.h) (c0 : TgAt H G0 cv n.c) (ok : NtOk n) (ep : n.p = S.spot) (a0 : ∀ b, G0 b → ∃ o, H b = some o) (n0 : ∀ b, G0 b → ¬ Own4 A b) :
    DevIn CD (upd (upd H t (.tup [.str n.w, .int S.spot, hv, cv])) A.l (.lst (vs ++ [.ref t]))) A { S with ns := S.ns ++ [n] } dd (vs ++ [.ref t]) (fun b => G b ∨ b = t ∨ G0 b) := by
  obtain ⟨n1, n2, n3⟩ := I.nes
  have ne : ∀ {b o}, H b = some o → b ≠ t := fun {b o} e => ne_of_none e nt
  have kp : ∀ b o, b ≠ A.l → H b = some o → (upd (upd H t (.tup [.str n.w, .int S.spot, hv, cv])) A.l (.lst (vs ++ [.ref t]))) b = some o := fun b o z e => by rw [upd_ne z, upd_ne (ne e)]; exact e
  have kg : ∀ b o, G b → H b = some o → (upd (upd H t (.tup [.str n.w, .int S.spot, hv, cv])) A.l (.lst (vs ++ [.ref t]))) b = some o := fun b o z e => kp b o (I.ag b z).2.2.2 e
  have k0 : ∀ b o, G0 b → H b = some o → (upd (upd H t (.tup [.str n.w, .int S.spot, hv, cv])) A.l (.lst (vs ++ [.ref t]))) b = some o := fun b o z e => kp b o (fun y => n0 b z (.inr (.inr (.inr y)))) e
  have tl : t ≠ A.l := (ne I.hl).symm
  refine ⟨kp _ _ n3.symm I.hd, kp _ _ I.d2 I.hc, kp _ _ I.d3 I.hp, upd_same, Nts.snoc ⟨t, hv, cv, rfl, .inr (.inl rfl), ?_, h0.keep k0 (fun _ z => .inr (.inr z)), c0.keep k0 (fun _ z => .inr (.inr z)), ok⟩ (I.nn.keep kg (fun _ z => .inl z)), ?_, ?_, I.d1, I.d2, I.d3⟩
  · rw [upd_ne tl, upd_same, ep]
  · rintro b (z | rfl | z)
    · exact (I.al b z).elim fun o e => ⟨o, kg b o z e⟩
    · exact ⟨_, by rw [upd_ne tl]; exact upd_same⟩
    · exact (a0 b z).elim fun o e => ⟨o, k0 b o z e⟩
  · rintro b (z | rfl | z)
    · exact I.ag b z
    · exact ⟨(ne I.hd).symm, (ne I.hc).symm, (ne I.hp).symm, (ne I.hl).symm⟩
    · have h := n0 b z
      exact ⟨fun y => h (.inl y), fun y => h (.inr (.inl y)), fun y => h (.inr (.inr (.inl y))), fun y => h (.inr (.inr (.inr y)))⟩
theorem own_dev {x : Addr} {o : HO} (hF : ∀ b, F b ↔ Own4 A b ∨ G b) (hx : Own4 A x) : Step F H F (upd H x o) := ⟨fun b o nf e => by
  have n : b ≠ x := fun z => nf ((hF b).mpr (.inl (by rw [z]; exact hx)))
  rw [upd_ne n]; exact e, fun b z => .inl z⟩
theorem dfs_seek (A : Dad) (k : Bool) (s : Nat) (b : Bool) (u : Nat) : (dfs A k s b u).lookup ("can_seek" : Str) = some (.bl k) := by unfold dfs; kernel_rfl
theorem dfs_spot (A : Dad) (k : Bool) (s : Nat) (b : Bool) (u : Nat) : (dfs A k s b u).lookup ("spot" : Str) = some (.int s) := by unfold dfs; kernel_rfl
theorem dfs_barred (A : Dad) (k : Bool) (s : Nat) (b : Bool) (u : Nat) : (dfs A k s b u).lookup ("barred" : Str) = some (.bl b) := by unfold dfs; kernel_rfl
theorem dfs_notes (A : Dad) (k : Bool) (s : Nat) (b : Bool) (u : Nat) : (dfs A k s b u).lookup ("notes" : Str) = some (.ref A.l) := by unfold dfs; kernel_rfl
theorem dfs_cells (A : Dad) (k : Bool) (s : Nat) (b : Bool) (u : Nat) : (dfs A k s b u).lookup ("cells" : Str) = some (.ref A.c) := by unfold dfs; kernel_rfl
theorem dfs_plan (A : Dad) (k : Bool) (s : Nat) (b : Bool) (u : Nat) : (dfs A k s b u).lookup ("plan" : Str) = some (.ref A.p) := by unfold dfs; kernel_rfl
theorem dfs_used (A : Dad) (k : Bool) (s : Nat) (b : Bool) (u : Nat) : (dfs A k s b u).lookup ("used" : Str) = some (.int u) := by unfold dfs; kernel_rfl
theorem dfs_put_s (A : Dad) (k : Bool) (s r : Nat) (b : Bool) (u : Nat) : putF ("spot" : Str) (.int r) (dfs A k s b u) = dfs A k r b u := by unfold dfs; kernel_rfl
theorem dfs_put_b (A : Dad) (k : Bool) (s : Nat) (b c : Bool) (u : Nat) : putF ("barred" : Str) (.bl c) (dfs A k s b u) = dfs A k s c u := by unfold dfs; kernel_rfl
theorem dfs_put_u (A : Dad) (k : Bool) (s : Nat) (b : Bool) (u v : Nat) : putF ("used" : Str) (.int v) (dfs A k s b u) = dfs A k s b v := by unfold dfs; kernel_rfl
theorem dfs_put_c (A : Dad) (k : Bool) (s : Nat) (b : Bool) (u : Nat) (c : Addr) : putF ("cells" : Str) (.ref c) (dfs A k s b u) = dfs { A with c := c } k s b u := by unfold dfs; kernel_rfl
theorem dfs_few (A : Dad) (k : Bool) (s : Nat) (b : Bool) (u : Nat) : (dfs A k s b u).length < 1000 := by show 7 < 1000; decide
theorem dfs_no (A : Dad) (k : Bool) (s : Nat) (b : Bool) (u : Nat) : ∀ m ∈ (["take", "put", "go", "cut", "shut", "place", "size", "seeks", "is_shut", "log", "log_behind", "note", "check_open", "check_seeks", "may_take", "may_put", "may_cut", "give", "accept", "move", "trim", "extent", "grow", "content", "left", "allowed"] : List Str), (dfs A k s b u).lookup m = none := by
  intro m hm
  simp only [List.mem_cons, List.mem_nil_iff, or_false] at hm
  unfold dfs
  rcases hm with rfl | rfl | rfl | rfl | rfl | rfl | rfl | rfl | rfl | rfl | rfl | rfl | rfl | rfl | rfl | rfl | rfl | rfl | rfl | rfl | rfl | rfl | rfl | rfl | rfl | rfl <;> kernel_rfl
end
end Sip
/-! a heap in pieces that have nothing in common -/
namespace Sip
open PySem PySem.Spec PyProof.Rows L2 TL
inductive Ch
  | pt (a : Addr) (o : HO)
  | ab (P : Hp → (Addr → Prop) → Prop)
def Ch.P : Ch → Hp → (Addr → Prop) → Prop
  | .pt a o => fun H F => H a = some o ∧ ∀ b, F b ↔ b = a
  | .ab P => P
/-- the piece is there, at just these places, whatever else is changed -/
def Ch.On (c : Ch) (H : Hp) (F : Addr → Prop) : Prop := (∀ H', (∀ b o, F b → H b = some o → H' b = some o) → c.P H' F) ∧ ∀ b, F b → ∃ o, H b = some o
def SatF (H : Hp) : List Ch → (Addr → Prop) → Prop
  | [], F => ∀ b, ¬ F b
  | c :: cs, F => ∃ F1 F2, c.On H F1 ∧ SatF H cs F2 ∧ (∀ b, F1 b → ¬ F2 b) ∧ ∀ b, F b ↔ F1 b ∨ F2 b
def Sat (H : Hp) (cs : List Ch) : Prop := ∃ F, SatF H cs F
inductive Pull (c : Ch) : List Ch → List Ch → Prop
  | hd {cs} : Pull c (c :: cs) cs
  | tl {d cs cs1} : Pull c cs cs1 → Pull c (d :: cs) (d :: cs1)
inductive Pk : List Ch → List Ch → Prop
  | nil {cs} : Pk cs cs
  | cons {c cs cs1 ds} : Pull c cs cs1 → Pk cs1 ds → Pk cs (c :: ds)
  | drop {c cs ds} : Pk cs ds → Pk (c :: cs) ds
section
variable {H H' H1 : Hp} {c d : Ch} {cs ds cs1 : List Ch} {F F1 F2 : Addr → Prop} {a b l p : Addr} {o o' o1 : HO}
theorem Ch.On.here (h : c.On H F) : c.P H F := h.1 H fun _ _ _ e => e
theorem Ch.On.keep (h : c.On H F) (k : ∀ b o, F b → H b = some o → H' b = some o) : c.On H' F :=
  ⟨fun H2 k2 => h.1 H2 fun b o f e => k2 b o f (k b o f e), fun b f => (h.2 b f).elim fun o e => ⟨o, k b o f e⟩⟩
theorem SatF.own : ∀ {cs : List Ch} {F : Addr → Prop}, SatF H cs F → ∀ b, F b → ∃ o, H b = some o
  | [], F, h, b, f => (h b f).elim
  | c :: cs, F, ⟨F1, F2, h1, h2, _, u⟩, b, f => ((u b).mp f).elim (h1.2 b) (SatF.own h2 b)
theorem SatF.keep : ∀ {cs : List Ch} {F : Addr → Prop}, SatF H cs F → (∀ b o, F b → H b = some o → H' b = some o) → SatF H' cs F
  | [], F, h, _ => h
  | c :: cs, F, ⟨F1, F2, h1, h2, d, u⟩, k => ⟨F1, F2, h1.keep fun b o f e => k b o ((u b).mpr (.inl f)) e, SatF.keep h2 fun b o f e => k b o ((u b).mpr (.inr f)) e, d, u⟩
theorem SatF.perm {cs ds : List Ch} (p : cs.Perm ds) : ∀ {F : Addr → Prop}, SatF H cs F → SatF H ds F := by
  induction p with
  | nil => exact fun h => h
  | cons x _ ih => exact fun ⟨F1, F2, h1, h2, d, u⟩ => ⟨F1, F2, h1, ih h2, d, u⟩
  | swap x y l =>
    rintro F ⟨F1, F2, h1, ⟨F3, F4, h3, h4, d2, u2⟩, d, u⟩
    refine ⟨F3, fun b => F1 b ∨ F4 b, h3, ⟨F1, F4, h1, h4, fun b f g => d b f ((u2 b).mpr (.inr g)), fun _ => Iff.rfl⟩, fun b f g => ?_, fun b => ?_⟩
    · exact g.elim (fun g => d b g ((u2 b).mpr (.inl f))) (d2 b f)
    · rw [u b, u2 b]
      constructor
      · rintro (x | x | x)
        · exact .inr (.inl x)
        · exact .inl x
        · exact .inr (.inr x)
      · rintro (x | x | x)
        · exact .inr (.inl x)
        · exact .inl x
        · exact .inr (.inr x)
  | trans _ _ i1 i2 => exact fun h => i2 (i1 h)
theorem Pull.perm : ∀ {cs cs1 : List Ch}, Pull c cs cs1 → cs.Perm (c :: cs1)
  | _, _, .hd => .refl _
  | _, _, .tl (d := d) h => (List.Perm.cons d h.perm).trans (.swap _ _ _)
theorem Sat.perm (h : Sat H cs) (p : cs.Perm ds) : Sat H ds := h.elim fun F h => ⟨F, h.perm p⟩
theorem Sat.tl (h : Sat H (c :: cs)) : Sat H cs := by
  obtain ⟨F, F1, F2, _, h, _⟩ := h
  exact ⟨F2, h⟩
theorem Sat.pull (h : Sat H cs) (p : Pull c cs cs1) : Sat H (c :: cs1) := h.perm p.perm
theorem SatF.cons {F : Addr → Prop} (h : Sat H (c :: cs)) : ∃ F1 F2, c.On H F1 ∧ SatF H cs F2 ∧ ∀ b, F1 b → ¬ F2 b := by
  obtain ⟨F, F1, F2, h1, h2, d, _⟩ := h
  exact ⟨F1, F2, h1, h2, d⟩
theorem Sat.mk (h1 : c.On H F1) (h2 : SatF H cs F2) (d : ∀ b, F1 b → ¬ F2 b) : Sat H (c :: cs) := ⟨fun b => F1 b ∨ F2 b, F1, F2, h1, h2, d, fun _ => Iff.rfl⟩
/-- a piece is opened: whatever is done to it alone -/
theorem Sat.opn (h : Sat H (c :: cs)) : ∃ F, c.On H F ∧ ∀ c' F' H', (∀ b o, ¬ F b → H b = some o → H' b = some o) → (∀ b, F' b → F b ∨ H b = none) → c'.On H' F' → Sat H' (c' :: cs) := by
  obtain ⟨F, F1, F2, h1, h2, d, u⟩ := h
  refine ⟨F1, h1, fun c' F' H' k f o => Sat.mk o (h2.keep fun b o g e => k b o (fun x => d b x g) e) fun b x g => ?_⟩
  rcases f b x with y | y
  · exact d b y g
  · obtain ⟨o, e⟩ := h2.own b g
    rw [y] at e; cases e
theorem Pk.satF : ∀ {cs ds : List Ch}, Pk cs ds → ∀ {F : Addr → Prop}, SatF H cs F → ∃ F', SatF H ds F' ∧ ∀ b, F' b → F b
  | _, _, .nil, F, h => ⟨F, h, fun _ z => z⟩
  | _, _, .cons p q, F, h => by
    obtain ⟨F1, F2, h1, h2, d, u⟩ := h.perm p.perm
    obtain ⟨F3, h3, s⟩ := q.satF h2
    exact ⟨fun b => F1 b ∨ F3 b, ⟨F1, F3, h1, h3, fun b x y => d b x (s b y), fun _ => Iff.rfl⟩, fun b z => (u b).mpr (z.imp id (s b))⟩
  | _, _, .drop q, F, ⟨F1, F2, _, h2, _, u⟩ => by
    obtain ⟨F3, h3, s⟩ := q.satF h2
    exact ⟨F3, h3, fun b z => (u b).mpr (.inr (s b z))⟩
theorem Sat.pk (h : Sat H cs) (p : Pk cs ds) : Sat H ds := by
  obtain ⟨F, h⟩ := h
  obtain ⟨F', h', _⟩ := p.satF h
  exact ⟨F', h'⟩
theorem On.pt (h : H a = some o) : (Ch.pt a o).On H (fun b => b = a) := ⟨fun H' k => ⟨k a o rfl h, fun _ => Iff.rfl⟩, fun b z => ⟨o, by rw [show b = a from z]; exact h⟩⟩
theorem Sat.get (h : Sat H cs) (p : Pull (.pt a o) cs cs1) : H a = some o := by
  obtain ⟨F, F1, F2, h1, _⟩ := h.pull p
  exact h1.here.1
theorem Sat.alloc (h : Sat H cs) (n : H l = none) (g : upd H l o = H1) : Sat H1 (.pt l o :: cs) := by
  obtain ⟨F, h⟩ := h
  subst g
  refine Sat.mk (On.pt upd_same) (h.keep fun b o f e => ?_) fun b z f => ?_
  · rw [upd_ne (ne_of_none e n)]; exact e
  · obtain ⟨o, e⟩ := h.own b f
    rw [show b = l from z, n] at e; cases e
theorem Sat.put (h : Sat H (.pt a o :: cs)) (g : upd H a o' = H1) : Sat H1 (.pt a o' :: cs) := by
  obtain ⟨F, h1, k⟩ := h.opn
  subst g
  have hF := h1.here.2
  refine k _ (fun b => b = a) _ (fun b o n e => ?_) (fun b z => .inl ((hF b).mpr z)) (On.pt upd_same)
  rw [upd_ne (fun z => n ((hF b).mpr z))]; exact e
theorem Sat.same (h : Sat H cs) (s : Same H H') : Sat H' cs := h.elim fun F h => ⟨F, h.keep fun b o _ e => s b o e⟩
theorem Sat.fresh (h : Sat H cs) (s : Same H H') (n : H l = none) (e : H' l = some o) : Sat H' (.pt l o :: cs) := by
  obtain ⟨F, h⟩ := h
  refine Sat.mk (On.pt e) (h.keep fun b o _ e => s b o e) fun b z f => ?_
  obtain ⟨o, e⟩ := h.own b f
  rw [show b = l from z, n] at e; cases e
theorem Sat.ne2 (h : Sat H (.pt a o :: .pt b o' :: cs)) : a ≠ b := by
  obtain ⟨F, F1, F2, h1, ⟨F3, F4, h3, _, _, u⟩, d, _⟩ := h
  intro z
  exact d a ((h1.here.2 a).mpr rfl) ((u a).mpr (.inl ((h3.here.2 a).mpr z)))
theorem SatF.split : ∀ {ds : List Ch} {F : Addr → Prop}, SatF H (ds ++ cs) F → ∃ F1 F2, SatF H ds F1 ∧ SatF H cs F2 ∧ (∀ b, F1 b → ¬ F2 b) ∧ ∀ b, F b ↔ F1 b ∨ F2 b
  | [], F, h => ⟨fun _ => False, F, fun _ z => z, h, fun _ z => z.elim, fun b => ⟨.inr, fun z => z.elim (fun z => z.elim) id⟩⟩
  | c :: ds, F, ⟨F1, F2, h1, h2, d, u⟩ => by
    obtain ⟨F3, F4, h3, h4, d2, u2⟩ := SatF.split h2
    refine ⟨fun b => F1 b ∨ F3 b, F4, ⟨F1, F3, h1, h3, fun b x y => d b x ((u2 b).mpr (.inl y)), fun _ => Iff.rfl⟩, h4, fun b x y => ?_, fun b => ?_⟩
    · exact x.elim (fun x => d b x ((u2 b).mpr (.inr y))) fun x => d2 b x y
    · rw [u b, u2 b, or_assoc]
theorem SatF.join : ∀ {ds : List Ch} {F1 F2 : Addr → Prop}, SatF H ds F1 → SatF H cs F2 → (∀ b, F1 b → ¬ F2 b) → SatF H (ds ++ cs) (fun b => F1 b ∨ F2 b)
  | [], F1, F2, h1, h2, d => by
    have e : (fun b => F1 b ∨ F2 b) = F2 := funext fun b => propext ⟨fun z => z.elim (fun z => (h1 b z).elim) id, .inr⟩
    rw [e]; exact h2
  | c :: ds, F, F2, ⟨F3, F4, h3, h4, d, u⟩, h2, d2 => ⟨F3, fun b => F4 b ∨ F2 b, h3, SatF.join h4 h2 (fun b x y => d2 b ((u b).mpr (.inr x)) y), fun b x y => y.elim (d b x) (d2 b ((u b).mpr (.inl x))), fun b => by show F b ∨ F2 b ↔ F3 b ∨ F4 b ∨ F2 b; rw [u b, or_assoc]⟩
/-- pieces of which only some word is known -/
def exC {α : Type} (P : α → Prop) (f : α → List Ch) : Ch := .ab fun H F => ∃ x, P x ∧ SatF H (f x) F
theorem On.exC {α : Type} {P : α → Prop} {f : α → List Ch} {x : α} (hP : P x) (h : SatF H (f x) F) : (exC P f).On H F := ⟨fun H' k => ⟨x, hP, h.keep k⟩, h.own⟩
theorem Sat.exE {α : Type} {P : α → Prop} {f : α → List Ch} (h : Sat H (exC P f :: cs)) : ∃ x, P x ∧ Sat H (f x ++ cs) := by
  obtain ⟨F, F1, F2, h1, h2, d, u⟩ := h
  obtain ⟨x, hP, h3⟩ := h1.here
  exact ⟨x, hP, _, h3.join h2 d⟩
theorem Sat.exI {α : Type} {P : α → Prop} {f : α → List Ch} (x : α) (hP : P x) (h : Sat H (f x ++ cs)) : Sat H (exC P f :: cs) := by
  obtain ⟨F, h⟩ := h
  obtain ⟨F1, F2, h1, h2, d, u⟩ := h.split
  exact Sat.mk (On.exC hP h1) h2 d
/-- a whole group opened -/
theorem Sat.opnL {ds : List Ch} (h : Sat H (ds ++ cs)) : ∃ F, SatF H ds F ∧ ∀ ds' F' H', Step F H F' H' → SatF H' ds' F' → Sat H' (ds' ++ cs) := by
  obtain ⟨F, h⟩ := h
  obtain ⟨F1, F2, h1, h2, d, u⟩ := h.split
  refine ⟨F1, h1, fun ds' F' H' st o => ⟨_, o.join (h2.keep fun b o g e => st.1 b o (fun x => d b x g) e) fun b x g => ?_⟩⟩
  rcases st.2 b x with y | y
  · exact d b y g
  · obtain ⟨o, e⟩ := h2.own b g
    rw [y] at e; cases e
theorem SatF.one (h : c.On H F) : SatF H [c] F := ⟨F, fun _ => False, h, fun _ z => z, fun _ _ z => z, fun b => ⟨.inl, fun z => z.elim id fun z => z.elim⟩⟩
theorem SatF.of1 (h : SatF H [c] F) : c.On H F := by
  obtain ⟨F1, F2, h1, h2, d, u⟩ := h
  have e : F1 = F := funext fun b => propext ⟨fun z => (u b).mpr (.inl z), fun z => ((u b).mp z).elim id fun z => (h2 b z).elim⟩
  rw [← e]; exact h1
/-- the law's pool -/
def poolC (p : Addr) (n : Int) : Ch := exC (fun o => PoolO n o) fun o => [.pt p o]
theorem Sat.pool {n : Int} (h : Sat H (poolC p n :: cs)) : ∃ o, H p = some o ∧ PoolO n o := by
  obtain ⟨o, hP, h⟩ := h.exE
  exact ⟨o, h.get .hd, hP⟩
theorem Sat.poolp {n m : Int} (h : Sat H (poolC p n :: cs)) (hP : PoolO m o) (g : upd H p o = H1) : Sat H1 (poolC p m :: cs) := by
  obtain ⟨o, _, h⟩ := h.exE
  exact Sat.exI _ hP (Sat.put h g)
theorem Sat.poolup {n m : Int} (h : Sat H (poolC p n :: cs)) (l : n ≤ m) : Sat H (poolC p m :: cs) := by
  obtain ⟨o, hP, h⟩ := h.exE
  exact Sat.exI o (hP.up l) h
/-- a list that the library may hold -/
def scrC (K : PySem.W.Frag) (a : Addr) (xs : List V) : Ch := .ab fun H F => SqL K H a xs ∧ ((∀ b, F b ↔ b = a) ∨ ∀ b, ¬ F b)
theorem Sat.scr {K : PySem.W.Frag} {xs : List V} (h : Sat H cs) (p : Pull (scrC K a xs) cs cs1) : SqL K H a xs := by
  obtain ⟨F, F1, F2, h1, _⟩ := h.pull p
  exact h1.here.1
theorem Sat.scr0 {K : PySem.W.Frag} {xs : List V} (h : SqL K H a xs) : Sat H [scrC K a xs] := by
  cases e : H a with
  | some o => exact ⟨_, SatF.one (F := fun b => b = a) ⟨fun H' k => ⟨by
      rcases h with (h | ⟨u, h⟩) | h
      · exact .inl (.inl (k a _ rfl h))
      · exact .inl (.inr ⟨u, k a _ rfl h⟩)
      · exact .inr h, .inl fun _ => Iff.rfl⟩, fun b z => ⟨o, by rw [show b = a from z]; exact e⟩⟩⟩
  | none => exact ⟨_, SatF.one (F := fun _ => False) ⟨fun H' k => ⟨by
      rcases h with (h | ⟨u, h⟩) | h
      · rw [e] at h; cases h
      · rw [e] at h; cases h
      · exact .inr h, .inr fun _ z => z⟩, fun b z => z.elim⟩⟩
/-- lists of which nothing but their length is known -/
def jkC (m : Nat) (zs : List Addr) : Ch := .ab fun H F => (∀ z ∈ zs, ∃ xs, H z = some (.lst xs) ∧ xs.length ≤ m) ∧ ∀ b, F b ↔ b ∈ zs
theorem On.jk {m : Nat} {zs : List Addr} (h : ∀ z ∈ zs, ∃ xs, H z = some (.lst xs) ∧ xs.length ≤ m) : (jkC m zs).On H (fun b => b ∈ zs) :=
  ⟨fun H' k => ⟨fun z hz => by obtain ⟨xs, e, l⟩ := h z hz; exact ⟨xs, k z _ hz e, l⟩, fun _ => Iff.rfl⟩, fun b hb => by obtain ⟨xs, e, l⟩ := h b hb; exact ⟨_, e⟩⟩
theorem Sat.jk0 {m : Nat} (h : Sat H cs) : Sat H (jkC m [] :: cs) := by
  obtain ⟨F, h⟩ := h
  exact Sat.mk (On.jk (fun z hz => by cases hz)) h (fun b z => by cases z)
theorem Sat.jk1 {m : Nat} {zs : List Addr} {xs : List V} (h : Sat H (.pt a (.lst xs) :: jkC m zs :: cs)) (l : xs.length ≤ m) : Sat H (jkC m (a :: zs) :: cs) := by
  obtain ⟨F, F1, F2, h1, ⟨F3, F4, h3, h4, d2, u2⟩, d, u⟩ := h
  have e1 := h1.here.2
  have e3 := h3.here.2
  refine Sat.mk (On.jk (fun z hz => ?_)) h4 (fun b z => ?_)
  · rcases List.mem_cons.mp hz with rfl | hz
    · exact ⟨xs, h1.here.1, l⟩
    · exact h3.here.1 z hz
  · rcases List.mem_cons.mp z with rfl | z
    · exact fun w => d b ((e1 b).mpr rfl) ((u2 b).mpr (.inr w))
    · exact d2 b ((e3 b).mpr z)
theorem Sat.jkup {m n : Nat} {zs : List Addr} (h : Sat H (jkC m zs :: cs)) (l : m ≤ n) : Sat H (jkC n zs :: cs) := by
  obtain ⟨F, F1, F2, h1, h2, d, u⟩ := h
  have e1 := h1.here.2
  refine Sat.mk (On.jk (fun z hz => ?_)) h2 (fun b z => d b ((e1 b).mpr z))
  obtain ⟨xs, e, lx⟩ := h1.here.1 z hz
  exact ⟨xs, e, by omega⟩
theorem Sat.jksub {m : Nat} {zs ys : List Addr} (h : Sat H (jkC m zs :: cs)) (s : ∀ y ∈ ys, y ∈ zs) : Sat H (jkC m ys :: cs) := by
  obtain ⟨F, F1, F2, h1, h2, d, u⟩ := h
  have e1 := h1.here.2
  exact Sat.mk (On.jk (fun z hz => h1.here.1 z (s z hz))) h2 (fun b z => d b ((e1 b).mpr (s b z)))
theorem Sat.jkadd {m : Nat} {zs ys : List Addr} (h : Sat H (jkC m zs :: jkC m ys :: cs)) : Sat H (jkC m (zs ++ ys) :: cs) := by
  obtain ⟨F, F1, F2, h1, ⟨F3, F4, h3, h4, d2, u2⟩, d, u⟩ := h
  have e1 := h1.here.2
  have e3 := h3.here.2
  refine Sat.mk (On.jk (fun z hz => ?_)) h4 (fun b z => ?_)
  · rcases List.mem_append.mp hz with hz | hz
    · exact h1.here.1 z hz
    · exact h3.here.1 z hz
  · rcases List.mem_append.mp z with z | z
    · exact fun w => d b ((e1 b).mpr z) ((u2 b).mpr (.inr w))
    · exact d2 b ((e3 b).mpr z)
/-- one of them, and what is put in its place -/
theorem Sat.jkE {m : Nat} {zs : List Addr} (h : Sat H (jkC m zs :: cs)) {z : Addr} (hz : z ∈ zs) : ∃ xs, H z = some (.lst xs) ∧ xs.length ≤ m ∧ ∀ xs' H1, xs'.length ≤ m + 1 → upd H z (.lst xs') = H1 → Sat H1 (jkC (m + 1) zs :: cs) := by
  obtain ⟨F, h1, k⟩ := h.opn
  obtain ⟨xs, e, lx⟩ := h1.here.1 z hz
  have hF := h1.here.2
  refine ⟨xs, e, lx, fun xs' H1 l g => ?_⟩
  subst g
  refine k _ (fun b => b ∈ zs) _ (fun b o n e => ?_) (fun b y => .inl ((hF b).mpr y)) (On.jk fun y hy => ?_)
  · rw [upd_ne (fun y => n ((hF b).mpr (by rw [y]; exact hz)))]; exact e
  · by_cases yz : y = z
    · rw [yz]; exact ⟨xs', upd_same, l⟩
    · obtain ⟨ys, ey, ly⟩ := h1.here.1 y hy
      exact ⟨ys, by rw [upd_ne yz]; exact ey, by omega⟩
/-- a device -/
def devC (CD d : Addr) (S : Dst) : Ch := .ab fun H F => ∃ A : Dad, A.d = d ∧ DevAt CD H A F S
theorem On.dev {CD : Addr} {A : Dad} {S : Dst} (h : DevAt CD H A F S) : (devC CD A.d S).On H F := ⟨fun H' k => ⟨A, rfl, h.loc k⟩, h.own⟩
theorem Sat.dev {CD d : Addr} {S : Dst} (h : Sat H (devC CD d S :: cs)) : ∃ A F, A.d = d ∧ DevAt CD H A F S ∧ ∀ ds' F' H', Step F H F' H' → SatF H' ds' F' → Sat H' (ds' ++ cs) := by
  obtain ⟨F, h1, k⟩ := Sat.opnL (ds := [devC CD d S]) h
  obtain ⟨A, e, hA⟩ := h1.of1.here
  exact ⟨A, F, e, hA, k⟩
/-- a told log -/
def ntsC (q : Addr) (ns : List Nt) : Ch := .ab fun H F => ∃ vs G, H q = some (.lst vs) ∧ Nts H G vs ns ∧ ¬ G q ∧ (∀ b, G b → ∃ o, H b = some o) ∧ ∀ b, F b ↔ b = q ∨ G b
theorem On.nts {q : Addr} {ns : List Nt} {vs : List V} {G : Addr → Prop} (e : H q = some (.lst vs)) (h : Nts H G vs ns) (n : ¬ G q) (al : ∀ b, G b → ∃ o, H b = some o) : (ntsC q ns).On H (fun b => b = q ∨ G b) :=
  ⟨fun H' k => ⟨vs, G, k q _ (.inl rfl) e, h.keep (fun b o z e => k b o (.inr z) e) (fun _ z => z), n, fun b z => (al b z).elim fun o e => ⟨o, k b o (.inr z) e⟩, fun _ => Iff.rfl⟩, fun b z => z.elim (fun z => ⟨.lst vs, by rw [z]; exact e⟩) (al b)⟩
theorem Sat.nts {q : Addr} {ns : List Nt} (h : Sat H cs) (p : Pull (ntsC q ns) cs cs1) : ∃ vs G, H q = some (.lst vs) ∧ Nts H G vs ns := by
  obtain ⟨F, F1, F2, h1, _⟩ := h.pull p
  obtain ⟨vs, G, e, N, _⟩ := h1.here
  exact ⟨vs, G, e, N⟩
end
end Sip
namespace Sip
open PySem PySem.Spec PyProof.Rows L2 TL

abbrev DQ := Hp → Dad → (Addr → Prop) → Dst → Prop
def spLeft (PA : DQ) : Sp := fun vs H Q _ => ∃ (A : Dad) (F : Addr → Prop) (S : Dst), vs = [.ref A.d] ∧ PA H A F S ∧ Q (.int ((S.plan.length : Int) - S.used)) H
def DstOk (S : Dst) : Prop := S.used ≤ S.plan.length ∧ S.plan.length ≤ 100000 ∧ S.ns.length ≤ 8000000
/-- the number that an ask uses, if one is left -/
def planN (S : Dst) : Option Int := S.plan[S.used]?
def usedS (S : Dst) : Dst := if S.used < S.plan.length then { S with used := S.used + 1 } else S
/-- how many of so many an ask may have -/
def mayF (S : Dst) (n : Int) : Int := match planN S with | none => n | some k => min n k
/-- a fault of this number flies: the device stands so -/
def FaultTo (PA : DQ) (E : XK) (C : Addr) (H : Hp) (A : Dad) (F : Addr → Prop) (S : Dst) (n : Int) : Prop := ∀ (H' : Hp) (F' : Addr → Prop) (d : Addr), PA H' A F' S → H d = none → H' d = some (.xd [("taken", .int 0), ("number", .int n)]) → ¬ F' d → Step F H F' H' → E (.ref C) (some d) H'
theorem usedS_cells (S : Dst) : (usedS S).cells = S.cells := by unfold usedS; split <;> rfl
theorem usedS_spot (S : Dst) : (usedS S).spot = S.spot := by unfold usedS; split <;> rfl
theorem usedS_ok {S : Dst} (h : DstOk S) : DstOk (usedS S) := by
  obtain ⟨h1, h2, h3⟩ := h
  unfold usedS
  split
  · exact ⟨by show S.used + 1 ≤ S.plan.length; omega, h2, h3⟩
  · exact ⟨h1, h2, h3⟩
theorem noted (S : Dst) (w : Str) (h c : Tg) : ({ usedS S with ns := (usedS S).ns ++ [⟨w, (usedS S).spot, h, c⟩] } : Dst) = { usedS S with ns := S.ns ++ [⟨w, S.spot, h, c⟩] } := by unfold usedS; split <;> rfl
theorem may_nn {S : Dst} {n : Nat} (h : ∀ k, planN S = some k → 0 ≤ k) : 0 ≤ mayF S n := by
  unfold mayF
  cases e : planN S with
  | none => show (0 : Int) ≤ n; omega
  | some k => have := h k e; show 0 ≤ min (n : Int) k; omega
theorem new_of {F F' : Addr → Prop} {H H' : Hp} {z : Addr} (st : Step F H F' H') (h : ∀ b, F b → H' b ≠ none) (nz : H' z = none) : H z = none := by
  cases e : H z with
  | none => rfl
  | some o =>
    have := st.1 z o (fun f => h z f nz) e
    rw [nz] at this; cases this
theorem DevAt.some {CD : Addr} {H : Hp} {A : Dad} {F : Addr → Prop} {S : Dst} (h : DevAt CD H A F S) : ∀ b, F b → H b ≠ none := fun b f z => h.new z f
def spAllowed (PA : DQ) (C : Addr) : Sp := fun vs H Q E => ∃ (A : Dad) (F : Addr → Prop) (S : Dst) (n : Int), vs = [.ref A.d, .int n] ∧ PA H A F S ∧ DstOk S ∧
  ((∀ k, planN S = some k → 0 ≤ k) → ∀ H', PA H' A F (usedS S) → Step F H F H' → Q (.int (mayF S n)) H') ∧
  (∀ k, planN S = some k → k < 0 → FaultTo PA E C H A F (usedS S) (-k))
theorem at_map {xs : List Int} {i : Nat} {k : Int} (h : xs[i]? = some k) : atI (xs.map V.int) (i : Int) = some (.int k) := atI_nat (by rw [List.getElem?_map, h]; rfl)
def spNoteD (PA : DQ) : Sp := fun vs H Q _ => ∃ (A : Dad) (w : Str) (hv cv : V) (F G0 : Addr → Prop) (S : Dst) (h c : Tg), vs = [.ref A.d, .str w, hv, cv] ∧ PA H A F S ∧ DstOk S ∧ TgAt H G0 hv h ∧ TgAt H G0 cv c ∧ NtOk ⟨w, S.spot, h, c⟩ ∧ (∀ b, G0 b → ¬ F b) ∧ (∀ b, G0 b → ∃ o, H b = some o) ∧
  ∀ (H' : Hp) (F' : Addr → Prop), PA H' A F' { S with ns := S.ns ++ [⟨w, S.spot, h, c⟩] } → (∀ b o, ¬ F b → H b = some o → H' b = some o) → (∀ b, F' b → F b ∨ G0 b ∨ H b = none) → Q .non H'

def spOpenD (PA : DQ) : Sp := fun vs H Q _ => ∃ (A : Dad) (F : Addr → Prop) (S : Dst), vs = [.ref A.d] ∧ PA H A F S ∧ S.bar = false ∧ Q .non H
def spMaytD (PA : DQ) : Sp := fun vs H Q _ => ∃ (A : Dad) (F : Addr → Prop) (S : Dst), vs = [.ref A.d] ∧ PA H A F S ∧ Q .non H
/-- the bytes that a take of so many tells -/
def takenF (S : Dst) (n : Int) : List Int := (S.cells.drop S.spot).take (mayF S n).toNat
def spGiveD (PA : DQ) (C : Addr) : Sp := fun vs H Q E => ∃ (A : Dad) (F : Addr → Prop) (S : Dst) (n : Nat), vs = [.ref A.d, .int n] ∧ PA H A F S ∧ DstOk S ∧
  ((∀ k, planN S = some k → 0 ≤ k) → ∀ (H' : Hp) (q : Addr), PA H' A F (usedS S) → (mayF S n ≠ 0 → H q = none ∧ H' q = some (.lst ((takenF S n).map V.int))) → Step F H F H' → Q (if mayF S n = 0 then .non else .ref q) H') ∧
  (∀ k, planN S = some k → k < 0 → FaultTo PA E C H A F (usedS S) (-k))
/-- how a take leaves it -/
def tookS (S : Dst) (n : Int) : Dst := if mayF S n = 0 then { usedS S with ns := S.ns ++ [⟨Str.ofString "take", S.spot, .i n, .s (Str.ofString "stall")⟩] } else { usedS S with spot := S.spot + (takenF S n).length, ns := S.ns ++ [⟨Str.ofString "take", S.spot, .i n, .l (takenF S n)⟩] }
def spTakeD (PA : DQ) (C : Addr) : Sp := fun vs H Q E => ∃ (A : Dad) (F : Addr → Prop) (S : Dst) (n : Nat), vs = [.ref A.d, .int n] ∧ PA H A F S ∧ DstOk S ∧ S.bar = false ∧
  ((∀ k, planN S = some k → 0 ≤ k) → ∀ (H' : Hp) (F' : Addr → Prop) (q : Addr), PA H' A F' (tookS S n) → (mayF S n ≠ 0 → H q = none ∧ H' q = some (.lst ((takenF S n).map V.int)) ∧ ¬ F' q) → Step F H F' H' → Q (if mayF S n = 0 then .non else .ref q) H') ∧
  (∀ k, planN S = some k → k < 0 → FaultTo PA E C H A F { usedS S with ns := S.ns ++ [⟨Str.ofString "take", S.spot, .i n, .s (Str.ofString "fault")⟩] } (-k))
theorem del_from (r : List Int) (n : Nat) : delV (r.map V.int) (some (n : Int)) none = (r.take n).map V.int := by
  unfold delV delL
  rw [HT.sIx_none, HT.sIx_nat, List.length_map, List.map_take]
  by_cases h : n ≤ r.length
  · rw [Nat.min_eq_left h]; simp; omega
  · rw [Nat.min_eq_right (by omega), List.take_of_length_le (l := r.map V.int) (i := n) (by rw [List.length_map]; omega)]; simp
def goneS (S : Dst) (w : Str) (n : Nat) : Dst := { usedS S with ns := S.ns ++ [⟨w, S.spot, .i n, .s (Str.ofString "fault")⟩] }
def spGoD (PA : DQ) (C : Addr) : Sp := fun vs H Q E => ∃ (A : Dad) (F : Addr → Prop) (S : Dst) (n : Nat), vs = [.ref A.d, .int n] ∧ PA H A F S ∧ DstOk S ∧ S.bar = false ∧ S.seek = true ∧ n ≤ 4000 ∧
  ((∀ k, planN S = some k → 0 ≤ k) → ∀ (H' : Hp) (F' : Addr → Prop), PA H' A F' { usedS S with spot := n, ns := S.ns ++ [⟨Str.ofString "go", S.spot, .i n, .i 0⟩] } → Step F H F' H' → Q .non H') ∧
  (∀ k, planN S = some k → k < 0 → FaultTo PA E C H A F (goneS S (Str.ofString "go") n) (-k))
def spCutD (PA : DQ) (C : Addr) : Sp := fun vs H Q E => ∃ (A : Dad) (F : Addr → Prop) (S : Dst) (n : Nat), vs = [.ref A.d, .int n] ∧ PA H A F S ∧ DstOk S ∧ S.bar = false ∧ S.seek = true ∧ n ≤ 4000 ∧
  ((∀ k, planN S = some k → 0 ≤ k) → ∀ (H' : Hp) (F' : Addr → Prop), PA H' A F' { usedS S with cells := S.cells.take n, ns := S.ns ++ [⟨Str.ofString "cut", S.spot, .i n, .i 0⟩] } → Step F H F' H' → Q .non H') ∧
  (∀ k, planN S = some k → k < 0 → FaultTo PA E C H A F (goneS S (Str.ofString "cut") n) (-k))
theorem noted_c (S : Dst) (xs : List Int) (w : Str) (h c : Tg) : ({ ({ usedS S with cells := xs } : Dst) with ns := (usedS S).ns ++ [⟨w, (usedS S).spot, h, c⟩] } : Dst) = { usedS S with cells := xs, ns := S.ns ++ [⟨w, S.spot, h, c⟩] } := by unfold usedS; split <;> rfl
/-- how many bytes a put of so many takes -/
def putN (S : Dst) (ds : List Int) : Nat := (mayF S (ds.length : Int)).toNat
def laidS (S : Dst) (ds : List Int) : List Int := laidF S.cells S.spot (ds.take (putN S ds))
def spAcceptD (PA : DQ) (C : Addr) : Sp := fun vs H Q E => ∃ (A : Dad) (d : Addr) (F : Addr → Prop) (S : Dst) (ds : List Int), vs = [.ref A.d, .ref d] ∧ PA H A F S ∧ DstOk S ∧ ¬ F d ∧ H d = some (.lst (ds.map V.int)) ∧ S.cells.length ≤ 10000 ∧ S.spot ≤ 4400 ∧ ds.length ≤ 4400 ∧
  ((∀ k, planN S = some k → 0 ≤ k) → ∀ (H' : Hp) (c : Addr) (F' : Addr → Prop), PA H' { A with c := c } F' { usedS S with cells := laidS S ds } → Step F H F' H' → Q (if putN S ds = 0 then .non else .int (putN S ds)) H') ∧
  (∀ k, planN S = some k → k < 0 → FaultTo PA E C H A F (usedS S) (-k))
def spMaypD (PA : DQ) : Sp := fun vs H Q _ => ∃ (A : Dad) (d : Addr) (F : Addr → Prop) (S : Dst) (ds : List Int), vs = [.ref A.d, .ref d] ∧ PA H A F S ∧ H d = some (.lst (ds.map V.int)) ∧ (S.seek = true → S.cells.length ≤ 4000 ∧ S.spot + ds.length ≤ 4000) ∧ Q .non H
def putS (S : Dst) (ds : List Int) : Dst := { usedS S with cells := laidS S ds, spot := S.spot + putN S ds, ns := S.ns ++ [⟨Str.ofString "put", S.spot, .l ds, if putN S ds = 0 then .s (Str.ofString "stall") else .i (putN S ds)⟩] }
theorem putS_stall {S : Dst} {ds : List Int} (h0 : putN S ds = 0) : putS S ds = { usedS S with cells := laidS S ds, ns := S.ns ++ [⟨Str.ofString "put", S.spot, .l ds, .s (Str.ofString "stall")⟩] } := by
  unfold putS
  rw [h0, if_pos rfl]
  unfold usedS
  split <;> rfl
def spPutD (PA : DQ) (C : Addr) : Sp := fun vs H Q E => ∃ (A : Dad) (d : Addr) (F : Addr → Prop) (S : Dst) (ds : List Int), vs = [.ref A.d, .ref d] ∧ PA H A F S ∧ DstOk S ∧ S.bar = false ∧ H d = some (.lst (ds.map V.int)) ∧ (S.seek = true → S.cells.length ≤ 4000 ∧ S.spot + ds.length ≤ 4000) ∧ S.cells.length ≤ 10000 ∧ S.spot ≤ 4400 ∧ ds.length ≤ 4400 ∧
  ((∀ k, planN S = some k → 0 ≤ k) → ∀ (H' : Hp) (c : Addr) (F' : Addr → Prop), PA H' { A with c := c } F' (putS S ds) → Step F H F' H' → Q (if putN S ds = 0 then .non else .int (putN S ds)) H') ∧
  (∀ k, planN S = some k → k < 0 → FaultTo PA E C H A F { usedS S with ns := S.ns ++ [⟨Str.ofString "put", S.spot, .l ds, .s (Str.ofString "fault")⟩] } (-k))
def spLenC : Sp := fun vs H Q _ => ∃ v : Int, vs = [.int v] ∧ v ≤ 4000 ∧ Q .non H
def spExtD (PA : DQ) : Sp := fun vs H Q _ => ∃ (A : Dad) (F : Addr → Prop) (S : Dst), vs = [.ref A.d] ∧ PA H A F S ∧ Q (.int S.cells.length) H
def spSeeksD (PA : DQ) : Sp := fun vs H Q _ => ∃ (A : Dad) (F : Addr → Prop) (S : Dst), vs = [.ref A.d] ∧ PA H A F S ∧ S.seek = true ∧ Q .non H
def spContD (PA : DQ) : Sp := fun vs H Q _ => ∃ (A : Dad) (F : Addr → Prop) (S : Dst), vs = [.ref A.d] ∧ PA H A F S ∧ ∀ (H' : Hp) (q : Addr), H q = none → H' q = some (.lst (S.cells.map V.int)) → Same H H' → Q (.ref q) H'
def spMoveD (PA : DQ) (C : Addr) : Sp := fun vs H Q E => ∃ (A : Dad) (F : Addr → Prop) (S : Dst) (n : Int), vs = [.ref A.d, .int n] ∧ PA H A F S ∧ DstOk S ∧
  ((∀ k, planN S = some k → 0 ≤ k) → ∀ H', PA H' A F (usedS S) → Step F H F H' → Q .non H') ∧ (∀ k, planN S = some k → k < 0 → FaultTo PA E C H A F (usedS S) (-k))
def spTrimD (PA : DQ) (C : Addr) : Sp := fun vs H Q E => ∃ (A : Dad) (F : Addr → Prop) (S : Dst) (n : Nat), vs = [.ref A.d, .int n] ∧ PA H A F S ∧ DstOk S ∧
  ((∀ k, planN S = some k → 0 ≤ k) → ∀ H', PA H' A F { usedS S with cells := S.cells.take n } → Step F H F H' → Q .non H') ∧ (∀ k, planN S = some k → k < 0 → FaultTo PA E C H A F (usedS S) (-k))
theorem cut_0 (xs : List V) : cutV xs (some 0) none = xs := by
  unfold cutV
  rw [HT.sIx_none, show ((0 : Int)) = ((0 : Nat) : Int) from rfl, HT.sIx_nat]
  simp
def spOwnC : Sp := fun vs H Q _ => ∃ (v : V) (t : Tg) (G : Addr → Prop), vs = [v] ∧ TgAt H G v t ∧ ∀ (H' : Hp) (v' : V), TgAt H' (fun b => H b = none) v' t → Same H H' → Q v' H'
/-- a log is told: all of it new -/
def LogTo (H : Hp) (Q : VK) (ns : List Nt) : Prop := ∀ (H' : Hp) (q : Addr) (vs : List V) (G : Addr → Prop), H q = none → ¬ G q → H' q = some (.lst vs) → Nts H' G vs ns → (∀ b, G b → H b = none) → Same H H' → Q (.ref q) H'

def spLogD (PA : DQ) : Sp := fun vs H Q _ => ∃ (A : Dad) (F : Addr → Prop) (S : Dst), vs = [.ref A.d] ∧ PA H A F S ∧ DstOk S ∧ LogTo H Q S.ns
def spLogbD (PA : DQ) : Sp := fun vs H Q _ => ∃ (A : Dad) (F : Addr → Prop) (S : Dst), vs = [.ref A.d, .int 0] ∧ PA H A F S ∧ DstOk S ∧ LogTo H Q S.ns

def spGrowD (PA : DQ) : Sp := fun vs H Q _ => ∃ (A : Dad) (d : Addr) (F : Addr → Prop) (S : Dst) (ds : List Int), vs = [.ref A.d, .ref d] ∧ PA H A F S ∧ ¬ F d ∧ H d = some (.lst (ds.map V.int)) ∧ (S.seek = true → S.cells.length + ds.length ≤ 4000) ∧ S.cells.length + ds.length ≤ 100000 ∧
  ∀ H', PA H' A F { S with cells := S.cells ++ ds } → Step F H F H' → Q .non H'

theorem dfs_new (A : Dad) (k : Bool) : putF ("used" : Str) (.int 0) (putF ("plan" : Str) (.ref A.p) (putF ("cells" : Str) (.ref A.c) (putF ("notes" : Str) (.ref A.l) (putF ("barred" : Str) (.bl false) (putF ("spot" : Str) (.int 0) (putF ("can_seek" : Str) (.bl k) [])))))) = dfs A k 0 false 0 := by unfold dfs; kernel_rfl
def spRInitB (K : PySem.W.Frag) : Sp := fun vs H Q _ => ∃ (e C dx : Addr) (k : Bool), vs = [.ref e, .bl k] ∧ H e = some (.ins C dx []) ∧ Cls K C ∧ NoAttr K C "can_seek" ∧ NoAttr K C "spot" ∧ NoAttr K C "barred" ∧ NoAttr K C "notes" ∧
  ∀ (H' : Hp) (l : Addr), H l = none → H' l = some (.lst []) → H' e = some (.ins C dx (putF ("notes" : Str) (.ref l) (putF ("barred" : Str) (.bl false) (putF ("spot" : Str) (.int 0) (putF ("can_seek" : Str) (.bl k) []))))) → Kp [e] H H' → Q .non H'
def spDInit (CD : Addr) (PA : DQ) : Sp := fun vs H Q _ => ∃ (d dd a p : Addr) (k : Bool) (row plan : List Int), vs = [.ref d, .ref a, .ref p, .bl k] ∧ H d = some (.ins CD dd []) ∧ H a = some (.lst (row.map V.int)) ∧ H p = some (.lst (plan.map V.int)) ∧
  ∀ (H' : Hp) (A : Dad) (F : Addr → Prop), A.d = d → PA H' A F ⟨k, 0, false, [], row, plan, 0⟩ → Step (fun b => b = d ∨ b = dd) H F H' → Q .non H'
end Sip
/-! promises over a heap in pieces: the draws, the device -/
namespace Sip
open PySem PySem.Spec PyProof.Rows L2 TL
section
variable {H H' H1 : Hp} {c d : Ch} {cs ds cs1 R : List Ch} {F F1 F2 F' : Addr → Prop} {a b l p q : Addr} {o o' o1 : HO} {vs : List V} {Q : VK} {E : XK} {CD C x dx : Addr} {S : Dst}
theorem Pk.none : ∀ cs : List Ch, Pk cs []
  | [] => .nil
  | c :: cs => .drop (Pk.none cs)
theorem Step.add (st : Step F H F' H') (n : H q = none) : Step F H (fun b => F' b ∨ b = q) H' := ⟨st.1, fun b z => z.elim (st.2 b) fun y => .inr (by rw [y]; exact n)⟩
theorem SatF.two (h1 : c.On H F1) (h2 : d.On H F2) (n : ∀ b, F1 b → ¬ F2 b) : SatF H [c, d] (fun b => F1 b ∨ F2 b) := ⟨F1, F2, h1, SatF.one h2, n, fun _ => Iff.rfl⟩
/-- an object made -/
theorem Sat.make (h : Sat H cs) (n : H x = none) (m : H dx = none) (ne : dx ≠ x) (g : upd (upd H dx o') x o = H1) : Sat H1 (.pt x o :: .pt dx o' :: cs) := by
  have h1 := h.alloc m rfl (o := o')
  exact h1.alloc (by rw [upd_ne ne.symm]; exact n) g
def spTakeS : Sp := fun vs H Q _ => ∃ (p : Addr) (n wide : Int) (R : List Ch), vs = [.ref p, .int wide] ∧ Sat H (poolC p n :: R) ∧ n ≤ 1000000000 ∧ 0 < wide ∧ wide < 1073741824 ∧
  ∀ (r : Nat) (H' : Hp), (r : Int) < wide → Sat H' (poolC p (n + 1) :: R) → Q (.int r) H'
theorem spTakeS.to (h : spTakeS vs H Q E) : spTake vs H Q E := by
  obtain ⟨p, n, wide, R, rfl, h, a, b, c, q⟩ := h
  obtain ⟨o, e, P⟩ := h.pool
  refine ⟨p, n, wide, o, rfl, e, P, a, b, c, fun r o' r0 r1 P' => ?_⟩
  obtain ⟨k, rfl⟩ := Int.eq_ofNat_of_zero_le r0
  exact q k _ r1 (h.poolp P' rfl)
def spPoolS (K : PySem.W.Frag) : Sp := fun vs H Q _ => ∃ (a : Addr) (ns : List Int) (i : Int) (R : List Ch), vs = [.ref a, .int i] ∧ Sat H (scrC K a (ns.map V.int) :: R) ∧ ns.length ≤ 63 ∧ 0 ≤ i ∧ i ≤ 1000 ∧
  ∀ (p : Addr) (H' : Hp), Sat H' (poolC p (1000 * i) :: scrC K a (ns.map V.int) :: R) → Q (.ref p) H'
theorem spPoolS.to {K : PySem.W.Frag} (h : spPoolS K vs H Q E) : spPool K vs H Q E := by
  obtain ⟨a, ns, i, R, rfl, h, a1, b, c, q⟩ := h
  exact ⟨a, ns, i, rfl, h.scr .hd, a1, b, c, fun p o np P => q p _ (Sat.exI o P (h.alloc np rfl))⟩
/-- a call that changes the pool alone and makes one list -/
theorem Sat.kp1 {n m : Int} (h : Sat H (poolC p n :: R)) (k : Kp [p] H H') (nb : H b = none) (eb : H' b = some o) (ep : H' p = some o1) (hP : PoolO m o1) : Sat H' (poolC p m :: .pt b o :: R) := by
  obtain ⟨o2, hP2, h⟩ := h.exE
  obtain ⟨F, h1, kk⟩ := Sat.opnL (ds := [.pt p o2]) h
  have e1 := h1.of1.here
  have pb : p ≠ b := fun z => by rw [← z, e1.1] at nb; cases nb
  refine Sat.exI o1 hP (kk [.pt p o1, .pt b o] (fun x => x = p ∨ x = b) H' ⟨fun x o n e => k x o (by simpa using fun z => n ((e1.2 x).mpr z)) e, fun x z => ?_⟩ (SatF.two (On.pt ep) (On.pt eb) fun x y z => pb (y.symm.trans z)))
  rcases z with rfl | rfl
  · exact .inl ((e1.2 _).mpr rfl)
  · exact .inr nb
def spRowL : Sp := fun vs H Q _ => ∃ (p : Addr) (n N : Int) (o : HO), vs = [.ref p, .int N] ∧ H p = some o ∧ PoolO n o ∧ n ≤ 900000000 ∧ 0 ≤ N ∧ N ≤ 400 ∧
  ∀ (H' : Hp) (b : Addr) (bs : List Int) (o' : HO), H b = none → H' b = some (.lst (bs.map V.int)) → H' p = some o' → PoolO (n + 1000) o' → Kp [p] H H' → (bs.length : Int) ≤ N → Bytes bs → Q (.ref b) H'
def spRowS : Sp := fun vs H Q _ => ∃ (p : Addr) (n N : Int) (R : List Ch), vs = [.ref p, .int N] ∧ Sat H (poolC p n :: R) ∧ n ≤ 900000000 ∧ 0 ≤ N ∧ N ≤ 400 ∧
  ∀ (H' : Hp) (b : Addr) (bs : List Int), Sat H' (poolC p (n + 1000) :: .pt b (.lst (bs.map V.int)) :: R) → (bs.length : Int) ≤ N → Bytes bs → Q (.ref b) H'
theorem spRowS.to (h : spRowS vs H Q E) : spRowL vs H Q E := by
  obtain ⟨p, n, N, R, rfl, h, a, b, c, q⟩ := h
  obtain ⟨o, e, P⟩ := h.pool
  exact ⟨p, n, N, o, rfl, e, P, a, b, c, fun H' b bs o' nb eb ep hP k lb hb => q H' b bs (h.kp1 k nb eb ep hP) lb hb⟩
def spPlanL : Sp := fun vs H Q _ => ∃ (p : Addr) (n N tr : Int) (o : HO), vs = [.ref p, .int N, .int tr] ∧ H p = some o ∧ PoolO n o ∧ n ≤ 900000000 ∧ 0 ≤ N ∧ N ≤ 200 ∧
  ∀ (H' : Hp) (b : Addr) (ns : List Int) (o' : HO), H b = none → H' b = some (.lst (ns.map V.int)) → H' p = some o' → PoolO (n + 1000) o' → Kp [p] H H' → (ns.length : Int) ≤ N → Q (.ref b) H'
def spPlanS : Sp := fun vs H Q _ => ∃ (p : Addr) (n N tr : Int) (R : List Ch), vs = [.ref p, .int N, .int tr] ∧ Sat H (poolC p n :: R) ∧ n ≤ 900000000 ∧ 0 ≤ N ∧ N ≤ 200 ∧
  ∀ (H' : Hp) (b : Addr) (ns : List Int), Sat H' (poolC p (n + 1000) :: .pt b (.lst (ns.map V.int)) :: R) → (ns.length : Int) ≤ N → Q (.ref b) H'
theorem spPlanS.to (h : spPlanS vs H Q E) : spPlanL vs H Q E := by
  obtain ⟨p, n, N, tr, R, rfl, h, a, b, c, q⟩ := h
  obtain ⟨o, e, P⟩ := h.pool
  exact ⟨p, n, N, tr, o, rfl, e, P, a, b, c, fun H' b bs o' nb eb ep hP k lb => q H' b bs (h.kp1 k nb eb ep hP) lb⟩
def spLaidW : Sp := fun vs H Q _ => ∃ (a b : Addr) (r ds : List Int) (n : Nat), vs = [.ref a, .int n, .ref b] ∧ H a = some (.lst (r.map V.int)) ∧ H b = some (.lst (ds.map V.int)) ∧ r.length ≤ 100000 ∧ n ≤ 100000 ∧ ds.length ≤ 100000 ∧
  ∀ (H' : Hp) (q : Addr), H q = none → H' q = some (.lst ((laidF r n ds).map V.int)) → Same H H' → Q (.ref q) H'
def spLaidS : Sp := fun vs H Q _ => ∃ (a b : Addr) (r ds : List Int) (n : Nat) (R : List Ch), vs = [.ref a, .int n, .ref b] ∧ Sat H R ∧ H a = some (.lst (r.map V.int)) ∧ H b = some (.lst (ds.map V.int)) ∧ r.length ≤ 100000 ∧ n ≤ 100000 ∧ ds.length ≤ 100000 ∧
  ∀ (H' : Hp) (q : Addr), Sat H' (.pt q (.lst ((laidF r n ds).map V.int)) :: R) → Q (.ref q) H'
theorem spLaidS.to (h : spLaidS vs H Q E) : spLaidW vs H Q E := by
  obtain ⟨a, b, r, ds, n, R, rfl, h, ha, hb, l1, l2, l3, q⟩ := h
  exact ⟨a, b, r, ds, n, rfl, ha, hb, l1, l2, l3, fun H' z nz ez s => q H' z (h.fresh s nz ez)⟩
/-! the device's calls -/
def devMs : List Str := ["take", "put", "go", "cut", "shut", "place", "size", "seeks", "is_shut", "log", "log_behind", "note", "check_open", "check_seeks", "may_take", "may_put", "may_cut", "give", "accept", "move", "trim", "extent", "grow", "content", "left", "allowed"]
theorem meth_dev {m : Str} {G : Prop} (h : Sat H (devC CD a S :: R)) (hm : m ∈ devMs) (g : G) : ∃ (x dx : Addr) (fs : List (Str × V)), V.ref a = .ref x ∧ H x = some (.ins CD dx fs) ∧ fs.lookup m = none ∧ G := by
  obtain ⟨A, F, rfl, ⟨dd, ws, G, I, hF⟩, k⟩ := h.dev
  exact ⟨A.d, dd, _, rfl, I.hd, dfs_no _ _ _ _ _ m hm, g⟩
theorem SatF.dev1 {A : Dad} (h : DevAt CD H A F S) : SatF H [devC CD A.d S] F := SatF.one (On.dev h)
theorem SatF.dev2 {A : Dad} (h : DevAt CD H A F S) (e : H q = some o) (n : ¬ F q) : SatF H [devC CD A.d S, .pt q o] (fun b => F b ∨ b = q) := SatF.two (On.dev h) (On.pt e) fun b x y => n (by rw [← show b = q from y]; exact x)
/-- a fault flies: the device stands so -/
def FaultS (CD : Addr) (E : XK) (C d : Addr) (R : List Ch) (S : Dst) (n : Int) : Prop := ∀ (H' : Hp) (e : Addr), Sat H' (devC CD d S :: .pt e (.xd [("taken", .int 0), ("number", .int n)]) :: R) → E (.ref C) (some e) H'
def Good (S : Dst) : Prop := ∀ k, planN S = some k → 0 ≤ k
theorem faultS {A : Dad} {n : Int} (k : ∀ ds' F' H', Step F H F' H' → SatF H' ds' F' → Sat H' (ds' ++ R)) (h : FaultS CD E C A.d R S n) : FaultTo (DevAt CD) E C H A F S n := fun H' F' e hA n0 he ne st =>
  h H' e (k [_, _] _ H' (st.add n0) (SatF.dev2 hA he ne))
def noteS (S : Dst) (w : Str) (h c : Tg) : Dst := { usedS S with ns := S.ns ++ [⟨w, S.spot, h, c⟩] }
def spTakeDS (CD C : Addr) : Sp := fun vs H Q E => ∃ (d : Addr) (S : Dst) (n : Nat) (R : List Ch), vs = [.ref d, .int n] ∧ Sat H (devC CD d S :: R) ∧ DstOk S ∧ S.bar = false ∧
  (Good S → mayF S n = 0 → ∀ H', Sat H' (devC CD d (tookS S n) :: R) → Q .non H') ∧
  (Good S → mayF S n ≠ 0 → ∀ (H' : Hp) (q : Addr), Sat H' (.pt q (.lst ((takenF S n).map V.int)) :: devC CD d (tookS S n) :: R) → Q (.ref q) H') ∧
  (∀ k, planN S = some k → k < 0 → FaultS CD E C d R (noteS S (Str.ofString "take") (.i n) (.s (Str.ofString "fault"))) (-k))
theorem spTakeDS.to (h : spTakeDS CD C vs H Q E) : spTakeD (DevAt CD) C vs H Q E := by
  obtain ⟨d, S, n, R, rfl, h, ok, hb, q1, q2, qe⟩ := h
  obtain ⟨A, F, rfl, hA, k⟩ := h.dev
  refine ⟨A, F, S, n, rfl, hA, ok, hb, fun good H' F' q hA' hq st => ?_, fun m em hm => faultS k (qe m em hm)⟩
  by_cases h0 : mayF S n = 0
  · rw [if_pos h0]; exact q1 good h0 H' (k _ _ H' st (SatF.dev1 hA'))
  · rw [if_neg h0]
    obtain ⟨nq, eq, nF⟩ := hq h0
    exact q2 good h0 H' q ((k [_, _] _ H' (st.add nq) (SatF.dev2 hA' eq nF)).pull (.tl .hd))
def spGoDS (CD C : Addr) : Sp := fun vs H Q E => ∃ (d : Addr) (S : Dst) (n : Nat) (R : List Ch), vs = [.ref d, .int n] ∧ Sat H (devC CD d S :: R) ∧ DstOk S ∧ S.bar = false ∧ S.seek = true ∧ n ≤ 4000 ∧
  (Good S → ∀ H', Sat H' (devC CD d { noteS S (Str.ofString "go") (.i n) (.i 0) with spot := n } :: R) → Q .non H') ∧
  (∀ k, planN S = some k → k < 0 → FaultS CD E C d R (noteS S (Str.ofString "go") (.i n) (.s (Str.ofString "fault"))) (-k))
theorem spGoDS.to (h : spGoDS CD C vs H Q E) : spGoD (DevAt CD) C vs H Q E := by
  obtain ⟨d, S, n, R, rfl, h, ok, hb, hs, hn, q1, qe⟩ := h
  obtain ⟨A, F, rfl, hA, k⟩ := h.dev
  exact ⟨A, F, S, n, rfl, hA, ok, hb, hs, hn, fun good H' F' hA' st => q1 good H' (k _ _ H' st (SatF.dev1 hA')), fun m em hm => faultS k (qe m em hm)⟩
def spCutDS (CD C : Addr) : Sp := fun vs H Q E => ∃ (d : Addr) (S : Dst) (n : Nat) (R : List Ch), vs = [.ref d, .int n] ∧ Sat H (devC CD d S :: R) ∧ DstOk S ∧ S.bar = false ∧ S.seek = true ∧ n ≤ 4000 ∧
  (Good S → ∀ H', Sat H' (devC CD d { noteS S (Str.ofString "cut") (.i n) (.i 0) with cells := S.cells.take n } :: R) → Q .non H') ∧
  (∀ k, planN S = some k → k < 0 → FaultS CD E C d R (noteS S (Str.ofString "cut") (.i n) (.s (Str.ofString "fault"))) (-k))
theorem spCutDS.to (h : spCutDS CD C vs H Q E) : spCutD (DevAt CD) C vs H Q E := by
  obtain ⟨d, S, n, R, rfl, h, ok, hb, hs, hn, q1, qe⟩ := h
  obtain ⟨A, F, rfl, hA, k⟩ := h.dev
  exact ⟨A, F, S, n, rfl, hA, ok, hb, hs, hn, fun good H' F' hA' st => q1 good H' (k _ _ H' st (SatF.dev1 hA')), fun m em hm => faultS k (qe m em hm)⟩
def PutFit (S : Dst) (ds : List Int) : Prop := (S.seek = true → S.cells.length ≤ 4000 ∧ S.spot + ds.length ≤ 4000) ∧ S.cells.length ≤ 10000 ∧ S.spot ≤ 4400 ∧ ds.length ≤ 4400
def spPutDS (CD C : Addr) : Sp := fun vs H Q E => ∃ (d l : Addr) (S : Dst) (ds : List Int) (R : List Ch), vs = [.ref d, .ref l] ∧ Sat H (devC CD d S :: R) ∧ H l = some (.lst (ds.map V.int)) ∧ DstOk S ∧ S.bar = false ∧ PutFit S ds ∧
  (Good S → ∀ H', Sat H' (devC CD d (putS S ds) :: R) → Q (if putN S ds = 0 then .non else .int (putN S ds)) H') ∧
  (∀ k, planN S = some k → k < 0 → FaultS CD E C d R (noteS S (Str.ofString "put") (.l ds) (.s (Str.ofString "fault"))) (-k))
theorem spPutDS.to (h : spPutDS CD C vs H Q E) : spPutD (DevAt CD) C vs H Q E := by
  obtain ⟨d, l, S, ds, R, rfl, h, hl, ok, hb, ⟨p1, p2, p3, p4⟩, q1, qe⟩ := h
  obtain ⟨A, F, rfl, hA, k⟩ := h.dev
  exact ⟨A, l, F, S, ds, rfl, hA, ok, hb, hl, p1, p2, p3, p4, fun good H' c F' hA' st => q1 good H' (k _ _ H' st (SatF.dev1 (A := { A with c := c }) hA')), fun m em hm => faultS k (qe m em hm)⟩
def spContDS (CD : Addr) : Sp := fun vs H Q _ => ∃ (d : Addr) (S : Dst) (R : List Ch), vs = [.ref d] ∧ Sat H (devC CD d S :: R) ∧ ∀ (H' : Hp) (q : Addr), Sat H' (.pt q (.lst (S.cells.map V.int)) :: devC CD d S :: R) → Q (.ref q) H'
theorem spContDS.to (h : spContDS CD vs H Q E) : spContD (DevAt CD) vs H Q E := by
  obtain ⟨d, S, R, rfl, h, q⟩ := h
  obtain ⟨A, F, rfl, hA, k⟩ := h.dev
  exact ⟨A, F, S, rfl, hA, fun H' z nz ez s => q H' z (h.fresh s nz ez)⟩
def spGrowDS (CD : Addr) : Sp := fun vs H Q _ => ∃ (d l : Addr) (S : Dst) (ds : List Int) (R : List Ch), vs = [.ref d, .ref l] ∧ Sat H (devC CD d S :: .pt l (.lst (ds.map V.int)) :: R) ∧ (S.seek = true → S.cells.length + ds.length ≤ 4000) ∧ S.cells.length + ds.length ≤ 100000 ∧
  ∀ H', Sat H' (devC CD d { S with cells := S.cells ++ ds } :: .pt l (.lst (ds.map V.int)) :: R) → Q .non H'
theorem spGrowDS.to (h : spGrowDS CD vs H Q E) : spGrowD (DevAt CD) vs H Q E := by
  obtain ⟨d, l, S, ds, R, rfl, h, l1, l2, q⟩ := h
  have hl := h.get (a := l) (.tl .hd)
  have nF : ∀ F, (∃ A : Dad, A.d = d ∧ DevAt CD H A F S) → True := fun _ _ => trivial
  obtain ⟨F0, F, F2, h1, ⟨F3, F4, h3, h4, d2, u2⟩, dj, u⟩ := h
  obtain ⟨A, rfl, hA⟩ := h1.here
  have nl : ¬ F l := fun z => dj l z ((u2 l).mpr (.inl ((h3.here.2 l).mpr rfl)))
  refine ⟨A, l, F, S, ds, rfl, hA, nl, hl, l1, l2, fun H' hA' st => q H' ?_⟩
  have h5 : SatF H (.pt l (.lst (ds.map V.int)) :: R) F2 := ⟨F3, F4, h3, h4, d2, u2⟩
  exact Sat.mk (On.dev hA') (h5.keep fun b o g e => st.1 b o (fun z => dj b z g) e) dj
theorem Nts.shrink {G : Addr → Prop} : ∀ {vs : List V} {ns : List Nt}, Nts H G vs ns → Nts H (fun b => G b ∧ ∃ o, H b = some o) vs ns
  | [], [], _ => trivial
  | v :: vs, n :: ns, ⟨⟨t, hv, cv, e, g, ht, h1, h2, h3⟩, r⟩ => ⟨⟨t, hv, cv, e, ⟨g, _, ht⟩, ht, by
      cases n with
      | mk w p h c => cases h with
        | i n => exact h1
        | s w => exact h1
        | l xs => obtain ⟨a, e, ga, ha⟩ := h1; exact ⟨a, e, ⟨ga, _, ha⟩, ha⟩, by
      cases n with
      | mk w p h c => cases c with
        | i n => exact h2
        | s w => exact h2
        | l xs => obtain ⟨a, e, ga, ha⟩ := h2; exact ⟨a, e, ⟨ga, _, ha⟩, ha⟩, h3⟩, Nts.shrink r⟩
def spLogDS (CD : Addr) : Sp := fun vs H Q _ => ∃ (d : Addr) (S : Dst) (R : List Ch), vs = [.ref d] ∧ Sat H (devC CD d S :: R) ∧ DstOk S ∧ ∀ (H' : Hp) (q : Addr), Sat H' (ntsC q S.ns :: devC CD d S :: R) → Q (.ref q) H'
theorem spLogDS.to (h : spLogDS CD vs H Q E) : spLogD (DevAt CD) vs H Q E := by
  obtain ⟨d, S, R, rfl, h, ok, q⟩ := h
  obtain ⟨A, F, rfl, hA, k⟩ := h.dev
  refine ⟨A, F, S, rfl, hA, ok, fun H' z vs G nz ng ez N g0 s => q H' z ?_⟩
  obtain ⟨F9, h⟩ := h
  refine Sat.mk (On.nts ez N.shrink (fun y => ng y.1) (fun b y => y.2)) (h.keep fun b o _ e => s b o e) fun b y f => ?_
  obtain ⟨o, e⟩ := h.own b f
  rcases y with rfl | y
  · rw [nz] at e; cases e
  · rw [g0 b y.1] at e; cases e
def dst0 (k : Bool) (row plan : List Int) : Dst := ⟨k, 0, false, [], row, plan, 0⟩
def spDInitS (CD : Addr) : Sp := fun vs H Q _ => ∃ (d dd a p : Addr) (k : Bool) (row plan : List Int) (R : List Ch), vs = [.ref d, .ref a, .ref p, .bl k] ∧ Sat H (.pt d (.ins CD dd []) :: .pt dd (.own d) :: R) ∧ H a = some (.lst (row.map V.int)) ∧ H p = some (.lst (plan.map V.int)) ∧
  ∀ H' : Hp, Sat H' (devC CD d (dst0 k row plan) :: R) → Q .non H'
theorem spDInitS.to (h : spDInitS CD vs H Q E) : spDInit CD (DevAt CD) vs H Q E := by
  obtain ⟨d, dd, a, p, k, row, plan, R, rfl, h, ha, hp, q⟩ := h
  refine ⟨d, dd, a, p, k, row, plan, rfl, h.get .hd, ha, hp, fun H' A F e hA st => q H' ?_⟩
  subst e
  obtain ⟨F1, h1, kk⟩ := Sat.opnL (ds := [.pt A.d (.ins CD dd []), .pt dd (.own A.d)]) h
  obtain ⟨F2, F3, h2, h3, _, u⟩ := h1
  have e2 := h2.here.2
  have e3 := h3.of1.here.2
  have eF : (fun b => b = A.d ∨ b = dd) = F1 := funext fun b => propext (by rw [u b, e2 b, e3 b])
  rw [eF] at st
  exact kk _ _ H' st (SatF.dev1 hA)
end
end Sip
/-! the laws' own device: a dict with its row, plan and notes; what comes of an ask -/
namespace Sip
open PySem PySem.Spec PyProof.Rows L2 TL
def ntsK (q : Addr) (ns : List Nt) (ks : List (Addr × List Int)) : Ch := .ab fun H F => ∃ vs G, H q = some (.lst vs) ∧ Nts H G vs ns ∧ ¬ G q ∧ (∀ b, G b → ∃ o, H b = some o) ∧ (∀ x ∈ ks, G x.1 ∧ H x.1 = some (.lst (x.2.map V.int))) ∧ ∀ b, F b ↔ b = q ∨ G b
def tgF (v : V) (t : Tg) : Addr → Prop := fun b => match t, v with
  | .l _, .ref a => b = a
  | _, _ => False
def tgC (v : V) (t : Tg) : Ch := .ab fun H F => F = tgF v t ∧ TgAt H F v t
def kn (v : V) (t : Tg) : List (Addr × List Int) := match v, t with
  | .ref a, .l xs => [(a, xs)]
  | _, _ => []
section
variable {H H' H1 : Hp} {c d : Ch} {cs ds cs1 R : List Ch} {F F1 F2 F' : Addr → Prop} {a b l p q t : Addr} {o o' o1 : HO} {vs : List V} {Q : VK} {E : XK} {CD C x dx : Addr} {S : Dst} {ns : List Nt} {ks : List (Addr × List Int)}
theorem On.ntsK {G : Addr → Prop} (e : H q = some (.lst vs)) (h : Nts H G vs ns) (n : ¬ G q) (al : ∀ b, G b → ∃ o, H b = some o) (kk : ∀ x ∈ ks, G x.1 ∧ H x.1 = some (.lst (x.2.map V.int))) : (ntsK q ns ks).On H (fun b => b = q ∨ G b) :=
  ⟨fun H' k => ⟨vs, G, k q _ (.inl rfl) e, h.keep (fun b o z e => k b o (.inr z) e) (fun _ z => z), n, fun b z => (al b z).elim fun o e => ⟨o, k b o (.inr z) e⟩, fun x hx => ⟨(kk x hx).1, k _ _ (.inr (kk x hx).1) (kk x hx).2⟩, fun _ => Iff.rfl⟩, fun b z => z.elim (fun z => ⟨.lst vs, by rw [z]; exact e⟩) (al b)⟩
theorem Sat.ntsk (h : Sat H cs) (p : Pull (ntsK q ns ks) cs cs1) : ∃ vs G, H q = some (.lst vs) ∧ Nts H G vs ns := by
  obtain ⟨F, F1, F2, h1, _⟩ := h.pull p
  obtain ⟨vs, G, e, N, _⟩ := h1.here
  exact ⟨vs, G, e, N⟩
theorem Sat.kget {xs : List Int} (h : Sat H cs) (p : Pull (ntsK q ns ks) cs cs1) (m : (a, xs) ∈ ks) : H a = some (.lst (xs.map V.int)) := by
  obtain ⟨F, F1, F2, h1, _⟩ := h.pull p
  obtain ⟨vs, G, e, N, _, _, kk, _⟩ := h1.here
  exact (kk _ m).2
theorem Sat.ksub {js : List (Addr × List Int)} (h : Sat H (ntsK q ns ks :: cs)) (s : ∀ x ∈ js, x ∈ ks) : Sat H (ntsK q ns js :: cs) := by
  obtain ⟨F, F1, F2, h1, h2, d, u⟩ := h
  obtain ⟨vs, G, e, N, n, al, kk, hF⟩ := h1.here
  exact Sat.mk (On.ntsK e N n al (fun x hx => kk x (s x hx))) h2 (fun b z => d b ((hF b).mpr z))
theorem Sat.nts0 (h : Sat H (.pt q (.lst []) :: cs)) : Sat H (ntsK q [] [] :: cs) := by
  obtain ⟨F, F1, F2, h1, h2, d, u⟩ := h
  obtain ⟨e, hF⟩ := h1.here
  exact Sat.mk (On.ntsK (G := fun _ => False) e trivial (fun z => z) (fun _ z => z.elim) (fun x hx => by cases hx)) h2 (fun b z => d b ((hF b).mpr (z.elim id fun z => z.elim)))
theorem On.tg {v : V} {t : Tg} (h : TgAt H (tgF v t) v t) : (tgC v t).On H (tgF v t) := by
  refine ⟨fun H' k => ⟨rfl, h.keep k (fun _ z => z)⟩, fun b z => ?_⟩
  cases t with
  | i n => exact absurd z (by unfold tgF; simp)
  | s n => exact absurd z (by unfold tgF; simp)
  | l xs =>
    obtain ⟨a, rfl, ga, ha⟩ := h
    exact ⟨_, by rw [show b = a from z]; exact ha⟩
theorem Sat.tgl {xs : List Int} (h : Sat H (.pt a (.lst (xs.map V.int)) :: cs)) : Sat H (tgC (.ref a) (.l xs) :: cs) := by
  obtain ⟨F, F1, F2, h1, h2, d, u⟩ := h
  obtain ⟨e, hF⟩ := h1.here
  exact Sat.mk (On.tg ⟨a, rfl, rfl, e⟩) h2 (fun b z => d b ((hF b).mpr z))
theorem Sat.tgi (n : Int) (h : Sat H cs) : Sat H (tgC (.int n) (.i n) :: cs) := by
  obtain ⟨F, h⟩ := h
  exact Sat.mk (On.tg (show TgAt H _ (.int n) (.i n) from rfl)) h (fun b z => absurd z (by unfold tgF; simp))
theorem Sat.tgs (w : Str) (h : Sat H cs) : Sat H (tgC (.str w) (.s w) :: cs) := by
  obtain ⟨F, h⟩ := h
  exact Sat.mk (On.tg (show TgAt H _ (.str w) (.s w) from rfl)) h (fun b z => absurd z (by unfold tgF; simp))
theorem Sat.tgE {xs : List Int} {v : V} (h : Sat H (tgC v (.l xs) :: cs)) : ∃ a, v = .ref a ∧ Sat H (.pt a (.lst (xs.map V.int)) :: cs) := by
  obtain ⟨F, F1, F2, h1, h2, d, u⟩ := h
  obtain ⟨eF, a, rfl, ga, ha⟩ := h1.here
  exact ⟨a, rfl, Sat.mk (On.pt ha) h2 (fun b z => d b (by rw [eF]; exact z))⟩
theorem Sat.tgiE {n : Int} {v : V} (h : Sat H (tgC v (.i n) :: cs)) : v = .int n ∧ Sat H cs := by
  obtain ⟨F, F1, F2, h1, h2, d, u⟩ := h
  exact ⟨h1.here.2, F2, h2⟩
theorem Sat.tgsE {w : Str} {v : V} (h : Sat H (tgC v (.s w) :: cs)) : v = .str w ∧ Sat H cs := by
  obtain ⟨F, F1, F2, h1, h2, d, u⟩ := h
  exact ⟨h1.here.2, F2, h2⟩
theorem kn_at {v : V} {t : Tg} {x : Addr × List Int} (hx : x ∈ kn v t) : tgF v t x.1 ∧ ∀ H F, TgAt H F v t → H x.1 = some (.lst (x.2.map V.int)) := by
  cases t with
  | i n => cases v <;> cases hx
  | s n => cases v <;> cases hx
  | l xs =>
    cases v with
    | ref a =>
      cases (List.mem_singleton.mp hx)
      refine ⟨rfl, fun H F h => ?_⟩
      obtain ⟨a', e, _, ha⟩ := h
      cases e
      exact ha
    | _ => cases hx
/-- a note more -/
theorem Sat.note {n : Nt} {hv cv : V} (h : Sat H (ntsK q ns ks :: tgC hv n.h :: tgC cv n.c :: cs)) (ok : NtOk n) : ∃ vs, H q = some (.lst vs) ∧ vs.length = ns.length ∧ ∀ t H1, H t = none →
    upd (upd H t (.tup [.str n.w, .int n.p, hv, cv])) q (.lst (vs ++ [.ref t])) = H1 → Sat H1 (ntsK q (ns ++ [n]) (kn hv n.h ++ (kn cv n.c ++ ks)) :: cs) := by
  obtain ⟨F, h1, k⟩ := Sat.opnL (ds := [ntsK q ns ks, tgC hv n.h, tgC cv n.c]) h
  obtain ⟨FA, FB, hA, ⟨FC, FD, hC, hD, dC, uC⟩, dA, uA⟩ := h1
  have hD := hD.of1
  obtain ⟨vs, G, e, N, nq, al, kk, hF⟩ := hA.here
  obtain ⟨rfl, hT⟩ := hC.here
  obtain ⟨rfl, hU⟩ := hD.here
  refine ⟨vs, e, N.len, fun t H1 nt g => ?_⟩
  subst g
  have ne : ∀ {b o}, H b = some o → b ≠ t := fun {b o} e => ne_of_none e nt
  have tq : t ≠ q := (ne e).symm
  have kq : ∀ b o, b ≠ q → H b = some o → (upd (upd H t (.tup [.str n.w, .int n.p, hv, cv])) q (.lst (vs ++ [.ref t]))) b = some o := fun b o z e => by rw [upd_ne z, upd_ne (ne e)]; exact e
  have Cq : ∀ b, tgF hv n.h b → b ≠ q := fun b z y => dA q ((hF q).mpr (.inl rfl)) ((uC q).mpr (.inl (by rw [← y]; exact z)))
  have Dq : ∀ b, tgF cv n.c b → b ≠ q := fun b z y => dA q ((hF q).mpr (.inl rfl)) ((uC q).mpr (.inr (by rw [← y]; exact z)))
  have Gq : ∀ b, G b → b ≠ q := fun b z y => nq (by rw [← y]; exact z)
  refine k [_] (fun b => b = q ∨ (G b ∨ b = t ∨ tgF hv n.h b ∨ tgF cv n.c b)) _ ⟨fun b o nb e => ?_, fun b z => ?_⟩ (SatF.one (On.ntsK (G := fun b => G b ∨ b = t ∨ tgF hv n.h b ∨ tgF cv n.c b) upd_same (Nts.snoc ⟨t, hv, cv, rfl, .inr (.inl rfl), ?_, ?_, ?_, ok⟩ (N.keep (fun b o z e => kq b o (Gq b z) e) (fun _ z => .inl z))) ?_ ?_ ?_))
  · exact kq b o (fun y => nb ((uA b).mpr (.inl ((hF b).mpr (.inl y))))) e
  · rcases z with z | z | z | z | z
    · exact .inl ((uA b).mpr (.inl ((hF b).mpr (.inl z))))
    · exact .inl ((uA b).mpr (.inl ((hF b).mpr (.inr z))))
    · exact .inr (by rw [z]; exact nt)
    · exact .inl ((uA b).mpr (.inr ((uC b).mpr (.inl z))))
    · exact .inl ((uA b).mpr (.inr ((uC b).mpr (.inr z))))
  · rw [upd_ne tq, upd_same]
  · exact hT.keep (fun b o z e => kq b o (Cq b z) e) (fun _ z => .inr (.inr (.inl z)))
  · exact hU.keep (fun b o z e => kq b o (Dq b z) e) (fun _ z => .inr (.inr (.inr z)))
  · rintro (z | z | z | z)
    · exact nq z
    · exact tq z.symm
    · exact Cq q z rfl
    · exact Dq q z rfl
  · rintro b (z | z | z | z)
    · exact (al b z).elim fun o e => ⟨o, kq b o (Gq b z) e⟩
    · exact ⟨_, by rw [z, upd_ne tq, upd_same]⟩
    · exact (hC.2 b z).elim fun o e => ⟨o, kq b o (Cq b z) e⟩
    · exact (hD.2 b z).elim fun o e => ⟨o, kq b o (Dq b z) e⟩
  · intro x hx
    rcases List.mem_append.mp hx with hx | hx
    · obtain ⟨h1, h2⟩ := kn_at hx
      exact ⟨.inr (.inr (.inl h1)), kq _ _ (Cq _ h1) (h2 _ _ hT)⟩
    · rcases List.mem_append.mp hx with hx | hx
      · obtain ⟨h1, h2⟩ := kn_at hx
        exact ⟨.inr (.inr (.inr h1)), kq _ _ (Dq _ h1) (h2 _ _ hU)⟩
      · exact ⟨.inl (kk x hx).1, kq _ _ (Gq _ (kk x hx).1) (kk x hx).2⟩
/-- the law's own device -/
def mK (rw pl no : Addr) (s : Nat) : List (Key × V) := [(Sum.inr (Str.ofString "row"), .ref rw), (Sum.inr (Str.ofString "spot"), .int s), (Sum.inr (Str.ofString "plan"), .ref pl), (Sum.inr (Str.ofString "notes"), .ref no)]
def modC (m : Addr) (S : Dst) (ks : List (Addr × List Int)) : Ch := exC (fun _ : Addr × Addr × Addr => True) fun x => [.pt m (.dK (mK x.1 x.2.1 x.2.2 S.spot)), .pt x.1 (.lst (S.cells.map V.int)), .pt x.2.1 (.lst (S.plan.map V.int)), ntsK x.2.2 S.ns ks]
theorem Sat.mod {m : Addr} (h : Sat H (modC m S ks :: cs)) : ∃ rw pl no, Sat H (.pt m (.dK (mK rw pl no S.spot)) :: .pt rw (.lst (S.cells.map V.int)) :: .pt pl (.lst (S.plan.map V.int)) :: ntsK no S.ns ks :: cs) := by
  obtain ⟨⟨rw, pl, no⟩, _, h⟩ := h.exE
  exact ⟨rw, pl, no, h⟩
theorem Sat.modI {m rw pl no : Addr} (h : Sat H (.pt m (.dK (mK rw pl no S.spot)) :: .pt rw (.lst (S.cells.map V.int)) :: .pt pl (.lst (S.plan.map V.int)) :: ntsK no S.ns ks :: cs)) : Sat H (modC m S ks :: cs) := Sat.exI (rw, pl, no) trivial h
theorem Sat.modsub {m : Addr} {js : List (Addr × List Int)} (h : Sat H (modC m S ks :: cs)) (s : ∀ x ∈ js, x ∈ ks) : Sat H (modC m S js :: cs) := by
  obtain ⟨rw, pl, no, h⟩ := h.mod
  have h := (h.pull (.tl (.tl (.tl .hd)))).ksub s
  exact Sat.modI (rw := rw) (pl := pl) (no := no) (h.pk (.cons (.tl .hd) (.cons (.tl .hd) (.cons (.tl .hd) .nil))))
theorem Sat.modget {m : Addr} {xs : List Int} (h : Sat H cs) (p : Pull (modC m S ks) cs cs1) (i : (a, xs) ∈ ks) : H a = some (.lst (xs.map V.int)) := by
  obtain ⟨rw, pl, no, h⟩ := (h.pull p).mod
  exact h.kget (.tl (.tl (.tl .hd))) i
theorem mK_row (rw pl no : Addr) (s : Nat) : valV (mK rw pl no s) (Sum.inr (Str.ofString "row")) = some (.ref rw) := by unfold mK; kernel_rfl
theorem mK_spot (rw pl no : Addr) (s : Nat) : valV (mK rw pl no s) (Sum.inr (Str.ofString "spot")) = some (.int s) := by unfold mK; kernel_rfl
theorem mK_plan (rw pl no : Addr) (s : Nat) : valV (mK rw pl no s) (Sum.inr (Str.ofString "plan")) = some (.ref pl) := by unfold mK; kernel_rfl
theorem mK_notes (rw pl no : Addr) (s : Nat) : valV (mK rw pl no s) (Sum.inr (Str.ofString "notes")) = some (.ref no) := by unfold mK; kernel_rfl
theorem mK_prow (rw pl no r : Addr) (s : Nat) : putK (mK rw pl no s) (Sum.inr (Str.ofString "row")) (.ref r) = mK r pl no s := by unfold mK; kernel_rfl
theorem mK_pspot (rw pl no : Addr) (s r : Nat) : putK (mK rw pl no s) (Sum.inr (Str.ofString "spot")) (.int r) = mK rw pl no r := by unfold mK; kernel_rfl
/-- reading and writing an entry -/
theorem mget {m rw pl no : Addr} {s : Nat} {k : Str} {v : V} (e : H m = some (.dK (mK rw pl no s))) (g : valV (mK rw pl no s) (Sum.inr k) = some v) : DGet H m (.str k) (some v) := by
  rw [← g]; exact DGet.k (k := Sum.inr k) e
theorem mput {m rw pl no : Addr} {s : Nat} {k : Str} {v : V} {kvs : List (Key × V)} (e : H m = some (.dK (mK rw pl no s))) (g : putK (mK rw pl no s) (Sum.inr k) v = kvs) : DPut H m (.str k) v (upd H m (.dK kvs)) := by
  rw [← g]; exact DPut.k (k := Sum.inr k) e (by show (4 : Nat) < sizeLine; rw [sizeLine_eq]; decide)
end
/-! what comes of an ask -/
inductive Ask
  | take (n : Nat) | put (ds : List Int) | go (n : Nat) | cut (n : Nat)
def Ask.w : Ask → Str
  | .take _ => Str.ofString "take" | .put _ => Str.ofString "put" | .go _ => Str.ofString "go" | .cut _ => Str.ofString "cut"
def Ask.h : Ask → Tg
  | .take n => .i n | .put ds => .l ds | .go n => .i n | .cut n => .i n
def badN (S : Dst) : Bool := match planN S with
  | some k => decide (k < 0)
  | none => false
def goodT (S : Dst) : Ask → Tg
  | .take n => if mayF S n = 0 then .s (Str.ofString "stall") else .l (takenF S n)
  | .put ds => if putN S ds = 0 then .s (Str.ofString "stall") else .i (putN S ds)
  | _ => .i 0
def cameT (S : Dst) (a : Ask) : Tg := if badN S = true then .s (Str.ofString "fault") else goodT S a
def goodS (S : Dst) : Ask → Dst
  | .take n => tookS S n
  | .put ds => putS S ds
  | .go n => { noteS S (Str.ofString "go") (.i n) (.i 0) with spot := n }
  | .cut n => { noteS S (Str.ofString "cut") (.i n) (.i 0) with cells := S.cells.take n }
def doneS (S : Dst) (a : Ask) : Dst := if badN S = true then noteS S a.w a.h (.s (Str.ofString "fault")) else goodS S a
theorem badN_iff {S : Dst} : badN S = true ↔ ∃ k, planN S = some k ∧ k < 0 := by
  unfold badN
  cases e : planN S with
  | none => simp
  | some k => simp
theorem good_of {S : Dst} (h : badN S = false) : Good S := fun k ek => by
  unfold badN at h
  rw [ek] at h
  have := of_decide_eq_false h
  omega
theorem usedS_ns (S : Dst) : (usedS S).ns = S.ns := by unfold usedS; split <;> rfl
theorem usedS_plan (S : Dst) : (usedS S).plan = S.plan := by unfold usedS; split <;> rfl
theorem usedS_seek (S : Dst) : (usedS S).seek = S.seek := by unfold usedS; split <;> rfl
theorem usedS_bar (S : Dst) : (usedS S).bar = S.bar := by unfold usedS; split <;> rfl
theorem doneS_used (S : Dst) (a : Ask) : (doneS S a).used = (usedS S).used ∧ (doneS S a).plan = S.plan ∧ (doneS S a).seek = S.seek ∧ (doneS S a).bar = S.bar ∧ (doneS S a).ns = S.ns ++ [⟨a.w, S.spot, a.h, cameT S a⟩] := by
  unfold doneS cameT
  cases hb : badN S with
  | true => exact ⟨rfl, usedS_plan S, usedS_seek S, usedS_bar S, rfl⟩
  | false =>
    rw [if_neg (by simp), if_neg (by simp)]
    cases a with
    | take n =>
      show (tookS S n).used = _ ∧ (tookS S n).plan = _ ∧ (tookS S n).seek = _ ∧ (tookS S n).bar = _ ∧ (tookS S n).ns = S.ns ++ [⟨_, _, _, if mayF S n = 0 then _ else _⟩]
      unfold tookS
      by_cases h : mayF S n = 0
      · rw [if_pos h, if_pos h]; exact ⟨rfl, usedS_plan S, usedS_seek S, usedS_bar S, rfl⟩
      · rw [if_neg h, if_neg h]; exact ⟨rfl, usedS_plan S, usedS_seek S, usedS_bar S, rfl⟩
    | put ds => exact ⟨rfl, usedS_plan S, usedS_seek S, usedS_bar S, rfl⟩
    | go n => exact ⟨rfl, usedS_plan S, usedS_seek S, usedS_bar S, rfl⟩
    | cut n => exact ⟨rfl, usedS_plan S, usedS_seek S, usedS_bar S, rfl⟩
/-- each ask so far has used a number -/
def UsedOk (S : Dst) : Prop := S.used = min S.ns.length S.plan.length
theorem UsedOk.done {S : Dst} (h : UsedOk S) (a : Ask) : UsedOk (doneS S a) := by
  obtain ⟨h1, h2, h3, h4, h5⟩ := doneS_used S a
  unfold UsedOk at *
  rw [h1, h2, h5, List.length_append]
  show _ = min (_ + 1) _
  unfold usedS
  split
  · show S.used + 1 = _; omega
  · omega
theorem UsedOk.plan {S : Dst} (h : UsedOk S) : planN S = S.plan[S.ns.length]? := by
  unfold planN
  by_cases l : S.ns.length < S.plan.length
  · rw [h, Nat.min_eq_left (by omega)]
  · rw [h, Nat.min_eq_right (by omega), List.getElem?_eq_none (by omega), List.getElem?_eq_none (by omega)]
end Sip
/-! a part of the heap as it is, by itself -/
namespace Sip
open PySem PySem.Spec PyProof.Rows L2 TL
def frC (M : Hp) : Ch := .ab fun H F => (∀ b o, M b = some o → H b = some o) ∧ ∀ b, F b ↔ ∃ o, M b = some o
section
variable {H H' H1 M : Hp} {c d : Ch} {cs ds cs1 R : List Ch} {F F1 F2 F' : Addr → Prop} {a b l p q t z : Addr} {o o' o1 : HO} {vs : List V} {ns : List Nt} {ks : List (Addr × List Int)}
theorem On.fr (h : ∀ b o, M b = some o → H b = some o) : (frC M).On H (fun b => ∃ o, M b = some o) :=
  ⟨fun H' k => ⟨fun b o e => k b o ⟨o, e⟩ (h b o e), fun _ => Iff.rfl⟩, fun b ⟨o, e⟩ => ⟨o, h b o e⟩⟩
theorem Sat.frz {P : Hp → (Addr → Prop) → Prop} (h : Sat H (.ab P :: cs)) : ∃ M F, Sat H (frC M :: cs) ∧ P M F := by
  obtain ⟨F, F1, F2, h1, h2, d, u⟩ := h
  classical
  refine ⟨fun b => if F1 b then H b else none, F1, ?_, ?_⟩
  · refine Sat.mk (On.fr fun b o e => ?_) h2 fun b ⟨o, e⟩ => ?_
    · by_cases f : F1 b
      · rw [if_pos f] at e; exact e
      · rw [if_neg f] at e; cases e
    · by_cases f : F1 b
      · exact d b f
      · rw [if_neg f] at e; cases e
  · refine h1.1 _ fun b o f e => ?_
    show (if F1 b then H b else none) = some o
    rw [if_pos f]; exact e
theorem Sat.fr (h : Sat H cs) (p : Pull (frC M) cs cs1) (e : M b = some o) : H b = some o := by
  obtain ⟨F, F1, F2, h1, _⟩ := h.pull p
  exact h1.here.1 b o e
theorem Sat.frjk {m : Nat} {zs : List Addr} (h : Sat H (frC M :: cs)) (k : ∀ z ∈ zs, ∃ xs, M z = some (.lst xs) ∧ xs.length ≤ m) : Sat H (jkC m zs :: cs) := by
  obtain ⟨F, F1, F2, h1, h2, d, u⟩ := h
  have e1 := h1.here
  refine Sat.mk (On.jk fun z hz => ?_) h2 fun b hb => ?_
  · obtain ⟨xs, e, l⟩ := k z hz
    exact ⟨xs, e1.1 _ _ e, l⟩
  · obtain ⟨xs, e, l⟩ := k b hb
    exact d b ((e1.2 b).mpr ⟨_, e⟩)
theorem Sat.ntsf (h : Sat H (ntsC q ns :: cs)) : ∃ M vs G, Sat H (frC M :: cs) ∧ M q = some (.lst vs) ∧ Nts M G vs ns := by
  obtain ⟨M, F, hM, vs, G, e, N, _⟩ := h.frz
  exact ⟨M, vs, G, hM, e, N⟩
theorem Sat.ntsjk {m : Nat} (h : Sat H (ntsC q ns :: cs)) (l : ns.length ≤ m) : Sat H (jkC m [q] :: cs) := by
  obtain ⟨M, vs, G, hM, e, N⟩ := h.ntsf
  exact hM.frjk fun z hz => by
    rw [List.mem_singleton.mp hz]
    exact ⟨vs, e, by rw [N.len]; exact l⟩
end
end Sip
/-! what an ask comes to: by the law and by the device -/
namespace Sip
open PySem PySem.Spec PyProof.Rows L2 TL
def numF (S : Dst) : Int := (planN S).getD 1000000000
def AskOk : Ask → Prop
  | .take n => 1 ≤ n ∧ n ≤ 1000000000
  | .put ds => ds ≠ [] ∧ ds.length ≤ 4400
  | _ => True
def TgV (v : V) : Tg → Prop
  | .i n => v = .int n
  | .s w => v = .str w
  | .l _ => ∃ a, v = .ref a
theorem numF_some {S : Dst} {k : Int} (h : planN S = some k) : numF S = k := by unfold numF; rw [h]; rfl
theorem numF_none {S : Dst} (h : planN S = none) : numF S = 1000000000 := by unfold numF; rw [h]; rfl
theorem num_bad {S : Dst} : badN S = true ↔ numF S < 0 := by
  unfold badN numF
  cases planN S with
  | none => simp
  | some k => simp
theorem num_may {S : Dst} {n : Nat} (h : n ≤ 1000000000) : (if numF S < (n : Int) then numF S else (n : Int)) = mayF S n := by
  unfold numF mayF
  cases planN S with
  | none => show (if (1000000000 : Int) < (n : Int) then _ else _) = (n : Int); rw [if_neg (by omega)]
  | some k => show (if k < (n : Int) then k else (n : Int)) = min (n : Int) k; split <;> omega
theorem done_bad {S : Dst} {a : Ask} (h : numF S < 0) : doneS S a = noteS S a.w a.h (.s (Str.ofString "fault")) ∧ cameT S a = .s (Str.ofString "fault") := by
  have hb := num_bad.mpr h
  exact ⟨if_pos hb, if_pos hb⟩
theorem done_good {S : Dst} {a : Ask} (h : ¬ numF S < 0) : doneS S a = goodS S a ∧ cameT S a = goodT S a := by
  have hb : ¬ badN S = true := fun z => h (num_bad.mp z)
  exact ⟨if_neg hb, if_neg hb⟩
theorem noteS_cells (S : Dst) (w : Str) (h c : Tg) : (noteS S w h c).cells = S.cells := usedS_cells S
theorem noteS_spot (S : Dst) (w : Str) (h c : Tg) : (noteS S w h c).spot = S.spot := usedS_spot S
theorem num_zero {S : Dst} (h : numF S = 0) : planN S = some 0 := by
  unfold numF at h
  cases e : planN S with
  | none => rw [e] at h; exact absurd h (by decide)
  | some k => rw [e] at h; cases (show k = 0 from h); rfl
theorem may_zero {S : Dst} (h : numF S = 0) (n : Nat) : mayF S n = 0 := by unfold mayF; rw [num_zero h]; show min (n : Int) 0 = 0; omega
theorem put_zero {S : Dst} (h : numF S = 0) (ds : List Int) : putN S ds = 0 := by unfold putN; rw [may_zero h]; rfl
theorem took_stall {S : Dst} {n : Nat} (h : mayF S n = 0) : (tookS S n).cells = S.cells ∧ (tookS S n).spot = S.spot := by
  unfold tookS; rw [if_pos h]; exact ⟨usedS_cells S, usedS_spot S⟩
theorem took_some {S : Dst} {n : Nat} (h : mayF S n ≠ 0) : (tookS S n).cells = S.cells ∧ (tookS S n).spot = S.spot + (takenF S n).length := by
  unfold tookS; rw [if_neg h]; exact ⟨usedS_cells S, rfl⟩
theorem puts_stall {S : Dst} {ds : List Int} (h : putN S ds = 0) : (putS S ds).cells = S.cells ∧ (putS S ds).spot = S.spot := by
  unfold putS laidS; rw [h, List.take_zero, laidF_nil]; exact ⟨rfl, rfl⟩
theorem may_pos {S : Dst} {n : Nat} (h : ¬ numF S < 0) (h0 : numF S ≠ 0) (hn : 1 ≤ n) : 0 < mayF S n := by
  unfold mayF numF at *
  cases e : planN S with
  | none => show (0 : Int) < (n : Int); omega
  | some k => rw [e] at h h0; have h : ¬ k < 0 := h; have h0 : k ≠ 0 := h0; show 0 < min (n : Int) k; omega
def spAskedS : Sp := fun vs H Q _ => ∃ (m : Addr) (S : Dst) (a : Ask) (hv : V) (ks : List (Addr × List Int)) (R : List Ch), vs = [.ref m, .str a.w, hv] ∧ Sat H (modC m S ks :: tgC hv a.h :: R) ∧ UsedOk S ∧ S.ns.length ≤ 100000 ∧ S.plan.length ≤ 100000 ∧ S.cells.length ≤ 90000 ∧ S.spot ≤ 90000 ∧ AskOk a ∧
  ∀ (H' : Hp) (cv : V), Sat H' (modC m (doneS S a) (kn hv a.h ++ (kn cv (cameT S a) ++ ks)) :: R) → TgV cv (cameT S a) → Q cv H'
theorem askw_ok (a : Ask) : PyData.strOk a.w = true := by cases a <;> (show PyData.strOk (Str.ofString _) = true; decide +kernel)
theorem askh_ok (a : Ask) : tgOk a.h := by cases a <;> trivial
theorem stall_ok : PyData.strOk (Str.ofString "stall") = true := by decide +kernel
theorem fault_ok : PyData.strOk (Str.ofString "fault") = true := by decide +kernel
theorem came_ok (S : Dst) (a : Ask) : tgOk (cameT S a) := by
  unfold cameT
  split
  · exact fault_ok
  · cases a with
    | take n => show tgOk (if _ then _ else _); split; exact stall_ok; trivial
    | put ds => show tgOk (if _ then _ else _); split; exact stall_ok; trivial
    | go n => trivial
    | cut n => trivial
theorem in_take : (if false = true then !inV (V.str (Str.ofString "take")) [V.str (Str.ofString "take"), V.str (Str.ofString "put")] else inV (V.str (Str.ofString "take")) [V.str (Str.ofString "take"), V.str (Str.ofString "put")]) = true := by decide +kernel
theorem in_put : (if false = true then !inV (V.str (Str.ofString "put")) [V.str (Str.ofString "take"), V.str (Str.ofString "put")] else inV (V.str (Str.ofString "put")) [V.str (Str.ofString "take"), V.str (Str.ofString "put")]) = true := by decide +kernel
theorem in_go : (if false = true then !inV (V.str (Str.ofString "go")) [V.str (Str.ofString "take"), V.str (Str.ofString "put")] else inV (V.str (Str.ofString "go")) [V.str (Str.ofString "take"), V.str (Str.ofString "put")]) = false := by decide +kernel
theorem in_cut : (if false = true then !inV (V.str (Str.ofString "cut")) [V.str (Str.ofString "take"), V.str (Str.ofString "put")] else inV (V.str (Str.ofString "cut")) [V.str (Str.ofString "take"), V.str (Str.ofString "put")]) = false := by decide +kernel
theorem w_put_take : decide (V.str (Str.ofString "put") = V.str (Str.ofString "take")) = false := by decide +kernel
theorem w_go_take : decide (V.str (Str.ofString "go") = V.str (Str.ofString "take")) = false := by decide +kernel
theorem w_go_put : decide (V.str (Str.ofString "go") = V.str (Str.ofString "put")) = false := by decide +kernel
theorem w_cut_take : decide (V.str (Str.ofString "cut") = V.str (Str.ofString "take")) = false := by decide +kernel
theorem w_cut_put : decide (V.str (Str.ofString "cut") = V.str (Str.ofString "put")) = false := by decide +kernel
theorem w_cut_go : decide (V.str (Str.ofString "cut") = V.str (Str.ofString "go")) = false := by decide +kernel
theorem good_take0 {S : Dst} {n : Nat} (h : mayF S n = 0) : (goodS S (.take n)).cells = S.cells ∧ (goodS S (.take n)).spot = S.spot ∧ goodT S (.take n) = .s (Str.ofString "stall") := ⟨(took_stall h).1, (took_stall h).2, if_pos h⟩
theorem good_take1 {S : Dst} {n : Nat} (h : mayF S n ≠ 0) : (goodS S (.take n)).cells = S.cells ∧ (goodS S (.take n)).spot = S.spot + (takenF S n).length ∧ goodT S (.take n) = .l (takenF S n) := ⟨(took_some h).1, (took_some h).2, if_neg h⟩
theorem good_put0 {S : Dst} {ds : List Int} (h : putN S ds = 0) : (goodS S (.put ds)).cells = S.cells ∧ (goodS S (.put ds)).spot = S.spot ∧ goodT S (.put ds) = .s (Str.ofString "stall") := ⟨(puts_stall h).1, (puts_stall h).2, if_pos h⟩
theorem good_put1 {S : Dst} {ds : List Int} (h : putN S ds ≠ 0) : (goodS S (.put ds)).cells = laidF S.cells S.spot (ds.take (putN S ds)) ∧ (goodS S (.put ds)).spot = S.spot + putN S ds ∧ goodT S (.put ds) = .i (putN S ds) := ⟨rfl, rfl, if_neg h⟩
theorem good_go {S : Dst} {n : Nat} : (goodS S (.go n)).cells = S.cells ∧ (goodS S (.go n)).spot = n ∧ goodT S (.go n) = .i 0 := ⟨usedS_cells S, rfl, rfl⟩
theorem good_cut {S : Dst} {n : Nat} : (goodS S (.cut n)).cells = S.cells.take n ∧ (goodS S (.cut n)).spot = S.spot ∧ goodT S (.cut n) = .i 0 := ⟨rfl, usedS_spot S, rfl⟩
theorem take_cutV (S : Dst) (n : Nat) (hm : 0 < mayF S n) : cutV (S.cells.map V.int) (some (S.spot : Int)) (some ((S.spot : Int) + mayF S n)) = (takenF S n).map V.int := by
  have h9 := Int.toNat_of_nonneg (Int.le_of_lt hm)
  unfold takenF
  rw [← mid_cut, Int.natCast_add, h9]
/-- what a drawn ask may be -/
def DeedOk (S : Dst) : Ask → Prop
  | .take n => 1 ≤ n ∧ n ≤ 400
  | .put ds => ds ≠ [] ∧ ds.length ≤ 10
  | .go n => n ≤ S.cells.length + 5
  | .cut n => n ≤ S.cells.length + 3
theorem DeedOk.ask {S : Dst} {a : Ask} (h : DeedOk S a) : AskOk a := by
  cases a with
  | take n => exact ⟨h.1, by have := h.2; omega⟩
  | put ds => exact ⟨h.1, by have := h.2; omega⟩
  | go n => trivial
  | cut n => trivial
def spDeedS : Sp := fun vs H Q _ => ∃ (p m : Addr) (n : Int) (S : Dst) (ks : List (Addr × List Int)) (R : List Ch), vs = [.ref p, .ref m] ∧ Sat H (poolC p n :: modC m S ks :: R) ∧ n ≤ 800000000 ∧ S.cells.length ≤ 100000 ∧
  ∀ (H' : Hp) (t : Addr) (a : Ask) (hv : V), Sat H' (.pt t (.tup [.str a.w, hv]) :: poolC p (n + 2000) :: modC m S ks :: tgC hv a.h :: R) → DeedOk S a → Q (.ref t) H'
def ansW (S : Dst) : Str := if badN S = true then Str.ofString "fault" else Str.ofString "told"
def okV (S : Dst) (a : Ask) (v : V) : V := match a with
  | .take n => if mayF S n = 0 then .non else v
  | .put ds => if putN S ds = 0 then .non else v
  | _ => .non
def ansV (S : Dst) (a : Ask) (v : V) : V := if badN S = true then .int (-numF S) else okV S a v
def spAnswerS : Sp := fun vs H Q _ => ∃ (m : Addr) (S : Dst) (a : Ask) (hv : V) (ks : List (Addr × List Int)) (R : List Ch), vs = [.ref m, .str a.w, hv] ∧ Sat H (modC m S ks :: tgC hv a.h :: R) ∧ UsedOk S ∧ S.ns.length ≤ 100000 ∧ S.plan.length ≤ 100000 ∧ S.cells.length ≤ 90000 ∧ S.spot ≤ 90000 ∧ AskOk a ∧
  ∀ (H' : Hp) (t : Addr) (cv : V), Sat H' (.pt t (.tup [.str (ansW S), ansV S a cv]) :: modC m (doneS S a) (kn hv a.h ++ (kn cv (cameT S a) ++ ks)) :: R) → TgV cv (cameT S a) → Q (.ref t) H'
theorem Sat.camed {K : PySem.W.Frag} {H : Hp} {cs cs1 : List Ch} {m : Addr} {S S' : Dst} {a : Ask} {hv cv : V} {ks : List (Addr × List Int)} (h : Sat H cs) (p : Pull (modC m S' (kn hv a.h ++ (kn cv (cameT S a) ++ ks))) cs cs1) (tv : TgV cv (cameT S a)) : Dp K H cv (tgD (cameT S a)) := by
  have hk : ∀ x ∈ kn cv (cameT S a), H x.1 = some (.lst (x.2.map V.int)) := fun x hx => h.modget p (List.mem_append_right _ (List.mem_append_left _ hx))
  generalize cameT S a = t at *
  cases t with
  | i n => cases (show cv = _ from tv); exact .int _
  | s w => cases (show cv = _ from tv); exact .str _
  | l xs =>
    obtain ⟨z, rfl⟩ := tv
    exact dp_lst (sq_at (hk (z, xs) (List.mem_singleton.mpr rfl)))
theorem tg_shaped {t : Tg} (h : tgOk t) : SeqAt.shaped (tgD t) = true := by
  unfold SeqAt.shaped
  have := tg_depth t
  simp [tg_lay h]
  omega
theorem eqv_fault {S : Dst} {a : Ask} : PyData.eqv (tgD (cameT S a)) (.str (Str.ofString "fault")) = badN S := by
  unfold cameT
  cases hb : badN S with
  | true => rw [if_pos rfl]; show PyData.eqv (.str (Str.ofString "fault")) (.str (Str.ofString "fault")) = true; decide +kernel
  | false =>
    rw [if_neg (by simp)]
    have e1 : PyData.eqv (.str (Str.ofString "stall")) (.str (Str.ofString "fault")) = false := by decide +kernel
    cases a with
    | take n => show PyData.eqv (tgD (if _ then _ else _)) _ = false; split; exact e1; rfl
    | put ds => show PyData.eqv (tgD (if _ then _ else _)) _ = false; split; exact e1; rfl
    | go n => rfl
    | cut n => rfl
theorem in_tgo : (if false = true then !inV (V.str (Str.ofString "take")) [V.str (Str.ofString "go"), V.str (Str.ofString "cut")] else inV (V.str (Str.ofString "take")) [V.str (Str.ofString "go"), V.str (Str.ofString "cut")]) = false := by decide +kernel
theorem in_pgo : (if false = true then !inV (V.str (Str.ofString "put")) [V.str (Str.ofString "go"), V.str (Str.ofString "cut")] else inV (V.str (Str.ofString "put")) [V.str (Str.ofString "go"), V.str (Str.ofString "cut")]) = false := by decide +kernel
theorem in_ggo : (if false = true then !inV (V.str (Str.ofString "go")) [V.str (Str.ofString "go"), V.str (Str.ofString "cut")] else inV (V.str (Str.ofString "go")) [V.str (Str.ofString "go"), V.str (Str.ofString "cut")]) = true := by decide +kernel
theorem in_cgo : (if false = true then !inV (V.str (Str.ofString "cut")) [V.str (Str.ofString "go"), V.str (Str.ofString "cut")] else inV (V.str (Str.ofString "cut")) [V.str (Str.ofString "go"), V.str (Str.ofString "cut")]) = true := by decide +kernel
theorem fstr_shaped : SeqAt.shaped (.str (Str.ofString "fault")) = true := by decide +kernel
theorem sstr_shaped : SeqAt.shaped (.str (Str.ofString "stall")) = true := by decide +kernel
theorem eqv_stall {S : Dst} {a : Ask} (hb : badN S = false) : PyData.eqv (tgD (cameT S a)) (.str (Str.ofString "stall")) = (match a with | .take n => decide (mayF S n = 0) | .put ds => decide (putN S ds = 0) | _ => false) := by
  unfold cameT
  rw [hb, if_neg (by simp)]
  have e1 : PyData.eqv (.str (Str.ofString "stall")) (.str (Str.ofString "stall")) = true := by decide +kernel
  cases a with
  | take n =>
    show PyData.eqv (tgD (if _ then _ else _)) _ = decide _
    by_cases h : mayF S n = 0
    · rw [if_pos h, decide_eq_true h]; exact e1
    · rw [if_neg h, decide_eq_false h]; rfl
  | put ds =>
    show PyData.eqv (tgD (if _ then _ else _)) _ = decide _
    by_cases h : putN S ds = 0
    · rw [if_pos h, decide_eq_true h]; exact e1
    · rw [if_neg h, decide_eq_false h]; rfl
  | go n => rfl
  | cut n => rfl
/-- what an ask of the device tells -/
def toldT (S : Dst) (a : Ask) : Option Tg := if badN S = true then some (.i (-numF S)) else match a with
  | .take n => if mayF S n = 0 then none else some (.l (takenF S n))
  | .put ds => if putN S ds = 0 then none else some (.i (putN S ds))
  | _ => none
def toC (v : V) : Option Tg → Ch
  | none => exC (fun _ : Unit => v = .non) (fun _ => [])
  | some t => tgC v t
def optD : Option Tg → PyData
  | none => .none
  | some t => tgD t
def ansD (S : Dst) (a : Ask) : PyData := .tuple [.str (ansW S), optD (toldT S a)]
theorem Sat.toN {H : Hp} {cs : List Ch} (h : Sat H cs) : Sat H (toC .non none :: cs) := Sat.exI () rfl h
theorem Sat.tgD {K : PySem.W.Frag} {H : Hp} {cs cs1 : List Ch} {v : V} {t : Tg} (h : Sat H cs) (p : Pull (tgC v t) cs cs1) : Dp K H v (tgD t) := by
  obtain ⟨F, F1, F2, h1, _⟩ := h.pull p
  exact h1.here.2.dp
theorem Sat.toD {K : PySem.W.Frag} {H : Hp} {cs cs1 : List Ch} {v : V} {o : Option Tg} (h : Sat H cs) (p : Pull (toC v o) cs cs1) : Dp K H v (optD o) := by
  cases o with
  | none =>
    obtain ⟨_, e, _⟩ := (h.pull p).exE
    rw [e]; exact .non
  | some t => exact h.tgD p
/-- what the handed thing is -/
def HandV (H : Hp) (v : V) : Tg → Prop
  | .i n => v = .int n
  | .s w => v = .str w
  | .l xs => ∃ l, v = .ref l ∧ H l = some (.lst (xs.map V.int))
def FitOk (S : Dst) : Ask → Prop
  | .take n => 1 ≤ n
  | .put ds => ds ≠ [] ∧ PutFit S ds
  | .go n => n ≤ 4000
  | .cut n => n ≤ 4000
def spToldS (CD : Addr) : Sp := fun vs H Q _ => ∃ (d : Addr) (S : Dst) (a : Ask) (hv : V) (R : List Ch), vs = [.ref d, .str a.w, hv] ∧ Sat H (devC CD d S :: R) ∧ HandV H hv a.h ∧ DstOk S ∧ S.bar = false ∧ S.seek = true ∧ FitOk S a ∧
  ∀ (H' : Hp) (t : Addr) (v : V), Sat H' (.pt t (.tup [.str (ansW S), v]) :: toC v (toldT S a) :: devC CD d (doneS S a) :: R) → Q (.ref t) H'
theorem Good.bad {S : Dst} (h : Good S) : badN S = false := by
  cases hb : badN S with
  | false => rfl
  | true =>
    obtain ⟨k, ek, hk⟩ := badN_iff.mp hb
    have := h k ek
    omega
theorem told_good {S : Dst} {a : Ask} (h : Good S) : ansW S = Str.ofString "told" ∧ doneS S a = goodS S a := by
  have hb := h.bad
  exact ⟨if_neg (by rw [hb]; simp), if_neg (by rw [hb]; simp)⟩
theorem told_bad {S : Dst} {a : Ask} {k : Int} (ek : planN S = some k) (hk : k < 0) : ansW S = Str.ofString "fault" ∧ doneS S a = noteS S a.w a.h (.s (Str.ofString "fault")) ∧ toldT S a = some (.i (-k)) := by
  have hb : badN S = true := badN_iff.mpr ⟨k, ek, hk⟩
  exact ⟨if_pos hb, if_pos hb, by unfold toldT; rw [if_pos hb, numF_some ek]⟩
theorem toldT_take0 {S : Dst} {n : Nat} (h : Good S) (h0 : mayF S n = 0) : toldT S (.take n) = none := by unfold toldT; rw [if_neg (by rw [h.bad]; simp)]; exact if_pos h0
theorem toldT_take1 {S : Dst} {n : Nat} (h : Good S) (h0 : mayF S n ≠ 0) : toldT S (.take n) = some (.l (takenF S n)) := by unfold toldT; rw [if_neg (by rw [h.bad]; simp)]; exact if_neg h0
theorem toldT_put0 {S : Dst} {ds : List Int} (h : Good S) (h0 : putN S ds = 0) : toldT S (.put ds) = none := by unfold toldT; rw [if_neg (by rw [h.bad]; simp)]; exact if_pos h0
theorem toldT_put1 {S : Dst} {ds : List Int} (h : Good S) (h0 : putN S ds ≠ 0) : toldT S (.put ds) = some (.i (putN S ds)) := by unfold toldT; rw [if_neg (by rw [h.bad]; simp)]; exact if_neg h0
theorem toldT_go {S : Dst} {n : Nat} (h : Good S) : toldT S (.go n) = none := by unfold toldT; rw [if_neg (by rw [h.bad]; simp)]
theorem toldT_cut {S : Dst} {n : Nat} (h : Good S) : toldT S (.cut n) = none := by unfold toldT; rw [if_neg (by rw [h.bad]; simp)]
end Sip
/-! a file: its state, its pieces of the heap -/
namespace Sip
open PySem PySem.Spec PyProof.Rows L2 TL
structure Fst where
  room : Nat
  rd : Bool
  wr : Bool
  cur : Nat
  wt : List Int
  kw : List Int
  seen : Nat
  fin : Bool
  lost : List Int
  busy : Bool
structure Fad where
  dx : Addr
  wa : Addr
  ka : Addr
  ua : Addr
def ffs (d : Addr) (A : Fad) (F : Fst) : Fs := [("raw", .ref d), ("room", .int F.room), ("reads", .bl F.rd), ("writes", .bl F.wr), ("cursor", .int F.cur), ("waits", .ref A.wa), ("known", .ref A.ka), ("seen_size", .int F.seen), ("ended", .bl F.fin), ("unsaved", .ref A.ua), ("engaged", .bl F.busy)]
def filC (CF f d : Addr) (F : Fst) : Ch := exC (fun _ : Fad => True) fun A => [.pt f (.ins CF A.dx (ffs d A F)), .pt A.wa (.lst (F.wt.map V.int)), .pt A.ka (.lst (F.kw.map V.int)), .pt A.ua (.lst (F.lost.map V.int))]
section
variable {H H' H1 : Hp} {cs ds cs1 R : List Ch} {CF f d : Addr} {F : Fst} {A : Fad}
theorem Sat.fil (h : Sat H (filC CF f d F :: cs)) : ∃ A : Fad, Sat H (.pt f (.ins CF A.dx (ffs d A F)) :: .pt A.wa (.lst (F.wt.map V.int)) :: .pt A.ka (.lst (F.kw.map V.int)) :: .pt A.ua (.lst (F.lost.map V.int)) :: cs) := by
  obtain ⟨A, _, h⟩ := h.exE
  exact ⟨A, h⟩
theorem Sat.filI (A : Fad) {F0 F : Fst} (h : Sat H (.pt f (.ins CF A.dx (ffs d A F0)) :: .pt A.wa (.lst (F.wt.map V.int)) :: .pt A.ka (.lst (F.kw.map V.int)) :: .pt A.ua (.lst (F.lost.map V.int)) :: cs)) (e : ffs d A F0 = ffs d A F := by rfl) : Sat H (filC CF f d F :: cs) := Sat.exI A trivial (by rw [← e]; exact h)
theorem ffs_raw (d : Addr) (A : Fad) (F : Fst) : (ffs d A F).lookup ("raw" : Str) = some (.ref d) := by unfold ffs; kernel_rfl
theorem ffs_room (d : Addr) (A : Fad) (F : Fst) : (ffs d A F).lookup ("room" : Str) = some (.int F.room) := by unfold ffs; kernel_rfl
theorem ffs_reads (d : Addr) (A : Fad) (F : Fst) : (ffs d A F).lookup ("reads" : Str) = some (.bl F.rd) := by unfold ffs; kernel_rfl
theorem ffs_writes (d : Addr) (A : Fad) (F : Fst) : (ffs d A F).lookup ("writes" : Str) = some (.bl F.wr) := by unfold ffs; kernel_rfl
theorem ffs_cursor (d : Addr) (A : Fad) (F : Fst) : (ffs d A F).lookup ("cursor" : Str) = some (.int F.cur) := by unfold ffs; kernel_rfl
theorem ffs_waits (d : Addr) (A : Fad) (F : Fst) : (ffs d A F).lookup ("waits" : Str) = some (.ref A.wa) := by unfold ffs; kernel_rfl
theorem ffs_known (d : Addr) (A : Fad) (F : Fst) : (ffs d A F).lookup ("known" : Str) = some (.ref A.ka) := by unfold ffs; kernel_rfl
theorem ffs_seen_size (d : Addr) (A : Fad) (F : Fst) : (ffs d A F).lookup ("seen_size" : Str) = some (.int F.seen) := by unfold ffs; kernel_rfl
theorem ffs_ended (d : Addr) (A : Fad) (F : Fst) : (ffs d A F).lookup ("ended" : Str) = some (.bl F.fin) := by unfold ffs; kernel_rfl
theorem ffs_unsaved (d : Addr) (A : Fad) (F : Fst) : (ffs d A F).lookup ("unsaved" : Str) = some (.ref A.ua) := by unfold ffs; kernel_rfl
theorem ffs_engaged (d : Addr) (A : Fad) (F : Fst) : (ffs d A F).lookup ("engaged" : Str) = some (.bl F.busy) := by unfold ffs; kernel_rfl
theorem ffs_p_cursor (d : Addr) (A : Fad) (F : Fst) (x : Nat) : putF ("cursor" : Str) (.int x) (ffs d A F) = ffs d A { F with cur := x } := by unfold ffs; kernel_rfl
theorem ffs_p_waits (d : Addr) (A : Fad) (F : Fst) (x : Addr) : putF ("waits" : Str) (.ref x) (ffs d A F) = ffs d { A with wa := x } F := by unfold ffs; kernel_rfl
theorem ffs_p_known (d : Addr) (A : Fad) (F : Fst) (x : Addr) : putF ("known" : Str) (.ref x) (ffs d A F) = ffs d { A with ka := x } F := by unfold ffs; kernel_rfl
theorem ffs_p_seen_size (d : Addr) (A : Fad) (F : Fst) (x : Nat) : putF ("seen_size" : Str) (.int x) (ffs d A F) = ffs d A { F with seen := x } := by unfold ffs; kernel_rfl
theorem ffs_p_ended (d : Addr) (A : Fad) (F : Fst) (x : Bool) : putF ("ended" : Str) (.bl x) (ffs d A F) = ffs d A { F with fin := x } := by unfold ffs; kernel_rfl
theorem ffs_p_unsaved (d : Addr) (A : Fad) (F : Fst) (x : Addr) : putF ("unsaved" : Str) (.ref x) (ffs d A F) = ffs d { A with ua := x } F := by unfold ffs; kernel_rfl
theorem ffs_p_engaged (d : Addr) (A : Fad) (F : Fst) (x : Bool) : putF ("engaged" : Str) (.bl x) (ffs d A F) = ffs d A { F with busy := x } := by unfold ffs; kernel_rfl
def filMs : List Str := ["read", "read_some", "peek", "readline", "write", "seek", "tell", "size", "cut", "flush", "close", "waiting", "lost", "closed", "busy", "detach", "check_open", "check_seeks", "check_writes", "check_reading", "check_writing", "begin_reading", "bring", "line_is_known", "hand_out", "lead", "put_down_to", "hand_down", "give_back", "end_and_shut"]
theorem ffs_few (d : Addr) (A : Fad) (F : Fst) : (ffs d A F).length < 1000 := by show 11 < 1000; decide
theorem ffs_no (d : Addr) (A : Fad) (F : Fst) : ∀ m ∈ filMs, (ffs d A F).lookup m = none := by
  intro m hm
  simp only [filMs, List.mem_cons, List.mem_nil_iff, or_false] at hm
  unfold ffs
  rcases hm with rfl | rfl | rfl | rfl | rfl | rfl | rfl | rfl | rfl | rfl | rfl | rfl | rfl | rfl | rfl | rfl | rfl | rfl | rfl | rfl | rfl | rfl | rfl | rfl | rfl | rfl | rfl | rfl | rfl | rfl <;> kernel_rfl
theorem meth_fil {m : Str} {G : Prop} (h : Sat H cs) (p : Pull (filC CF f d F) cs cs1) (hm : m ∈ filMs) (g : G) : ∃ (x dx : Addr) (fs : List (Str × V)), V.ref f = .ref x ∧ H x = some (.ins CF dx fs) ∧ fs.lookup m = none ∧ G := by
  obtain ⟨A, h⟩ := (h.pull p).fil
  exact ⟨f, A.dx, _, rfl, h.get .hd, ffs_no _ _ _ m hm, g⟩
theorem meth_devP {CD a : Addr} {S : Dst} {m : Str} {G : Prop} (h : Sat H cs) (p : Pull (devC CD a S) cs cs1) (hm : m ∈ devMs) (g : G) : ∃ (x dx : Addr) (fs : List (Str × V)), V.ref a = .ref x ∧ H x = some (.ins CD dx fs) ∧ fs.lookup m = none ∧ G := meth_dev (h.pull p) hm g
end
/-! what the file's calls come to -/
def goB (D : Dst) (p : Nat) : Bool := D.seek && decide (D.spot ≠ p)
def leadD (D : Dst) (p : Nat) : Dst := if goB D p = true then doneS D (.go p) else D
def leadB (D : Dst) (p : Nat) : Bool := goB D p && badN D
inductive BR
  | fault (k : Int) (D : Dst)
  | came (o : Option (List Int)) (D : Dst)
def brC (D : Dst) (n : Nat) : Option (List Int) := if mayF D n = 0 then none else some (takenF D n)
def bringP (F : Fst) (D : Dst) (w : Nat) : BR :=
  if leadB D (F.cur + F.kw.length) = true then .fault (-numF D) (leadD D (F.cur + F.kw.length))
  else if badN (leadD D (F.cur + F.kw.length)) = true then .fault (-numF (leadD D (F.cur + F.kw.length))) (doneS (leadD D (F.cur + F.kw.length)) (.take (max F.room w)))
  else .came (brC (leadD D (F.cur + F.kw.length)) (max F.room w)) (doneS (leadD D (F.cur + F.kw.length)) (.take (max F.room w)))
def brF (F : Fst) (D : Dst) (xs : List Int) : Fst := { F with kw := F.kw ++ xs, seen := if D.seek = true then D.cells.length else F.seen }
def outF (F : Fst) (n : Nat) : Fst := { F with kw := F.kw.drop n, cur := F.cur + n }
inductive RR
  | told (xs : List Int) | non | fault (k : Int)
def wantN (F : Fst) : Option Nat → Nat
  | none => 4000
  | some n => n - F.kw.length
def enough (F : Fst) : Option Nat → Prop
  | none => False
  | some n => n ≤ F.kw.length
def stopR (F : Fst) (o : Option (List Int)) : RR := if F.kw = [] then (if o = none then .non else .told []) else .told F.kw
inductive RdL (many : Option Nat) : Fst → Dst → Fst → Dst → RR → Prop
  | done {F D n} : many = some n → n ≤ F.kw.length → RdL many F D (outF F n) D (.told (F.kw.take n))
  | more {F D xs D' F2 D2 r} : ¬ enough F many → bringP F D (wantN F many) = .came (some xs) D' → xs ≠ [] → RdL many (brF F D' xs) D' F2 D2 r → RdL many F D F2 D2 r
  | stop {F D o D'} : ¬ enough F many → bringP F D (wantN F many) = .came o D' → (o = none ∨ o = some []) → RdL many F D (outF (brF F D' []) (brF F D' []).kw.length) D' (stopR (brF F D' []) o)
  | fault {F D k D'} : ¬ enough F many → bringP F D (wantN F many) = .fault k D' → RdL many F D F D' (.fault k)
def fst0 (room : Nat) (rd wr : Bool) (cur : Nat) : Fst := ⟨room, rd, wr, cur, [], [], 0, false, [], false⟩
def begF (F : Fst) (D : Dst) : Fst := if D.seek = true ∧ D.cells.length ≠ F.seen then { F with kw := [] } else F
def sizeF (F : Fst) (D : Dst) : Nat := if F.wt = [] then D.cells.length else max D.cells.length F.cur
/-- a device that may be asked -/
structure DOk (D : Dst) : Prop where
  ok : DstOk D
  br : D.bar = false
theorem leadD_facts (D : Dst) (p : Nat) : (leadD D p).cells = D.cells ∧ (leadD D p).plan = D.plan ∧ (leadD D p).seek = D.seek ∧ (leadD D p).bar = D.bar ∧ (leadD D p).ns.length ≤ D.ns.length + 1 ∧ D.ns.length ≤ (leadD D p).ns.length := by
  unfold leadD
  by_cases h : goB D p = true
  · rw [if_pos h]
    obtain ⟨h1, h2, h3, h4, h5⟩ := doneS_used D (.go p)
    refine ⟨?_, h2, h3, h4, by rw [h5, List.length_append]; exact Nat.le_refl _, by rw [h5, List.length_append]; omega⟩
    unfold doneS
    split
    · exact usedS_cells D
    · exact usedS_cells D
  · rw [if_neg h]; exact ⟨rfl, rfl, rfl, rfl, by omega, by omega⟩
theorem used_done {D : Dst} {a : Ask} (h : DstOk D) (l : D.ns.length ≤ 7999999) : DstOk (doneS D a) := by
  obtain ⟨h1, h2, h3, h4, h5⟩ := doneS_used D a
  obtain ⟨u1, u2, u3⟩ := usedS_ok h
  refine ⟨by rw [h1, h2]; rw [usedS_plan] at u1; exact u1, by rw [h2]; exact h.2.1, by rw [h5, List.length_append]; show _ + 1 ≤ _; omega⟩
theorem leadD_ok {D : Dst} {p : Nat} (h : DOk D) (l : D.ns.length ≤ 7999999) : DOk (leadD D p) := by
  obtain ⟨_, _, _, h4, _⟩ := leadD_facts D p
  refine ⟨?_, by rw [h4]; exact h.br⟩
  unfold leadD
  split
  · exact used_done h.ok l
  · exact h.ok

/-! promises -/
def FaultF (CF CD : Addr) (E : XK) (C f d : Addr) (R : List Ch) (F : Fst) (D : Dst) (k : Int) : Prop := ∀ (H' : Hp) (e : Addr), Sat H' (filC CF f d F :: devC CD d D :: .pt e (.xd [("taken", .int 0), ("number", .int k)]) :: R) → E (.ref C) (some e) H'
def spSkQ (CD : Addr) : Sp := fun vs H Q _ => ∃ (d : Addr) (S : Dst) (R : List Ch), vs = [.ref d] ∧ Sat H (devC CD d S :: R) ∧ Q (.bl S.seek) H
def spBrQ (CD : Addr) : Sp := fun vs H Q _ => ∃ (d : Addr) (S : Dst) (R : List Ch), vs = [.ref d] ∧ Sat H (devC CD d S :: R) ∧ Q (.bl S.bar) H
def spPlQ (CD : Addr) : Sp := fun vs H Q _ => ∃ (d : Addr) (S : Dst) (R : List Ch), vs = [.ref d] ∧ Sat H (devC CD d S :: R) ∧ S.seek = true ∧ Q (.int S.spot) H
def spSzQ (CD : Addr) : Sp := fun vs H Q _ => ∃ (d : Addr) (S : Dst) (R : List Ch), vs = [.ref d] ∧ Sat H (devC CD d S :: R) ∧ S.seek = true ∧ Q (.int S.cells.length) H
def spRoomC : Sp := fun vs H Q _ => ∃ g : Nat, vs = [.int g] ∧ 1 ≤ g ∧ g ≤ 64 ∧ Q .non H
def spFInit (CF CD : Addr) : Sp := fun vs H Q _ => ∃ (f dx d : Addr) (room : Nat) (rd wr : Bool) (D : Dst) (R : List Ch), vs = [.ref f, .ref d, .int room, .bl rd, .bl wr] ∧ Sat H (.pt f (.ins CF dx []) :: .pt dx (.own f) :: devC CD d D :: R) ∧ D.bar = false ∧ 1 ≤ room ∧ room ≤ 64 ∧ (rd = true → wr = true → D.seek = true) ∧
  ∀ H' : Hp, Sat H' (filC CF f d (fst0 room rd wr (if D.seek = true then D.spot else 0)) :: devC CD d D :: R) → Q .non H'
def spFOpen (CF : Addr) : Sp := fun vs H Q _ => ∃ (f d : Addr) (F : Fst) (R : List Ch), vs = [.ref f] ∧ Sat H (filC CF f d F :: R) ∧ F.fin = false ∧ Q .non H
def spFSeeks (CF CD : Addr) : Sp := fun vs H Q _ => ∃ (f d : Addr) (F : Fst) (D : Dst) (R : List Ch), vs = [.ref f] ∧ Sat H (filC CF f d F :: devC CD d D :: R) ∧ D.seek = true ∧ Q .non H
def spFReads (CF : Addr) : Sp := fun vs H Q _ => ∃ (f d : Addr) (F : Fst) (many : Option Nat) (R : List Ch), vs = [.ref f, cntV many] ∧ Sat H (filC CF f d F :: R) ∧ F.fin = false ∧ F.rd = true ∧ Q .non H
def spFTell (CF : Addr) : Sp := fun vs H Q _ => ∃ (f d : Addr) (F : Fst) (R : List Ch), vs = [.ref f] ∧ Sat H (filC CF f d F :: R) ∧ F.fin = false ∧ Q (.int F.cur) H
def spFSize (CF CD : Addr) : Sp := fun vs H Q _ => ∃ (f d : Addr) (F : Fst) (D : Dst) (R : List Ch), vs = [.ref f] ∧ Sat H (filC CF f d F :: devC CD d D :: R) ∧ D.seek = true ∧ F.fin = false ∧ Q (.int (sizeF F D)) H
def spFWaiting (CF : Addr) : Sp := fun vs H Q _ => ∃ (f d : Addr) (F : Fst) (R : List Ch), vs = [.ref f] ∧ Sat H (filC CF f d F :: R) ∧ F.fin = false ∧ ∀ (H' : Hp) (q : Addr), Sat H' (.pt q (.lst (F.wt.map V.int)) :: filC CF f d F :: R) → Q (.ref q) H'
def spFLead (CF CD C : Addr) : Sp := fun vs H Q E => ∃ (f d : Addr) (F : Fst) (D : Dst) (p : Nat) (R : List Ch), vs = [.ref f, .int p] ∧ Sat H (filC CF f d F :: devC CD d D :: R) ∧ DOk D ∧ (D.seek = true → p ≤ 4000) ∧
  (leadB D p = false → ∀ H', Sat H' (filC CF f d F :: devC CD d (leadD D p) :: R) → Q .non H') ∧ (leadB D p = true → FaultF CF CD E C f d R F (leadD D p) (-numF D))
def spFPd0 (CF : Addr) : Sp := fun vs H Q _ => ∃ (f d : Addr) (F : Fst) (n : Nat) (R : List Ch), vs = [.ref f, .int n] ∧ Sat H (filC CF f d F :: R) ∧ F.wt = [] ∧ Q .non H
def spFBeg0 (CF CD : Addr) : Sp := fun vs H Q _ => ∃ (f d : Addr) (F : Fst) (D : Dst) (R : List Ch), vs = [.ref f] ∧ Sat H (filC CF f d F :: devC CD d D :: R) ∧ F.wt = [] ∧ ∀ H', Sat H' (filC CF f d (begF F D) :: devC CD d D :: R) → Q .non H'
def BrOk (F : Fst) (D : Dst) : Prop := DOk D ∧ D.ns.length ≤ 7999990 ∧ (D.seek = true → F.cur + F.kw.length ≤ 4000) ∧ F.kw.length ≤ 100000 ∧ D.cells.length ≤ 100000
def spFBring (CF CD C : Addr) : Sp := fun vs H Q E => ∃ (f d : Addr) (F : Fst) (D : Dst) (w : Nat) (R : List Ch), vs = [.ref f, .int w] ∧ Sat H (filC CF f d F :: devC CD d D :: R) ∧ BrOk F D ∧ 1 ≤ F.room ∧
  (∀ k D', bringP F D w = .fault k D' → FaultF CF CD E C f d R F D' k) ∧
  (∀ D', bringP F D w = .came none D' → ∀ H', Sat H' (filC CF f d (brF F D' []) :: devC CD d D' :: R) → Q .non H') ∧
  (∀ xs D', bringP F D w = .came (some xs) D' → ∀ (H' : Hp) (q : Addr), Sat H' (.pt q (.lst (xs.map V.int)) :: filC CF f d (brF F D' xs) :: devC CD d D' :: R) → Q (.ref q) H')
def spFHand (CF : Addr) : Sp := fun vs H Q _ => ∃ (f d t : Addr) (F : Fst) (xs : List Int) (cv : V) (R : List Ch), vs = [.ref f, .ref t, cv] ∧ Sat H (filC CF f d F :: .pt t (.lst (xs.map V.int)) :: R) ∧
  (xs = [] → Q cv H) ∧ (xs ≠ [] → ∀ H', Sat H' (filC CF f d (outF F xs.length) :: .pt t (.lst (xs.map V.int)) :: R) → Q (.ref t) H')
def TellR (CF CD C : Addr) (Q : VK) (E : XK) (f d : Addr) (R : List Ch) (F : Fst) (D : Dst) : RR → Prop
  | .told xs => ∀ (H' : Hp) (q : Addr), Sat H' (.pt q (.lst (xs.map V.int)) :: filC CF f d F :: devC CD d D :: R) → Q (.ref q) H'
  | .non => ∀ H', Sat H' (filC CF f d F :: devC CD d D :: R) → Q .non H'
  | .fault k => FaultF CF CD E C f d R F D k
structure RdOk (F : Fst) (D : Dst) : Prop where
  fin : F.fin = false
  rd : F.rd = true
  wt : F.wt = []
  room : 1 ≤ F.room
  dok : DOk D
  sk : D.seek = true
  ns : D.ns.length ≤ 7960000
  cl : D.cells.length ≤ 4000
  cu : F.cur + F.kw.length ≤ 4000
def spFRead (CF CD C : Addr) : Sp := fun vs H Q E => ∃ (f d : Addr) (F : Fst) (D : Dst) (many : Option Nat) (R : List Ch), vs = [.ref f, cntV many] ∧ Sat H (filC CF f d F :: devC CD d D :: R) ∧ RdOk F D ∧ (∀ n, many = some n → n ≤ 1000000000) ∧
  (many = some 0 → ∀ (H' : Hp) (q : Addr), Sat H' (.pt q (.lst []) :: filC CF f d F :: devC CD d D :: R) → Q (.ref q) H') ∧
  (many ≠ some 0 → ∀ F' D' r, RdL many (begF F D) D F' D' r → TellR CF CD C Q E f d R F' D' r)
def spFSeek0 (CF CD : Addr) : Sp := fun vs H Q _ => ∃ (f d : Addr) (F : Fst) (D : Dst) (pl : Int) (st : Str) (g : Nat) (R : List Ch), vs = [.ref f, .int pl, .str st] ∧ Sat H (filC CF f d F :: devC CD d D :: R) ∧ F.fin = false ∧ F.wt = [] ∧ D.seek = true ∧
  ((st = Str.ofString "head" ∧ (g : Int) = pl) ∨ (st = Str.ofString "here" ∧ (g : Int) = F.cur + pl) ∨ (st = Str.ofString "tail" ∧ (g : Int) = D.cells.length + pl)) ∧ g ≤ 4000 ∧
  ∀ H', Sat H' (filC CF f d (if g = F.cur then F else { F with cur := g, kw := [] }) :: devC CD d D :: R) → Q (.int g) H'
theorem fil_new (A : Fad) {d : Addr} {room c : Nat} {rd wr : Bool} : putF ("engaged" : Str) (.bl false) (putF ("unsaved" : Str) (.ref A.ua) (putF ("ended" : Str) (.bl false) (putF ("seen_size" : Str) (.int 0) (putF ("known" : Str) (.ref A.ka) (putF ("waits" : Str) (.ref A.wa) (putF ("cursor" : Str) (.int (c : Int)) (putF ("writes" : Str) (.bl wr) (putF ("reads" : Str) (.bl rd) (putF ("room" : Str) (.int room) (putF ("raw" : Str) (.ref d) [])))))))))) = ffs d A (fst0 room rd wr c) := by unfold ffs fst0; kernel_rfl
theorem delTo (r : List Int) (n : Nat) : delV (r.map V.int) none (some (n : Int)) = (r.drop n).map V.int := by
  unfold delV delL
  rw [HT.sIx_none, HT.sIx_nat, List.length_map, List.map_drop]
  by_cases h : n ≤ r.length
  · rw [Nat.min_eq_left h]; simp
  · rw [Nat.min_eq_right (by omega)]; simp; omega
theorem taken_len (S : Dst) (n : Int) : (takenF S n).length ≤ S.cells.length - S.spot := by unfold takenF; rw [List.length_take, List.length_drop]; omega
theorem bring_facts {F : Fst} {D D' : Dst} {w : Nat} {o : Option (List Int)} (h : bringP F D w = .came o D') : D'.cells = D.cells ∧ D'.plan = D.plan ∧ D'.seek = D.seek ∧ D'.bar = D.bar ∧ D'.ns.length ≤ D.ns.length + 2 := by
  unfold bringP at h
  split at h
  · cases h
  · split at h
    · cases h
    · rename_i h1 h2
      cases h
      obtain ⟨l1, l2, l3, l4, l5, _⟩ := leadD_facts D (F.cur + F.kw.length)
      obtain ⟨h1, h2, h3, h4, h5⟩ := doneS_used (leadD D (F.cur + F.kw.length)) (.take (max F.room w))
      refine ⟨?_, by rw [h2, l2], by rw [h3, l3], by rw [h4, l4], by rw [h5, List.length_append]; show _ + 1 ≤ _; omega⟩
      rw [← l1]
      unfold doneS
      split
      · exact usedS_cells _
      · show (tookS _ _).cells = _
        unfold tookS
        split <;> exact usedS_cells _
theorem lead_spot {D : Dst} {p : Nat} (s : D.seek = true) (b : leadB D p = false) : (leadD D p).spot = p := by
  unfold leadD
  by_cases h : goB D p = true
  · rw [if_pos h]
    have hb : badN D = false := by unfold leadB at b; rw [h] at b; exact b
    unfold doneS
    rw [if_neg (by rw [hb]; simp)]
    rfl
  · rw [if_neg h]
    unfold goB at h
    rw [s] at h
    simp at h
    exact h
/-- what a take brings lies behind what is known -/
theorem bring_came {F : Fst} {D D' : Dst} {w : Nat} {xs : List Int} (h : bringP F D w = .came (some xs) D') (s : D.seek = true) : ∃ n, xs = (D.cells.drop (F.cur + F.kw.length)).take n ∧ D'.spot = F.cur + F.kw.length + xs.length := by
  unfold bringP at h
  split at h
  · cases h
  · split at h
    · cases h
    · rename_i h1 h2
      obtain ⟨l1, l2, l3, l4, l5, _⟩ := leadD_facts D (F.cur + F.kw.length)
      have hs := lead_spot s (Bool.eq_false_iff.mpr h1)
      injection h with h3 h4
      unfold brC at h3
      split at h3
      · cases h3
      · rename_i h5
        cases h3
        refine ⟨(mayF (leadD D (F.cur + F.kw.length)) (max F.room w : Nat)).toNat, by unfold takenF; rw [l1, hs], ?_⟩
        rw [← h4]
        unfold doneS
        rw [if_neg h2]
        show (tookS _ _).spot = _
        unfold tookS
        rw [if_neg h5, hs]
theorem outF_zero (F : Fst) : outF F 0 = F := rfl
/-- what stands through the turns of a reading -/
structure RdJ (room m : Nat) (F : Fst) (D : Dst) : Prop where
  room : F.room = room
  dok : DOk D
  sk : D.seek = true
  cl : D.cells.length ≤ 4000
  cu : F.cur + F.kw.length ≤ 4000
  ms : m = 4001 - (F.cur + F.kw.length)
  ns : D.ns.length + 2 * m ≤ 7970000
theorem RdJ.br {room m : Nat} {F : Fst} {D : Dst} (h : RdJ room m F D) : BrOk F D := ⟨h.dok, by have := h.ns; omega, fun _ => h.cu, by have := h.cu; omega, by have := h.cl; omega⟩
theorem RdOk.start {F : Fst} {D : Dst} (h : RdOk F D) : RdJ F.room (4001 - ((begF F D).cur + (begF F D).kw.length)) (begF F D) D := by
  have e1 : (begF F D).room = F.room := by unfold begF; split <;> rfl
  have e2 : (begF F D).cur = F.cur := by unfold begF; split <;> rfl
  have e3 : (begF F D).kw.length ≤ F.kw.length := by unfold begF; split; exact Nat.zero_le _; exact Nat.le_refl _
  have := h.cu
  have := h.ns
  exact ⟨e1, h.dok, h.sk, h.cl, by omega, rfl, by omega⟩
theorem RdJ.more {room m : Nat} {F : Fst} {D D' : Dst} {w : Nat} {xs : List Int} (h : RdJ room m F D) (e : bringP F D w = .came (some xs) D') (hx : xs ≠ []) : ∃ m', m' < m ∧ RdJ room m' (brF F D' xs) D' := by
  obtain ⟨c1, c2, c3, c4, c5⟩ := bring_facts e
  obtain ⟨n, ex, _⟩ := bring_came e h.sk
  have lx : 1 ≤ xs.length := by cases hh : xs with
    | nil => exact absurd hh hx
    | cons x ys => show 1 ≤ ys.length + 1; omega
  have lx2 : xs.length ≤ D.cells.length - (F.cur + F.kw.length) := by rw [ex, List.length_take, List.length_drop]; omega
  have := h.cu
  have := h.cl
  have := h.ms
  have := h.ns
  have ok : DOk D' := by
    refine ⟨?_, by rw [c4]; exact h.dok.br⟩
    unfold bringP at e
    split at e
    · cases e
    · split at e
      · cases e
      · injection e with e1 e2
        rw [← e2]
        have := (leadD_facts D (F.cur + F.kw.length)).2.2.2.2.1
        exact used_done (leadD_ok h.dok (by omega)).ok (by omega)
  refine ⟨4001 - (F.cur + F.kw.length + xs.length), by omega, h.room, ok, by rw [c3]; exact h.sk, by rw [c1]; exact h.cl, ?_, ?_, by omega⟩
  · show F.cur + (F.kw ++ xs).length ≤ 4000
    rw [List.length_append]; omega
  · show _ = 4001 - (F.cur + (F.kw ++ xs).length)
    rw [List.length_append]; omega
end Sip
/-! the law's own device whose notes lie in a part of the heap that stays as it is -/
namespace Sip
open PySem PySem.Spec PyProof.Rows L2 TL
section
variable {H H' H1 M N : Hp} {c d : Ch} {cs ds cs1 R : List Ch} {F F1 F2 F' : Addr → Prop} {a b l p q t z m : Addr} {o o' o1 : HO} {vs : List V} {ns : List Nt} {S : Dst}
theorem Sat.frjoin (h : Sat H (frC M :: frC N :: cs)) : ∃ U, Sat H (frC U :: cs) ∧ Same M U ∧ Same N U := by
  obtain ⟨F, F1, F2, h1, ⟨F3, F4, h3, h4, d2, u2⟩, d, u⟩ := h
  have e1 := h1.here
  have e3 := h3.here
  refine ⟨fun b => (M b).or (N b), Sat.mk (On.fr fun b o e => ?_) h4 fun b ⟨o, e⟩ => ?_, fun b o e => ?_, fun b o e => ?_⟩
  · cases eM : M b with
    | some x => rw [eM] at e; exact e1.1 b o (eM.trans e)
    | none => rw [eM] at e; exact e3.1 b o e
  · cases eM : M b with
    | some x => exact fun z => d b ((e1.2 b).mpr ⟨x, eM⟩) ((u2 b).mpr (.inr z))
    | none => rw [eM] at e; exact d2 b ((e3.2 b).mpr ⟨o, e⟩)
  · show (M b).or (N b) = some o
    rw [e]; rfl
  · show (M b).or (N b) = some o
    cases eM : M b with
    | some x => exact absurd ((u2 b).mpr (.inl ((e3.2 b).mpr ⟨o, e⟩))) (d b ((e1.2 b).mpr ⟨x, eM⟩))
    | none => exact e
theorem Sat.frpt (h : Sat H (.pt a o :: cs)) : ∃ M, Sat H (frC M :: cs) ∧ M a = some o := by
  obtain ⟨F, F1, F2, h1, h2, d, u⟩ := h
  obtain ⟨e, hF⟩ := h1.here
  classical
  refine ⟨fun b => if b = a then some o else none, Sat.mk (On.fr fun b x ex => ?_) h2 fun b ⟨x, ex⟩ => ?_, if_pos rfl⟩
  · by_cases h : b = a
    · rw [if_pos h] at ex; cases ex; rw [h]; exact e
    · rw [if_neg h] at ex; cases ex
  · by_cases h : b = a
    · exact d b ((hF b).mpr h)
    · rw [if_neg h] at ex; cases ex
theorem Sat.ptfr (h : Sat H (.pt a o :: frC M :: cs)) : ∃ U, Sat H (frC U :: cs) ∧ Same M U ∧ U a = some o := by
  obtain ⟨N, h, e⟩ := h.frpt
  obtain ⟨U, h, s1, s2⟩ := h.frjoin
  exact ⟨U, h, s2, s1 _ _ e⟩
theorem Sat.fr0 (h : Sat H cs) : Sat H (frC (fun _ => none) :: cs) := by
  obtain ⟨F, h⟩ := h
  exact Sat.mk (On.fr fun b o e => by cases e) h fun b ⟨o, e⟩ => by cases e
theorem Sat.frs (h : Sat H cs) (p : Pull (frC M) cs cs1) : Same M H := fun b o e => h.fr p e
theorem HandV.same {v : V} {t : Tg} (h : HandV M v t) (s : Same M N) : HandV N v t := by
  cases t with
  | i n => exact h
  | s n => exact h
  | l xs => obtain ⟨a, e, ha⟩ := h; exact ⟨a, e, s _ _ ha⟩
theorem TgAt.hand {G : Addr → Prop} {v : V} {t : Tg} (h : TgAt M G v t) : HandV M v t := by
  cases t with
  | i n => exact h
  | s n => exact h
  | l xs => obtain ⟨a, e, _, ha⟩ := h; exact ⟨a, e, ha⟩
theorem HandV.tg {v : V} {t : Tg} (h : HandV M v t) : TgAt M (fun _ => True) v t := by
  cases t with
  | i n => exact h
  | s n => exact h
  | l xs => obtain ⟨a, e, ha⟩ := h; exact ⟨a, e, trivial, ha⟩
theorem HandV.dp {K : PySem.W.Frag} {v : V} {t : Tg} (h : HandV M v t) (s : Same M H) : Dp K H v (tgD t) := (h.same s).tg.dp
/-- the notes, wherever they lie -/
def NtsM (M : Hp) (vs : List V) (ns : List Nt) : Prop := Nts M (fun _ => True) vs ns
theorem Nts.toM {G : Addr → Prop} (h : Nts M G vs ns) : NtsM M vs ns := h.keep (fun _ _ _ e => e) (fun _ _ => trivial)
theorem NtsM.same (h : NtsM M vs ns) (s : Same M N) : NtsM N vs ns := Nts.keep (fun b o _ e => s b o e) (fun _ z => z) h
def mdC (m : Addr) (S : Dst) (M : Hp) : Ch := exC (fun x : Addr × Addr × Addr × List V => NtsM M x.2.2.2 S.ns) fun x => [.pt m (.dK (mK x.1 x.2.1 x.2.2.1 S.spot)), .pt x.1 (.lst (S.cells.map V.int)), .pt x.2.1 (.lst (S.plan.map V.int)), .pt x.2.2.1 (.lst x.2.2.2), frC M]
theorem Sat.md (h : Sat H (mdC m S M :: cs)) : ∃ rw pl no vs, Sat H (.pt m (.dK (mK rw pl no S.spot)) :: .pt rw (.lst (S.cells.map V.int)) :: .pt pl (.lst (S.plan.map V.int)) :: .pt no (.lst vs) :: frC M :: cs) ∧ NtsM M vs S.ns := by
  obtain ⟨⟨rw, pl, no, vs⟩, hN, h⟩ := h.exE
  exact ⟨rw, pl, no, vs, h, hN⟩
theorem Sat.mdI {rw pl no : Addr} (hN : NtsM M vs S.ns) (h : Sat H (.pt m (.dK (mK rw pl no S.spot)) :: .pt rw (.lst (S.cells.map V.int)) :: .pt pl (.lst (S.plan.map V.int)) :: .pt no (.lst vs) :: frC M :: cs)) : Sat H (mdC m S M :: cs) := Sat.exI (rw, pl, no, vs) hN h
theorem Sat.mds (h : Sat H cs) (p : Pull (mdC m S M) cs cs1) : Same M H := by
  obtain ⟨rw, pl, no, vs, h, _⟩ := (h.pull p).md
  exact h.frs (.tl (.tl (.tl (.tl .hd))))
/-- more is kept with the notes -/
theorem Sat.mdjoin (h : Sat H (mdC m S M :: frC N :: cs)) : ∃ U, Sat H (mdC m S U :: cs) ∧ Same M U ∧ Same N U := by
  obtain ⟨rw, pl, no, vs, h, hN⟩ := h.md
  have h : Sat H (frC M :: frC N :: .pt m (.dK (mK rw pl no S.spot)) :: .pt rw (.lst (S.cells.map V.int)) :: .pt pl (.lst (S.plan.map V.int)) :: .pt no (.lst vs) :: cs) := h.pk (.cons (.tl (.tl (.tl (.tl .hd)))) (.cons (.tl (.tl (.tl (.tl .hd)))) .nil))
  obtain ⟨U, h, s1, s2⟩ := h.frjoin
  exact ⟨U, Sat.mdI (hN.same s1) (h.pk (.cons (.tl .hd) (.cons (.tl .hd) (.cons (.tl .hd) (.cons (.tl .hd) .nil))))), s1, s2⟩
theorem Sat.mdpt (h : Sat H (mdC m S M :: .pt a o :: cs)) : ∃ U, Sat H (mdC m S U :: cs) ∧ Same M U ∧ U a = some o := by
  obtain ⟨N, h, e⟩ := (h.pull (.tl .hd)).frpt
  obtain ⟨U, h, s1, s2⟩ := (h.pull (.tl .hd)).mdjoin
  exact ⟨U, h, s1, s2 _ _ e⟩
def spAskedM : Sp := fun vs H Q _ => ∃ (m : Addr) (S : Dst) (a : Ask) (hv : V) (M : Hp) (R : List Ch), vs = [.ref m, .str a.w, hv] ∧ Sat H (mdC m S M :: R) ∧ HandV M hv a.h ∧ UsedOk S ∧ S.ns.length ≤ 8000000 ∧ S.plan.length ≤ 100000 ∧ S.cells.length ≤ 90000 ∧ S.spot ≤ 90000 ∧ AskOk a ∧
  ∀ (H' : Hp) (cv : V) (M' : Hp), Sat H' (mdC m (doneS S a) M' :: R) → Same M M' → HandV M' cv (cameT S a) → Q cv H'
def spDeviceM : Sp := fun vs H Q _ => ∃ (a b : Addr) (r ps : List Int) (R : List Ch), vs = [.ref a, .ref b] ∧ Sat H (.pt a (.lst (r.map V.int)) :: .pt b (.lst (ps.map V.int)) :: R) ∧
  ∀ (H' : Hp) (m : Addr) (M : Hp), Sat H' (mdC m (dst0 true r ps) M :: .pt a (.lst (r.map V.int)) :: .pt b (.lst (ps.map V.int)) :: R) → Q (.ref m) H'
/-- asks one behind another -/
def asksS (S : Dst) (as : List Ask) : Dst := as.foldl doneS S
theorem asksS_snoc (S : Dst) (as : List Ask) (a : Ask) : asksS S (as ++ [a]) = doneS (asksS S as) a := by unfold asksS; rw [List.foldl_append]; rfl
theorem asksS_app (S : Dst) (as bs : List Ask) : asksS S (as ++ bs) = asksS (asksS S as) bs := by unfold asksS; rw [List.foldl_append]
theorem asksS_facts (S : Dst) : ∀ as : List Ask, (asksS S as).plan = S.plan ∧ (asksS S as).seek = S.seek ∧ (asksS S as).bar = S.bar ∧ (asksS S as).ns.length = S.ns.length + as.length ∧ (UsedOk S → UsedOk (asksS S as)) := by
  intro as
  induction as generalizing S with
  | nil => exact ⟨rfl, rfl, rfl, rfl, id⟩
  | cons a as ih =>
    obtain ⟨h1, h2, h3, h4, h5⟩ := ih (doneS S a)
    obtain ⟨g1, g2, g3, g4, g5⟩ := doneS_used S a
    refine ⟨h1.trans g2, h2.trans g3, h3.trans g4, ?_, fun u => h5 (u.done a)⟩
    rw [show asksS S (a :: as) = asksS (doneS S a) as from rfl, h4, g5, List.length_append]
    show _ + 1 + _ = _ + (_ + 1)
    omega
/-- the note of the i-th ask -/
theorem asksS_note (S : Dst) (as : List Ask) : ∀ i a, as[i]? = some a → (asksS S as).ns[S.ns.length + i]? = some ⟨a.w, (asksS S (as.take i)).spot, a.h, cameT (asksS S (as.take i)) a⟩ := by
  induction as generalizing S with
  | nil => intro i a h; cases h
  | cons b as ih =>
    intro i a h
    obtain ⟨g1, g2, g3, g4, g5⟩ := doneS_used S b
    have pre : ∀ (bs : List Ask) (T : Dst) (j : Nat), j < T.ns.length → (asksS T bs).ns[j]? = T.ns[j]? := by
      intro bs
      induction bs with
      | nil => intro T j _; rfl
      | cons c bs ih2 =>
        intro T j hj
        obtain ⟨_, _, _, _, k5⟩ := doneS_used T c
        rw [show asksS T (c :: bs) = asksS (doneS T c) bs from rfl, ih2 (doneS T c) j (by rw [k5, List.length_append]; omega), k5, List.getElem?_append_left hj]
    cases i with
    | zero =>
      cases h
      rw [show asksS S (b :: as) = asksS (doneS S b) as from rfl, pre as (doneS S b) _ (by rw [g5, List.length_append]; show _ < _ + 1; omega), g5, List.getElem?_append_right (by omega)]
      simp
      exact ⟨rfl, rfl⟩
    | succ i =>
      have := ih (doneS S b) i a (by simpa using h)
      rw [g5, List.length_append] at this
      rw [show asksS S (b :: as) = asksS (doneS S b) as from rfl]
      rw [show S.ns.length + (i + 1) = S.ns.length + [(⟨b.w, S.spot, b.h, cameT S b⟩ : Nt)].length + i by show _ = _ + 1 + i; omega]
      exact this
end
theorem u65 {k : Nat} {A : Around} (r : Room k A) : A.units + 65 < cLine := by have := r.un; omega
/-- asks that stall or fail -/
def trb : Tg → Bool
  | .s _ => true
  | _ => false
def camesT (S : Dst) : List Ask → List Tg
  | [] => []
  | a :: as => cameT S a :: camesT (doneS S a) as
theorem camesT_snoc (as : List Ask) (a : Ask) : ∀ S : Dst, camesT S (as ++ [a]) = camesT S as ++ [cameT (asksS S as) a] := by
  induction as with
  | nil => intro S; rfl
  | cons b as ih => intro S; show cameT S b :: camesT (doneS S b) (as ++ [a]) = _; rw [ih]; rfl
theorem camesT_len (as : List Ask) : ∀ S : Dst, (camesT S as).length = as.length := by
  induction as with
  | nil => intro S; rfl
  | cons b as ih => intro S; show (camesT (doneS S b) as).length + 1 = as.length + 1; rw [ih]
inductive HandVs (M : Hp) : List V → List Tg → Prop
  | nil : HandVs M [] []
  | cons {v t vs ts} : HandV M v t → HandVs M vs ts → HandVs M (v :: vs) (t :: ts)
theorem HandVs.same {M N : Hp} {vs : List V} {ts : List Tg} (h : HandVs M vs ts) (s : Same M N) : HandVs N vs ts := by
  induction h with
  | nil => exact .nil
  | cons a _ ih => exact .cons (a.same s) ih
theorem HandVs.snoc {M : Hp} {vs : List V} {ts : List Tg} {v : V} {t : Tg} (h : HandVs M vs ts) (k : HandV M v t) : HandVs M (vs ++ [v]) (ts ++ [t]) := by
  induction h with
  | nil => exact .cons k .nil
  | cons a _ ih => exact .cons a ih
theorem HandVs.len {M : Hp} {vs : List V} {ts : List Tg} (h : HandVs M vs ts) : vs.length = ts.length := by
  induction h with
  | nil => rfl
  | cons _ _ ih => show _ + 1 = _ + 1; rw [ih]
theorem HandVs.at {M : Hp} {vs : List V} {ts : List Tg} (h : HandVs M vs ts) : ∀ {i : Nat} {v : V}, vs[i]? = some v → ∃ t, ts[i]? = some t ∧ HandV M v t := by
  induction h with
  | nil => intro i v e; cases e
  | cons a _ ih =>
    intro i v e
    cases i with
    | zero => cases e; exact ⟨_, rfl, a⟩
    | succ i => obtain ⟨t, e1, h1⟩ := ih (by simpa using e); exact ⟨t, by simpa using e1, h1⟩
/-- none but the last is troubled -/
def Quiet (ts : List Tg) : Prop := ∀ i t, i + 1 < ts.length → ts[i]? = some t → trb t = false
theorem cutDrop (xs : List V) (k : Nat) : cutV xs (some (k : Int)) none = xs.drop k := by
  unfold cutV
  rw [HT.sIx_none, HT.sIx_nat]
  by_cases h : k ≤ xs.length
  · rw [Nat.min_eq_left h, List.take_of_length_le (by rw [List.length_drop]; omega)]
  · rw [Nat.min_eq_right (by omega), List.drop_of_length_le (by omega), List.drop_of_length_le (by omega), List.take_nil]
/-- xs[:-1] -/
theorem cutLast (xs : List V) : cutV xs none (some (-1)) = xs.take (xs.length - 1) := by
  unfold cutV
  rw [HT.sIx_none]
  show (xs.drop 0).take (HT.sIx xs.length xs.length (some (-1)) - 0) = _
  have e : HT.sIx xs.length xs.length (some (-1)) = xs.length - 1 := by
    unfold HT.sIx
    simp
    omega
  rw [e]; rfl
theorem trb_in {t : Tg} (h : trb t = false) : ([PyData.str (Str.ofString "stall"), PyData.str (Str.ofString "fault")].any fun z => PyData.eqv z (tgD t)) = false := by
  cases t with
  | i n => rfl
  | s w => cases h
  | l xs => rfl
theorem log_shaped {ns : List Nt} (h : ∀ n ∈ ns, NtOk n) : SeqAt.shaped (ntsD ns) = true := by
  obtain ⟨h1, h2⟩ := nts_lay h
  unfold SeqAt.shaped ntsD
  simp [PyData.canLay0, PyData.depth, h1]
  omega
/-- the numbers of a drawn plan -/
def PlanOk (tr : Int) (ns : List Int) : Prop := ∀ k ∈ ns, (k = 0 → tr % 2 = 1) ∧ (k < 0 → 1 < tr) ∧ -99 ≤ k ∧ k ≤ 400
theorem PlanOk.snoc {tr x : Int} {ns : List Int} (h : PlanOk tr ns) (k : (x = 0 → tr % 2 = 1) ∧ (x < 0 → 1 < tr) ∧ -99 ≤ x ∧ x ≤ 400) : PlanOk tr (ns ++ [x]) := fun y hy => by
  rcases List.mem_append.mp hy with z | z
  · exact h y z
  · rw [List.mem_singleton.mp z]; exact k
def spPlanM : Sp := fun vs H Q _ => ∃ (p : Addr) (n N tr : Int) (o : HO), vs = [.ref p, .int N, .int tr] ∧ H p = some o ∧ PoolO n o ∧ n ≤ 900000000 ∧ 0 ≤ N ∧ N ≤ 200 ∧
  ∀ (H' : Hp) (b : Addr) (ns : List Int) (o' : HO), H b = none → H' b = some (.lst (ns.map V.int)) → H' p = some o' → PoolO (n + 1000) o' → Kp [p] H H' → (ns.length : Int) ≤ N → PlanOk tr ns → Q (.ref b) H'
def spPlanMS : Sp := fun vs H Q _ => ∃ (p : Addr) (n N tr : Int) (R : List Ch), vs = [.ref p, .int N, .int tr] ∧ Sat H (poolC p n :: R) ∧ n ≤ 900000000 ∧ 0 ≤ N ∧ N ≤ 200 ∧
  ∀ (H' : Hp) (b : Addr) (ns : List Int), Sat H' (poolC p (n + 1000) :: .pt b (.lst (ns.map V.int)) :: R) → (ns.length : Int) ≤ N → PlanOk tr ns → Q (.ref b) H'
theorem spPlanMS.to {vs : List V} {H : Hp} {Q : VK} {E : XK} (h : spPlanMS vs H Q E) : spPlanM vs H Q E := by
  obtain ⟨p, n, N, tr, R, rfl, h, a, b, c, q⟩ := h
  obtain ⟨o, e, P⟩ := h.pool
  exact ⟨p, n, N, tr, o, rfl, e, P, a, b, c, fun H' b bs o' nb eb ep hP k lb hB => q H' b bs (h.kp1 k nb eb ep hP) lb hB⟩
def lineO (isl : Bool) (xs : List Int) : List Int := if isl = true then lineF xs else xs
def dueF (r : List Int) (c : Nat) (isl : Bool) (many : Option Nat) : List Int := takeO many (lineO isl (r.drop c))
def isLine (w : Str) : Bool := decide (V.str w = V.str (Str.ofString "readline"))
def spDueM : Sp := fun vs H Q _ => ∃ (a : Addr) (r : List Int) (c : Nat) (w : Str) (many : Option Nat) (R : List Ch), vs = [.ref a, .int c, .str w, cntV many] ∧ Sat H (.pt a (.lst (r.map V.int)) :: R) ∧ r.length ≤ 10000 ∧
  ∀ (H' : Hp) (q : Addr), Sat H' (.pt q (.lst ((dueF r c (isLine w) many).map V.int)) :: .pt a (.lst (r.map V.int)) :: R) → Q (.ref q) H'
def spCountM : Sp := fun vs H Q _ => ∃ (p : Addr) (n : Int) (w : Str) (R : List Ch), vs = [.ref p, .str w] ∧ Sat H (poolC p n :: R) ∧ n ≤ 900000000 ∧
  ∀ (H' : Hp) (k : Option Nat), Sat H' (poolC p (n + 10) :: R) → (∀ m, k = some m → m ≤ 1000000000) → (k = none → inV (.str w) [.str (Str.ofString "read"), .str (Str.ofString "readline")] = true) → Q (cntV k) H'
def spFollowM (CD : Addr) : Sp := fun vs H Q _ => ∃ (m d : Addr) (S : Dst) (as : List Ask) (M : Hp) (R : List Ch), vs = [.ref m, .ref d] ∧ Sat H (mdC m S M :: devC CD d (asksS S as) :: R) ∧ UsedOk S ∧ DstOk (asksS S as) ∧ (∀ a ∈ as, AskOk a) ∧ (∀ i, (asksS S (as.take i)).cells.length ≤ 90000 ∧ (asksS S (as.take i)).spot ≤ 90000) ∧ Quiet (camesT S as) ∧
  ∀ (H' : Hp) (q : Addr) (cvs : List V) (M' : Hp), Sat H' (.pt q (.lst cvs) :: mdC m (asksS S as) M' :: devC CD d (asksS S as) :: R) → Same M M' → HandVs M' cvs (camesT S as) → Q (.ref q) H'
end Sip
/-! what reading comes to -/
namespace Sip
open PySem PySem.Spec PyProof.Rows L2 TL
/-- asks of a reading -/
def GT (a : Ask) : Prop := (∃ n, a = .go n ∧ n ≤ 4000) ∨ (∃ n, a = .take n ∧ 1 ≤ n ∧ n ≤ 1000000000)
theorem GT.ok {a : Ask} (h : GT a) : AskOk a := by
  rcases h with ⟨n, rfl, _⟩ | ⟨n, rfl, h1, h2⟩
  · trivial
  · exact ⟨h1, h2⟩
theorem GT.one {D : Dst} {a : Ask} (h : GT a) (lc : D.cells.length ≤ 4000) (ls : D.spot ≤ 4000) : (doneS D a).cells = D.cells ∧ (doneS D a).spot ≤ 4000 := by
  by_cases hb : numF D < 0
  · rw [(done_bad (a := a) hb).1, noteS_cells, noteS_spot]; exact ⟨rfl, ls⟩
  · rw [(done_good (a := a) hb).1]
    rcases h with ⟨n, rfl, h1⟩ | ⟨n, rfl, h1, h2⟩
    · rw [good_go.1, good_go.2.1]; exact ⟨rfl, h1⟩
    · by_cases h : mayF D n = 0
      · rw [(good_take0 h).1, (good_take0 h).2.1]; exact ⟨rfl, ls⟩
      · rw [(good_take1 h).1, (good_take1 h).2.1]
        have := taken_len D n
        exact ⟨rfl, by omega⟩
theorem gt_facts {as : List Ask} : ∀ {D : Dst}, (∀ a ∈ as, GT a) → D.cells.length ≤ 4000 → D.spot ≤ 4000 → (asksS D as).cells = D.cells ∧ (asksS D as).spot ≤ 4000 := by
  induction as with
  | nil => intro D _ _ h; exact ⟨rfl, h⟩
  | cons a as ih =>
    intro D h lc ls
    obtain ⟨h1, h2⟩ := (h a (by simp)).one lc ls
    obtain ⟨h3, h4⟩ := ih (D := doneS D a) (fun b hb => h b (by simp [hb])) (by rw [h1]; exact lc) h2
    exact ⟨h3.trans h1, h4⟩
theorem gt_take {as : List Ask} {D : Dst} (h : ∀ a ∈ as, GT a) (lc : D.cells.length ≤ 4000) (ls : D.spot ≤ 4000) (i : Nat) : (asksS D (as.take i)).cells.length ≤ 90000 ∧ (asksS D (as.take i)).spot ≤ 90000 := by
  obtain ⟨h1, h2⟩ := gt_facts (D := D) (as := as.take i) (fun a ha => h a (List.mem_of_mem_take ha)) lc ls
  rw [h1]
  omega
/-- a plan without troubles -/
def PosP (D : Dst) : Prop := ∀ k ∈ D.plan, 1 ≤ k
theorem PosP.num {D : Dst} (h : PosP D) : 1 ≤ numF D := by
  unfold numF
  cases e : planN D with
  | none => decide
  | some k => exact h k (List.mem_of_getElem? e)
theorem PosP.bad {D : Dst} (h : PosP D) : badN D = false := by
  cases hb : badN D with
  | false => rfl
  | true => have := num_bad.mp hb; have := h.num; omega
theorem PosP.may {D : Dst} (h : PosP D) {n : Nat} (hn : 1 ≤ n) : 0 < mayF D n := may_pos (by have := h.num; omega) (by have := h.num; omega) hn
theorem PosP.done {D : Dst} (h : PosP D) (a : Ask) : PosP (doneS D a) := by
  unfold PosP; rw [(doneS_used D a).2.1]; exact h
theorem PosP.asks {D : Dst} (h : PosP D) (as : List Ask) : PosP (asksS D as) := by
  unfold PosP; rw [(asksS_facts D as).1]; exact h
theorem PosP.calm {D : Dst} {a : Ask} (h : PosP D) (g : GT a) : trb (cameT D a) = false := by
  unfold cameT
  rw [if_neg (by rw [h.bad]; simp)]
  rcases g with ⟨n, rfl, _⟩ | ⟨n, rfl, h1, _⟩
  · rfl
  · show trb (if mayF D n = 0 then _ else _) = false
    rw [if_neg (by have := h.may h1; omega)]; rfl
theorem PosP.quiet {as : List Ask} : ∀ {D : Dst}, PosP D → (∀ a ∈ as, GT a) → Quiet (camesT D as) := by
  induction as with
  | nil => intro D _ _ i t h; exact absurd h (by show ¬ i + 1 < 0; omega)
  | cons a as ih =>
    intro D h g i t hi ht
    cases i with
    | zero => cases ht; exact h.calm (g a (by simp))
    | succ i => exact ih (h.done a) (fun b hb => g b (by simp [hb])) i t (by have : i + 1 + 1 < (camesT (doneS D a) as).length + 1 := hi; omega) (by simpa [camesT] using ht)
/-- the asks of one bring -/
theorem bring_asks {F : Fst} {D : Dst} {w : Nat} (sk : D.seek = true) (hr : 1 ≤ F.room) (hm : max F.room w ≤ 1000000000) (hp : F.cur + F.kw.length ≤ 4000) :
    ∃ as, (∀ a ∈ as, GT a) ∧ as.length ≤ 2 ∧ ((∀ k D', bringP F D w = .fault k D' → D' = asksS D as) ∧ (∀ o D', bringP F D w = .came o D' → D' = asksS D as)) := by
  have gg : GT (.go (F.cur + F.kw.length)) := .inl ⟨_, rfl, hp⟩
  have gt : GT (.take (max F.room w)) := .inr ⟨_, rfl, by omega, hm⟩
  by_cases hb : leadB D (F.cur + F.kw.length) = true
  · have hg : goB D (F.cur + F.kw.length) = true := by unfold leadB at hb; simp at hb; exact hb.1
    refine ⟨[.go (F.cur + F.kw.length)], fun a ha => by rw [List.mem_singleton.mp ha]; exact gg, by show 1 ≤ 2; decide, fun k D' e => ?_, fun o D' e => ?_⟩
    · unfold bringP at e
      rw [if_pos hb] at e
      injection e with e1 e2
      rw [← e2]; exact if_pos hg
    · unfold bringP at e
      rw [if_pos hb] at e
      cases e
  · by_cases hg : goB D (F.cur + F.kw.length) = true
    · refine ⟨[.go (F.cur + F.kw.length), .take (max F.room w)], fun a ha => ?_, by show 2 ≤ 2; decide, fun k D' e => ?_, fun o D' e => ?_⟩
      · rcases List.mem_cons.mp ha with rfl | ha
        · exact gg
        · rw [List.mem_singleton.mp ha]; exact gt
      · unfold bringP at e
        rw [if_neg hb, show leadD D (F.cur + F.kw.length) = doneS D (.go (F.cur + F.kw.length)) from if_pos hg] at e
        split at e
        · injection e with e1 e2; exact e2.symm
        · cases e
      · unfold bringP at e
        rw [if_neg hb, show leadD D (F.cur + F.kw.length) = doneS D (.go (F.cur + F.kw.length)) from if_pos hg] at e
        split at e
        · cases e
        · injection e with e1 e2; exact e2.symm
    · refine ⟨[.take (max F.room w)], fun a ha => by rw [List.mem_singleton.mp ha]; exact gt, by show 1 ≤ 2; decide, fun k D' e => ?_, fun o D' e => ?_⟩
      · unfold bringP at e
        rw [if_neg hb, show leadD D (F.cur + F.kw.length) = D from if_neg hg] at e
        split at e
        · injection e with e1 e2; exact e2.symm
        · cases e
      · unfold bringP at e
        rw [if_neg hb, show leadD D (F.cur + F.kw.length) = D from if_neg hg] at e
        split at e
        · cases e
        · injection e with e1 e2; exact e2.symm
theorem take_min (xs : List Int) (n : Nat) : xs.take n = xs.take (min n xs.length) := by
  by_cases h : n ≤ xs.length
  · rw [Nat.min_eq_left h]
  · rw [Nat.min_eq_right (by omega), List.take_of_length_le (by omega), List.take_of_length_le (Nat.le_refl _)]
/-- what is known lies in the row -/
def KnF (F : Fst) (row : List Int) : Prop := F.kw = (row.drop F.cur).take F.kw.length
theorem KnF.len {F : Fst} {row : List Int} (h : KnF F row) : F.kw.length ≤ row.length - F.cur := by
  have := congrArg List.length h
  rw [List.length_take, List.length_drop] at this
  omega
theorem KnF.beg {F : Fst} {D : Dst} {row : List Int} (h : KnF F row) : KnF (begF F D) row := by
  unfold begF
  split
  · show ([] : List Int) = (row.drop F.cur).take 0; rw [List.take_zero]
  · exact h
theorem KnF.bring {F : Fst} {D' : Dst} {row xs : List Int} {n : Nat} (h : KnF F row) (ex : xs = (row.drop (F.cur + F.kw.length)).take n) : KnF (brF F D' xs) row := by
  show F.kw ++ xs = (row.drop F.cur).take (F.kw ++ xs).length
  rw [List.length_append, List.take_add]
  conv => lhs; rw [h]
  congr 1
  rw [List.drop_drop]
  conv => lhs; rw [ex]
  have e2 : xs.length = min n (row.drop (F.cur + F.kw.length)).length := by rw [ex, List.length_take]
  rw [e2]
  exact take_min _ _
theorem KnF.out {F : Fst} {row : List Int} {n : Nat} (h : KnF F row) (hn : n ≤ F.kw.length) : KnF (outF F n) row := by
  show F.kw.drop n = (row.drop (F.cur + n)).take (F.kw.drop n).length
  rw [List.length_drop, ← List.drop_drop]
  conv => lhs; rw [h]
  rw [List.drop_take]
theorem KnF.take {F : Fst} {row : List Int} {n : Nat} (h : KnF F row) (hn : n ≤ F.kw.length) : F.kw.take n = (row.drop F.cur).take n := by
  conv => lhs; rw [h]
  rw [List.take_take, Nat.min_eq_left hn]
/-- what a reading keeps of the file -/
structure Kept (F F' : Fst) : Prop where
  room : F'.room = F.room
  rd : F'.rd = F.rd
  wr : F'.wr = F.wr
  wt : F'.wt = F.wt
  fin : F'.fin = F.fin
  lost : F'.lost = F.lost
  busy : F'.busy = F.busy
theorem Kept.refl (F : Fst) : Kept F F := ⟨rfl, rfl, rfl, rfl, rfl, rfl, rfl⟩
theorem Kept.trans {F F1 F2 : Fst} (a : Kept F F1) (b : Kept F1 F2) : Kept F F2 := ⟨b.room.trans a.room, b.rd.trans a.rd, b.wr.trans a.wr, b.wt.trans a.wt, b.fin.trans a.fin, b.lost.trans a.lost, b.busy.trans a.busy⟩
theorem Kept.beg (F : Fst) (D : Dst) : Kept F (begF F D) := by unfold begF; split <;> exact ⟨rfl, rfl, rfl, rfl, rfl, rfl, rfl⟩
theorem Kept.br (F : Fst) (D : Dst) (xs : List Int) : Kept F (brF F D xs) := ⟨rfl, rfl, rfl, rfl, rfl, rfl, rfl⟩
theorem Kept.out (F : Fst) (n : Nat) : Kept F (outF F n) := ⟨rfl, rfl, rfl, rfl, rfl, rfl, rfl⟩
theorem want_le {F : Fst} {many : Option Nat} (hm : ∀ n, many = some n → n ≤ 1000000000) (hr : F.room ≤ 64) : max F.room (wantN F many) ≤ 1000000000 := by
  cases many with
  | none => show max F.room 4000 ≤ _; omega
  | some n => have := hm n rfl; show max F.room (n - F.kw.length) ≤ _; omega
/-- a reading without troubles tells what is due -/
theorem RdL.pos {many : Option Nat} {F F' : Fst} {D D' : Dst} {r : RR} (h : RdL many F D F' D' r) (hm : ∀ n, many = some n → n ≤ 1000000000) : ∀ (pos : PosP D) (sk : D.seek = true) (lc : D.cells.length ≤ 4000) (kf : KnF F D.cells) (hr : 1 ≤ F.room) (hr2 : F.room ≤ 64) (hc : F.cur ≤ 4000),
    r = .told (takeO many (D.cells.drop F.cur)) ∧ F'.cur = F.cur + (takeO many (D.cells.drop F.cur)).length ∧ KnF F' D.cells ∧ Kept F F' ∧ ∃ as, D' = asksS D as ∧ (∀ a ∈ as, GT a) ∧ as.length ≤ 2 * (4002 - (F.cur + F.kw.length)) := by
  induction h with
  | @done F D n e hn =>
    intro pos sk lc kf hr hr2 hc
    subst e
    have et := kf.take hn
    have el : (takeO (some n) (D.cells.drop F.cur)).length = n := by
      show ((D.cells.drop F.cur).take n).length = n
      rw [← et, List.length_take]; omega
    exact ⟨by rw [et]; rfl, by rw [el]; rfl, kf.out hn, .out F n, [], rfl, fun a ha => (by cases ha), Nat.zero_le _⟩
  | @more F D xs D1 F2 D2 r hne e hx _ ih =>
    intro pos sk lc kf hr hr2 hc
    obtain ⟨n, ex, _⟩ := bring_came e sk
    obtain ⟨c1, c2, c3, c4, c5⟩ := bring_facts e
    have kl := kf.len
    obtain ⟨as, g, la, _, e2⟩ := bring_asks (w := wantN F many) sk hr (want_le hm hr2) (show F.cur + F.kw.length ≤ 4000 by omega)
    have eD := e2 _ _ e
    have lx : 1 ≤ xs.length := by cases hh : xs with
      | nil => exact absurd hh hx
      | cons x ys => show 1 ≤ ys.length + 1; omega
    have lx2 : xs.length ≤ D.cells.length - (F.cur + F.kw.length) := by rw [ex, List.length_take, List.length_drop]; omega
    have kf1 : KnF (brF F D1 xs) D1.cells := by rw [c1]; exact kf.bring ex
    obtain ⟨i1, i2, i3, i4, bs, i5, i6, i7⟩ := ih (by rw [eD]; exact pos.asks as) (by rw [c3]; exact sk) (by rw [c1]; exact lc) kf1 hr hr2 hc
    rw [c1] at i1 i2 i3
    refine ⟨i1, i2, i3, (Kept.br F D1 xs).trans i4, as ++ bs, by rw [i5, eD, asksS_app], fun a ha => ?_, ?_⟩
    · rcases List.mem_append.mp ha with z | z
      · exact g a z
      · exact i6 a z
    · have i7 : bs.length ≤ 2 * (4002 - (F.cur + (F.kw ++ xs).length)) := i7
      rw [List.length_append] at i7
      rw [List.length_append]
      omega
  | @stop F D o D1 hne e ho =>
    intro pos sk lc kf hr hr2 hc
    obtain ⟨c1, c2, c3, c4, c5⟩ := bring_facts e
    have kl := kf.len
    obtain ⟨as, g, la, _, e2⟩ := bring_asks (w := wantN F many) sk hr (want_le hm hr2) (show F.cur + F.kw.length ≤ 4000 by omega)
    have eD := e2 _ _ e
    have oe : o = some [] := by
      rcases ho with rfl | rfl
      · exfalso
        unfold bringP at e
        split at e
        · cases e
        · split at e
          · cases e
          · injection e with e3 e4
            unfold brC at e3
            split at e3
            · rename_i h5
              have pl : PosP (leadD D (F.cur + F.kw.length)) := by unfold leadD; split; exact pos.done _; exact pos
              have := pl.may (n := max F.room (wantN F many)) (by omega)
              omega
            · cases e3
      · rfl
    subst oe
    have hx := e
    unfold bringP at hx
    split at hx
    · cases hx
    · rename_i hb1
      split at hx
      · cases hx
      · injection hx with e3 e4
        have hs := lead_spot sk (Bool.eq_false_iff.mpr hb1)
        have l1 := (leadD_facts D (F.cur + F.kw.length)).1
        have pl : PosP (leadD D (F.cur + F.kw.length)) := by unfold leadD; split; exact pos.done _; exact pos
        have mp := pl.may (n := max F.room (wantN F many)) (by omega)
        unfold brC at e3
        rw [if_neg (by omega)] at e3
        have e3 : takenF (leadD D (F.cur + F.kw.length)) (max F.room (wantN F many) : Nat) = [] := Option.some.inj e3
        unfold takenF at e3
        rw [l1, hs] at e3
        have ed : D.cells.drop (F.cur + F.kw.length) = [] := by
          cases hh : D.cells.drop (F.cur + F.kw.length) with
          | nil => rfl
          | cons x ys =>
            rw [hh] at e3
            cases hn : (mayF (leadD D (F.cur + F.kw.length)) (max F.room (wantN F many) : Nat)).toNat with
            | zero => omega
            | succ k => rw [hn] at e3; cases e3
        have le : D.cells.length ≤ F.cur + F.kw.length := List.drop_eq_nil_iff.mp ed
        have ek : F.kw = D.cells.drop F.cur := by
          have := kf
          unfold KnF at this
          rw [List.take_of_length_le (by rw [List.length_drop]; omega)] at this
          exact this
        have et : takeO many (D.cells.drop F.cur) = D.cells.drop F.cur := by
          cases many with
          | none => rfl
          | some n =>
            show (D.cells.drop F.cur).take n = _
            rw [← ek]
            have : ¬ n ≤ F.kw.length := hne
            exact List.take_of_length_le (by omega)
        have eb : (brF F D1 []).kw = F.kw := List.append_nil _
        refine ⟨?_, ?_, ?_, (Kept.br F D1 []).trans (.out _ _), as, eD, g, by omega⟩
        · unfold stopR
          rw [eb, et, ← ek]
          split
          · rename_i h0; rw [h0]; rfl
          · rfl
        · rw [et, ← ek]
          show F.cur + (brF F D1 []).kw.length = _
          rw [eb]
        · have kb : KnF (brF F D1 []) D.cells := kf.bring (n := 0) (by rw [List.take_zero])
          exact kb.out (Nat.le_refl _)
  | @fault F D k D1 hne e =>
    intro pos sk lc kf hr hr2 hc
    exfalso
    unfold bringP at e
    have pl : PosP (leadD D (F.cur + F.kw.length)) := by unfold leadD; split; exact pos.done _; exact pos
    rw [if_neg (by unfold leadB; rw [pos.bad]; simp), if_neg (by rw [pl.bad]; simp)] at e
    cases e
end Sip
/-! reading lines -/
namespace Sip
open PySem PySem.Spec PyProof.Rows L2 TL
/-- without troubles a bring that brings nothing tells the end -/
theorem bring_end {F : Fst} {D D1 : Dst} {w : Nat} {o : Option (List Int)} (e : bringP F D w = .came o D1) (ho : o = none ∨ o = some []) (pos : PosP D) (sk : D.seek = true) (kf : KnF F D.cells) (hr : 1 ≤ F.room) : o = some [] ∧ F.kw = D.cells.drop F.cur := by
  have kl := kf.len
  have pl : PosP (leadD D (F.cur + F.kw.length)) := by unfold leadD; split; exact pos.done _; exact pos
  have mp := pl.may (n := max F.room w) (by omega)
  unfold bringP at e
  split at e
  · cases e
  · rename_i hb1
    split at e
    · cases e
    · injection e with e3 e4
      have hs := lead_spot sk (Bool.eq_false_iff.mpr hb1)
      have l1 := (leadD_facts D (F.cur + F.kw.length)).1
      unfold brC at e3
      rw [if_neg (by omega)] at e3
      have ho : o = some [] := by
        rcases ho with rfl | rfl
        · cases e3
        · rfl
      refine ⟨ho, ?_⟩
      rw [ho] at e3
      have e3 : takenF (leadD D (F.cur + F.kw.length)) (max F.room w : Nat) = [] := Option.some.inj e3
      unfold takenF at e3
      rw [l1, hs] at e3
      have ed : D.cells.drop (F.cur + F.kw.length) = [] := by
        cases hh : D.cells.drop (F.cur + F.kw.length) with
        | nil => rfl
        | cons x ys =>
          rw [hh] at e3
          cases hn : (mayF (leadD D (F.cur + F.kw.length)) (max F.room w : Nat)).toNat with
          | zero => omega
          | succ k => rw [hn] at e3; cases e3
      have le : D.cells.length ≤ F.cur + F.kw.length := List.drop_eq_nil_iff.mp ed
      have := kf
      unfold KnF at this
      rw [List.take_of_length_le (by rw [List.length_drop]; omega)] at this
      exact this
def lineK (F : Fst) (k : Option Nat) : List Int := takeO k (lineF F.kw)
def enoughB (F : Fst) (k : Option Nat) : Bool := decide (V.int ((lineK F k).length : Int) = cntV k) || decide ((10 : Int) ∈ lineK F k)
inductive RlL (k : Option Nat) : Fst → Dst → Fst → Dst → RR → Prop
  | done {F D} : enoughB F k = true → RlL k F D (outF F (lineK F k).length) D (.told (lineK F k))
  | more {F D xs D' F2 D2 r} : enoughB F k = false → bringP F D F.room = .came (some xs) D' → xs ≠ [] → RlL k (brF F D' xs) D' F2 D2 r → RlL k F D F2 D2 r
  | stop {F D o D'} : enoughB F k = false → bringP F D F.room = .came o D' → (o = none ∨ o = some []) → RlL k F D (outF (brF F D' []) (brF F D' []).kw.length) D' (stopR (brF F D' []) o)
  | fault {F D j D'} : enoughB F k = false → bringP F D F.room = .fault j D' → RlL k F D F D' (.fault j)
def spFLineS (K : PySem.W.Frag) : Sp := fun vs H Q _ => ∃ (a : Addr) (xs : List Int) (k : Option Nat) (R : List Ch), vs = [.ref a, cntV k] ∧ Sat H (.pt a (.lst (xs.map V.int)) :: R) ∧ xs.length ≤ 10000 ∧
  ∀ (H' : Hp) (q : Addr), Sat H' (.pt q (.lst ((takeO k (lineF xs)).map V.int)) :: .pt a (.lst (xs.map V.int)) :: R) → Q (.ref q) H'
theorem spFLineS.to {K : PySem.W.Frag} {vs : List V} {H : Hp} {Q : VK} {E : XK} (h : spFLineS K vs H Q E) : spFLine K vs H Q E := by
  obtain ⟨a, xs, k, R, rfl, h, l, q⟩ := h
  exact ⟨a, xs, k, rfl, sq_at (h.get .hd), l, fun H' z nz ez s => q H' z (h.fresh s nz ez)⟩
def spFKnown (CF : Addr) : Sp := fun vs H Q _ => ∃ (f d : Addr) (F : Fst) (k : Option Nat) (R : List Ch), vs = [.ref f, cntV k] ∧ Sat H (filC CF f d F :: R) ∧ F.kw.length ≤ 10000 ∧ ∀ H', Sat H' (filC CF f d F :: R) → Q (.bl (enoughB F k)) H'
def spFRline (CF CD C : Addr) : Sp := fun vs H Q E => ∃ (f d : Addr) (F : Fst) (D : Dst) (k : Option Nat) (R : List Ch), vs = [.ref f, cntV k] ∧ Sat H (filC CF f d F :: devC CD d D :: R) ∧ RdOk F D ∧ (∀ n, k = some n → n ≤ 1000000000) ∧
  (k = some 0 → ∀ (H' : Hp) (q : Addr), Sat H' (.pt q (.lst []) :: filC CF f d F :: devC CD d D :: R) → Q (.ref q) H') ∧
  (k ≠ some 0 → ∀ F' D' r, RlL k (begF F D) D F' D' r → TellR CF CD C Q E f d R F' D' r)
theorem lineTk (xs : List Int) (L : Nat) : lineF (xs.take L) = (lineF xs).take L := lineF_O xs (some L)
theorem mem_take_idx {xs : List Int} {L : Nat} (h : (10 : Int) ∈ xs.take L) : xs.idxOf 10 < L := by
  have h1 := List.idxOf_lt_length_of_mem h
  have h2 : xs.idxOf 10 = (xs.take L).idxOf 10 := by
    conv => lhs; rw [← List.take_append_drop L xs]
    rw [List.idxOf_append, if_pos h]
  rw [List.length_take] at h1
  omega
theorem lineF_len (xs : List Int) : (lineF xs).length = min (xs.idxOf 10 + 1) xs.length := by unfold lineF; rw [List.length_take]
/-- a feed within the first bytes of a line: the line ends there -/
theorem line_whole {xs : List Int} {L : Nat} (h : (10 : Int) ∈ (lineF xs).take L) : (lineF xs).take L = lineF xs := by
  have h1 : (10 : Int) ∈ xs.take L := by
    have : (10 : Int) ∈ (xs.take (xs.idxOf 10 + 1)).take L := h
    rw [List.take_take, Nat.min_comm, ← List.take_take] at this
    exact List.mem_of_mem_take this
  have h2 := mem_take_idx h1
  exact List.take_of_length_le (by rw [lineF_len]; omega)
theorem mem_takeO {k : Option Nat} {xs : List Int} {x : Int} (h : x ∈ takeO k xs) : x ∈ xs := by
  cases k with
  | none => exact h
  | some n => exact List.mem_of_mem_take h
/-- what is known as the line is the line -/
theorem lineK_due {F : Fst} {k : Option Nat} {row : List Int} (kf : KnF F row) (e : enoughB F k = true) : lineK F k = takeO k (lineF (row.drop F.cur)) := by
  have el : lineF F.kw = (lineF (row.drop F.cur)).take F.kw.length := by
    conv => lhs; rw [kf]
    exact lineTk _ _
  unfold enoughB at e
  unfold lineK at *
  rw [el] at e ⊢
  rcases Bool.or_eq_true_iff.mp e with e | e
  · have e1 := of_decide_eq_true e
    cases k with
    | none => cases e1
    | some n =>
      have e2 := V.int.inj e1
      have e2 : (((lineF (row.drop F.cur)).take F.kw.length).take n).length = n := by
        have : ((((lineF (row.drop F.cur)).take F.kw.length).take n).length : Int) = (n : Int) := e2
        omega
      show ((lineF (row.drop F.cur)).take F.kw.length).take n = (lineF (row.drop F.cur)).take n
      rw [List.take_take]
      rw [List.take_take, List.length_take] at e2
      rw [Nat.min_eq_left (by omega)]
  · have e1 := mem_takeO (of_decide_eq_true e)
    rw [line_whole e1]
/-- at the end of the row the line is all that is left -/
theorem line_end {F : Fst} {k : Option Nat} (e : enoughB F k = false) : takeO k (lineF F.kw) = F.kw := by
  unfold enoughB lineK at e
  obtain ⟨e1, e2⟩ := Bool.or_eq_false_iff.mp e
  have e1 := of_decide_eq_false e1
  have e2 := of_decide_eq_false e2
  have n10 : (10 : Int) ∉ F.kw := fun h10 => by
    have hi := List.idxOf_lt_length_of_mem h10
    have ll : (lineF F.kw).length = F.kw.idxOf 10 + 1 := by rw [lineF_len]; omega
    have m10 : (10 : Int) ∈ lineF F.kw := by
      unfold lineF
      refine List.mem_of_getElem? (i := F.kw.idxOf 10) ?_
      rw [List.getElem?_take, if_pos (by omega), List.getElem?_eq_getElem hi, List.getElem_idxOf hi]
    cases k with
    | none => exact e2 m10
    | some n =>
      by_cases hn : (lineF F.kw).length ≤ n
      · exact e2 (by show (10 : Int) ∈ (lineF F.kw).take n; rw [List.take_of_length_le hn]; exact m10)
      · exact e1 (by
          show V.int ((((lineF F.kw).take n).length : Nat) : Int) = V.int (n : Int)
          rw [List.length_take, Nat.min_eq_left (by omega)])
  rw [lineF_no n10] at e1 ⊢
  cases k with
  | none => rfl
  | some n =>
    show F.kw.take n = F.kw
    by_cases hn : F.kw.length ≤ n
    · exact List.take_of_length_le hn
    · exact absurd (by
        show V.int ((((F.kw).take n).length : Nat) : Int) = V.int (n : Int)
        rw [List.length_take, Nat.min_eq_left (by omega)]) e1
theorem lineK_le (F : Fst) (k : Option Nat) : (lineK F k).length ≤ F.kw.length := by
  unfold lineK
  have h1 := takeO_len k (lineF F.kw)
  rw [lineF_len] at h1
  omega
theorem lineK_take (F : Fst) (k : Option Nat) : lineK F k = F.kw.take (lineK F k).length := by
  have hp : ∃ n, lineK F k = F.kw.take n := by
    unfold lineK lineF
    cases k with
    | none => exact ⟨_, rfl⟩
    | some n => exact ⟨_, by show ((F.kw).take _).take n = _; rw [List.take_take]⟩
  obtain ⟨n, e⟩ := hp
  rw [e, List.length_take, take_min]
/-- a reading of a line without troubles tells what is due -/
theorem RlL.pos {k : Option Nat} {F F' : Fst} {D D' : Dst} {r : RR} (h : RlL k F D F' D' r) : ∀ (pos : PosP D) (sk : D.seek = true) (lc : D.cells.length ≤ 4000) (kf : KnF F D.cells) (hr : 1 ≤ F.room) (hr2 : F.room ≤ 64) (hc : F.cur ≤ 4000),
    r = .told (takeO k (lineF (D.cells.drop F.cur))) ∧ F'.cur = F.cur + (takeO k (lineF (D.cells.drop F.cur))).length ∧ KnF F' D.cells ∧ Kept F F' ∧ ∃ as, D' = asksS D as ∧ (∀ a ∈ as, GT a) ∧ as.length ≤ 2 * (4002 - (F.cur + F.kw.length)) := by
  induction h with
  | @done F D e =>
    intro pos sk lc kf hr hr2 hc
    have el := lineK_due kf e
    exact ⟨by rw [el], by rw [← el]; rfl, kf.out (lineK_le F k), .out F _, [], rfl, fun a ha => (by cases ha), Nat.zero_le _⟩
  | @more F D xs D1 F2 D2 r hne e hx _ ih =>
    intro pos sk lc kf hr hr2 hc
    obtain ⟨n, ex, _⟩ := bring_came e sk
    obtain ⟨c1, c2, c3, c4, c5⟩ := bring_facts e
    have kl := kf.len
    obtain ⟨as, g, la, _, e2⟩ := bring_asks (w := F.room) sk hr (by omega) (show F.cur + F.kw.length ≤ 4000 by omega)
    have eD := e2 _ _ e
    have lx : 1 ≤ xs.length := by cases hh : xs with
      | nil => exact absurd hh hx
      | cons x ys => show 1 ≤ ys.length + 1; omega
    have lx2 : xs.length ≤ D.cells.length - (F.cur + F.kw.length) := by rw [ex, List.length_take, List.length_drop]; omega
    have kf1 : KnF (brF F D1 xs) D1.cells := by rw [c1]; exact kf.bring ex
    obtain ⟨i1, i2, i3, i4, bs, i5, i6, i7⟩ := ih (by rw [eD]; exact pos.asks as) (by rw [c3]; exact sk) (by rw [c1]; exact lc) kf1 hr hr2 hc
    rw [c1] at i1 i2 i3
    refine ⟨i1, i2, i3, (Kept.br F D1 xs).trans i4, as ++ bs, by rw [i5, eD, asksS_app], fun a ha => ?_, ?_⟩
    · rcases List.mem_append.mp ha with z | z
      · exact g a z
      · exact i6 a z
    · have i7 : bs.length ≤ 2 * (4002 - (F.cur + (F.kw ++ xs).length)) := i7
      rw [List.length_append] at i7
      rw [List.length_append]
      omega
  | @stop F D o D1 hne e ho =>
    intro pos sk lc kf hr hr2 hc
    have kl := kf.len
    obtain ⟨as, g, la, _, e2⟩ := bring_asks (w := F.room) sk hr (by omega) (show F.cur + F.kw.length ≤ 4000 by omega)
    have eD := e2 _ _ e
    obtain ⟨oe, ek⟩ := bring_end e ho pos sk kf hr
    subst oe
    have et := line_end hne
    have eb : (brF F D1 []).kw = F.kw := List.append_nil _
    rw [← ek, et]
    refine ⟨?_, ?_, ?_, (Kept.br F D1 []).trans (.out _ _), as, eD, g, by omega⟩
    · unfold stopR
      rw [eb]
      split
      · rename_i h0; rw [h0]; rfl
      · rfl
    · show F.cur + (brF F D1 []).kw.length = _
      rw [eb]
    · have kb : KnF (brF F D1 []) D.cells := kf.bring (n := 0) (by rw [List.take_zero])
      exact kb.out (Nat.le_refl _)
  | @fault F D j D1 hne e =>
    intro pos sk lc kf hr hr2 hc
    exfalso
    unfold bringP at e
    have pl : PosP (leadD D (F.cur + F.kw.length)) := by unfold leadD; split; exact pos.done _; exact pos
    rw [if_neg (by unfold leadB; rw [pos.bad]; simp), if_neg (by rw [pl.bad]; simp)] at e
    cases e
end Sip
/-! peek and read_some -/
namespace Sip
open PySem PySem.Spec PyProof.Rows L2 TL
def wantP : Option Nat → Nat
  | none => 4000
  | some n => n
inductive PkL (k : Option Nat) : Fst → Dst → Fst → Dst → RR → Prop
  | known {F D} : F.kw ≠ [] → PkL k F D F D (.told (takeO k F.kw))
  | more {F D xs D'} : F.kw = [] → bringP F D (wantP k) = .came (some xs) D' → xs ≠ [] → PkL k F D (brF F D' xs) D' (.told (takeO k xs))
  | stall {F D D'} : F.kw = [] → bringP F D (wantP k) = .came none D' → PkL k F D (brF F D' []) D' .non
  | fin {F D D'} : F.kw = [] → bringP F D (wantP k) = .came (some []) D' → PkL k F D (brF F D' []) D' (.told [])
  | fault {F D j D'} : F.kw = [] → bringP F D (wantP k) = .fault j D' → PkL k F D F D' (.fault j)
def spFPeek (CF CD C : Addr) : Sp := fun vs H Q E => ∃ (f d : Addr) (F : Fst) (D : Dst) (k : Option Nat) (R : List Ch), vs = [.ref f, cntV k] ∧ Sat H (filC CF f d F :: devC CD d D :: R) ∧ RdOk F D ∧ (∀ n, k = some n → n ≤ 1000000000) ∧
  (k = some 0 → ∀ (H' : Hp) (q : Addr), Sat H' (.pt q (.lst []) :: filC CF f d F :: devC CD d D :: R) → Q (.ref q) H') ∧
  (k ≠ some 0 → ∀ F' D' r, PkL k (begF F D) D F' D' r → TellR CF CD C Q E f d R F' D' r)
end Sip
/-! reading amid troubles: what a call tells, what its asks came to -/
namespace Sip
open PySem PySem.Spec PyProof.Rows L2 TL
abbrev sFault : Str := Str.ofString "fault"
abbrev sStall : Str := Str.ofString "stall"
def notesT (S : Dst) : List Ask → List Nt
  | [] => []
  | a :: as => ⟨a.w, S.spot, a.h, cameT S a⟩ :: notesT (doneS S a) as
theorem notesT_app (as bs : List Ask) : ∀ S : Dst, notesT S (as ++ bs) = notesT S as ++ notesT (asksS S as) bs := by
  induction as with
  | nil => intro S; rfl
  | cons a as ih => intro S; show _ :: notesT (doneS S a) (as ++ bs) = _; rw [ih]; rfl
theorem camesT_app (as bs : List Ask) : ∀ S : Dst, camesT S (as ++ bs) = camesT S as ++ camesT (asksS S as) bs := by
  induction as with
  | nil => intro S; rfl
  | cons a as ih => intro S; show _ :: camesT (doneS S a) (as ++ bs) = _; rw [ih]; rfl
theorem asksS_ns (as : List Ask) : ∀ S : Dst, (asksS S as).ns = S.ns ++ notesT S as := by
  induction as with
  | nil => intro S; exact (List.append_nil _).symm
  | cons a as ih =>
    intro S
    rw [show asksS S (a :: as) = asksS (doneS S a) as from rfl, ih, (doneS_used S a).2.2.2.2, List.append_assoc]
    rfl
/-- a note of a reading that knows up to e -/
def NtIn (e : Nat) (n : Nt) : Prop := n.w ≠ Str.ofString "put" ∧ ∀ xs, n.c = .l xs → n.p + xs.length ≤ e
theorem NtIn.mono {e e' : Nat} {n : Nt} (h : NtIn e n) (le : e ≤ e') : NtIn e' n := ⟨h.1, fun xs e => Nat.le_trans (h.2 xs e) le⟩
theorem go_put : Str.ofString "go" ≠ Str.ofString "put" := by decide +kernel
theorem take_put : Str.ofString "take" ≠ Str.ofString "put" := by decide +kernel
def Calm (ts : List Tg) : Prop := ∀ t ∈ ts, trb t = false
theorem Calm.app {ts us : List Tg} (a : Calm ts) (b : Calm us) : Calm (ts ++ us) := fun t h => (List.mem_append.mp h).elim (a t) (b t)
theorem Calm.quiet {ts : List Tg} {t : Tg} (h : Calm ts) : Quiet (ts ++ [t]) := fun i x hi hx => by
  rw [List.length_append] at hi
  have hi : i + 1 < ts.length + 1 := hi
  rw [List.getElem?_append_left (by omega)] at hx
  exact h x (List.mem_of_getElem? hx)
theorem Calm.quiet0 {ts : List Tg} (h : Calm ts) : Quiet ts := fun i x _ hx => h x (List.mem_of_getElem? hx)
/-- one bring -/
theorem bring_one {F : Fst} {D : Dst} {w : Nat} (uo : UsedOk D) (sk : D.seek = true) (hr : 1 ≤ F.room) (hm : max F.room w ≤ 1000000000) (hp : F.cur + F.kw.length ≤ 4000) :
    ∃ bs ts, (∀ a ∈ bs, GT a) ∧ 1 ≤ bs.length ∧ bs.length ≤ 2 ∧ Calm ts ∧
      ((∃ k, bringP F D w = .fault k (asksS D bs) ∧ camesT D bs = ts ++ [.s sFault] ∧ (∀ n ∈ notesT D bs, NtIn (F.cur + F.kw.length) n) ∧ D.plan[(asksS D bs).ns.length - 1]? = some (-k)) ∨
       (bringP F D w = .came none (asksS D bs) ∧ camesT D bs = ts ++ [.s sStall] ∧ (∀ n ∈ notesT D bs, NtIn (F.cur + F.kw.length) n) ∧ (asksS D bs).ns.length ≤ D.plan.length) ∨
       (∃ xs n, bringP F D w = .came (some xs) (asksS D bs) ∧ camesT D bs = ts ++ [.l xs] ∧ (∀ n ∈ notesT D bs, NtIn (F.cur + F.kw.length + xs.length) n) ∧ xs = (D.cells.drop (F.cur + F.kw.length)).take n ∧ 1 ≤ n)) := by
  generalize hpp : F.cur + F.kw.length = p at hp
  have gg : GT (.go p) := .inl ⟨_, rfl, hp⟩
  have gt : GT (.take (max F.room w)) := .inr ⟨_, rfl, by omega, hm⟩
  by_cases hb : leadB D p = true
  · have hg : goB D p = true := by unfold leadB at hb; simp at hb; exact hb.1
    have hbad : badN D = true := by unfold leadB at hb; simp at hb; exact hb.2
    refine ⟨[.go p], [], fun a ha => by rw [List.mem_singleton.mp ha]; exact gg, Nat.le_refl _, by show 1 ≤ 2; decide, fun t h => (by cases h), .inl ⟨-numF D, ?_, ?_, ?_, ?_⟩⟩
    · unfold bringP; rw [hpp, if_pos hb]; congr 1; exact if_pos hg
    · show [cameT D (.go p)] = _
      unfold cameT; rw [if_pos hbad]; rfl
    · intro n hn
      rw [List.mem_singleton.mp hn]
      refine ⟨go_put, fun xs e => ?_⟩
      have e : cameT D (.go p) = .l xs := e
      unfold cameT at e; rw [if_pos hbad] at e; cases e
    · obtain ⟨k, ek, hk⟩ := badN_iff.mp hbad
      rw [numF_some ek, Int.neg_neg, asksS_ns, List.length_append]
      show D.plan[D.ns.length + 1 - 1]? = _
      rw [Nat.add_sub_cancel, ← uo.plan, ek]
  -- the lead comes through
  have hb' : leadB D p = false := Bool.eq_false_iff.mpr hb
  have hs := lead_spot sk hb'
  obtain ⟨l1, l2, l3, l4, _, _⟩ := leadD_facts D p
  obtain ⟨as, ga, la, eA, cA, nA, uA⟩ : ∃ as : List Ask, (∀ a ∈ as, GT a) ∧ as.length ≤ 1 ∧ leadD D p = asksS D as ∧ Calm (camesT D as) ∧ (∀ n ∈ notesT D as, NtIn p n) ∧ UsedOk (leadD D p) := by
    by_cases hg : goB D p = true
    · have hbad : badN D = false := by unfold leadB at hb'; rw [hg] at hb'; exact hb'
      refine ⟨[.go p], fun a ha => by rw [List.mem_singleton.mp ha]; exact gg, Nat.le_refl _, if_pos hg, fun t ht => ?_, fun n hn => ?_, by rw [show leadD D p = doneS D (.go p) from if_pos hg]; exact uo.done _⟩
      · rw [List.mem_singleton.mp (show t ∈ [cameT D (.go p)] from ht)]
        unfold cameT; rw [if_neg (by rw [hbad]; simp)]; rfl
      · rw [List.mem_singleton.mp hn]
        refine ⟨go_put, fun xs e => ?_⟩
        have e : cameT D (.go p) = .l xs := e
        unfold cameT at e; rw [if_neg (by rw [hbad]; simp)] at e; cases e
    · exact ⟨[], fun a ha => (by cases ha), Nat.zero_le _, if_neg hg, fun t h => (by cases h), fun n h => (by cases h), by rw [show leadD D p = D from if_neg hg]; exact uo⟩
  have gA : ∀ a ∈ as ++ [.take (max F.room w)], GT a := fun a ha => (List.mem_append.mp ha).elim (ga a) fun z => by rw [List.mem_singleton.mp z]; exact gt
  have eD : doneS (leadD D p) (.take (max F.room w)) = asksS D (as ++ [.take (max F.room w)]) := by rw [asksS_snoc, ← eA]
  have eC : camesT D (as ++ [.take (max F.room w)]) = camesT D as ++ [cameT (leadD D p) (.take (max F.room w))] := by rw [camesT_snoc, ← eA]
  have eN : notesT D (as ++ [.take (max F.room w)]) = notesT D as ++ [⟨Str.ofString "take", p, .i (max F.room w : Nat), cameT (leadD D p) (.take (max F.room w))⟩] := by
    rw [notesT_app, ← eA]
    show _ ++ [(⟨Str.ofString "take", (leadD D p).spot, .i (max F.room w : Nat), cameT (leadD D p) (.take (max F.room w))⟩ : Nt)] = _
    rw [hs]
  have eL : (asksS D (as ++ [.take (max F.room w)])).ns.length = (leadD D p).ns.length + 1 := by rw [← eD, (doneS_used _ _).2.2.2.2, List.length_append]; rfl
  have nA2 : ∀ (t : Tg) (e : Nat), p ≤ e → cameT (leadD D p) (.take (max F.room w)) = t → (∀ xs, t = .l xs → p + xs.length ≤ e) → ∀ n ∈ notesT D (as ++ [.take (max F.room w)]), NtIn e n := fun t e he et hx n hn => by
    rw [eN, et] at hn
    rcases List.mem_append.mp hn with z | z
    · exact (nA n z).mono he
    · rw [List.mem_singleton.mp z]; exact ⟨take_put, hx⟩
  refine ⟨as ++ [.take (max F.room w)], camesT D as, gA, by rw [List.length_append]; show 1 ≤ _ + 1; omega, by rw [List.length_append]; show _ + 1 ≤ 2; omega, cA, ?_⟩
  by_cases hbad : badN (leadD D p) = true
  · have et : cameT (leadD D p) (.take (max F.room w)) = .s sFault := if_pos hbad
    refine .inl ⟨-numF (leadD D p), ?_, ?_, nA2 _ p (Nat.le_refl _) et (fun xs e => by cases e), ?_⟩
    · unfold bringP; rw [hpp, if_neg hb, if_pos hbad, eD]
    · rw [eC, et]
    · obtain ⟨k, ek, hk⟩ := badN_iff.mp hbad
      rw [numF_some ek, Int.neg_neg, eL, Nat.add_sub_cancel, ← l2, ← uA.plan, ek]
  have eB : bringP F D w = .came (brC (leadD D p) (max F.room w)) (asksS D (as ++ [.take (max F.room w)])) := by unfold bringP; rw [hpp, if_neg hb, if_neg hbad, eD]
  by_cases h0 : mayF (leadD D p) (max F.room w : Nat) = 0
  · have et : cameT (leadD D p) (.take (max F.room w)) = .s sStall := by unfold cameT; rw [if_neg hbad]; exact if_pos h0
    refine .inr (.inl ⟨?_, by rw [eC, et], nA2 _ p (Nat.le_refl _) et (fun xs e => by cases e), ?_⟩)
    · rw [eB]; congr 1; exact if_pos h0
    · have hp1 : ∃ k, planN (leadD D p) = some k := by
        cases e : planN (leadD D p) with
        | some k => exact ⟨k, rfl⟩
        | none => unfold mayF at h0; rw [e] at h0; have h0 : ((max F.room w : Nat) : Int) = 0 := h0; omega
      obtain ⟨k, ek⟩ := hp1
      rw [uA.plan, l2] at ek
      have := (List.getElem?_eq_some_iff.mp ek).1
      rw [eL]; omega
  · have et : cameT (leadD D p) (.take (max F.room w)) = .l (takenF (leadD D p) (max F.room w : Nat)) := by unfold cameT; rw [if_neg hbad]; exact if_neg h0
    have ex : takenF (leadD D p) (max F.room w : Nat) = (D.cells.drop p).take (mayF (leadD D p) (max F.room w : Nat)).toNat := by unfold takenF; rw [l1, hs]
    refine .inr (.inr ⟨takenF (leadD D p) (max F.room w : Nat), (mayF (leadD D p) (max F.room w : Nat)).toNat, ?_, by rw [eC, et], nA2 _ _ (by omega) et (fun xs e => by cases e; exact Nat.le_refl _), ex, ?_⟩)
    · rw [eB]; congr 1; exact if_neg h0
    · have : ¬ mayF (leadD D p) (max F.room w : Nat) < 0 := fun z => by
        have hn : ¬ numF (leadD D p) < 0 := fun z => hbad (num_bad.mpr z)
        unfold mayF at z
        unfold numF at hn
        cases e : planN (leadD D p) with
        | none => rw [e] at z; have z : ((max F.room w : Nat) : Int) < 0 := z; omega
        | some k => rw [e] at z hn; have z : min ((max F.room w : Nat) : Int) k < 0 := z; have hn : ¬ k < 0 := hn; omega
      omega
/-- what a reading call leaves -/
structure Left (F : Fst) (D : Dst) (as : List Ask) (F' : Fst) : Prop where
  gt : ∀ a ∈ as, GT a
  kf : KnF F' D.cells
  kp : Kept F F'
  nt : ∀ n ∈ notesT D as, NtIn (F'.cur + F'.kw.length) n
  en : F.cur + F.kw.length ≤ F'.cur + F'.kw.length
  sn : F'.kw = [] ∨ F'.seen = D.cells.length
  la : as.length ≤ 2 * (4002 - (F.cur + F.kw.length))
/-- what it tells -/
inductive Out (due : List Int) (whole : Bool) (D : Dst) (as : List Ask) (c : Nat) (F' : Fst) : RR → Prop
  | told {xs} : Calm (camesT D as) → xs = due.take xs.length → (xs = [] → due = [] ∧ Tg.l [] ∈ camesT D as) → (whole = true → xs.length = due.length) → Out due whole D as c F' (.told xs)
  | some {xs ts} : camesT D as = ts ++ [.s sStall] → Calm ts → xs ≠ [] → xs = due.take xs.length → F'.cur + F'.kw.length ≤ c + xs.length → (asksS D as).ns.length ≤ D.plan.length → D.ns.length < (asksS D as).ns.length → Out due whole D as c F' (.told xs)
  | none {ts} : camesT D as = ts ++ [.s sStall] → Calm ts → F'.cur + F'.kw.length = c → (asksS D as).ns.length ≤ D.plan.length → D.ns.length < (asksS D as).ns.length → Out due whole D as c F' .non
  | fault {ts k} : camesT D as = ts ++ [.s sFault] → Calm ts → D.plan[(asksS D as).ns.length - 1]? = Option.some (-k) → D.ns.length < (asksS D as).ns.length → Out due whole D as c F' (.fault k)
theorem Out.pre {due : List Int} {whole : Bool} {D : Dst} {bs as : List Ask} {c : Nat} {F' : Fst} {r : RR} (h : Out due whole (asksS D bs) as c F' r) (cb : Calm (camesT D bs)) : Out due whole D (bs ++ as) c F' r := by
  have ep := (asksS_facts D bs).1
  have en : D.ns.length ≤ (asksS D bs).ns.length := by rw [asksS_ns, List.length_append]; omega
  cases h with
  | told a b e w => exact .told (by rw [camesT_app]; exact cb.app a) b (fun z => ⟨(e z).1, by rw [camesT_app]; exact List.mem_append_right _ (e z).2⟩) w
  | some a b x y e l m => exact .some (by rw [camesT_app, a, ← List.append_assoc]) (cb.app b) x y e (by rw [asksS_app]; rw [ep] at l; exact l) (by rw [asksS_app]; omega)
  | none a b e l m => exact .none (by rw [camesT_app, a, ← List.append_assoc]) (cb.app b) e (by rw [asksS_app]; rw [ep] at l; exact l) (by rw [asksS_app]; omega)
  | fault a b l m => exact .fault (by rw [camesT_app, a, ← List.append_assoc]) (cb.app b) (by rw [asksS_app]; rw [ep] at l; exact l) (by rw [asksS_app]; omega)
theorem Out.quiet {due : List Int} {whole : Bool} {D : Dst} {as : List Ask} {c : Nat} {F' : Fst} {r : RR} (h : Out due whole D as c F' r) : Quiet (camesT D as) := by
  cases h with
  | told a => exact a.quiet0
  | some a b => rw [a]; exact b.quiet
  | none a b => rw [a]; exact b.quiet
  | fault a b => rw [a]; exact b.quiet
def lenR : RR → Nat
  | .told xs => xs.length
  | _ => 0
theorem ns_lt {D : Dst} {bs : List Ask} (h : 1 ≤ bs.length) : D.ns.length < (asksS D bs).ns.length := by rw [(asksS_facts D bs).2.2.2.1]; omega
theorem calm1 {ts : List Tg} {xs : List Int} (h : Calm ts) : Calm (ts ++ [.l xs]) := h.app fun t z => by rw [List.mem_singleton.mp z]; rfl
/-- the row's end -/
theorem kn_end {F : Fst} {row xs : List Int} {n : Nat} (kf : KnF F row) (ex : ([] : List Int) = (row.drop (F.cur + F.kw.length)).take n) (hn : 1 ≤ n) : F.kw = row.drop F.cur := by
  have ed : row.drop (F.cur + F.kw.length) = [] := by
    cases hh : row.drop (F.cur + F.kw.length) with
    | nil => rfl
    | cons x ys =>
      rw [hh] at ex
      cases n with
      | zero => omega
      | succ k => cases ex
  have le : row.length ≤ F.cur + F.kw.length := List.drop_eq_nil_iff.mp ed
  have := kf
  unfold KnF at this
  rw [List.take_of_length_le (by rw [List.length_drop]; omega)] at this
  exact this
theorem lead_more {F : Fst} {D : Dst} {bs : List Ask} {xs : List Int} {n : Nat} (kf : KnF F D.cells) (ex : xs = (D.cells.drop (F.cur + F.kw.length)).take n) (ec : (asksS D bs).cells = D.cells) : KnF (brF F (asksS D bs) xs) D.cells := kf.bring ex
theorem kw_app (F : Fst) (D' : Dst) (xs : List Int) : (brF F D' xs).cur + (brF F D' xs).kw.length = F.cur + F.kw.length + xs.length := by
  show F.cur + (F.kw ++ xs).length = _
  rw [List.length_append]; omega
theorem br_seen (F : Fst) {D D' : Dst} (xs : List Int) (sk : D'.seek = true) (ec : D'.cells = D.cells) : (brF F D' xs).seen = D.cells.length := by
  show (if D'.seek = true then D'.cells.length else F.seen) = _
  rw [if_pos sk, ec]
/-- more was brought: the rest of the call -/
theorem Left.more {F F' : Fst} {D : Dst} {bs as : List Ask} {xs : List Int} (g : ∀ a ∈ bs, GT a) (lb : bs.length ≤ 2) (hx : xs ≠ []) (nt : ∀ n ∈ notesT D bs, NtIn (F.cur + F.kw.length + xs.length) n) (ec : (asksS D bs).cells = D.cells) (lx : F.cur + F.kw.length + xs.length ≤ 4000)
    (h : Left (brF F (asksS D bs) xs) (asksS D bs) as F') : Left F D (bs ++ as) F' := by
  have l1 : 1 ≤ xs.length := by cases hh : xs with
    | nil => exact absurd hh hx
    | cons x ys => show 1 ≤ ys.length + 1; omega
  have e1 := kw_app F (asksS D bs) xs
  have e2 := h.en
  have e3 := h.la
  refine ⟨fun a ha => (List.mem_append.mp ha).elim (g a) (h.gt a), by have := h.kf; rw [ec] at this; exact this, (Kept.br F _ xs).trans h.kp, fun n hn => ?_, by omega, by have := h.sn; rw [ec] at this; exact this, by rw [List.length_append]; omega⟩
  rw [notesT_app] at hn
  rcases List.mem_append.mp hn with z | z
  · exact (nt n z).mono (by omega)
  · exact h.nt n z
/-- nothing was brought: all that is known is handed out -/
theorem Left.stop {F : Fst} {D : Dst} {bs : List Ask} (g : ∀ a ∈ bs, GT a) (lb : bs.length ≤ 2) (nt : ∀ n ∈ notesT D bs, NtIn (F.cur + F.kw.length) n) (kf : KnF F D.cells) (lp : F.cur + F.kw.length ≤ 4000) :
    Left F D bs (outF (brF F (asksS D bs) []) (brF F (asksS D bs) []).kw.length) := by
  have eb : (brF F (asksS D bs) []).kw = F.kw := List.append_nil _
  have kb : KnF (brF F (asksS D bs) []) D.cells := kf.bring (n := 0) (by rw [List.take_zero])
  have ee : (outF (brF F (asksS D bs) []) (brF F (asksS D bs) []).kw.length).cur + (outF (brF F (asksS D bs) []) (brF F (asksS D bs) []).kw.length).kw.length = F.cur + F.kw.length := by
    show F.cur + (brF F (asksS D bs) []).kw.length + ((brF F (asksS D bs) []).kw.drop (brF F (asksS D bs) []).kw.length).length = _
    rw [List.length_drop, eb]; omega
  exact ⟨g, kb.out (Nat.le_refl _), (Kept.br F _ []).trans (.out _ _), fun n hn => by rw [ee]; exact nt n hn, by rw [ee]; exact Nat.le_refl _, .inl (by show List.drop _ _ = []; exact List.drop_of_length_le (Nat.le_refl _)), by omega⟩
theorem Left.keep {F : Fst} {D : Dst} {bs : List Ask} (g : ∀ a ∈ bs, GT a) (lb : bs.length ≤ 2) (nt : ∀ n ∈ notesT D bs, NtIn (F.cur + F.kw.length) n) (kf : KnF F D.cells) (sn : F.kw = [] ∨ F.seen = D.cells.length) (lp : F.cur + F.kw.length ≤ 4000) : Left F D bs F :=
  ⟨g, kf, .refl F, nt, Nat.le_refl _, sn, by omega⟩
/-- how the end of a call that stops comes out -/
theorem stop_out {F : Fst} {D : Dst} {bs : List Ask} {ts : List Tg} {due : List Int} {o : Option (List Int)} (ct : Calm ts) (lb : 1 ≤ bs.length) (hd : F.kw = due.take F.kw.length)
    (ho : (o = none ∧ camesT D bs = ts ++ [.s sStall] ∧ (asksS D bs).ns.length ≤ D.plan.length) ∨ (o = some [] ∧ camesT D bs = ts ++ [.l []] ∧ F.kw = due)) :
    Out due true D bs F.cur (outF (brF F (asksS D bs) []) (brF F (asksS D bs) []).kw.length) (stopR (brF F (asksS D bs) []) o) ∧ F.cur + (brF F (asksS D bs) []).kw.length = F.cur + lenR (stopR (brF F (asksS D bs) []) o) := by
  have eb : (brF F (asksS D bs) []).kw = F.kw := List.append_nil _
  have ee : (outF (brF F (asksS D bs) []) (brF F (asksS D bs) []).kw.length).cur + (outF (brF F (asksS D bs) []) (brF F (asksS D bs) []).kw.length).kw.length = F.cur + F.kw.length := by
    show F.cur + (brF F (asksS D bs) []).kw.length + ((brF F (asksS D bs) []).kw.drop (brF F (asksS D bs) []).kw.length).length = _
    rw [List.length_drop, eb]; omega
  unfold stopR
  rw [eb]
  by_cases hk : F.kw = []
  · rw [if_pos hk]
    rcases ho with ⟨rfl, hc, hl⟩ | ⟨rfl, hc, hl⟩
    · rw [if_pos rfl]
      exact ⟨.none hc ct (by rw [eb] at ee; rw [ee, hk]; rfl) hl (ns_lt lb), by rw [hk]; rfl⟩
    · rw [if_neg (by simp)]
      refine ⟨.told (by rw [hc]; exact calm1 ct) (by rfl) (fun _ => ⟨by rw [← hl]; exact hk, by rw [hc]; simp⟩) (fun _ => by rw [← hl, hk]), by rw [hk]; rfl⟩
  · rw [if_neg hk]
    rcases ho with ⟨rfl, hc, hl⟩ | ⟨rfl, hc, hl⟩
    · exact ⟨.some hc ct hk hd (by rw [eb] at ee; rw [ee]; exact Nat.le_refl _) hl (ns_lt lb), rfl⟩
    · exact ⟨.told (by rw [hc]; exact calm1 ct) hd (fun z => absurd z hk) (fun _ => by rw [hl]), rfl⟩
/-- a reading -/
theorem RdL.out {many : Option Nat} {F F' : Fst} {D D' : Dst} {r : RR} (h : RdL many F D F' D' r) (hm : ∀ n, many = some n → n ≤ 1000000000) (h0 : many ≠ some 0) : ∀ (uo : UsedOk D) (sk : D.seek = true) (lc : D.cells.length ≤ 4000) (kf : KnF F D.cells) (hr : 1 ≤ F.room) (hr2 : F.room ≤ 64) (hc : F.cur ≤ 4000) (sn : F.kw = [] ∨ F.seen = D.cells.length),
    ∃ as, D' = asksS D as ∧ Left F D as F' ∧ Out (takeO many (D.cells.drop F.cur)) true D as F.cur F' r ∧ F'.cur = F.cur + lenR r ∧ (∀ n, many = some n → n ≤ F.kw.length → as = []) := by
  induction h with
  | @done F D n e hn =>
    intro uo sk lc kf hr hr2 hc sn
    subst e
    have et := kf.take hn
    have el : (F.kw.take n).length = n := by rw [List.length_take]; omega
    have n0 : 1 ≤ n := by cases n with
      | zero => exact absurd rfl h0
      | succ k => omega
    have kl := kf.len
    refine ⟨[], rfl, ⟨fun a ha => (by cases ha), kf.out hn, .out F n, fun n hn => (by cases hn), ?_, ?_, Nat.zero_le _⟩, .told (fun t h => by cases h) ?_ (fun z => ?_) (fun _ => ?_), ?_, fun _ _ _ => rfl⟩
    · show _ ≤ F.cur + n + (F.kw.drop n).length
      rw [List.length_drop]; omega
    · rcases sn with z | z
      · exact .inl (by show F.kw.drop n = []; rw [z]; exact List.drop_nil)
      · exact .inr z
    · rw [el, et]
      show _ = ((D.cells.drop F.cur).take n).take n
      rw [List.take_take, Nat.min_self]
    · rw [z] at el; have : (0 : Nat) = n := el; omega
    · rw [et]; rfl
    · show F.cur + n = F.cur + (F.kw.take n).length
      rw [el]
  | @more F D xs D1 F2 D2 r hne e hx _ ih =>
    intro uo sk lc kf hr hr2 hc sn
    have kl := kf.len
    obtain ⟨bs, ts, g, l1, l2, ct, z | z | ⟨ys, n, z, zc, zn, ex, hn⟩⟩ := bring_one (w := wantN F many) uo sk hr (want_le hm hr2) (show F.cur + F.kw.length ≤ 4000 by omega)
    · obtain ⟨k, z, _⟩ := z; rw [z] at e; cases e
    · rw [z.1] at e; cases e
    rw [z] at e
    injection e with e1 e2
    have e1 : ys = xs := Option.some.inj e1
    subst e1 e2
    obtain ⟨f1, f2, f3, f4, f5⟩ := asksS_facts D bs
    have ec : (asksS D bs).cells = D.cells := (bring_facts z).1
    have lx2 : ys.length ≤ D.cells.length - (F.cur + F.kw.length) := by rw [ex, List.length_take, List.length_drop]; omega
    have y1 : 1 ≤ ys.length := by cases hh : ys with
      | nil => exact absurd hh hx
      | cons x ys => show 1 ≤ ys.length + 1; omega
    obtain ⟨as, i1, i2, i3, i4, _⟩ := ih (f5 uo) (by rw [f2]; exact sk) (by rw [ec]; exact lc) (by rw [ec]; exact kf.bring ex) hr hr2 hc (.inr (by rw [ec]; exact br_seen F ys (by rw [f2]; exact sk) ec))
    rw [ec] at i3
    refine ⟨bs ++ as, by rw [i1, asksS_app], i2.more g l2 hx zn ec (by omega), i3.pre (by rw [zc]; exact calm1 ct), i4, fun n e he => ?_⟩
    subst e
    exact absurd he hne
  | @stop F D o D1 hne e ho =>
    intro uo sk lc kf hr hr2 hc sn
    have kl := kf.len
    have ne : ∀ n, many = some n → ¬ n ≤ F.kw.length := fun n e z => by subst e; exact hne z
    have hd : F.kw = (takeO many (D.cells.drop F.cur)).take F.kw.length := by
      cases many with
      | none => exact kf
      | some n =>
        have := ne n rfl
        show _ = ((D.cells.drop F.cur).take n).take F.kw.length
        rw [List.take_take, Nat.min_eq_left (by omega)]; exact kf
    obtain ⟨bs, ts, g, l1, l2, ct, z | ⟨z, zc, zn, zl⟩ | ⟨ys, n, z, zc, zn, ex, hn⟩⟩ := bring_one (w := wantN F many) uo sk hr (want_le hm hr2) (show F.cur + F.kw.length ≤ 4000 by omega)
    · obtain ⟨k, z, _⟩ := z; rw [z] at e; cases e
    · rw [z] at e
      injection e with e1 e2
      subst e1 e2
      obtain ⟨o1, o2⟩ := stop_out (D := D) ct l1 hd (.inl ⟨rfl, zc, zl⟩)
      exact ⟨bs, rfl, .stop g l2 zn kf (by omega), o1, o2, fun n e he => absurd he (ne n e)⟩
    · rw [z] at e
      injection e with e1 e2
      subst e1 e2
      rcases ho with ho | ho
      · cases ho
      have ho : ys = [] := Option.some.inj ho
      subst ho
      have ek := kn_end (xs := []) kf ex hn
      have et : takeO many (D.cells.drop F.cur) = D.cells.drop F.cur := by
        cases many with
        | none => rfl
        | some n => show (D.cells.drop F.cur).take n = _; rw [← ek]; have := ne n rfl; exact List.take_of_length_le (by omega)
      obtain ⟨o1, o2⟩ := stop_out (D := D) ct l1 hd (.inr ⟨rfl, zc, by rw [et]; exact ek⟩)
      exact ⟨bs, rfl, .stop g l2 zn kf (by omega), o1, o2, fun n e he => absurd he (ne n e)⟩
  | @fault F D k D1 hne e =>
    intro uo sk lc kf hr hr2 hc sn
    have kl := kf.len
    have ne : ∀ n, many = some n → ¬ n ≤ F.kw.length := fun n e z => by subst e; exact hne z
    obtain ⟨bs, ts, g, l1, l2, ct, ⟨j, z, zc, zn, zp⟩ | z | ⟨ys, n, z, _⟩⟩ := bring_one (w := wantN F many) uo sk hr (want_le hm hr2) (show F.cur + F.kw.length ≤ 4000 by omega)
    · rw [z] at e
      injection e with e1 e2
      subst e1 e2
      exact ⟨bs, rfl, .keep g l2 zn kf sn (by omega), .fault zc ct zp (ns_lt l1), rfl, fun n e he => absurd he (ne n e)⟩
    · rw [z.1] at e; cases e
    · rw [z] at e; cases e
/-- a reading of a line -/
theorem RlL.out {many : Option Nat} {F F' : Fst} {D D' : Dst} {r : RR} (h : RlL many F D F' D' r) (h0 : many ≠ some 0) : ∀ (uo : UsedOk D) (sk : D.seek = true) (lc : D.cells.length ≤ 4000) (kf : KnF F D.cells) (hr : 1 ≤ F.room) (hr2 : F.room ≤ 64) (hc : F.cur ≤ 4000) (sn : F.kw = [] ∨ F.seen = D.cells.length),
    ∃ as, D' = asksS D as ∧ Left F D as F' ∧ Out (takeO many (lineF (D.cells.drop F.cur))) true D as F.cur F' r ∧ F'.cur = F.cur + lenR r ∧ (enoughB F many = true → as = []) := by
  induction h with
  | @done F D e =>
    intro uo sk lc kf hr hr2 hc sn
    have el := lineK_due kf e
    have ll := lineK_le F many
    have ne : lineK F many ≠ [] := fun z => by
      unfold enoughB at e
      rw [z] at e
      rcases Bool.or_eq_true_iff.mp e with e | e
      · have e1 := of_decide_eq_true e
        cases many with
        | none => cases e1
        | some n =>
          have : ((0 : Nat) : Int) = (n : Int) := V.int.inj e1
          exact h0 (by rw [show n = 0 by omega])
      · exact absurd (of_decide_eq_true e) (by simp)
    refine ⟨[], rfl, ⟨fun a ha => (by cases ha), kf.out ll, .out F _, fun n hn => (by cases hn), ?_, ?_, Nat.zero_le _⟩, .told (fun t h => by cases h) ?_ (fun z => absurd z ne) (fun _ => by rw [el]), rfl, fun _ => rfl⟩
    · show _ ≤ F.cur + _ + (F.kw.drop (lineK F many).length).length
      rw [List.length_drop]; omega
    · rcases sn with z | z
      · exact .inl (by show F.kw.drop _ = []; rw [z]; exact List.drop_nil)
      · exact .inr z
    · rw [← el, List.take_of_length_le (Nat.le_refl _)]
  | @more F D xs D1 F2 D2 r hne e hx _ ih =>
    intro uo sk lc kf hr hr2 hc sn
    have kl := kf.len
    obtain ⟨bs, ts, g, l1, l2, ct, z | z | ⟨ys, n, z, zc, zn, ex, hn⟩⟩ := bring_one (w := F.room) uo sk hr (by omega) (show F.cur + F.kw.length ≤ 4000 by omega)
    · obtain ⟨k, z, _⟩ := z; rw [z] at e; cases e
    · rw [z.1] at e; cases e
    rw [z] at e
    injection e with e1 e2
    have e1 : ys = xs := Option.some.inj e1
    subst e1 e2
    obtain ⟨f1, f2, f3, f4, f5⟩ := asksS_facts D bs
    have ec : (asksS D bs).cells = D.cells := (bring_facts z).1
    have lx2 : ys.length ≤ D.cells.length - (F.cur + F.kw.length) := by rw [ex, List.length_take, List.length_drop]; omega
    have y1 : 1 ≤ ys.length := by cases hh : ys with
      | nil => exact absurd hh hx
      | cons x ys => show 1 ≤ ys.length + 1; omega
    obtain ⟨as, i1, i2, i3, i4, _⟩ := ih (f5 uo) (by rw [f2]; exact sk) (by rw [ec]; exact lc) (by rw [ec]; exact kf.bring ex) hr hr2 hc (.inr (by rw [ec]; exact br_seen F ys (by rw [f2]; exact sk) ec))
    rw [ec] at i3
    exact ⟨bs ++ as, by rw [i1, asksS_app], i2.more g l2 hx zn ec (by omega), i3.pre (by rw [zc]; exact calm1 ct), i4, fun e => by rw [hne] at e; cases e⟩
  | @stop F D o D1 hne e ho =>
    intro uo sk lc kf hr hr2 hc sn
    have kl := kf.len
    have le := line_end hne
    have hd : F.kw = (takeO many (lineF (D.cells.drop F.cur))).take F.kw.length := by
      have e1 : lineF F.kw = (lineF (D.cells.drop F.cur)).take F.kw.length := by
        conv => lhs; rw [kf]
        exact lineTk _ _
      conv => lhs; rw [← le, e1]
      cases many with
      | none => rfl
      | some n => show ((lineF _).take _).take n = ((lineF _).take n).take _; rw [List.take_take, List.take_take, Nat.min_comm]
    obtain ⟨bs, ts, g, l1, l2, ct, z | ⟨z, zc, zn, zl⟩ | ⟨ys, n, z, zc, zn, ex, hn⟩⟩ := bring_one (w := F.room) uo sk hr (by omega) (show F.cur + F.kw.length ≤ 4000 by omega)
    · obtain ⟨k, z, _⟩ := z; rw [z] at e; cases e
    · rw [z] at e
      injection e with e1 e2
      subst e1 e2
      obtain ⟨o1, o2⟩ := stop_out (D := D) ct l1 hd (.inl ⟨rfl, zc, zl⟩)
      exact ⟨bs, rfl, .stop g l2 zn kf (by omega), o1, o2, fun e => by rw [hne] at e; cases e⟩
    · rw [z] at e
      injection e with e1 e2
      subst e1 e2
      rcases ho with ho | ho
      · cases ho
      have ho : ys = [] := Option.some.inj ho
      subst ho
      have ek := kn_end (xs := []) kf ex hn
      obtain ⟨o1, o2⟩ := stop_out (D := D) ct l1 hd (.inr ⟨rfl, zc, by rw [← ek]; exact le.symm⟩)
      exact ⟨bs, rfl, .stop g l2 zn kf (by omega), o1, o2, fun e => by rw [hne] at e; cases e⟩
  | @fault F D j D1 hne e =>
    intro uo sk lc kf hr hr2 hc sn
    have kl := kf.len
    obtain ⟨bs, ts, g, l1, l2, ct, ⟨j, z, zc, zn, zp⟩ | z | ⟨ys, n, z, _⟩⟩ := bring_one (w := F.room) uo sk hr (by omega) (show F.cur + F.kw.length ≤ 4000 by omega)
    · rw [z] at e
      injection e with e1 e2
      subst e1 e2
      exact ⟨bs, rfl, .keep g l2 zn kf sn (by omega), .fault zc ct zp (ns_lt l1), rfl, fun e => by rw [hne] at e; cases e⟩
    · rw [z.1] at e; cases e
    · rw [z] at e; cases e
/-- peek -/
theorem PkL.out {k : Option Nat} {F F' : Fst} {D D' : Dst} {r : RR} (h : PkL k F D F' D' r) (hm : ∀ n, k = some n → n ≤ 1000000000) (h0 : k ≠ some 0) (uo : UsedOk D) (sk : D.seek = true) (lc : D.cells.length ≤ 4000) (kf : KnF F D.cells) (hr : 1 ≤ F.room) (hr2 : F.room ≤ 64) (hc : F.cur ≤ 4000) (sn : F.kw = [] ∨ F.seen = D.cells.length) :
    ∃ as, D' = asksS D as ∧ Left F D as F' ∧ Out (takeO k (D.cells.drop F.cur)) false D as F.cur F' r ∧ F'.cur = F.cur ∧ lenR r ≤ F'.kw.length ∧ (∀ xs, r = .told xs → xs = F'.kw.take xs.length) := by
  have kl := kf.len
  have wl : max F.room (wantP k) ≤ 1000000000 := by
    cases k with
    | none => show max F.room 4000 ≤ _; omega
    | some n => have := hm n rfl; show max F.room n ≤ _; omega
  have tk : ∀ ys : List Int, takeO k ys = ys.take (takeO k ys).length := fun ys => by
    cases k with
    | none => exact (List.take_of_length_le (Nat.le_refl _)).symm
    | some n => show ys.take n = ys.take (ys.take n).length; rw [List.length_take]; exact take_min _ _
  have tn : ∀ ys : List Int, ys ≠ [] → takeO k ys ≠ [] := fun ys hy z => by
    cases k with
    | none => exact hy z
    | some n =>
      cases ys with
      | nil => exact hy rfl
      | cons y ys =>
        cases n with
        | zero => exact h0 rfl
        | succ n => cases z
  have dueP : ∀ ys : List Int, ys = (D.cells.drop F.cur).take ys.length → takeO k ys = (takeO k (D.cells.drop F.cur)).take (takeO k ys).length := fun ys hy => by
    cases k with
    | none => exact hy
    | some n =>
      show ys.take n = ((D.cells.drop F.cur).take n).take (ys.take n).length
      conv => lhs; rw [hy]
      rw [List.take_take, List.take_take, List.length_take]
      by_cases hn : n ≤ ys.length
      · rw [Nat.min_eq_left hn, Nat.min_self]
      · rw [Nat.min_eq_right (by omega), Nat.min_eq_left (by omega)]
  cases h with
  | known hk =>
    refine ⟨[], rfl, .keep (fun a ha => by cases ha) (Nat.zero_le _) (fun n hn => by cases hn) kf sn (by omega), .told (fun t h => by cases h) (dueP _ kf) (fun z => absurd z (tn _ hk)) (fun z => by cases z), rfl, takeO_len k _, fun xs e => by cases e; exact tk _⟩
  | @more xs _ hk e hx =>
    obtain ⟨bs, ts, g, l1, l2, ct, z | z | ⟨ys, n, z, zc, zn, ex, hn⟩⟩ := bring_one (w := wantP k) uo sk hr wl (show F.cur + F.kw.length ≤ 4000 by omega)
    · obtain ⟨k, z, _⟩ := z; rw [z] at e; cases e
    · rw [z.1] at e; cases e
    rw [z] at e
    injection e with e1 e2
    have e1 : ys = xs := Option.some.inj e1
    subst e1 e2
    have ec : (asksS D bs).cells = D.cells := (bring_facts z).1
    have ek : (brF F (asksS D bs) ys).kw = ys := by show F.kw ++ ys = ys; rw [hk]; rfl
    have kb : KnF (brF F (asksS D bs) ys) D.cells := kf.bring ex
    have kb2 := kb
    unfold KnF at kb2
    rw [ek] at kb2
    have ee := kw_app F (asksS D bs) ys
    have sk2 : (asksS D bs).seek = true := by rw [(asksS_facts D bs).2.1]; exact sk
    refine ⟨bs, rfl, ⟨g, kb, .br F _ ys, fun n hn => by rw [ee]; exact zn n hn, by rw [ee]; omega, .inr (br_seen F ys sk2 ec), by omega⟩, .told (by rw [zc]; exact calm1 ct) (dueP _ kb2) (fun z => absurd z (tn _ hx)) (fun z => by cases z), rfl, ?_, fun xs e => ?_⟩
    · rw [ek]; exact takeO_len k _
    · cases e; rw [ek]; exact tk _
  | @stall _ hk e =>
    obtain ⟨bs, ts, g, l1, l2, ct, z | ⟨z, zc, zn, zl⟩ | ⟨ys, n, z, zc, zn, ex, hn⟩⟩ := bring_one (w := wantP k) uo sk hr wl (show F.cur + F.kw.length ≤ 4000 by omega)
    · obtain ⟨k, z, _⟩ := z; rw [z] at e; cases e
    · rw [z] at e
      injection e with e1 e2
      subst e2
      have ee := kw_app F (asksS D bs) []
      have ec : (asksS D bs).cells = D.cells := (bring_facts z).1
      have sk2 : (asksS D bs).seek = true := by rw [(asksS_facts D bs).2.1]; exact sk
      have ek : (brF F (asksS D bs) []).kw = [] := by show F.kw ++ [] = []; rw [hk]; rfl
      have ee : (brF F (asksS D bs) []).cur + (brF F (asksS D bs) []).kw.length = F.cur + F.kw.length := ee
      refine ⟨bs, rfl, ⟨g, kf.bring (n := 0) (by rw [List.take_zero]), .br F _ [], fun n hn => by rw [ee]; exact zn n hn, by rw [ee]; omega, .inl ek, by omega⟩, .none zc ct (by rw [ee, hk]; rfl) zl (ns_lt l1), rfl, Nat.zero_le _, fun xs e => by cases e⟩
    · rw [z] at e; cases e
  | @fin _ hk e =>
    obtain ⟨bs, ts, g, l1, l2, ct, z | z | ⟨ys, n, z, zc, zn, ex, hn⟩⟩ := bring_one (w := wantP k) uo sk hr wl (show F.cur + F.kw.length ≤ 4000 by omega)
    · obtain ⟨k, z, _⟩ := z; rw [z] at e; cases e
    · rw [z.1] at e; cases e
    · rw [z] at e
      injection e with e1 e2
      have e1 : ys = [] := Option.some.inj e1
      subst e1 e2
      have ek := kn_end (xs := []) kf ex hn
      have ee := kw_app F (asksS D bs) []
      have e0 : (brF F (asksS D bs) []).kw = [] := by show F.kw ++ [] = []; rw [hk]; rfl
      have ee : (brF F (asksS D bs) []).cur + (brF F (asksS D bs) []).kw.length = F.cur + F.kw.length := ee
      have dn : takeO k (D.cells.drop F.cur) = [] := by
        rw [← ek, hk]
        cases k with
        | none => rfl
        | some n => exact List.take_nil
      refine ⟨bs, rfl, ⟨g, kf.bring (n := 0) (by rw [List.take_zero]), .br F _ [], fun n hn => by rw [ee]; exact zn n hn, by rw [ee]; omega, .inl e0, by omega⟩, .told (by rw [zc]; exact calm1 ct) (by rfl) (fun _ => ⟨dn, by rw [zc]; simp⟩) (fun z => by cases z), rfl, Nat.zero_le _, fun xs e => by cases e; rfl⟩
  | @fault j _ hk e =>
    obtain ⟨bs, ts, g, l1, l2, ct, ⟨j, z, zc, zn, zp⟩ | z | ⟨ys, n, z, _⟩⟩ := bring_one (w := wantP k) uo sk hr wl (show F.cur + F.kw.length ≤ 4000 by omega)
    · rw [z] at e
      injection e with e1 e2
      subst e1 e2
      exact ⟨bs, rfl, .keep g l2 zn kf sn (by omega), .fault zc ct zp (ns_lt l1), rfl, Nat.zero_le _, fun xs e => by cases e⟩
    · rw [z.1] at e; cases e
    · rw [z] at e; cases e
end Sip
/-! the reading calls by their words; what stands between them -/
namespace Sip
open PySem PySem.Spec PyProof.Rows L2 TL
inductive Wd | rd | ln | so | pk
def Wd.s : Wd → Str
  | .rd => Str.ofString "read" | .ln => Str.ofString "readline" | .so => Str.ofString "read_some" | .pk => Str.ofString "peek"
def Wd.whole : Wd → Bool
  | .rd => true | .ln => true | _ => false
def Wd.mv : Wd → RR → Nat
  | .pk, _ => 0
  | _, r => lenR r
def someF (F : Fst) : RR → Fst
  | .told xs => outF F xs.length
  | _ => F
def CallL (wd : Wd) (k : Option Nat) (F : Fst) (D : Dst) (F' : Fst) (D' : Dst) (r : RR) : Prop := match wd with
  | .rd => RdL k F D F' D' r
  | .ln => RlL k F D F' D' r
  | .pk => PkL k F D F' D' r
  | .so => ∃ F1, PkL k F D F1 D' r ∧ F' = someF F1 r
theorem isLine_rd : isLine (Str.ofString "read") = false := by unfold isLine; decide +kernel
theorem isLine_ln : isLine (Str.ofString "readline") = true := by unfold isLine; decide +kernel
theorem isLine_so : isLine (Str.ofString "read_some") = false := by unfold isLine; decide +kernel
theorem isLine_pk : isLine (Str.ofString "peek") = false := by unfold isLine; decide +kernel
theorem Out.fin {due : List Int} {whole : Bool} {D : Dst} {as : List Ask} {c : Nat} {F' F2 : Fst} {r : RR} (h : Out due whole D as c F' r) (e : F2.cur + F2.kw.length = F'.cur + F'.kw.length) : Out due whole D as c F2 r := by
  cases h with
  | told a b e w => exact .told a b e w
  | some a b x y z l m => exact .some a b x y (by rw [e]; exact z) l m
  | none a b z l m => exact .none a b (by rw [e]; exact z) l m
  | fault a b l m => exact .fault a b l m
theorem CallL.out {wd : Wd} {k : Option Nat} {F F' : Fst} {D D' : Dst} {r : RR} (h : CallL wd k F D F' D' r) (hm : ∀ n, k = some n → n ≤ 1000000000) (h0 : k ≠ some 0) (uo : UsedOk D) (sk : D.seek = true) (lc : D.cells.length ≤ 4000) (kf : KnF F D.cells) (hr : 1 ≤ F.room) (hr2 : F.room ≤ 64) (hc : F.cur ≤ 4000) (sn : F.kw = [] ∨ F.seen = D.cells.length) :
    ∃ as, D' = asksS D as ∧ Left F D as F' ∧ Out (dueF D.cells F.cur (isLine wd.s) k) wd.whole D as F.cur F' r ∧ F'.cur = F.cur + wd.mv r ∧ (wd.whole = true → ∀ n, k = some n → n = (dueF D.cells F.cur (isLine wd.s) k).length → n ≤ F.kw.length → as = []) := by
  cases wd with
  | rd =>
    obtain ⟨as, a, b, c, d, e⟩ := RdL.out h hm h0 uo sk lc kf hr hr2 hc sn
    refine ⟨as, a, b, ?_, d, fun _ n en _ le => e n en le⟩
    rw [show isLine (Wd.rd.s) = false from isLine_rd]; exact c
  | ln =>
    obtain ⟨as, a, b, c, d, e⟩ := RlL.out h h0 uo sk lc kf hr hr2 hc sn
    refine ⟨as, a, b, ?_, d, fun _ n en el le => e ?_⟩
    · rw [show isLine (Wd.ln.s) = true from isLine_ln]; exact c
    · rw [show isLine (Wd.ln.s) = true from isLine_ln] at el
      subst en
      have el : n = ((lineF (D.cells.drop F.cur)).take n).length := el
      rw [List.length_take] at el
      have e1 : lineF F.kw = (lineF (D.cells.drop F.cur)).take F.kw.length := by
        conv => lhs; rw [kf]
        exact lineTk _ _
      have e2 : (lineK F (some n)).length = n := by
        show ((lineF F.kw).take n).length = n
        rw [e1, List.length_take, List.length_take]; omega
      unfold enoughB
      rw [e2]
      exact Bool.or_eq_true_iff.mpr (.inl (decide_eq_true rfl))
  | pk =>
    obtain ⟨as, a, b, c, d, _⟩ := PkL.out h hm h0 uo sk lc kf hr hr2 hc sn
    refine ⟨as, a, b, ?_, d, fun z => by cases z⟩
    rw [show isLine (Wd.pk.s) = false from isLine_pk]; exact c
  | so =>
    obtain ⟨F1, h, rfl⟩ := h
    obtain ⟨as, a, b, c, d, e, _⟩ := PkL.out h hm h0 uo sk lc kf hr hr2 hc sn
    have ee : (someF F1 r).cur + (someF F1 r).kw.length = F1.cur + F1.kw.length := by
      cases r with
      | told xs =>
        have e : xs.length ≤ F1.kw.length := e
        show F1.cur + xs.length + (F1.kw.drop xs.length).length = _
        rw [List.length_drop]; omega
      | non => rfl
      | fault j => rfl
    refine ⟨as, a, ?_, ?_, ?_, fun z => by cases z⟩
    · refine ⟨b.gt, ?_, ?_, fun n hn => by rw [ee]; exact b.nt n hn, by rw [ee]; exact b.en, ?_, b.la⟩
      · cases r with
        | told xs => exact b.kf.out e
        | non => exact b.kf
        | fault j => exact b.kf
      · cases r with
        | told xs => exact b.kp.trans (.out _ _)
        | non => exact b.kp
        | fault j => exact b.kp
      · cases r with
        | told xs => exact b.sn.imp (fun z => by show F1.kw.drop _ = []; rw [z]; exact List.drop_nil) id
        | non => exact b.sn
        | fault j => exact b.sn
    · rw [show isLine (Wd.so.s) = false from isLine_so]; exact c.fin ee
    · cases r with
      | told xs => show F1.cur + xs.length = F.cur + xs.length; rw [d]
      | non => exact d
      | fault j => exact d
theorem begF_id {F : Fst} {D : Dst} (sn : F.kw = [] ∨ F.seen = D.cells.length) : begF F D = F := by
  unfold begF
  split
  · rename_i h
    rcases sn with z | z
    · obtain ⟨a1, a2, a3, a4, a5, a6, a7, a8, a9, a10⟩ := F
      have z : a6 = [] := z
      subst z; rfl
    · exact absurd z.symm h.2
  · rfl
/-- what stands between the calls: c the cursor, u up to where the bytes are known -/
structure RdI (i : Nat) (row : List Int) (c u : Nat) (F : Fst) (D : Dst) : Prop where
  cl : D.cells = row
  lr : row.length ≤ 400
  uo : UsedOk D
  pl : D.plan.length ≤ 400
  sk : D.seek = true
  br : D.bar = false
  ns : D.ns.length ≤ 10000 * i
  sp : D.spot ≤ 4000
  cu : F.cur = c
  lc : c ≤ 500
  wt : F.wt = []
  fin : F.fin = false
  rd : F.rd = true
  r1 : 1 ≤ F.room
  r2 : F.room ≤ 64
  kf : KnF F row
  sn : F.kw = [] ∨ F.seen = D.cells.length
  cu2 : c ≤ u
  un : u ≤ F.cur + F.kw.length
theorem RdI.ok {i : Nat} {row : List Int} {c u : Nat} {F : Fst} {D : Dst} (h : RdI i row c u F D) (li : i ≤ 600) : RdOk F D := by
  have k := h.kf.len
  have := h.ns
  have := h.lr
  have := h.lc
  have := h.cu
  have := h.pl
  exact ⟨h.fin, h.rd, h.wt, h.r1, ⟨⟨by rw [h.uo]; omega, by omega, by omega⟩, h.br⟩, h.sk, by omega, by rw [h.cl]; omega, by omega⟩
theorem RdI.up {i j : Nat} {row : List Int} {c u : Nat} {F : Fst} {D : Dst} (h : RdI i row c u F D) (le : i ≤ j) : RdI j row c u F D := { h with ns := by have := h.ns; omega }
theorem dueF_len (r : List Int) (c : Nat) (isl : Bool) (k : Option Nat) : (dueF r c isl k).length ≤ r.length - c := by
  unfold dueF
  have h1 := takeO_len k (lineO isl (r.drop c))
  have h2 : (lineO isl (r.drop c)).length ≤ (r.drop c).length := by
    cases isl with
    | true => show (lineF (r.drop c)).length ≤ _; rw [lineF_len]; omega
    | false => exact Nat.le_refl _
  rw [List.length_drop] at h2
  omega
theorem Out.len {due : List Int} {whole : Bool} {D : Dst} {as : List Ask} {c : Nat} {F' : Fst} {r : RR} (h : Out due whole D as c F' r) : lenR r ≤ due.length := by
  have f : ∀ xs : List Int, xs = due.take xs.length → xs.length ≤ due.length := fun xs e => by
    have := congrArg List.length e
    rw [List.length_take] at this
    omega
  cases h with
  | told a b => exact f _ b
  | some a b x y => exact f _ y
  | none => exact Nat.zero_le _
  | fault => exact Nat.zero_le _
theorem Wd.mv_le (wd : Wd) (r : RR) : wd.mv r ≤ lenR r := by cases wd <;> first | exact Nat.le_refl _ | exact Nat.zero_le _
theorem RdI.call {i : Nat} {row : List Int} {c u : Nat} {F F' : Fst} {D D' : Dst} {wd : Wd} {k : Option Nat} {r : RR} (h : RdI i row c u F D) (hm : ∀ n, k = some n → n ≤ 1000000000) (h0 : k ≠ some 0) (cl : CallL wd k (begF F D) D F' D' r) :
    ∃ as, D' = asksS D as ∧ (∀ a ∈ as, GT a) ∧ Out (dueF row c (isLine wd.s) k) wd.whole D as c F' r ∧ (∀ n ∈ notesT D as, NtIn (F'.cur + F'.kw.length) n) ∧ u ≤ F'.cur + F'.kw.length ∧ F'.cur = c + wd.mv r ∧ (wd.whole = true → ∀ n, k = some n → n = (dueF row c (isLine wd.s) k).length → n ≤ u - c → as = []) ∧
      ∀ u', u ≤ u' → u' ≤ F'.cur + F'.kw.length → RdI (i + 1) row (c + wd.mv r) (max u' (c + wd.mv r)) F' (asksS D as) := by
  rw [begF_id h.sn] at cl
  have lr := h.lr
  have lc := h.lc
  have ec := h.cu
  obtain ⟨as, a1, a2, a3, a4, a5⟩ := cl.out hm h0 h.uo h.sk (by rw [h.cl]; omega) (by rw [h.cl]; exact h.kf) h.r1 h.r2 (by omega) h.sn
  rw [h.cl, ec] at a3 a5
  rw [ec] at a4
  have hl := a3.len
  have hd := dueF_len row c (isLine wd.s) k
  have hmv := wd.mv_le r
  obtain ⟨f1, f2, f3, f4, f5⟩ := asksS_facts D as
  obtain ⟨g1, g2⟩ := gt_facts (D := D) a2.gt (by rw [h.cl]; omega) h.sp
  have kk := a2.kp
  have hns := h.ns
  have hla := a2.la
  have hun := h.un
  have hen := a2.en
  have kf' := a2.kf
  rw [h.cl] at kf'
  have sn' := a2.sn
  refine ⟨as, a1, a2.gt, a3, a2.nt, by omega, a4, fun w n en el le => a5 w n en el (by omega), fun u' l1 l2 => ?_⟩
  exact ⟨g1.trans h.cl, h.lr, f5 h.uo, by rw [f1]; exact h.pl, by rw [f2]; exact h.sk, by rw [f3]; exact h.br, by rw [f4]; omega, g2, a4, by omega, by rw [kk.wt]; exact h.wt, by rw [kk.fin]; exact h.fin, by rw [kk.rd]; exact h.rd, by rw [kk.room]; exact h.r1, by rw [kk.room]; exact h.r2, kf', by rw [g1]; exact sn', by omega, by omega⟩
theorem RdI.seek {i : Nat} {row : List Int} {c u g : Nat} {F : Fst} {D : Dst} (h : RdI i row c u F D) (hg : g ≤ 500) : RdI i row g (if g = c then u else g) (if g = F.cur then F else { F with cur := g, kw := [] }) D := by
  have ec := h.cu
  by_cases e : g = c
  · rw [if_pos e, if_pos (by omega)]
    subst e; exact h
  · rw [if_neg e, if_neg (by omega)]
    exact { h with cu := rfl, lc := hg, wt := h.wt, fin := h.fin, rd := h.rd, r1 := h.r1, r2 := h.r2, kf := (by show ([] : List Int) = (row.drop g).take 0; rw [List.take_zero]), sn := .inl rfl, cu2 := Nat.le_refl _, un := Nat.le_refl _ }
/-! the law's own state -/
def sK (rw : Addr) (c u : Nat) : List (Key × V) := [(Sum.inr (Str.ofString "row"), .ref rw), (Sum.inr (Str.ofString "cursor"), .int c), (Sum.inr (Str.ofString "upto"), .int u)]
section
variable {H : Hp}
theorem sK_row (rw : Addr) (c u : Nat) : valV (sK rw c u) (Sum.inr (Str.ofString "row")) = some (.ref rw) := by unfold sK; kernel_rfl
theorem sK_cursor (rw : Addr) (c u : Nat) : valV (sK rw c u) (Sum.inr (Str.ofString "cursor")) = some (.int c) := by unfold sK; kernel_rfl
theorem sK_upto (rw : Addr) (c u : Nat) : valV (sK rw c u) (Sum.inr (Str.ofString "upto")) = some (.int u) := by unfold sK; kernel_rfl
theorem sK_pcursor (rw : Addr) (c u x : Nat) : putK (sK rw c u) (Sum.inr (Str.ofString "cursor")) (.int x) = sK rw x u := by unfold sK; kernel_rfl
theorem sK_pupto (rw : Addr) (c u x : Nat) : putK (sK rw c u) (Sum.inr (Str.ofString "upto")) (.int x) = sK rw c x := by unfold sK; kernel_rfl
theorem sget {m rw : Addr} {c u : Nat} {k : Str} {v : V} (e : H m = some (.dK (sK rw c u))) (g : valV (sK rw c u) (Sum.inr k) = some v) : DGet H m (.str k) (some v) := by
  rw [← g]; exact DGet.k (k := Sum.inr k) e
theorem sput {m rw : Addr} {c u : Nat} {k : Str} {v : V} {kvs : List (Key × V)} (e : H m = some (.dK (sK rw c u))) (g : putK (sK rw c u) (Sum.inr k) v = kvs) : DPut H m (.str k) v (upd H m (.dK kvs)) := by
  rw [← g]; exact DPut.k (k := Sum.inr k) e (by show (3 : Nat) < sizeLine; rw [sizeLine_eq]; decide)
end
/-! troubles -/
def trW (ts : List Tg) : Str := match ts.getLast? with
  | some (.s w) => w
  | _ => Str.ofString ""
def TrOk (ts : List Tg) : Prop := ∀ t ∈ ts, trb t = true → t = .s sStall ∨ t = .s sFault
theorem came_trok (D : Dst) (a : Ask) : trb (cameT D a) = true → cameT D a = .s sStall ∨ cameT D a = .s sFault := by
  unfold cameT
  split
  · exact fun _ => .inr rfl
  · cases a with
    | take n => show trb (if _ then _ else _) = true → _; split; exact fun _ => .inl (by show (if _ then _ else _) = _; rw [if_pos (by assumption)]); exact fun z => by cases z
    | put ds => show trb (if _ then _ else _) = true → _; split; exact fun _ => .inl (by show (if _ then _ else _) = _; rw [if_pos (by assumption)]); exact fun z => by cases z
    | go n => exact fun z => by cases z
    | cut n => exact fun z => by cases z
theorem cames_trok (as : List Ask) : ∀ D : Dst, TrOk (camesT D as) := by
  induction as with
  | nil => intro D t h; cases h
  | cons a as ih =>
    intro D t h
    rcases List.mem_cons.mp h with z | z
    · rw [z]; exact came_trok D a
    · exact ih _ t z
theorem trW_snoc (ts : List Tg) (w : Str) : trW (ts ++ [.s w]) = w := by unfold trW; rw [List.getLast?_append]; rfl
theorem trW_calm {ts : List Tg} (h : Calm ts) : trW ts = Str.ofString "" := by
  unfold trW
  cases e : ts.getLast? with
  | none => rfl
  | some t =>
    have := h t (List.mem_of_getLast? e)
    cases t with
    | s w => cases this
    | i n => rfl
    | l xs => rfl
theorem Nts.drop {H : Hp} {G : Addr → Prop} : ∀ {k : Nat} {vs : List V} {ns : List Nt}, Nts H G vs ns → Nts H G (vs.drop k) (ns.drop k)
  | 0, _, _, h => h
  | k + 1, [], [], h => h
  | k + 1, _ :: _, _ :: _, ⟨_, h⟩ => Nts.drop (k := k) h
  | k + 1, [], _ :: _, h => h.elim
  | k + 1, _ :: _, [], h => h.elim
theorem atLast {xs : List V} {v : V} (h : xs.getLast? = some v) : atI xs (-1) = some v := by
  have hx : xs ≠ [] := fun z => by rw [z] at h; cases h
  have l1 : 1 ≤ xs.length := by cases hh : xs with
    | nil => exact absurd hh hx
    | cons x ys => show 1 ≤ ys.length + 1; omega
  unfold atI ixN
  rw [if_neg (by decide), if_pos (by omega)]
  show xs[((-1 : Int) + (xs.length : Int)).toNat]? = _
  rw [show ((-1 : Int) + (xs.length : Int)).toNat = xs.length - 1 by omega, ← List.getLast?_eq_getElem?, h]
theorem HandVs.last {M : Hp} {vs : List V} {ts : List Tg} (h : HandVs M vs ts) {v : V} (e : vs.getLast? = some v) : ∃ t, ts.getLast? = some t ∧ HandV M v t := by
  rw [List.getLast?_eq_getElem?] at e
  obtain ⟨t, e1, h1⟩ := h.at e
  exact ⟨t, by rw [List.getLast?_eq_getElem?, ← h.len]; exact e1, h1⟩
theorem in_tr {t : Tg} (h : trb t = true → t = .s sStall ∨ t = .s sFault) : ([PyData.str (Str.ofString "stall"), PyData.str (Str.ofString "fault")].any fun z => PyData.eqv z (tgD t)) = trb t := by
  cases t with
  | i n => rfl
  | l xs => rfl
  | s w =>
    rcases h rfl with z | z
    · cases z; decide +kernel
    · cases z; decide +kernel
def RightP (due : List Int) (wd : Wd) (k : Option Nat) (kn : Nat) (r : RR) (ts : List Tg) : Prop :=
  (k = some 0 ∧ r = .told [] ∧ ts = []) ∨ (k ≠ some 0 ∧
    ((∃ xs, r = .told xs ∧ Calm ts ∧ xs = due.take xs.length ∧ (xs = [] → due = [] ∧ Tg.l [] ∈ ts) ∧ (wd.whole = true → xs.length = due.length)) ∨
     (trW ts = sStall ∧ ∃ xs, r = .told xs ∧ xs ≠ [] ∧ xs = due.take xs.length ∧ kn ≤ xs.length) ∨
     (trW ts = sStall ∧ r = .non ∧ kn = 0)))
theorem Out.right {due : List Int} {wd : Wd} {D : Dst} {as : List Ask} {c u : Nat} {F' : Fst} {r : RR} {k : Option Nat} (h : Out due wd.whole D as c F' r) (h0 : k ≠ Option.some 0) (hf : ∀ j, r ≠ .fault j) (hu : u ≤ F'.cur + F'.kw.length) : RightP due wd k (u - c) r (camesT D as) := by
  refine .inr ⟨h0, ?_⟩
  cases h with
  | told a b e w => exact .inl ⟨_, rfl, a, b, e, w⟩
  | some a b x y z l m => exact .inr (.inl ⟨by rw [a, trW_snoc], _, rfl, x, y, by omega⟩)
  | none a b z l m => exact .inr (.inr ⟨by rw [a, trW_snoc], rfl, by omega⟩)
  | fault => exact absurd rfl (hf _)
def spCallW (CF CD C : Addr) : Sp := fun vs H Q E => ∃ (f d : Addr) (F : Fst) (D : Dst) (wd : Wd) (k : Option Nat) (R : List Ch), vs = [.ref f, .str wd.s, cntV k] ∧ Sat H (filC CF f d F :: devC CD d D :: R) ∧ RdOk F D ∧ (∀ n, k = some n → n ≤ 1000000000) ∧
  (k = some 0 → ∀ (H' : Hp) (q : Addr), Sat H' (.pt q (.lst []) :: filC CF f d F :: devC CD d D :: R) → Q (.ref q) H') ∧
  (k ≠ some 0 → ∀ F' D' r, CallL wd k (begF F D) D F' D' r → TellR CF CD C Q E f d R F' D' r)
def spFRsome (CF CD C : Addr) : Sp := fun vs H Q E => ∃ (f d : Addr) (F : Fst) (D : Dst) (k : Option Nat) (R : List Ch), vs = [.ref f, cntV k] ∧ Sat H (filC CF f d F :: devC CD d D :: R) ∧ RdOk F D ∧ (∀ n, k = some n → n ≤ 1000000000) ∧
  (k = some 0 → ∀ (H' : Hp) (q : Addr), Sat H' (.pt q (.lst []) :: filC CF f d F :: devC CD d D :: R) → Q (.ref q) H') ∧
  (k ≠ some 0 → ∀ F' D' r, PkL k (begF F D) D F' D' r → TellR CF CD C Q E f d R (someF F' r) D' r)
def spFHandN (CF : Addr) : Sp := fun vs H Q _ => ∃ (f : Addr) (cv : V), vs = [.ref f, .non, cv] ∧ Q cv H
def spTroubleM : Sp := fun vs H Q _ => ∃ (q m : Addr) (cvs : List V) (ts : List Tg) (S : Dst) (M : Hp) (R : List Ch), vs = [.ref q] ∧ Sat H (.pt q (.lst cvs) :: mdC m S M :: R) ∧ HandVs M cvs ts ∧ TrOk ts ∧
  ∀ H', Sat H' (.pt q (.lst cvs) :: mdC m S M :: R) → Q (.str (trW ts)) H'
def spKnownM : Sp := fun vs H Q _ => ∃ (s nl m rw : Addr) (c u e : Nat) (ws : List V) (ns : List Nt) (S : Dst) (M : Hp) (R : List Ch), vs = [.ref s, .ref nl] ∧ Sat H (.pt s (.dK (sK rw c u)) :: .pt nl (.lst ws) :: mdC m S M :: R) ∧ NtsM M ws ns ∧ (∀ n ∈ ns, NtIn e n) ∧ u ≤ e ∧
  ∀ (H' : Hp) (u' : Nat), Sat H' (.pt s (.dK (sK rw c u')) :: mdC m S M :: R) → u ≤ u' → u' ≤ e → Q .non H'
def spRightM : Sp := fun vs H Q _ => ∃ (du cq m : Addr) (due : List Int) (kn : Nat) (wd : Wd) (k : Option Nat) (fv : V) (r : RR) (cvs : List V) (ts : List Tg) (S : Dst) (M : Hp) (fl R : List Ch), vs = [.ref du, .int kn, .str wd.s, cntV k, fv, .ref cq] ∧
  Sat H (.pt du (.lst (due.map V.int)) :: .pt cq (.lst cvs) :: mdC m S M :: (fl ++ R)) ∧ ((fv = .non ∧ r = .non ∧ fl = []) ∨ ∃ (q : Addr) (xs : List Int), fv = .ref q ∧ r = .told xs ∧ fl = [.pt q (.lst (xs.map V.int))]) ∧ HandVs M cvs ts ∧ TrOk ts ∧ ts.length ≤ 10000000 ∧ due.length ≤ 1000 ∧ RightP due wd k kn r ts ∧
  ∀ H', Sat H' (.pt du (.lst (due.map V.int)) :: .pt cq (.lst cvs) :: mdC m S M :: (fl ++ R)) → Q (.bl true) H'
def spReadingM : Sp := fun vs H Q _ => ∃ (p rh : Addr) (n : Int) (row : List Int) (R : List Ch), vs = [.ref p, .ref rh] ∧ Sat H (poolC p n :: .pt rh (.lst (row.map V.int)) :: R) ∧ n ≤ 800000000 ∧ row.length ≤ 1000 ∧
  (∀ (H' : Hp) (t : Addr) (wd : Wd) (k : Option Nat), Sat H' (.pt t (.tup [.str wd.s, cntV k]) :: .pt rh (.lst (row.map V.int)) :: R) → (∀ m, k = some m → m ≤ 1000000000) → Q (.ref t) H') ∧
  (∀ (H' : Hp) (t : Addr) (g : Nat), Sat H' (.pt t (.tup [.str (Str.ofString "seek"), .int g]) :: .pt rh (.lst (row.map V.int)) :: R) → g ≤ row.length + 3 → Q (.ref t) H')
end Sip
/-! a reading call amid troubles, as the laws meet it -/
namespace Sip
open PySem PySem.Spec PyProof.Rows L2 TL
def NN (D : Dst) : Prop := ∀ k ∈ D.plan, 0 ≤ k
theorem NN.bad {D : Dst} (h : NN D) : badN D = false := by
  cases e : badN D with
  | false => rfl
  | true =>
    obtain ⟨k, ek, hk⟩ := badN_iff.mp e
    have := h k (List.mem_of_getElem? ek)
    omega
theorem NN.asks {D : Dst} (h : NN D) (as : List Ask) : NN (asksS D as) := fun k hk => h k (by rw [(asksS_facts D as).1] at hk; exact hk)
theorem came_nf {D : Dst} (h : NN D) (a : Ask) : cameT D a ≠ .s sFault := by
  have sf : Str.ofString "stall" ≠ Str.ofString "fault" := by decide +kernel
  unfold cameT
  rw [if_neg (by rw [h.bad]; simp)]
  cases a with
  | take n => show (if _ then _ else _) ≠ _; split; exact fun z => sf (by injection z); exact fun z => by cases z
  | put ds => show (if _ then _ else _) ≠ _; split; exact fun z => sf (by injection z); exact fun z => by cases z
  | go n => exact fun z => by cases z
  | cut n => exact fun z => by cases z
theorem cames_nf (as : List Ask) : ∀ {D : Dst}, NN D → Tg.s sFault ∉ camesT D as := by
  induction as with
  | nil => intro D _ h; cases h
  | cons a as ih =>
    intro D h z
    rcases List.mem_cons.mp z with z | z
    · exact came_nf h a z.symm
    · exact ih (D := doneS D a) (h.asks [a]) z
/-- what a call tells, as a value, and the piece that comes with it -/
def FvIs (fv : V) (fl : List Ch) (r : RR) : Prop := (fv = .non ∧ r = .non ∧ fl = []) ∨ ∃ (q : Addr) (xs : List Int), fv = .ref q ∧ r = .told xs ∧ fl = [.pt q (.lst (xs.map V.int))]
structure CallI (i : Nat) (row : List Int) (c u : Nat) (F : Fst) (D : Dst) (wd : Wd) (k : Option Nat) (F' : Fst) (as : List Ask) (r : RR) : Prop where
  gt : ∀ a ∈ as, GT a
  zr : (k = some 0 ∧ r = .told [] ∧ as = [] ∧ F' = F) ∨ (k ≠ some 0 ∧ Out (dueF row c (isLine wd.s) k) wd.whole D as c F' r)
  nt : ∀ n ∈ notesT D as, NtIn (F'.cur + F'.kw.length) n
  eu : u ≤ F'.cur + F'.kw.length
  cur : F'.cur = c + wd.mv r
  eno : wd.whole = true → ∀ n, k = some n → n = (dueF row c (isLine wd.s) k).length → n ≤ u - c → as = []
  nx : ∀ u', u ≤ u' → u' ≤ F'.cur + F'.kw.length → RdI (i + 1) row (c + wd.mv r) (max u' (c + wd.mv r)) F' (asksS D as)
theorem Wd.mv_nil (wd : Wd) : wd.mv (.told []) = 0 := by cases wd <;> rfl
theorem Wd.mv_non (wd : Wd) : wd.mv .non = 0 := by cases wd <;> rfl
theorem Wd.mv_fault (wd : Wd) (j : Int) : wd.mv (.fault j) = 0 := by cases wd <;> rfl
theorem RdI.callI {i : Nat} {row : List Int} {c u : Nat} {F F' : Fst} {D D' : Dst} {wd : Wd} {k : Option Nat} {r : RR} (h : RdI i row c u F D) (hm : ∀ n, k = some n → n ≤ 1000000000) (h0 : k ≠ some 0) (cl : CallL wd k (begF F D) D F' D' r) :
    ∃ as, D' = asksS D as ∧ CallI i row c u F D wd k F' as r := by
  obtain ⟨as, e1, e2, e3, e4, e5, e6, e7, e8⟩ := h.call hm h0 cl
  exact ⟨as, e1, e2, .inr ⟨h0, e3⟩, e4, e5, e6, e7, e8⟩
theorem RdI.call0 {i : Nat} {row : List Int} {c u : Nat} {F : Fst} {D : Dst} (wd : Wd) (h : RdI i row c u F D) : CallI i row c u F D wd (some 0) F [] (.told []) := by
  have ec := h.cu
  refine ⟨fun a ha => (by cases ha), .inl ⟨rfl, rfl, rfl, rfl⟩, fun n hn => (by cases hn), h.un, by rw [wd.mv_nil]; exact ec, fun _ _ _ _ _ => rfl, fun u' l1 l2 => ?_⟩
  rw [wd.mv_nil]
  have := h.cu2
  rw [Nat.add_zero, Nat.max_eq_left (by omega)]
  exact { h.up (Nat.le_succ i) with cu2 := by omega, un := l2 }
section
variable {i : Nat} {row : List Int} {c u : Nat} {F F' : Fst} {D : Dst} {wd : Wd} {k : Option Nat} {as : List Ask} {r : RR}
theorem CallI.right (h : CallI i row c u F D wd k F' as r) (hf : ∀ j, r ≠ .fault j) {u' : Nat} (l2 : u' ≤ F'.cur + F'.kw.length) : RightP (dueF row c (isLine wd.s) k) wd k (u' - c) r (camesT D as) := by
  rcases h.zr with ⟨e1, e2, e3, _⟩ | ⟨h0, h1⟩
  · exact .inl ⟨e1, e2, by rw [e3]; rfl⟩
  · exact h1.right h0 hf l2
theorem CallI.quiet (h : CallI i row c u F D wd k F' as r) : Quiet (camesT D as) := by
  rcases h.zr with ⟨e1, e2, e3, _⟩ | ⟨h0, h1⟩
  · rw [e3]; exact fun i t hi _ => absurd hi (by simp [camesT])
  · exact h1.quiet
theorem CallI.nofault (h : CallI i row c u F D wd k F' as r) (nn : NN D) : ∀ j, r ≠ .fault j := by
  intro j e
  rcases h.zr with ⟨e1, e2, e3, _⟩ | ⟨h0, h1⟩
  · rw [e] at e2; cases e2
  · subst e
    cases h1 with
    | fault a => exact cames_nf as nn (by rw [a]; simp)
end
def spCallU (CF CD C : Addr) : Sp := fun vs H Q E => ∃ (f d : Addr) (i : Nat) (row : List Int) (c u : Nat) (F : Fst) (D : Dst) (wd : Wd) (k : Option Nat) (R : List Ch), vs = [.ref f, .str wd.s, cntV k] ∧ Sat H (filC CF f d F :: devC CD d D :: R) ∧ RdI i row c u F D ∧ i ≤ 600 ∧ (∀ n, k = some n → n ≤ 1000000000) ∧
  (∀ (H' : Hp) (fv : V) (fl : List Ch) (F' : Fst) (as : List Ask) (r : RR), FvIs fv fl r → Sat H' (fl ++ filC CF f d F' :: devC CD d (asksS D as) :: R) → CallI i row c u F D wd k F' as r → (∀ j, r ≠ .fault j) → Q fv H') ∧
  (∀ (j : Int) (F' : Fst) (as : List Ask), CallI i row c u F D wd k F' as (.fault j) → FaultF CF CD E C f d R F' (asksS D as) j)
theorem spCallU.to {CF CD C : Addr} {vs : List V} {H : Hp} {Q : VK} {E : XK} (h : spCallU CF CD C vs H Q E) : spCallW CF CD C vs H Q E := by
  obtain ⟨f, d, i, row, c, u, F, D, wd, k, R, rfl, hS, rd, hi, hm, q, qe⟩ := h
  refine ⟨f, d, F, D, wd, k, R, rfl, hS, rd.ok hi, hm, fun e0 H' t hS => ?_, fun h0 F' D' r cl => ?_⟩
  · subst e0
    exact q H' (.ref t) [.pt t (.lst (([] : List Int).map V.int))] F [] (.told []) (.inr ⟨t, [], rfl, rfl, rfl⟩) hS (rd.call0 wd) (fun j z => by cases z)
  · obtain ⟨as, rfl, ci⟩ := rd.callI hm h0 cl
    cases r with
    | told xs => exact fun H' t hS => q H' (.ref t) [.pt t (.lst (xs.map V.int))] F' as (.told xs) (.inr ⟨t, xs, rfl, rfl, rfl⟩) hS ci (fun j z => by cases z)
    | non => exact fun H' hS => q H' .non [] F' as .non (.inl ⟨rfl, rfl, rfl⟩) hS ci (fun j z => by cases z)
    | fault j => exact qe j F' as ci
def spStepM (CF CD : Addr) : Sp := fun vs H Q _ => ∃ (f d m s rw : Addr) (w : Str) (kv : V) (i : Nat) (row : List Int) (c u : Nat) (F : Fst) (D : Dst) (M : Hp) (R : List Ch), vs = [.ref f, .ref d, .ref m, .ref s, .str w, kv] ∧
  Sat H (filC CF f d F :: devC CD d D :: mdC m D M :: .pt s (.dK (sK rw c u)) :: .pt rw (.lst (row.map V.int)) :: R) ∧ RdI i row c u F D ∧ NN D ∧ i ≤ 500 ∧ row.length ≤ 100 ∧
  ((∃ g : Nat, w = Str.ofString "seek" ∧ kv = .int g ∧ g ≤ row.length + 3) ∨ ∃ (wd : Wd) (k : Option Nat), w = wd.s ∧ kv = cntV k ∧ ∀ n, k = some n → n ≤ 1000000000) ∧
  ∀ (H' : Hp) (c' u' : Nat) (F' : Fst) (D' : Dst) (M' : Hp), Sat H' (filC CF f d F' :: devC CD d D' :: mdC m D' M' :: .pt s (.dK (sK rw c' u')) :: .pt rw (.lst (row.map V.int)) :: R) → RdI (i + 1) row c' u' F' D' → NN D' → D'.plan = D.plan → Q (.bl true) H'
def spRestM (CF CD : Addr) : Sp := fun vs H Q _ => ∃ (f d : Addr) (i : Nat) (row : List Int) (c u : Nat) (F : Fst) (D : Dst) (R : List Ch), vs = [.ref f, .int 200] ∧ Sat H (filC CF f d F :: devC CD d D :: R) ∧ RdI i row c u F D ∧ NN D ∧ i ≤ 100 ∧ row.length ≤ 60 ∧ D.plan.length ≤ 60 ∧
  ∀ (H' : Hp) (q : Addr) (c' u' : Nat) (F' : Fst) (D' : Dst), Sat H' (.pt q (.lst ((row.drop c).map V.int)) :: filC CF f d F' :: devC CD d D' :: R) → RdI (i + 200) row c' u' F' D' → Q (.ref q) H'
theorem tgs_lay : ∀ {ts : List Tg}, (∀ t ∈ ts, tgOk t) → PyData.canLayAll0 (ts.map tgD) = true ∧ PyData.depthAll (ts.map tgD) ≤ 1
  | [], _ => ⟨rfl, Nat.zero_le _⟩
  | t :: ts, h => by
    obtain ⟨a, b⟩ := tgs_lay (ts := ts) (fun m hm => h m (List.mem_cons_of_mem _ hm))
    refine ⟨?_, ?_⟩
    · show ((tgD t).canLay0 && PyData.canLayAll0 (ts.map tgD)) = true
      rw [tg_lay (h t List.mem_cons_self), a]; rfl
    · show max (tgD t).depth (PyData.depthAll (ts.map tgD)) ≤ 1
      have := tg_depth t
      omega
theorem TrOk.ok {ts : List Tg} (h : TrOk ts) : ∀ t ∈ ts, tgOk t := fun t ht => by
  have := h t ht
  cases t with
  | s w => rcases this rfl with z | z <;> (cases z; show PyData.strOk _ = true; decide +kernel)
  | i n => trivial
  | l xs => trivial
theorem HandVs.dpl {K : PySem.W.Frag} {M H : Hp} {vs : List V} {ts : List Tg} (h : HandVs M vs ts) (s : Same M H) : DpAll K H vs (ts.map tgD) := by
  induction h with
  | nil => exact .nil
  | cons a _ ih => exact .cons (a.dp s) ih
theorem HandVs.dps {K : PySem.W.Frag} {M H : Hp} {vs : List V} {ts : List Tg} (h : HandVs M vs ts) (s : Same M H) (ok : TrOk ts) : DpAll K H vs (ts.map tgD) ∧ SeqAt.shaped (.list (ts.map tgD)) = true := by
  refine ⟨h.dpl s, ?_⟩
  obtain ⟨h1, h2⟩ := tgs_lay ok.ok
  unfold SeqAt.shaped
  simp [PyData.canLay0, PyData.depth, h1]
  omega
theorem Wd.ne_seek (wd : Wd) : wd.s ≠ Str.ofString "seek" := by cases wd <;> (unfold Wd.s; decide +kernel)
end Sip
/-! calls that may be refused with a fault -/
namespace Sip
open PySem PySem.Spec PyProof.Rows L2 TL
abbrev sTold : Str := Str.ofString "told"
def spTriedM (CF CD : Addr) : Sp := fun vs H Q _ => ∃ (f d : Addr) (w : Str) (kv : V) (i : Nat) (row : List Int) (c u : Nat) (F : Fst) (D : Dst) (R : List Ch), vs = [.ref f, .str w, kv] ∧ Sat H (filC CF f d F :: devC CD d D :: R) ∧ RdI i row c u F D ∧ i ≤ 600 ∧
  ((∃ g : Nat, w = Str.ofString "seek" ∧ kv = .int g ∧ g ≤ 500 ∧ ∀ (H' : Hp) (t : Addr), Sat H' (.pt t (.tup [.str sTold, .int g]) :: filC CF f d (if g = F.cur then F else { F with cur := g, kw := [] }) :: devC CD d D :: R) → Q (.ref t) H') ∨
   (∃ (wd : Wd) (k : Option Nat), w = wd.s ∧ kv = cntV k ∧ (∀ n, k = some n → n ≤ 1000000000) ∧
    (∀ (H' : Hp) (t : Addr) (fv : V) (fl : List Ch) (F' : Fst) (as : List Ask) (r : RR), FvIs fv fl r → Sat H' (.pt t (.tup [.str sTold, fv]) :: (fl ++ filC CF f d F' :: devC CD d (asksS D as) :: R)) → CallI i row c u F D wd k F' as r → (∀ j, r ≠ .fault j) → Q (.ref t) H') ∧
    (∀ (H' : Hp) (t : Addr) (j : Int) (F' : Fst) (as : List Ask), Sat H' (.pt t (.tup [.str sFault, .int j]) :: filC CF f d F' :: devC CD d (asksS D as) :: R) → CallI i row c u F D wd k F' as (.fault j) → Q (.ref t) H')))
def spStep8 (CF CD : Addr) : Sp := fun vs H Q _ => ∃ (f d m s rw : Addr) (w : Str) (kv : V) (i : Nat) (row : List Int) (c u : Nat) (F : Fst) (D : Dst) (M : Hp) (R : List Ch), vs = [.ref f, .ref d, .ref m, .ref s, .str w, kv] ∧
  Sat H (filC CF f d F :: devC CD d D :: mdC m D M :: .pt s (.dK (sK rw c u)) :: .pt rw (.lst (row.map V.int)) :: R) ∧ RdI i row c u F D ∧ i ≤ 500 ∧ row.length ≤ 100 ∧
  ((∃ g : Nat, w = Str.ofString "seek" ∧ kv = .int g ∧ g ≤ row.length + 3) ∨ ∃ (wd : Wd) (k : Option Nat), w = wd.s ∧ kv = cntV k ∧ ∀ n, k = some n → n ≤ 1000000000) ∧
  ∀ (H' : Hp) (c' u' : Nat) (F' : Fst) (D' : Dst) (M' : Hp), Sat H' (filC CF f d F' :: devC CD d D' :: mdC m D' M' :: .pt s (.dK (sK rw c' u')) :: .pt rw (.lst (row.map V.int)) :: R) → RdI (i + 1) row c' u' F' D' → D'.plan = D.plan → Q (.bl true) H'
def spRest8 (CF CD : Addr) : Sp := fun vs H Q _ => ∃ (f d : Addr) (i : Nat) (row : List Int) (c u : Nat) (F : Fst) (D : Dst) (R : List Ch), vs = [.ref f, .int 200] ∧ Sat H (filC CF f d F :: devC CD d D :: R) ∧ RdI i row c u F D ∧ i ≤ 100 ∧ row.length ≤ 60 ∧ D.plan.length ≤ 60 ∧
  ∀ (H' : Hp) (q : Addr) (c' u' : Nat) (F' : Fst) (D' : Dst), Sat H' (.pt q (.lst ((row.drop c).map V.int)) :: filC CF f d F' :: devC CD d D' :: R) → RdI (i + 200) row c' u' F' D' → Q (.ref q) H'
section
variable {i : Nat} {row : List Int} {c u : Nat} {F F' : Fst} {D : Dst} {wd : Wd} {k : Option Nat} {as : List Ask} {r : RR}
/-- a call's troubles, by what its asks came to -/
theorem CallI.trF (h : CallI i row c u F D wd k F' as r) (nf : ∀ j, r ≠ .fault j) : trW (camesT D as) ≠ sFault := by
  have e1 : (Str.ofString "" : Str) ≠ sFault := by decide +kernel
  have e2 : (sStall : Str) ≠ sFault := by decide +kernel
  rcases h.zr with ⟨_, _, e3, _⟩ | ⟨_, o⟩
  · rw [e3]; exact e1
  · cases o with
    | told a => rw [trW_calm a]; exact e1
    | some a => rw [a, trW_snoc]; exact e2
    | none a => rw [a, trW_snoc]; exact e2
    | fault => exact absurd rfl (nf _)
theorem CallI.trT {j : Int} (h : CallI i row c u F D wd k F' as (.fault j)) : trW (camesT D as) = sFault ∧ D.plan[(asksS D as).ns.length - 1]? = some (-j) ∧ D.ns.length < (asksS D as).ns.length := by
  rcases h.zr with ⟨_, e, _⟩ | ⟨_, o⟩
  · cases e
  · cases o with
    | fault a b c d => exact ⟨by rw [a, trW_snoc], c, d⟩
end
end Sip
/-! methods called within a try: with defaults, without arguments -/
namespace Sip
open PySem PySem.Spec PyProof.Rows L2 TL
section
variable {X : Cx} {CX : CXT} {k : Nat} {f C : Addr} {fd : FuncData} {ps : List Str} {ds : List Value} {dvs : List V} {sp : Sp} {E : L2.St → XK} {m : Str} {pos apos : Pos} {o e : Expr} {es : List Expr} {ta : TE} {t : TA}
def tMethTD (C : Addr) (m : Str) (sp : Sp) (dvs : List V) (E : L2.St → XK) (ta : TE) (t : TA) : TE := fun σ H Q => ta σ H fun x H1 => ∃ a dx fs, x = .ref a ∧ H1 a = some (.ins C dx fs) ∧ fs.lookup m = none ∧ t σ H1 fun vs H2 => sp (x :: (vs ++ dvs)) H2 Q (E σ)
theorem pe_methTD {pl : Sem Bool} (he : PE X o ta) (c : Cls X.K C) (hm : Meth X.K C m f) (F : FnOk X.prog X.w X.K X.mg X.base CX k f fd ps sp) (hr : Room k X.A) (hb : Binds X.K fd ps ds) (hd : Vals dvs ds) (hx : ∀ σ, PassesAt CX X σ (E σ)) (ha : PA X (e :: es) t)
    (hst : starEach (e :: es) X.env = (false, eval e X.env) :: starEach es X.env := by rfl) (hpl : (backTo pos (starEach es X.env)).any (·.1) = false := by rfl)
    (ht : eval (.Call (.Attribute o m apos) (e :: es) [] pos) X.env = (do
      let ov ← eval o X.env
      standAt apos.atName
      let (f, first) ← holding [ov] (getMethod ov m pl)
      callWith pos f first (backTo pos (starEach (e :: es) X.env)) (backToKw pos (keywordEach [] X.env))) := by rfl) :
    PE X (.Call (.Attribute o m apos) (e :: es) [] pos) (tMethTD C m sp dvs E ta t) := by
  refine ⟨fun pins s σ H Q I h => ?_⟩
  refine PySem.W.methodCall_KW (pl := pl) (thn (he.run pins s σ H _ I h) fun u s1 ⟨x, H1, I1, rx, a, dx, fs, ex, ea, l, q⟩ => ?_) ht
  subst ex
  obtain rfl : u = Value.ref a := rx
  refine getmeth_ok I1 ea c hm l ?_
  refine PySem.W.callWith_K (first := [.ref a]) (h₀ := X.base) I.ok.mod.kin hm.kp (thn (ha.run pos pins s1 σ H1 _ I1 q) fun us s2 ⟨vs, H2, I2, r, q2⟩ => ⟨I2.kIn, ?_⟩) hst hpl
  exact run_fnSD (us := .ref a :: us) (vs := .ref a :: vs) F hr hb hd (hx σ) I2 (.cons rfl r) q2
theorem pe_meth0T {pl : Sem Bool} (he : PE X o ta) (c : Cls X.K C) (hm : Meth X.K C m f) (F : FnOk X.prog X.w X.K X.mg X.base CX k f fd ps sp) (hr : Room k X.A) (hb : Binds X.K fd ps ds) (hd : Vals dvs ds) (hx : ∀ σ, PassesAt CX X σ (E σ))
    (ht : eval (.Call (.Attribute o m apos) [] [] pos) X.env = (do
      let ov ← eval o X.env
      standAt apos.atName
      let (f, first) ← holding [ov] (getMethod ov m pl)
      callWith pos f first (backTo pos (starEach [] X.env)) (backToKw pos (keywordEach [] X.env))) := by rfl) :
    PE X (.Call (.Attribute o m apos) [] [] pos) (tMethTD C m sp dvs E ta tNil) := by
  refine ⟨fun pins s σ H Q I h => ?_⟩
  refine PySem.W.methodCall_KW (pl := pl) (thn (he.run pins s σ H _ I h) fun u s1 ⟨x, H1, I1, rx, a, dx, fs, ex, ea, l, q⟩ => ?_) ht
  subst ex
  obtain rfl : u = Value.ref a := rx
  refine getmeth_ok I1 ea c hm l ?_
  exact PySem.W.callWith_K0 (first := [.ref a]) I1.kIn hm.kp (run_fnSD (us := [.ref a]) (vs := [.ref a]) F hr hb hd (hx σ) I1 (.cons rfl .nil) q)
end
end Sip
/-! what putting down comes to -/
namespace Sip
open PySem PySem.Spec PyProof.Rows L2 TL
/-- one put of all that waits -/
inductive PO
  | fault (k : Int) (D : Dst)
  | came (n : Nat) (D : Dst)
def ptPl (F : Fst) : Nat := F.cur - F.wt.length
def putP (F : Fst) (D : Dst) : PO :=
  if leadB D (ptPl F) = true then .fault (-numF D) (leadD D (ptPl F))
  else if badN (leadD D (ptPl F)) = true then .fault (-numF (leadD D (ptPl F))) (doneS (leadD D (ptPl F)) (.put F.wt))
  else .came (putN (leadD D (ptPl F)) F.wt) (doneS (leadD D (ptPl F)) (.put F.wt))
def wtF (F : Fst) (n : Nat) : Fst := { F with wt := F.wt.drop n }
inductive PR
  | ok | stall | fault (k : Int)
inductive PdL (most : Nat) : Fst → Dst → Fst → Dst → PR → Prop
  | done {F D} : F.wt.length ≤ most → PdL most F D F D .ok
  | more {F D n D' F2 D2 r} : most < F.wt.length → putP F D = .came n D' → n ≠ 0 → PdL most (wtF F n) D' F2 D2 r → PdL most F D F2 D2 r
  | stall {F D D'} : most < F.wt.length → putP F D = .came 0 D' → PdL most F D F D' .stall
  | fault {F D k D'} : most < F.wt.length → putP F D = .fault k D' → PdL most F D F D' (.fault k)
/-- asks one behind another that fit -/
def FitA (D : Dst) : Ask → Prop
  | .take n => 1 ≤ n ∧ n ≤ 1000000000
  | .put ds => ds ≠ [] ∧ D.spot + ds.length ≤ 4000
  | .go n => n ≤ 4000
  | .cut n => n ≤ 4000
inductive Seq : Dst → List Ask → Prop
  | nil {D} : Seq D []
  | cons {D a as} : FitA D a → Seq (doneS D a) as → Seq D (a :: as)
theorem Seq.app {as bs : List Ask} : ∀ {D : Dst}, Seq D as → Seq (asksS D as) bs → Seq D (as ++ bs) := by
  induction as with
  | nil => intro D _ h; exact h
  | cons a as ih =>
    intro D h k
    cases h with
    | cons f h => exact .cons f (ih h k)
theorem Seq.one {D : Dst} {a : Ask} (h : FitA D a) : Seq D [a] := .cons h .nil
theorem Seq.ask {as : List Ask} : ∀ {D : Dst}, Seq D as → ∀ a ∈ as, AskOk a := by
  induction as with
  | nil => intro D _ a h; cases h
  | cons b as ih =>
    intro D h a ha
    cases h with
    | cons f h =>
      rcases List.mem_cons.mp ha with z | z
      · subst z
        cases a with
        | take n => exact f
        | put ds => exact ⟨f.1, by have := f.2; omega⟩
        | go n => trivial
        | cut n => trivial
      · exact ih h a z
theorem fit_one {D : Dst} {a : Ask} (h : FitA D a) (lc : D.cells.length ≤ 4000) (ls : D.spot ≤ 4000) : (doneS D a).cells.length ≤ 4000 ∧ (doneS D a).spot ≤ 4000 := by
  cases hb : badN D with
  | true =>
    have e : doneS D a = noteS D a.w a.h (.s (Str.ofString "fault")) := if_pos hb
    rw [e, noteS_cells, noteS_spot]
    exact ⟨lc, ls⟩
  | false =>
    have e : doneS D a = goodS D a := if_neg (by rw [hb]; simp)
    rw [e]
    cases a with
    | take n =>
      by_cases h0 : mayF D n = 0
      · obtain ⟨h1, h2⟩ := took_stall h0
        exact ⟨by rw [show (goodS D (.take n)).cells = D.cells from h1]; exact lc, by rw [show (goodS D (.take n)).spot = D.spot from h2]; exact ls⟩
      · obtain ⟨h1, h2, _⟩ := good_take1 h0
        rw [h1, h2]
        have := taken_len D n
        refine ⟨lc, ?_⟩
        by_cases hs : D.spot ≤ D.cells.length
        · omega
        · omega
    | put ds =>
      by_cases h0 : putN D ds = 0
      · obtain ⟨h1, h2, _⟩ := good_put0 h0
        rw [h1, h2]; exact ⟨lc, ls⟩
      · obtain ⟨h1, h2, _⟩ := good_put1 h0
        rw [h1, h2]
        have hn : putN D ds ≤ ds.length := by
          unfold putN mayF
          split
          · omega
          · omega
        have f2 := h.2
        exact ⟨laidF_le ⟨lc, by rw [List.length_take]; omega⟩, by omega⟩
    | go n => obtain ⟨h1, h2, _⟩ := good_go (S := D) (n := n); rw [h1, h2]; exact ⟨lc, h⟩
    | cut n => obtain ⟨h1, h2, _⟩ := good_cut (S := D) (n := n); rw [h1, h2, List.length_take]; exact ⟨by omega, ls⟩
theorem Seq.size {as : List Ask} : ∀ {D : Dst}, Seq D as → D.cells.length ≤ 4000 → D.spot ≤ 4000 → ∀ i, (asksS D (as.take i)).cells.length ≤ 4000 ∧ (asksS D (as.take i)).spot ≤ 4000 := by
  induction as with
  | nil => intro D _ a b i; rw [List.take_nil]; exact ⟨a, b⟩
  | cons b as ih =>
    intro D h lc ls i
    cases i with
    | zero => exact ⟨lc, ls⟩
    | succ i =>
      cases h with
      | cons f h =>
        obtain ⟨h1, h2⟩ := fit_one f lc ls
        exact ih h h1 h2 i
theorem Seq.gt {as : List Ask} : ∀ {D : Dst}, (∀ a ∈ as, GT a) → Seq D as := by
  induction as with
  | nil => intro D _; exact .nil
  | cons a as ih =>
    intro D h
    refine .cons ?_ (ih fun b hb => h b (List.mem_cons_of_mem _ hb))
    rcases h a List.mem_cons_self with ⟨n, rfl, l⟩ | ⟨n, rfl, l1, l2⟩
    · exact l
    · exact ⟨l1, l2⟩
/-- the row with what waits laid over it -/
def rowF (F : Fst) (D : Dst) : List Int := laidF D.cells (ptPl F) F.wt
/-- the notes of putting down: what is left is put at its place; w bytes waited at first, n were taken by then -/
inductive Wr (w : Nat) : List Int → Nat → Nat → List Nt → Nat → Prop
  | nil {left p n} : Wr w left p n [] n
  | go {left p n q h c ns r} : Wr w left p n ns r → Wr w left p n (⟨Str.ofString "go", q, h, c⟩ :: ns) r
  | put {left : List Int} {p n k : Nat} {ns r} : left.length ≤ 4000 → w ≤ n + left.length → k ≤ left.length → Wr w (left.drop k) (p + k) (n + k) ns r → Wr w left p n (⟨Str.ofString "put", p, .l left, .i k⟩ :: ns) r
  | no {left : List Int} {p n : Nat} {z : Str} {ns r} : left.length ≤ 4000 → w ≤ n + left.length → Wr w left p n ns r → Wr w left p n (⟨Str.ofString "put", p, .l left, .s z⟩ :: ns) r
theorem putN_le (D : Dst) (ds : List Int) : putN D ds ≤ ds.length := by
  unfold putN mayF
  split
  · omega
  · omega
/-- one put -/
theorem put_one {F : Fst} {D : Dst} (sk : D.seek = true) (lc : D.cells.length ≤ 4000) (cu : F.cur ≤ 4000) (lw : F.wt.length ≤ F.cur) (hw : F.wt ≠ []) :
    ∃ bs, Seq D bs ∧ 1 ≤ bs.length ∧ bs.length ≤ 2 ∧
      ((∃ k, putP F D = .fault k (asksS D bs) ∧ (∀ w n, w ≤ n + F.wt.length → ∀ ns r, Wr w F.wt (ptPl F) n ns r → Wr w F.wt (ptPl F) n (notesT D bs ++ ns) r) ∧ (asksS D bs).cells = D.cells) ∨
       (∃ n, putP F D = .came n (asksS D bs) ∧ n ≤ F.wt.length ∧ (∀ w m, w ≤ m + F.wt.length → ∀ ns r, Wr w (F.wt.drop n) (ptPl F + n) (m + n) ns r → Wr w F.wt (ptPl F) m (notesT D bs ++ ns) r) ∧ (asksS D bs).cells = laidF D.cells (ptPl F) (F.wt.take n))) := by
  have hl : 1 ≤ F.wt.length := by cases h : F.wt with
    | nil => exact absurd h hw
    | cons x xs => show 1 ≤ xs.length + 1; omega
  have hp : ptPl F + F.wt.length = F.cur := by unfold ptPl; omega
  generalize hpp : ptPl F = p at hp
  have g1 : FitA D (.go p) := by show p ≤ 4000; omega
  by_cases hb : leadB D p = true
  · have hg : goB D p = true := by unfold leadB at hb; simp at hb; exact hb.1
    have hbad : badN D = true := by unfold leadB at hb; simp at hb; exact hb.2
    have e1 : leadD D p = doneS D (.go p) := if_pos hg
    refine ⟨[.go p], .one g1, Nat.le_refl _, by show 1 ≤ 2; decide, .inl ⟨-numF D, ?_, fun w n _ ns r h => ?_, ?_⟩⟩
    · unfold putP; rw [hpp, if_pos hb, e1]; rfl
    · exact .go h
    · show (doneS D (.go p)).cells = D.cells
      rw [← e1]; exact (leadD_facts D p).1
  have hb' : leadB D p = false := Bool.eq_false_iff.mpr hb
  have hs := lead_spot sk hb'
  obtain ⟨l1, l2, l3, l4, _, _⟩ := leadD_facts D p
  obtain ⟨as, sa, la, eA, nA⟩ : ∃ as : List Ask, Seq D as ∧ as.length ≤ 1 ∧ leadD D p = asksS D as ∧ (∀ w left q n ns r, Wr w left q n ns r → Wr w left q n (notesT D as ++ ns) r) := by
    by_cases hg : goB D p = true
    · exact ⟨[.go p], .one g1, Nat.le_refl _, if_pos hg, fun w left q n ns r h => .go h⟩
    · exact ⟨[], .nil, Nat.zero_le _, if_neg hg, fun _ _ _ _ _ _ h => h⟩
  have f2 : FitA (asksS D as) (.put F.wt) := ⟨hw, by rw [← eA, hs]; omega⟩
  have eD : doneS (leadD D p) (.put F.wt) = asksS D (as ++ [.put F.wt]) := by rw [asksS_snoc, ← eA]
  have eN : notesT D (as ++ [.put F.wt]) = notesT D as ++ [⟨Str.ofString "put", p, .l F.wt, cameT (leadD D p) (.put F.wt)⟩] := by
    rw [notesT_app, ← eA]
    show _ ++ [(⟨Str.ofString "put", (leadD D p).spot, .l F.wt, cameT (leadD D p) (.put F.wt)⟩ : Nt)] = _
    rw [hs]
  refine ⟨as ++ [.put F.wt], sa.app (.one f2), by rw [List.length_append]; show 1 ≤ _ + 1; omega, by rw [List.length_append]; show _ + 1 ≤ 2; omega, ?_⟩
  by_cases hbad : badN (leadD D p) = true
  · refine .inl ⟨-numF (leadD D p), ?_, fun w n hn ns r h => ?_, ?_⟩
    · unfold putP; rw [hpp, if_neg hb, if_pos hbad, eD]
    · rw [eN, List.append_assoc]
      refine nA _ _ _ _ _ _ ?_
      rw [show cameT (leadD D p) (.put F.wt) = .s (Str.ofString "fault") from if_pos hbad]
      exact .no (by omega) hn h
    · rw [← eD, show doneS (leadD D p) (.put F.wt) = noteS (leadD D p) _ _ _ from if_pos hbad, noteS_cells, l1]
  have hbf : badN (leadD D p) = false := Bool.eq_false_iff.mpr hbad
  refine .inr ⟨putN (leadD D p) F.wt, ?_, putN_le _ _, fun w m hm ns r h => ?_, ?_⟩
  · unfold putP; rw [hpp, if_neg hb, if_neg hbad, eD]
  · rw [eN, List.append_assoc]
    refine nA _ _ _ _ _ _ ?_
    rw [show cameT (leadD D p) (.put F.wt) = goodT (leadD D p) (.put F.wt) from if_neg hbad]
    by_cases h0 : putN (leadD D p) F.wt = 0
    · rw [(good_put0 h0).2.2]
      rw [h0] at h
      exact .no (by omega) hm h
    · rw [(good_put1 h0).2.2]
      exact .put (by omega) hm (putN_le _ _) h
  · rw [← eD, show doneS (leadD D p) (.put F.wt) = goodS (leadD D p) (.put F.wt) from if_neg hbad]
    by_cases h0 : putN (leadD D p) F.wt = 0
    · rw [(good_put0 h0).1, h0, List.take_zero, laidF_nil, l1]
    · rw [(good_put1 h0).1, l1, hs]
/-- putting down -/
theorem PdL.out {most : Nat} {F F' : Fst} {D D' : Dst} {r : PR} (h : PdL most F D F' D' r) : ∀ (sk : D.seek = true) (lc : D.cells.length ≤ 4000) (ls : D.spot ≤ 4000) (cu : F.cur ≤ 4000) (lw : F.wt.length ≤ F.cur),
    ∃ as n, D' = asksS D as ∧ F' = wtF F n ∧ n ≤ F.wt.length ∧ Seq D as ∧ as.length ≤ 2 * (n + 1) ∧ (r = .ok → F.wt.length - n ≤ most ∧ (F.wt.length ≤ most → as = [])) ∧ (most < F.wt.length - n ∨ r = .ok) ∧ (∀ w m, w ≤ m + F.wt.length → Wr w F.wt (ptPl F) m (notesT D as) (m + n)) ∧ rowF F' D' = rowF F D := by
  induction h with
  | @done F D hm =>
    intro sk lc ls cu lw
    exact ⟨[], 0, rfl, rfl, Nat.zero_le _, .nil, Nat.zero_le _, fun _ => ⟨by omega, fun _ => rfl⟩, .inr rfl, fun w m _ => .nil, rfl⟩
  | @more F D n D1 F2 D2 r hm e h0 _ ih =>
    intro sk lc ls cu lw
    have hw : F.wt ≠ [] := fun z => by rw [z] at hm; exact absurd hm (by simp)
    obtain ⟨bs, sb, b1, b2, ⟨k, z, _⟩ | ⟨n', z, hn, wn, ec⟩⟩ := put_one sk lc cu lw hw
    · rw [z] at e; cases e
    rw [z] at e
    injection e with e1 e2
    subst e1 e2
    obtain ⟨f1, f2, f3, f4, f5⟩ := asksS_facts D bs
    obtain ⟨s1, s2⟩ := sb.size lc ls bs.length
    rw [List.take_of_length_le (Nat.le_refl _)] at s1 s2
    have lw2 : (wtF F n').wt.length ≤ (wtF F n').cur := by show (F.wt.drop n').length ≤ F.cur; rw [List.length_drop]; omega
    obtain ⟨as, m, i1, i2, i3, i4, i5, i6, i7, i8, i9⟩ := ih (by rw [f2]; exact sk) s1 s2 cu lw2
    have i3 : m ≤ (F.wt.drop n').length := i3
    rw [List.length_drop] at i3
    have el : (wtF F n').wt.length = F.wt.length - n' := List.length_drop
    have ep : ptPl (wtF F n') = ptPl F + n' := by unfold ptPl; rw [el]; show F.cur - _ = _; omega
    refine ⟨bs ++ as, n' + m, by rw [i1, asksS_app], by rw [i2]; unfold wtF; rw [List.drop_drop], by omega, sb.app i4, by rw [List.length_append]; omega, fun z => ?_, ?_, fun w mm hmm => ?_, ?_⟩
    · obtain ⟨j1, j2⟩ := i6 z
      rw [el] at j1
      exact ⟨by omega, fun z => by omega⟩
    · rcases i7 with z | z
      · rw [el] at z; exact .inl (by omega)
      · exact .inr z
    · rw [notesT_app]
      refine wn w mm hmm _ _ ?_
      rw [show mm + (n' + m) = (mm + n') + m by omega, ← ep]
      exact i8 w (mm + n') (by rw [el]; omega)
    · rw [i9]
      unfold rowF
      rw [ec, ep]
      show laidF _ _ (F.wt.drop n') = _
      exact laidF_parts D.cells (ptPl F) n' F.wt hn
  | @stall F D D1 hm e =>
    intro sk lc ls cu lw
    have hw : F.wt ≠ [] := fun z => by rw [z] at hm; exact absurd hm (by simp)
    obtain ⟨bs, sb, b1, b2, ⟨k, z, _⟩ | ⟨n', z, hn, wn, ec⟩⟩ := put_one sk lc cu lw hw
    · rw [z] at e; cases e
    rw [z] at e
    injection e with e1 e2
    subst e1 e2
    refine ⟨bs, 0, rfl, rfl, Nat.zero_le _, sb, by omega, fun z => by (first | cases z | exact absurd z (by simp)), .inl (by omega), fun w m hmm => ?_, ?_⟩
    · have := wn w m hmm [] m .nil
      rw [List.append_nil] at this
      exact this
    · unfold rowF
      rw [ec, List.take_zero, laidF_nil]
  | @fault F D k D1 hm e =>
    intro sk lc ls cu lw
    have hw : F.wt ≠ [] := fun z => by rw [z] at hm; exact absurd hm (by simp)
    obtain ⟨bs, sb, b1, b2, ⟨k, z, wn, ec⟩ | ⟨n', z, _⟩⟩ := put_one sk lc cu lw hw
    · rw [z] at e
      injection e with e1 e2
      subst e1 e2
      refine ⟨bs, 0, rfl, rfl, Nat.zero_le _, sb, by omega, fun z => by (first | cases z | exact absurd z (by simp)), .inl (by omega), fun w m hmm => ?_, ?_⟩
      · have := wn w m hmm [] m .nil
        rw [List.append_nil] at this
        exact this
      · unfold rowF
        rw [ec]
    · rw [z] at e; cases e
end Sip
/-! promises of the writing calls upon a device without troubles -/
namespace Sip
open PySem PySem.Spec PyProof.Rows L2 TL
structure PdOk (F : Fst) (D : Dst) : Prop where
  dok : DOk D
  sk : D.seek = true
  ns : D.ns.length + 2 * F.wt.length ≤ 7900000
  cl : D.cells.length ≤ 4000
  cu : F.cur ≤ 4000
  lw : F.wt.length ≤ F.cur
theorem PosP.put {D : Dst} (h : PosP D) {ds : List Int} (hd : ds ≠ []) : putN D ds ≠ 0 := by
  have := h.may (n := ds.length) (by cases ds with | nil => exact absurd rfl hd | cons x xs => show 1 ≤ xs.length + 1; omega)
  unfold putN
  omega
/-- one turn of putting down -/
theorem PdOk.turn {F : Fst} {D : Dst} {n : Nat} (h : PdOk F D) (pos : PosP D) (hw : F.wt ≠ []) : leadB D (ptPl F) = false ∧ DOk (leadD D (ptPl F)) ∧ PosP (leadD D (ptPl F)) ∧ PutFit (leadD D (ptPl F)) F.wt ∧ putN (leadD D (ptPl F)) F.wt ≠ 0 ∧ putN (leadD D (ptPl F)) F.wt ≤ F.wt.length ∧
    putP F D = .came (putN (leadD D (ptPl F)) F.wt) (putS (leadD D (ptPl F)) F.wt) ∧ PdOk (wtF F (putN (leadD D (ptPl F)) F.wt)) (putS (leadD D (ptPl F)) F.wt) ∧ PosP (putS (leadD D (ptPl F)) F.wt) := by
  have hl := h.lw
  have hc := h.cu
  have hp : ptPl F + F.wt.length = F.cur := by unfold ptPl; omega
  have hb : leadB D (ptPl F) = false := by unfold leadB; rw [pos.bad]; simp
  obtain ⟨l1, l2, l3, l4, l5, _⟩ := leadD_facts D (ptPl F)
  have hs := lead_spot h.sk hb
  have hns := h.ns
  have dl := leadD_ok (p := ptPl F) h.dok (by omega)
  have pl : PosP (leadD D (ptPl F)) := by unfold PosP; rw [l2]; exact pos
  have n0 := pl.put hw
  have nl := putN_le (leadD D (ptPl F)) F.wt
  have good := good_of pl.bad
  have eD : doneS (leadD D (ptPl F)) (.put F.wt) = putS (leadD D (ptPl F)) F.wt := (told_good (a := .put F.wt) good).2
  have hcl := h.cl
  refine ⟨hb, dl, pl, ⟨fun _ => ⟨by rw [l1]; exact h.cl, by rw [hs]; omega⟩, by rw [l1]; omega, by rw [hs]; omega, by omega⟩, n0, nl, ?_, ?_, by rw [← eD]; exact pl.done _⟩
  · unfold putP
    rw [if_neg (by rw [hb]; simp), if_neg (by rw [pl.bad]; simp), eD]
  · obtain ⟨u1, u2, u3, u4, u5⟩ := doneS_used (leadD D (ptPl F)) (.put F.wt)
    rw [eD] at u1 u2 u3 u4 u5
    have du := used_done (a := .put F.wt) dl.ok (by omega)
    rw [eD] at du
    obtain ⟨c1, _, _⟩ := good_put1 n0
    have c1 : (putS (leadD D (ptPl F)) F.wt).cells = _ := c1
    refine ⟨⟨du, by rw [u4]; exact dl.br⟩, by rw [u3, l3]; exact h.sk, ?_, ?_, h.cu, ?_⟩
    · rw [u5, List.length_append]
      show _ + 1 + 2 * (F.wt.drop _).length ≤ _
      rw [List.length_drop]; omega
    · rw [c1, l1, hs]
      exact laidF_le ⟨h.cl, by rw [List.length_take]; omega⟩
    · show (F.wt.drop _).length ≤ F.cur
      rw [List.length_drop]; omega
def spFPdN (CF CD : Addr) : Sp := fun vs H Q _ => ∃ (f d : Addr) (F : Fst) (D : Dst) (most : Nat) (R : List Ch), vs = [.ref f, .int most] ∧ Sat H (filC CF f d F :: devC CD d D :: R) ∧ PdOk F D ∧ PosP D ∧
  ∀ F' D', PdL most F D F' D' .ok → ∀ H', Sat H' (filC CF f d F' :: devC CD d D' :: R) → Q .non H'
def spFBegN (CF CD : Addr) : Sp := fun vs H Q _ => ∃ (f d : Addr) (F : Fst) (D : Dst) (R : List Ch), vs = [.ref f] ∧ Sat H (filC CF f d F :: devC CD d D :: R) ∧ PdOk F D ∧ PosP D ∧
  ∀ F' D', PdL 0 F D F' D' .ok → ∀ H', Sat H' (filC CF f d (begF F' D') :: devC CD d D' :: R) → Q .non H'
def spFFlushN (CF CD : Addr) : Sp := fun vs H Q _ => ∃ (f d : Addr) (F : Fst) (D : Dst) (R : List Ch), vs = [.ref f] ∧ Sat H (filC CF f d F :: devC CD d D :: R) ∧ F.fin = false ∧ PdOk F D ∧ PosP D ∧
  ∀ F' D', PdL 0 F D F' D' .ok → ∀ H', Sat H' (filC CF f d F' :: devC CD d D' :: R) → Q .non H'
def spFReadN (CF CD C : Addr) : Sp := fun vs H Q E => ∃ (f d : Addr) (F : Fst) (D : Dst) (many : Option Nat) (R : List Ch), vs = [.ref f, cntV many] ∧ Sat H (filC CF f d F :: devC CD d D :: R) ∧ F.fin = false ∧ F.rd = true ∧ PdOk F D ∧ PosP D ∧ (∀ n, many = some n → n ≤ 1000000000) ∧
  (∀ F1 D1, PdL 0 F D F1 D1 .ok → RdOk F1 D1) ∧
  (many = some 0 → ∀ (H' : Hp) (q : Addr), Sat H' (.pt q (.lst []) :: filC CF f d F :: devC CD d D :: R) → Q (.ref q) H') ∧
  (many ≠ some 0 → ∀ F1 D1, PdL 0 F D F1 D1 .ok → ∀ F' D' r, RdL many (begF F1 D1) D1 F' D' r → TellR CF CD C Q E f d R F' D' r)
def spFSeekN (CF CD : Addr) : Sp := fun vs H Q _ => ∃ (f d : Addr) (F : Fst) (D : Dst) (pl : Int) (st : Str) (g : Nat) (R : List Ch), vs = [.ref f, .int pl, .str st] ∧ Sat H (filC CF f d F :: devC CD d D :: R) ∧ F.fin = false ∧ PdOk F D ∧ PosP D ∧
  ((st = Str.ofString "head" ∧ (g : Int) = pl) ∨ (st = Str.ofString "here" ∧ (g : Int) = F.cur + pl) ∨ (st = Str.ofString "tail" ∧ (g : Int) = sizeF F D + pl)) ∧ g ≤ 4000 ∧
  (g = F.cur → ∀ H', Sat H' (filC CF f d F :: devC CD d D :: R) → Q (.int g) H') ∧
  (g ≠ F.cur → ∀ F' D', PdL 0 F D F' D' .ok → ∀ H', Sat H' (filC CF f d { F' with cur := g, kw := [] } :: devC CD d D' :: R) → Q (.int g) H')
def spFOpenW (CF : Addr) : Sp := fun vs H Q _ => ∃ (f d : Addr) (F : Fst) (R : List Ch), vs = [.ref f] ∧ Sat H (filC CF f d F :: R) ∧ F.wr = true ∧ Q .non H
def spFWriting (CF CD : Addr) : Sp := fun vs H Q _ => ∃ (f d b : Addr) (F : Fst) (D : Dst) (ds : List Int) (R : List Ch), vs = [.ref f, .ref b] ∧ Sat H (filC CF f d F :: devC CD d D :: .pt b (.lst (ds.map V.int)) :: R) ∧ Bytes ds ∧ F.fin = false ∧ F.wr = true ∧ D.seek = true ∧ (ds ≠ [] → sizeF F D ≤ 4000 ∧ F.cur + ds.length ≤ 4000) ∧
  ∀ H', Sat H' (filC CF f d F :: devC CD d D :: .pt b (.lst (ds.map V.int)) :: R) → Q .non H'
/-- the file with new bytes that wait -/
def wroteF (F : Fst) (ds : List Int) : Fst := { F with kw := [], wt := F.wt ++ ds, cur := F.cur + ds.length }
def spFWriteN (K : PySem.W.Frag) (CF CD : Addr) : Sp := fun vs H Q _ => ∃ (f d b : Addr) (F : Fst) (D : Dst) (ds : List Int) (R : List Ch), vs = [.ref f, .ref b] ∧ Sat H (filC CF f d F :: devC CD d D :: .pt b (.lst (ds.map V.int)) :: R) ∧ Bytes ds ∧ F.fin = false ∧ F.wr = true ∧ D.seek = true ∧
  (ds = [] → ∀ H', Sat H' (filC CF f d F :: devC CD d D :: .pt b (.lst (ds.map V.int)) :: R) → Q (.int 0) H') ∧
  (ds ≠ [] → PdOk (wroteF F ds) D ∧ PosP D ∧ ∀ F' D', PdL F.room (wroteF F ds) D F' D' .ok → ∀ H', Sat H' (filC CF f d F' :: devC CD d D' :: .pt b (.lst (ds.map V.int)) :: R) → Q (.int ds.length) H')
theorem PdL.keep {most : Nat} {F F' : Fst} {D D' : Dst} {r : PR} (h : PdL most F D F' D' r) : PdOk F D → PosP D → PdOk F' D' ∧ PosP D' ∧ r = .ok := by
  induction h with
  | @done F D hm => exact fun a b => ⟨a, b, rfl⟩
  | @more F D n D1 F2 D2 r hm e h0 _ ih =>
    intro a b
    obtain ⟨_, _, _, _, _, _, ep, ok2, pos2⟩ := a.turn (n := 0) b (fun z => by rw [z] at hm; exact absurd hm (by simp))
    rw [ep] at e
    injection e with e1 e2
    subst e1 e2
    exact ih ok2 pos2
  | @stall F D D1 hm e =>
    intro a b
    obtain ⟨_, _, _, _, n0, _, ep, _, _⟩ := a.turn (n := 0) b (fun z => by rw [z] at hm; exact absurd hm (by simp))
    rw [ep] at e
    injection e with e1 e2
    exact absurd e1 n0
  | @fault F D k D1 hm e =>
    intro a b
    obtain ⟨_, _, _, _, n0, _, ep, _, _⟩ := a.turn (n := 0) b (fun z => by rw [z] at hm; exact absurd hm (by simp))
    rw [ep] at e; cases e
def cutG (F : Fst) : Option Nat → Nat
  | none => F.cur
  | some n => n
def spFCutN (CF CD : Addr) : Sp := fun vs H Q _ => ∃ (f d : Addr) (F : Fst) (D : Dst) (k : Option Nat) (R : List Ch), vs = [.ref f, cntV k] ∧ Sat H (filC CF f d F :: devC CD d D :: R) ∧ F.fin = false ∧ F.wr = true ∧ PdOk F D ∧ PosP D ∧ cutG F k ≤ 4000 ∧
  ∀ F' D', PdL 0 F D F' D' .ok → ∀ H', Sat H' (filC CF f d { F' with kw := [] } :: devC CD d (doneS D' (.cut (cutG F k))) :: R) → Q .non H'
def spFPeekN (CF CD C : Addr) : Sp := fun vs H Q E => ∃ (f d : Addr) (F : Fst) (D : Dst) (k : Option Nat) (R : List Ch), vs = [.ref f, cntV k] ∧ Sat H (filC CF f d F :: devC CD d D :: R) ∧ F.fin = false ∧ F.rd = true ∧ PdOk F D ∧ PosP D ∧ (∀ n, k = some n → n ≤ 1000000000) ∧
  (∀ F1 D1, PdL 0 F D F1 D1 .ok → RdOk F1 D1) ∧
  (k = some 0 → ∀ (H' : Hp) (q : Addr), Sat H' (.pt q (.lst []) :: filC CF f d F :: devC CD d D :: R) → Q (.ref q) H') ∧
  (k ≠ some 0 → ∀ F1 D1, PdL 0 F D F1 D1 .ok → ∀ F' D' r, PkL k (begF F1 D1) D1 F' D' r → TellR CF CD C Q E f d R F' D' r)
end Sip
/-! what stands between the calls of a file that writes, without troubles -/
namespace Sip
open PySem PySem.Spec PyProof.Rows L2 TL
structure WrI (i : Nat) (row : List Int) (c : Nat) (F : Fst) (D : Dst) : Prop where
  rw_ : rowF F D = row
  lr : row.length ≤ 50 + 30 * i
  lc : c ≤ 60 + 30 * i
  uo : UsedOk D
  pos : PosP D
  pl : D.plan.length ≤ 400
  sk : D.seek = true
  br : D.bar = false
  ns : D.ns.length ≤ 10000 * i
  sp : D.spot ≤ 4000
  cu : F.cur = c
  lw : F.wt.length ≤ F.cur
  lm : F.wt.length ≤ F.room
  fin : F.fin = false
  wr : F.wr = true
  r1 : 1 ≤ F.room
  r2 : F.room ≤ 64
  kw0 : F.wt ≠ [] → F.kw = []
  kf : KnF F D.cells
theorem rowF_nil {F : Fst} {D : Dst} (h : F.wt = []) : rowF F D = D.cells := by unfold rowF; rw [h, laidF_nil]
theorem rowF_len {F : Fst} {D : Dst} (lw : F.wt.length ≤ F.cur) : (rowF F D).length = sizeF F D := by
  unfold sizeF
  by_cases h : F.wt = []
  · rw [if_pos h, rowF_nil h]
  · rw [if_neg h]
    unfold rowF ptPl
    rw [laidF_length h]; omega
section
variable {i : Nat} {row : List Int} {c : Nat} {F F' : Fst} {D D' : Dst}
theorem WrI.size (h : WrI i row c F D) : sizeF F D = row.length := by rw [← rowF_len h.lw, h.rw_]
theorem WrI.cl (h : WrI i row c F D) : D.cells.length ≤ row.length := by
  have := h.size
  unfold sizeF at this
  split at this <;> omega
theorem WrI.up {j : Nat} (h : WrI i row c F D) (l : i ≤ j) : WrI j row c F D := { h with lr := by have := h.lr; omega, lc := by have := h.lc; omega, ns := by have := h.ns; omega }
theorem WrI.pd (h : WrI i row c F D) (li : i ≤ 131) : PdOk F D := by
  have h1 := h.lr
  have h2 := h.lc
  have h3 := h.cl
  have h4 := h.ns
  have h5 := h.lm
  have h6 := h.r2
  have h7 := h.cu
  have h8 := h.pl
  exact ⟨⟨⟨by rw [h.uo]; omega, by omega, by omega⟩, h.br⟩, h.sk, by omega, by omega, by omega, h.lw⟩
/-- all put down -/
theorem WrI.down (h : WrI i row c F D) (li : i ≤ 131) {most : Nat} (p : PdL most F D F' D' .ok) :
    ∃ as n, D' = asksS D as ∧ F' = wtF F n ∧ n ≤ F.wt.length ∧ Seq D as ∧ as.length ≤ 200 ∧ F.wt.length - n ≤ most ∧ (F.wt.length ≤ most → as = []) ∧ (∀ w m, w ≤ m + F.wt.length → Wr w F.wt (ptPl F) m (notesT D as) (m + n)) ∧ rowF F' D' = row ∧ D'.cells.length ≤ 4000 ∧ D'.spot ≤ 4000 := by
  have h1 := h.lr
  have h2 := h.lc
  have h3 := h.cl
  have h5 := h.lm
  have h6 := h.r2
  have h7 := h.cu
  obtain ⟨as, n, e1, e2, e3, e4, e5, e6, _, e8, e9⟩ := p.out h.sk (by omega) h.sp (by omega) h.lw
  obtain ⟨g1, g2⟩ := e4.size (by omega) h.sp as.length
  rw [List.take_of_length_le (Nat.le_refl _)] at g1 g2
  exact ⟨as, n, e1, e2, e3, e4, by omega, (e6 rfl).1, (e6 rfl).2, e8, by rw [e9, h.rw_], by rw [e1]; exact g1, by rw [e1]; exact g2⟩
/-- quiet asks -/
theorem PosP.quietS {as : List Ask} : ∀ {D : Dst}, PosP D → Seq D as → Quiet (camesT D as) := by
  have calm : ∀ {as : List Ask} {D : Dst}, PosP D → Seq D as → Calm (camesT D as) := by
    intro as
    induction as with
    | nil => intro D _ _ t h; cases h
    | cons a as ih =>
      intro D p s t h
      cases s with
      | cons f s =>
        rcases List.mem_cons.mp h with z | z
        · rw [z]
          cases a with
          | take n => exact p.calm (.inr ⟨n, rfl, f⟩)
          | go n => exact p.calm (.inl ⟨n, rfl, f⟩)
          | put ds =>
            unfold cameT
            rw [if_neg (by rw [p.bad]; simp), (good_put1 (p.put f.1)).2.2]; rfl
          | cut n => unfold cameT; rw [if_neg (by rw [p.bad]; simp)]; rfl
        · exact ih (D := doneS D a) (p.done a) s t z
  exact fun {D} p s => (calm p s).quiet0
/-- a write -/
structure WroteI (i : Nat) (row : List Int) (c : Nat) (F : Fst) (D : Dst) (ds : List Int) (F' : Fst) (as : List Ask) (n : Nat) : Prop where
  seq : Seq D as
  wt : F'.wt = (F.wt ++ ds).drop n
  nl : n ≤ F.wt.length + ds.length
  wr : Wr F.wt.length (F.wt ++ ds) (c - F.wt.length) 0 (notesT D as) n
  eno : F.wt.length + ds.length ≤ F.room → as = []
  room : F'.room = F.room
  nx : WrI (i + 1) (laidF row c ds) (c + ds.length) F' (asksS D as)
theorem WrI.wrote0 (h : WrI i row c F D) : WroteI i row c F D [] F [] 0 :=
  ⟨.nil, by rw [List.append_nil]; rfl, Nat.zero_le _, .nil, fun _ => rfl, rfl, by rw [laidF_nil]; exact h.up (Nat.le_succ i)⟩
theorem WrI.wroteOk (h : WrI i row c F D) (li : i ≤ 128) {ds : List Int} (ld : ds.length ≤ 20) : PdOk (wroteF F ds) D := by
  have p := h.pd (by omega)
  have h1 := h.lr
  have h2 := h.lc
  have h4 := h.ns
  have h5 := h.lm
  have h6 := h.r2
  have h7 := h.cu
  have h9 := h.lw
  refine ⟨p.dok, p.sk, ?_, p.cl, by show F.cur + ds.length ≤ 4000; omega, by show (F.wt ++ ds).length ≤ F.cur + ds.length; rw [List.length_append]; omega⟩
  show D.ns.length + 2 * (F.wt ++ ds).length ≤ _
  rw [List.length_append]; omega
theorem WrI.wrote (h : WrI i row c F D) (li : i ≤ 128) {ds : List Int} (hd : ds ≠ []) (ld : ds.length ≤ 20) (p : PdL F.room (wroteF F ds) D F' D' .ok) :
    ∃ as n, D' = asksS D as ∧ WroteI i row c F D ds F' as n := by
  have h1 := h.lr
  have h2 := h.lc
  have h3 := h.cl
  have h4 := h.ns
  have h5 := h.lm
  have h6 := h.r2
  have h7 := h.cu
  have h9 := h.lw
  have el : (wroteF F ds).wt.length = F.wt.length + ds.length := List.length_append
  have ec : (wroteF F ds).cur = F.cur + ds.length := rfl
  have ew : (wroteF F ds).wt = F.wt ++ ds := rfl
  have ep : ptPl (wroteF F ds) = c - F.wt.length := by unfold ptPl; rw [el, ec]; omega
  obtain ⟨as, n, e1, e2, e3, e4, e5, e6, _, e8, e9⟩ := p.out h.sk (by omega) h.sp (by rw [ec]; omega) (by rw [el, ec]; omega)
  obtain ⟨g1, g2⟩ := e4.size (by omega) h.sp as.length
  rw [List.take_of_length_le (Nat.le_refl _)] at g1 g2
  obtain ⟨f1, f2, f3, f4, f5⟩ := asksS_facts D as
  obtain ⟨q1, q2⟩ := e6 rfl
  rw [el] at e3 q1 q2
  have hrow : rowF (wroteF F ds) D = laidF row c ds := by
    unfold rowF
    rw [ep, ew, ← h.rw_]
    unfold rowF
    have := laidF_parts D.cells (ptPl F) F.wt.length (F.wt ++ ds) (by rw [List.length_append]; omega)
    rw [List.take_left, List.drop_left] at this
    rw [show c - F.wt.length = ptPl F by unfold ptPl; omega, ← this]
    congr 1
    unfold ptPl; omega
  have lrow : (laidF row c ds).length = max row.length (c + ds.length) := laidF_length hd
  have w8 := e8 F.wt.length 0 (by rw [el]; omega)
  rw [ep, ew, Nat.zero_add] at w8
  refine ⟨as, n, e1, e4, by rw [e2]; rfl, e3, w8, q2, by rw [e2]; rfl, ?_⟩
  have ew2 : F'.wt = (F.wt ++ ds).drop n := by rw [e2]; rfl
  have el2 : F'.wt.length = F.wt.length + ds.length - n := by rw [ew2, List.length_drop, List.length_append]
  have ec2 : F'.cur = F.cur + ds.length := by rw [e2]; rfl
  have er2 : F'.room = F.room := by rw [e2]; rfl
  have ek2 : F'.kw = [] := by rw [e2]; rfl
  refine ⟨by rw [← e1, e9, hrow], by rw [lrow]; omega, by omega, f5 h.uo, h.pos.asks as, by rw [f1]; exact h.pl, by rw [f2]; exact h.sk, by rw [f3]; exact h.br, by rw [f4]; omega, g2, by rw [ec2, h7], by rw [el2, ec2]; omega, by rw [el2, er2]; omega, by rw [e2]; exact h.fin, by rw [e2]; exact h.wr, by rw [er2]; exact h.r1, by rw [er2]; exact h.r2, fun _ => ek2, ?_⟩
  unfold KnF
  rw [ek2]
  show [] = List.take 0 _
  rw [List.take_zero]
end
/-- what a call leaves: the asks, what stands then -/
def StI (i : Nat) (row : List Int) (c : Nat) (F0 F : Fst) (D D' : Dst) : Prop := ∃ as, D' = asksS D as ∧ Seq D as ∧ WrI i row c F (asksS D as) ∧ F.room = F0.room ∧ F.rd = F0.rd
section
variable {i : Nat} {row : List Int} {c : Nat} {F F' F1 : Fst} {D D' D1 : Dst}
theorem WrI.st (h : WrI i row c F D) : StI i row c F F D D := ⟨[], rfl, .nil, h, rfl, rfl⟩
theorem down0 (h : WrI i row c F D) (li : i ≤ 131) (p : PdL 0 F D F1 D1 .ok) : F1.wt = [] ∧ D1.cells = row ∧ F1.cur = c ∧ F1.kw = F.kw ∧ F1.room = F.room ∧ F1.rd = F.rd ∧ F1.fin = false ∧ F1.wr = true ∧ F1.seen = F.seen ∧ StI (i + 1) row c F F1 D D1 := by
  obtain ⟨as, n, e1, e2, e3, e4, e5, e6, e7_, e8, e9, g1, g2⟩ := h.down li p
  have ew : F1.wt = F.wt.drop n := by rw [e2]; rfl
  have e0 : F1.wt = [] := by rw [ew]; exact List.drop_of_length_le (by omega)
  have er : D1.cells = row := by rw [← rowF_nil e0]; exact e9
  obtain ⟨f1, f2, f3, f4, f5⟩ := asksS_facts D as
  have hns := h.ns
  have h1 := h.lr
  have h2 := h.lc
  have kn : KnF F1 D1.cells := by
    by_cases hw : F.wt = []
    · have ea : as = [] := (by first | exact e7_ (by rw [hw]; exact Nat.le_refl _))
      rw [e1, ea]
      have : F1 = F := by rw [e2]; unfold wtF; rw [hw, List.drop_nil]; cases F; simp_all
      rw [this]; exact h.kf
    · have k0 := h.kw0 hw
      unfold KnF
      rw [show F1.kw = [] by rw [e2]; exact k0]
      show [] = List.take 0 _
      rw [List.take_zero]
  refine ⟨e0, er, by rw [e2]; exact h.cu, by rw [e2]; rfl, by rw [e2]; rfl, by rw [e2]; rfl, by rw [e2]; exact h.fin, by rw [e2]; exact h.wr, by rw [e2]; rfl, as, e1, e4, ?_, by rw [e2]; rfl, by rw [e2]; rfl⟩
  refine ⟨by rw [← e1]; exact e9, by omega, by omega, f5 h.uo, h.pos.asks as, by rw [f1]; exact h.pl, by rw [f2]; exact h.sk, by rw [f3]; exact h.br, by rw [f4]; omega, by rw [← e1]; exact g2, by rw [e2]; exact h.cu, by rw [e0]; exact Nat.zero_le _, by rw [e0]; exact Nat.zero_le _, by rw [e2]; exact h.fin, by rw [e2]; exact h.wr, by rw [e2]; exact h.r1, by rw [e2]; exact h.r2, fun z => absurd e0 z, by rw [← e1]; exact kn⟩
theorem WrI.seekI (h : WrI i row c F D) (li : i ≤ 130) {g : Nat} (hg : g ≤ row.length + 9) (p : PdL 0 F D F1 D1 .ok) : StI (i + 1) row g F { F1 with cur := g, kw := [] } D D1 := by
  obtain ⟨e0, er, _, _, e3, e4, _, _, _, as, e1, sq, w, _, _⟩ := down0 h (by omega) p
  have h1 := w.lr
  have h0 := h.lr
  refine ⟨as, e1, sq, { w with rw_ := ?_, lc := by omega, cu := rfl, lw := ?_, kw0 := fun _ => rfl, kf := ?_ }, e3, e4⟩
  · rw [← e1]; rw [rowF_nil (F := { F1 with cur := g, kw := [] }) e0]; exact er
  · show F1.wt.length ≤ g; rw [e0]; exact Nat.zero_le _
  · show [] = List.take 0 _; rw [List.take_zero]
theorem WrI.cutI (h : WrI i row c F D) (li : i ≤ 130) {g : Nat} (hg : g ≤ 4000) (p : PdL 0 F D F1 D1 .ok) : StI (i + 1) (row.take g) c F { F1 with kw := [] } D (doneS D1 (.cut g)) := by
  obtain ⟨e0, er, _, _, e3, e4, _, _, _, as, e1, sq, w, _, _⟩ := down0 h (by omega) p
  obtain ⟨f1, f2, f3, f4, f5⟩ := asksS_facts D (as ++ [.cut g])
  have eD : doneS D1 (.cut g) = asksS D (as ++ [.cut g]) := by rw [asksS_snoc, ← e1]
  have pos1 : PosP D1 := by rw [e1]; exact w.pos
  have ec : (doneS D1 (.cut g)).cells = row.take g := by
    rw [show doneS D1 (.cut g) = goodS D1 (.cut g) from if_neg (by rw [pos1.bad]; simp)]
    rw [(good_cut).1, er]
  have es : (doneS D1 (.cut g)).spot = D1.spot := by
    rw [show doneS D1 (.cut g) = goodS D1 (.cut g) from if_neg (by rw [pos1.bad]; simp)]
    exact (good_cut).2.1
  have h1 := w.lr
  have hns := h.ns
  have hnl : (asksS D (as ++ [.cut g])).ns.length ≤ 10000 * (i + 1) := by
    obtain ⟨_, _, _, _, _, _, q5, _⟩ := h.down (by omega) p
    obtain ⟨as2, n2, z1, _, _, _, z5, _⟩ := h.down (by omega) p
    have := congrArg (fun x : Dst => x.ns.length) (e1.symm.trans z1)
    have : (asksS D as).ns.length = (asksS D as2).ns.length := this
    rw [(asksS_facts D as).2.2.2.1, (asksS_facts D as2).2.2.2.1] at this
    rw [f4, List.length_append]
    show _ + (_ + 1) ≤ _
    omega
  have hsp := w.sp
  rw [← e1] at hsp
  refine ⟨as ++ [.cut g], eD, sq.app (.one (show FitA (asksS D as) (.cut g) from hg)), ⟨?_, by rw [List.length_take]; omega, w.lc, f5 h.uo, h.pos.asks _, by rw [f1]; exact h.pl, by rw [f2]; exact h.sk, by rw [f3]; exact h.br, hnl, by rw [← eD, es]; exact hsp, w.cu, w.lw, w.lm, w.fin, w.wr, w.r1, w.r2, fun _ => rfl, ?_⟩, e3, e4⟩
  · rw [← eD, rowF_nil (F := { F1 with kw := [] }) e0]; exact ec
  · show [] = List.take 0 _; rw [List.take_zero]
/-- ahead of a reading -/
theorem WrI.rdOk (h : WrI i row c F D) (li : i ≤ 130) (hr : F.rd = true) (p : PdL 0 F D F1 D1 .ok) : RdOk F1 D1 := by
  obtain ⟨e0, er, _, _, _, e4, e5, _, _, as, e1, sq, w, _, _⟩ := down0 h (by omega) p
  have pk := w.pd (by omega)
  have k := w.kf.len
  have h1 := w.lr
  have h2 := w.lc
  have h3 := w.cu
  have h4 := w.ns
  have h5 := w.cl
  rw [← e1] at pk k h4 h5
  exact ⟨e5, by rw [e4]; exact hr, e0, w.r1, pk.dok, pk.sk, by omega, pk.cl, by rw [er] at k; omega⟩
theorem WrI.told (h : WrI i row c F D) (li : i ≤ 130) (e0 : F.wt = []) (er : D.cells = row) {as : List Ask} {m : Nat} (gt : ∀ a ∈ as, GT a) (la : as.length ≤ 9000) (hm : m ≤ row.length - c) (kp : Kept F F') (kf : KnF F' D.cells) (cu : F'.cur = c + m) : WrI (i + 1) row (c + m) F' (asksS D as) := by
  have h1 := h.lr
  have h2 := h.lc
  have h3 := h.cl
  obtain ⟨f1, f2, f3, f4, f5⟩ := asksS_facts D as
  obtain ⟨g1, g2⟩ := gt_facts (D := D) gt (by rw [er]; omega) h.sp
  have hns := h.ns
  have e0' : F'.wt = [] := by rw [kp.wt]; exact e0
  refine ⟨by rw [rowF_nil e0', g1]; exact er, by omega, by omega, f5 h.uo, h.pos.asks as, by rw [f1]; exact h.pl, by rw [f2]; exact h.sk, by rw [f3]; exact h.br, by rw [f4]; omega, g2, cu, by rw [e0']; exact Nat.zero_le _, by rw [e0']; exact Nat.zero_le _, by rw [kp.fin]; exact h.fin, by rw [kp.wr]; exact h.wr, by rw [kp.room]; exact h.r1, by rw [kp.room]; exact h.r2, fun z => absurd e0' z, by rw [g1]; exact kf⟩
theorem WrI.readI {many : Option Nat} (h : WrI i row c F D) (li : i ≤ 128) (hm : ∀ n, many = some n → n ≤ 1000000000) (p : PdL 0 F D F1 D1 .ok) {r : RR} (rl : RdL many (begF F1 D1) D1 F' D' r) :
    r = .told (takeO many (row.drop c)) ∧ StI (i + 2) row (c + (takeO many (row.drop c)).length) F F' D D' := by
  obtain ⟨e0, er, ec, _, e3, e4, e5, _, _, as, e1, sq, w, _, _⟩ := down0 h (by omega) p
  rw [← e1] at w
  have kb := Kept.beg F1 D1
  have ecb : (begF F1 D1).cur = c := by unfold begF; split <;> exact ec
  have h1 := w.lr
  have h2 := w.lc
  obtain ⟨q1, q2, q3, q4, bs, q5, q6, q7⟩ := rl.pos hm w.pos w.sk (by rw [er]; omega) w.kf.beg (by rw [kb.room]; exact w.r1) (by rw [kb.room]; exact w.r2) (by omega)
  rw [er, ecb] at q1 q2
  have lt : (takeO many (row.drop c)).length ≤ row.length - c := by
    have := takeO_len many (row.drop c)
    rw [List.length_drop] at this
    exact this
  have w2 := w.told (by omega) e0 er q6 (by omega) lt (kb.trans q4) q3 q2
  refine ⟨q1, as ++ bs, by rw [q5, e1, asksS_app], sq.app (.gt q6), by rw [asksS_app, ← e1]; exact w2, by rw [(kb.trans q4).room]; exact e3, by rw [(kb.trans q4).rd]; exact e4⟩
theorem WrI.peekI {k : Option Nat} (h : WrI i row c F D) (li : i ≤ 128) (hm : ∀ n, k = some n → n ≤ 1000000000) (h0 : k ≠ some 0) (p : PdL 0 F D F1 D1 .ok) {r : RR} (pl : PkL k (begF F1 D1) D1 F' D' r) :
    ∃ xs, r = .told xs ∧ xs = (takeO k (row.drop c)).take xs.length ∧ (xs = [] → takeO k (row.drop c) = []) ∧ StI (i + 2) row c F F' D D' := by
  obtain ⟨e0, er, ec, _, e3, e4, e5, _, _, as, e1, sq, w, _, _⟩ := down0 h (by omega) p
  rw [← e1] at w
  have kb := Kept.beg F1 D1
  have ecb : (begF F1 D1).cur = c := by unfold begF; split <;> exact ec
  have h1 := w.lr
  have h2 := w.lc
  have sn : (begF F1 D1).kw = [] ∨ (begF F1 D1).seen = D1.cells.length := by
    unfold begF
    by_cases z : D1.seek = true ∧ D1.cells.length ≠ F1.seen
    · rw [if_pos z]; exact .inl rfl
    · rw [if_neg z]
      exact .inr (Classical.byContradiction fun y => z ⟨w.sk, fun x => y x.symm⟩)
  obtain ⟨bs, q1, q2, q3, q4, _, _⟩ := pl.out hm h0 w.uo w.sk (by rw [er]; omega) w.kf.beg (by rw [kb.room]; exact w.r1) (by rw [kb.room]; exact w.r2) (by omega) sn
  have calm : ∀ (s : Str), Tg.s s ∉ camesT D1 bs := by
    have : ∀ (bs : List Ask) (D : Dst), PosP D → (∀ a ∈ bs, GT a) → ∀ (s : Str), Tg.s s ∉ camesT D bs := by
      intro bs
      induction bs with
      | nil => intro D _ _ s z; cases z
      | cons a bs ih =>
        intro D pp g s z
        rcases List.mem_cons.mp z with z | z
        · have := pp.calm (g a List.mem_cons_self)
          rw [← z] at this; cases this
        · exact ih (doneS D a) (pp.done a) (fun b hb => g b (List.mem_cons_of_mem _ hb)) s z
    exact this bs D1 w.pos q2.gt
  rw [er, ecb] at q3
  have hla := q2.la
  have w2 := w.told (m := 0) (by omega) e0 er q2.gt (by omega) (Nat.zero_le _) (kb.trans q2.kp) q2.kf (by rw [q4, ecb]; rfl)
  have st : StI (i + 2) row c F F' D D' := ⟨as ++ bs, by rw [q1, e1, asksS_app], sq.app (.gt q2.gt), by rw [asksS_app, ← e1]; exact w2, by rw [(kb.trans q2.kp).room]; exact e3, by rw [(kb.trans q2.kp).rd]; exact e4⟩
  cases q3 with
  | told a b x => exact ⟨_, rfl, b, fun z => (x z).1, st⟩
  | some a => exact absurd (by rw [a]; simp) (calm sStall)
  | none a => exact absurd (by rw [a]; simp) (calm sStall)
  | fault a => exact absurd (by rw [a]; simp) (calm sFault)
end
/-! the law's own state -/
def sW (rw : Addr) (c sp : Nat) (b : Bool) : List (Key × V) := [(Sum.inr (Str.ofString "row"), .ref rw), (Sum.inr (Str.ofString "cursor"), .int c), (Sum.inr (Str.ofString "room"), .int sp), (Sum.inr (Str.ofString "reads"), .bl b)]
section
variable {H : Hp}
theorem sW_row (rw : Addr) (c sp : Nat) (b : Bool) : valV (sW rw c sp b) (Sum.inr (Str.ofString "row")) = some (.ref rw) := by unfold sW; kernel_rfl
theorem sW_cursor (rw : Addr) (c sp : Nat) (b : Bool) : valV (sW rw c sp b) (Sum.inr (Str.ofString "cursor")) = some (.int c) := by unfold sW; kernel_rfl
theorem sW_room (rw : Addr) (c sp : Nat) (b : Bool) : valV (sW rw c sp b) (Sum.inr (Str.ofString "room")) = some (.int sp) := by unfold sW; kernel_rfl
theorem sW_reads (rw : Addr) (c sp : Nat) (b : Bool) : valV (sW rw c sp b) (Sum.inr (Str.ofString "reads")) = some (.bl b) := by unfold sW; kernel_rfl
theorem sW_prow (rw r : Addr) (c sp : Nat) (b : Bool) : putK (sW rw c sp b) (Sum.inr (Str.ofString "row")) (.ref r) = sW r c sp b := by unfold sW; kernel_rfl
theorem sW_pcursor (rw : Addr) (c sp x : Nat) (b : Bool) : putK (sW rw c sp b) (Sum.inr (Str.ofString "cursor")) (.int x) = sW rw x sp b := by unfold sW; kernel_rfl
theorem wget {m rw : Addr} {c sp : Nat} {b : Bool} {k : Str} {v : V} (e : H m = some (.dK (sW rw c sp b))) (g : valV (sW rw c sp b) (Sum.inr k) = some v) : DGet H m (.str k) (some v) := by
  rw [← g]; exact DGet.k (k := Sum.inr k) e
theorem wput {m rw : Addr} {c sp : Nat} {b : Bool} {k : Str} {v : V} {kvs : List (Key × V)} (e : H m = some (.dK (sW rw c sp b))) (g : putK (sW rw c sp b) (Sum.inr k) v = kvs) : DPut H m (.str k) v (upd H m (.dK kvs)) := by
  rw [← g]; exact DPut.k (k := Sum.inr k) e (by show (4 : Nat) < sizeLine; rw [sizeLine_eq]; decide)
end
def spStandsM (CF CD : Addr) : Sp := fun vs H Q _ => ∃ (f d rh : Addr) (i : Nat) (row : List Int) (c : Nat) (F : Fst) (D : Dst) (R : List Ch), vs = [.ref f, .ref d, .ref rh, .int c, .int F.room] ∧ Sat H (filC CF f d F :: devC CD d D :: .pt rh (.lst (row.map V.int)) :: R) ∧ WrI i row c F D ∧ i ≤ 131 ∧
  ∀ H', Sat H' (filC CF f d F :: devC CD d D :: .pt rh (.lst (row.map V.int)) :: R) → Q (.bl true) H'
def spWRightM : Sp := fun vs H Q _ => ∃ (w da nl m : Addr) (p n : Nat) (ws ds : List Int) (vs' : List V) (ns : List Nt) (S : Dst) (M : Hp) (R : List Ch), vs = [.ref w, .ref da, .ref nl, .int p] ∧ Sat H (.pt w (.lst (ws.map V.int)) :: .pt da (.lst (ds.map V.int)) :: .pt nl (.lst vs') :: mdC m S M :: R) ∧ NtsM M vs' ns ∧ ws.length ≤ 4000 ∧ ds.length ≤ 4000 ∧ Wr ws.length (ws ++ ds) p 0 ns n ∧
  ∀ H', Sat H' (.pt w (.lst (ws.map V.int)) :: .pt da (.lst (ds.map V.int)) :: .pt nl (.lst vs') :: mdC m S M :: R) → Q (.int n) H'
def spFWriteU (K : PySem.W.Frag) (CF CD : Addr) : Sp := fun vs H Q _ => ∃ (f d b : Addr) (i : Nat) (row : List Int) (c : Nat) (F : Fst) (D : Dst) (ds : List Int) (R : List Ch), vs = [.ref f, .ref b] ∧ Sat H (filC CF f d F :: devC CD d D :: .pt b (.lst (ds.map V.int)) :: R) ∧ Bytes ds ∧ WrI i row c F D ∧ i ≤ 128 ∧ ds.length ≤ 20 ∧
  ∀ (H' : Hp) (F' : Fst) (as : List Ask) (n : Nat), Sat H' (filC CF f d F' :: devC CD d (asksS D as) :: .pt b (.lst (ds.map V.int)) :: R) → WroteI i row c F D ds F' as n → F'.rd = F.rd → Q (.int ds.length) H'
theorem PdL.rdK {most : Nat} {F F' : Fst} {D D' : Dst} {r : PR} (h : PdL most F D F' D' r) : F'.rd = F.rd := by
  induction h with
  | done => rfl
  | more _ _ _ _ ih => exact ih
  | stall => rfl
  | fault => rfl
theorem spFWriteU.to {K : PySem.W.Frag} {CF CD : Addr} {vs : List V} {H : Hp} {Q : VK} {E : XK} (h : spFWriteU K CF CD vs H Q E) : spFWriteN K CF CD vs H Q E := by
  obtain ⟨f, d, b, i, row, c, F, D, ds, R, rfl, hS, bd, w, li, ld, q⟩ := h
  refine ⟨f, d, b, F, D, ds, R, rfl, hS, bd, w.fin, w.wr, w.sk, fun e H' hS => ?_, fun e => ⟨w.wroteOk li ld, w.pos, fun F' D' pd H' hS => ?_⟩⟩
  · subst e
    exact q H' F [] 0 hS w.wrote0 rfl
  · obtain ⟨as, n, rfl, wi⟩ := w.wrote li e ld pd
    exact q H' F' as n hS wi pd.rdK
def spWrittenM (CF CD : Addr) : Sp := fun vs H Q _ => ∃ (f d m s rw da : Addr) (b : Bool) (i : Nat) (row ds : List Int) (c : Nat) (F : Fst) (D : Dst) (M : Hp) (R : List Ch), vs = [.ref f, .ref d, .ref m, .ref s, .ref da] ∧
  Sat H (filC CF f d F :: devC CD d D :: mdC m D M :: .pt s (.dK (sW rw c F.room b)) :: .pt rw (.lst (row.map V.int)) :: .pt da (.lst (ds.map V.int)) :: R) ∧ WrI i row c F D ∧ i ≤ 127 ∧ Bytes ds ∧ ds.length ≤ 20 ∧
  ∀ (H' : Hp) (rw' : Addr) (F' : Fst) (D' : Dst) (M' : Hp), Sat H' (filC CF f d F' :: devC CD d D' :: mdC m D' M' :: .pt s (.dK (sW rw' (c + ds.length) F.room b)) :: .pt rw' (.lst ((laidF row c ds).map V.int)) :: R) → F'.room = F.room → F'.rd = F.rd → WrI (i + 1) (laidF row c ds) (c + ds.length) F' D' → Q (.bl true) H'
end Sip
/-! own errors made with keywords; made and raised where an error is handled -/
namespace Sip
open PySem PySem.HandSPX
open PySem.Builtin PySem.Builtin.ObjectAttr
section
variable {M : Model} {A : Around} {E : Value → Shared → Prop} {h : Heap} {g : Array GenState} {d : Drawn} {t : Nat} {os : OsState}
variable {nm q : Str} {C N : Addr} {bs bm bmB : List Value} {hdct : Bool} {sn : List Str} {sub : List Value} {ab : Bool} {col : Option Bool} {dd : Option Addr} {k0 k1 k2 k3 k5 : Option Value} {B newId initId : String}
theorem check_new_ownK (F : ExcBaseFacts B newId initId bmB) (hT : ∀ X : String, bm.contains (.type X) = bmB.contains (.type X)) {rest : List Value} {kw : List (Str × Value)} {Q : Unit → Shared → Prop}
    (hC : h.get? C = some (excClassObj nm q C N bs bm hdct sn sub ab col dd k0 k1 k2 k3 k5 newId)) (hq : Q () ⟨h, g, d, t, os⟩) : wpAny M A (checkBuiltinCall newId ⟨.ref C :: rest, kw⟩) Q E ⟨h, g, d, t, os⟩ := by
  have hcont : (Value.ref C :: bm).contains (.type B) = true := by rw [List.contains_cons, hT, F.hasB, Bool.or_true]
  have hstar := F.noStar
  simp only [checkBuiltinCall, F.newKind, F.newSplit, F.newRow]
  repeat (first | refine wpAny_loadPart_at hC ?_ | (refine wpAny_isSubtype_exc hC ?_; rw [hcont]) | refine wpAny_staticBase_exc hC ?_ | refine wpAny_madeBy_exc hC ?_ | simp only [bne_self_eq_false, Bool.false_eq_true, if_false] | wp_step)
  exact hq
end
section
variable {prog : Program} {w : World} {A : Around} {E : Value → Shared → Prop} {R : Result → Shared → Prop} {h : Heap} {g : Array GenState} {d : Drawn} {t : Nat} {os : OsState}
variable {nm q : Str} {C N : Addr} {bs bm bmB : List Value} {hdct : Bool} {sn : List Str} {sub : List Value} {ab : Bool} {col : Option Bool} {dd : Option Addr} {k0 k1 k2 k3 k5 : Option Value} {B newId initId : String}
theorem new_ownK (F : ExcBaseFacts B newId initId bmB) (hT : ∀ X : String, bm.contains (.type X) = bmB.contains (.type X)) {rest : List Value} {kw : List (Str × Value)}
    (hC : h.get? C = some (excClassObj nm q C N bs bm hdct sn sub ab col dd k0 k1 k2 k3 k5 newId))
    (hq : R (.ok (.ret (.ref (h.objs.size + 1)))) ⟨(h.push { cls := .type "tuple", data := .seq rest.toArray }).push
      { cls := .ref C, data := .fields #[.ref h.objs.size, .none, .none, .none, .bool false, .none] }, g, d, t, os⟩) (hrest : rest.length ≤ sizeLine) :
    codeAny (model prog w) A (.builtin newId ⟨.ref C :: rest, kw⟩) R ⟨h, g, d, t, os⟩ := by
  have hends := F.ends
  have hcB : (Value.ref C :: bm).contains (.type B) = true := by rw [List.contains_cons, hT, F.hasB, Bool.or_true]
  have hcA : (Value.ref C :: bm).contains (.type "AttributeError") = false := by rw [List.contains_cons, hT, F.noAttr]; rfl
  have hcN : (Value.ref C :: bm).contains (.type "NameError") = false := by rw [List.contains_cons, hT, F.noName]; rfl
  refine codeAny_builtinAt F.entry ?_
  unfold Builtin.«BaseException.__new__»
  refine wpAt_bind ?_
  show wpAt _ _ _ (stack >>= _) _ _ _
  refine wpAt_bind (wpAt_stack fun p below => wpAt_of_wpAny ?_)
  wp_walk
  refine wpAt_of_wpAny ?_
  rw [F.owner]
  repeat (first | with_reducible refine wpAny_madeHere_exc F.canon hC ?_ | with_reducible refine wpAny_loadPart_at hC ?_ | (with_reducible refine wpAny_isSubtype_exc hC ?_; first | rw [hcB] | rw [hcA] | rw [hcN]) | wp_step)
  show R _ _
  rw [Heap.size_push]
  exact hq
theorem type_call_ownK (F : ExcBaseFacts B newId initId bmB) (hT : ∀ X : String, bm.contains (.type X) = bmB.contains (.type X)) {rest : List Value} {kw : List (Str × Value)} {fI : Addr} {Q : Fin → Shared → Prop}
    (hC : h.get? C = some (excClassObj nm q C N bs bm hdct sn sub ab col dd k0 k1 k2 k3 k5 newId))
    (hi : W.Looks (model prog w) h (typeLookup (.ref C) "__init__") (some (.ref fI))) (hb : ∀ self, W.Looks (model prog w) h (bindSpecial (.ref fI) self) (.ref fI, [self])) (hrest : rest.length ≤ sizeLine)
    (hq : codeAny (model prog w) A (.call (.ref fI) ⟨.ref (h.objs.size + 1) :: rest, kw⟩)
      (fun r s' => match r with | .ok (.ret v) => v = .none ∧ Q (.done (.ret (.ref (h.objs.size + 1)))) s' | .ok _ => False | .error e => E e s')
      ⟨(h.push (W.kdv_tup rest)).push (excO C h.objs.size), g, d, t, os⟩) :
    wpAny (model prog w) A (Builtin.«type.__call__» ⟨.ref C :: rest, kw⟩) Q E ⟨h, g, d, t, os⟩ := by
  repeat (first | with_reducible refine wpAny_loadPart_at hC ?_ | with_reducible refine wpAny_madeBy_exc hC ?_ | wp_step)
  refine codeAny_call_builtin_code (Code.quiet_builtin _ F.quiet) (check_new_ownK F hT hC ?_)
  refine new_ownK F hT hC ?_ hrest
  show wpAny _ _ _ _ _ _
  have k : ∀ b o, h.get? b = some o → ((h.push (W.kdv_tup rest)).push (excO C h.objs.size)).get? b = some o := fun b o e => Heap.get?_push_of_some _ (Heap.get?_push_of_some _ e)
  have hC₁ := k _ _ hC
  have hget : ((h.push (W.kdv_tup rest)).push (excO C h.objs.size)).get? (h.objs.size + 1) = some (excO C h.objs.size) := by heap_get
  have hcC : (Value.ref C :: bm).contains (.ref C) = true := by simp
  have i1 := hi.keeps k
  have b1 := (hb (.ref (h.objs.size + 1))).keeps k
  unfold isInstance
  repeat (first | with_reducible refine wpAny_loadPart_at hget ?_ | (with_reducible refine wpAny_isSubtype_exc hC₁ ?_; rw [hcC]) | wp_step)
  show wpAny _ _ (typeLookup (.ref C) _) _ _ _
  refine i1.at ?_
  refine wpAny_holding (wpAny_bind (b1.at ?_))
  refine wpAny_bind (wpAny_call (codeAny_mono hq fun r s' z => ?_))
  rcases r with e | (v | _ | _ | _) <;> first | exact z | exact z.elim | skip
  obtain ⟨rfl, z⟩ := z
  first
    | exact wpAny_pure (wpAny_pure z)
    | (wp_walk; exact z)
theorem call_ownK (F : ExcBaseFacts B newId initId bmB) (hT : ∀ X : String, bm.contains (.type X) = bmB.contains (.type X)) {rest : List Value} {kw : List (Str × Value)} {fI : Addr}
    (hC : h.get? C = some (excClassObj nm q C N bs bm hdct sn sub ab col dd k0 k1 k2 k3 k5 newId))
    (hi : W.Looks (model prog w) h (typeLookup (.ref C) "__init__") (some (.ref fI))) (hb : ∀ self, W.Looks (model prog w) h (bindSpecial (.ref fI) self) (.ref fI, [self])) (hrest : rest.length ≤ sizeLine)
    (hq : codeAny (model prog w) (A.under (.builtin "type.__call__" ⟨.ref C :: rest, kw⟩)) (.call (.ref fI) ⟨.ref (h.objs.size + 1) :: rest, kw⟩) (W.InitBack (h.objs.size + 1) R)
      ⟨(h.push (W.kdv_tup rest)).push (excO C h.objs.size), g, d, t, os⟩) :
    codeAny (model prog w) A (.call (.ref C) ⟨rest, kw⟩) R ⟨h, g, d, t, os⟩ := by
  have f1 := tc_lookup
  have f2 := tc_bind (.ref C)
  have hTy : (⟨h, g, d, t, os⟩ : Shared).TypeIs (.ref C) "type" := ⟨_, hC, rfl⟩
  refine codeAny_of_tree ?_
  show wpAny _ _ (callAny (.ref C) _) _ _ _
  repeat (any_goals (first | assumption | with_reducible refine wpAny_loadPart_at hC ?_ | wp_step))
  refine ⟨rfl, ?_⟩
  refine codeAny_call_builtin_at (Code.quiet_builtin _ (by decide +kernel)) entry_typeCall (wpAny_check_type_call_sub hC (type_call_ownK F hT hC hi hb hrest ?_))
  refine codeAny_mono hq fun r s' z => ?_
  rcases r with e | (v | _ | _ | _) <;> exact z
end
end Sip
namespace Sip
open PySem PySem.Spec PyProof.Rows L2 TL L2H
section
variable {X : Cx} {C fI : Addr} {k n : Nat} {fd : FuncData} {ps ks : List Str} {sp : Sp} {x : Str} {e : Expr} {es : List Expr} {kws : List Keyword} {ta tk : TA} {p pos : Pos} {ds : List Value} {dvs : List V} {g : List Value → List Value → List Value} {gV : List V → List V → List V}
/-- an own error made by an __init__ that raises nothing -/
theorem mk_coreC {pins : List (Addr × Obj)} {σ : L2.St} {H1 : Hp} {s1 : Shared} {Q : XK} {us : List Value} {kw : List (Str × Value)} {us2 : Value → List Value} {vs2 : Addr → List V} (T : OexC X.K C)
    (iC : PySem.W.findIn X.K (.ref C) "__init__" = some (some (.ref fI))) (tI : PySem.W.typeIn X.K (.ref fI) = some (.type "function")) (F1 : FnC X.prog X.w X.K X.mg X.base k fI fd ps sp) (hr : RoomH (k + 1) X.A)
    (I1 : Inv X pins σ H1 s1) (hus : us.length ≤ sizeLine) (hbd : ∀ (s : Shared) (a : Value), X.K.In s.heap → BindsTo s fd ⟨a :: us, kw⟩ (ps.zip (us2 a))) (r2 : ∀ a : Addr, Vals (vs2 a) (us2 (.ref a)))
    (hq : ∀ a, H1 a = none → sp (vs2 a) (upd H1 a (exo a C none)) (fun v H2 => v = .non ∧ ∃ (d : Addr) (fs : List (Str × V)), H2 a = some (exo a C (some d)) ∧ H2 d = some (exd d fs) ∧ H1 d = none ∧ Q (.ref C) (some d) (upd (del H2 a) d (.xd fs))) (fun _ _ _ => False)) :
    wpAny (model X.prog X.w) X.A (call (.ref C) us kw) (L2N.MkP X pins σ Q) X.xe s1 := by
  obtain ⟨nm, q, N, bs, bm, sn, sub, ab, col, dd, k0, k1, k2, k3, k5, hC, hbm⟩ := T.cls
  obtain ⟨hp, g, dr, tk, os⟩ := s1
  have hsz : hp.objs.size ≤ hp.objs.size + 1 := Nat.le_succ _
  have hn : H1 (hp.objs.size + 1) = none := I1.hok.fresh hsz
  have hq := hq (hp.objs.size + 1) hn
  have kk : ∀ b o, hp.get? b = some o → ((hp.push (PySem.W.kdv_tup us)).push (PySem.HandSPX.excO C hp.objs.size)).get? b = some o := fun b o e => Heap.get?_push_of_some _ (Heap.get?_push_of_some _ e)
  have hget : ((hp.push (PySem.W.kdv_tup us)).push (PySem.HandSPX.excO C hp.objs.size)).get? (hp.objs.size + 1) = some (PySem.HandSPX.excO C hp.objs.size) := by heap_get
  have I2 : Inv X pins σ (upd H1 (hp.objs.size + 1) (exo (hp.objs.size + 1) C none)) ⟨(hp.push (PySem.W.kdv_tup us)).push (PySem.HandSPX.excO C hp.objs.size), g, dr, tk, os⟩ :=
    I1.laid (t' := tk) (a := hp.objs.size + 1) (o := exo (hp.objs.size + 1) C none) (h' := (hp.push (PySem.W.kdv_tup us)).push (PySem.HandSPX.excO C hp.objs.size)) kk hsz (exo_ok hget)
  refine wpAny_call (call_ownK F.excBase_ValueError (fun Y => PySem.HandSPX.refsVE_contains Y bm hbm) (I1.kIn _ _ hC) (PySem.W.looks_findIn I1.kIn iC) (fun self => PySem.W.bind_fn I1.kIn self tI) hus
    (codeAny_mono (F1.run _ X.stack _ _ ⟨Value.ref (hp.objs.size + 1) :: us, kw⟩ (us2 (.ref (hp.objs.size + 1))) _ _ (fun _ _ _ => False) (hr.make C us kw) (I2.env0.make C us kw) (hbd _ _ I2.kIn) (r2 _) hq) fun r s' hq' => ?_))
  match r, hq' with
  | .ok (.ret u), hq' =>
    obtain ⟨v, H2, os2, bare2, un2, hok2, rv, ev, d, fs, ea, ed, hd1, q2⟩ := hq'
    subst ev
    obtain ⟨h2, g2, d2, t2, os'⟩ := s'
    obtain ⟨t0, G, J, kG, ge, hoe, na⟩ := mk_end0 (d2 := d2) (t2 := t2) I1 hsz kk un2 hok2 os2 bare2 ea ed hd1
    refine ⟨rv, ⟨hp.objs.size + 1, _, _, ⟨G, g2, d2, t2, os'⟩, _, .ref C, some d, rfl, J, kG, ge, hoe, ⟨rfl, rfl, fun vs hv => ?_⟩, rfl, rfl, na, rfl, bare2, raises_own T.exC T.tyC, q2⟩⟩
    cases hv
    rfl
/-- C(e, ..) -/
theorem pmk_C (T : OexC X.K C) (iC : PySem.W.findIn X.K (.ref C) "__init__" = some (some (.ref fI))) (tI : PySem.W.typeIn X.K (.ref fI) = some (.type "function")) (F1 : FnC X.prog X.w X.K X.mg X.base k fI fd ps sp) (hr : RoomH (k + 1) X.A)
    (hb : Binds X.K fd ps ds) (hd : Vals dvs ds) (hg : Gl X x) (hm : X.mg x = some (.ref C)) (ha : PA X (e :: es) ta)
    (hdb : (x == ("__debug__" : Str)) = false := by decide) (he : starEach (e :: es) X.env = (false, eval e X.env) :: starEach es X.env := by rfl) (hpl : (backTo pos (starEach es X.env)).any (·.1) = false := by rfl) :
    L2N.PMk X (.Call (.Name x p) (e :: es) [] pos) (tMkO C sp dvs ta) := by
  intro pins s σ H Q I h
  refine wpAny_Call_Name_kw (ld_glob I hg hm ?_ hdb)
  refine PySem.W.callWith_K (h₀ := X.base) I.ok.mod.kin T.kC (thn (ha.run pos pins s σ H _ I h) fun us s1 ⟨vs, H1, I1, r1, hz, q1⟩ => ⟨I1.kIn, ?_⟩) he hpl
  have hl : ∀ a : Value, (a :: us ++ ds).length = ps.length := fun a => by
    have e := F1.len _ _ _ _ (q1 (s1.heap.objs.size + 1) (I1.hok.fresh (Nat.le_succ _)))
    have l1 := Paired.length r1
    have l2 := Paired.length hd
    simp only [List.length_cons, List.length_append] at e ⊢
    omega
  show wpAny _ _ (call (.ref C) us []) _ _ _
  exact mk_coreC (us := us) (kw := []) (us2 := fun a => a :: (us ++ ds)) (vs2 := fun a => .ref a :: (vs ++ dvs)) T iC tI F1 hr I1 (by rw [← Paired.length r1, sizeLine_eq]; omega) (fun s a KX => hb s (a :: us) KX (hl a)) (fun a => .cons rfl (r1.append hd)) q1
/-- C(k = v, ..) -/
def tMkK (C : Addr) (m : Nat) (sp : Sp) (gV : List V → List V → List V) (tk : TA) : L2.St → Hp → XK → Prop := fun σ H Q => tk σ H fun zs H1 => zs.length = m ∧ ∀ a, H1 a = none → sp (gV [.ref a] zs) (upd H1 a (exo a C none))
  (fun v H2 => v = .non ∧ ∃ (d : Addr) (fs : List (Str × V)), H2 a = some (exo a C (some d)) ∧ H2 d = some (exd d fs) ∧ H1 d = none ∧ Q (.ref C) (some d) (upd (del H2 a) d (.xd fs))) (fun _ _ _ => False)
theorem pmk_CK0 (T : OexC X.K C) (iC : PySem.W.findIn X.K (.ref C) "__init__" = some (some (.ref fI))) (tI : PySem.W.typeIn X.K (.ref fI) = some (.type "function")) (F1 : FnC X.prog X.w X.K X.mg X.base k fI fd ps sp) (hr : RoomH (k + 1) X.A)
    (hb : KBn X.K fd ps 1 ks g gV) (hg : Gl X x) (hm : X.mg x = some (.ref C)) (hkw : PK X kws tk)
    (hall : (backToKw pos (keywordEach kws X.env)).all (·.1.isSome) = true := by rfl) (hks : (backToKw pos (keywordEach kws X.env)).filterMap (·.1) = ks := by rfl) (hdb : (x == ("__debug__" : Str)) = false := by decide)
    (hpl : ((backTo pos (starEach [] X.env)).any (·.1) || (backToKw pos (keywordEach kws X.env)).any (·.1.isNone)) = false := by rfl) :
    L2N.PMk X (.Call (.Name x p) [] kws pos) (tMkK C ks.length sp gV tk) := by
  intro pins s σ H Q I h
  refine wpAny_Call_Name_kw (ld_glob I hg hm ?_ hdb)
  refine PySem.W.callWith_KW0 (h₀ := X.base) I.ok.mod.kin T.kC hall ?_ hpl
  refine thn (hkw.run pos pins s σ H _ I h) fun ws s2 ⟨zs, H2, I2, rz, l2, q2⟩ => ⟨I2.kIn, ?_⟩
  rw [hks]
  exact mk_coreC (us := []) (kw := ks.zip ws) (us2 := fun a => g [a] ws) (vs2 := fun a => gV [.ref a] zs) T iC tI F1 hr I2 (Nat.zero_le _) (fun s a KX => hb.to s [a] ws KX rfl (rz.length.symm.trans l2)) (fun a => hb.rel (.cons rfl .nil) rz) q2
/-- C(e, .., k = v, ..) -/
def tMkEK (C : Addr) (n m : Nat) (sp : Sp) (gV : List V → List V → List V) (ta tk : TA) : L2.St → Hp → XK → Prop := fun σ H Q => ta σ H fun vs H0 => tk σ H0 fun zs H1 => vs.length = n ∧ zs.length = m ∧ n ≤ 1000 ∧ ∀ a, H1 a = none → sp (gV (.ref a :: vs) zs) (upd H1 a (exo a C none))
  (fun v H2 => v = .non ∧ ∃ (d : Addr) (fs : List (Str × V)), H2 a = some (exo a C (some d)) ∧ H2 d = some (exd d fs) ∧ H1 d = none ∧ Q (.ref C) (some d) (upd (del H2 a) d (.xd fs))) (fun _ _ _ => False)
theorem pmk_CK (T : OexC X.K C) (iC : PySem.W.findIn X.K (.ref C) "__init__" = some (some (.ref fI))) (tI : PySem.W.typeIn X.K (.ref fI) = some (.type "function")) (F1 : FnC X.prog X.w X.K X.mg X.base k fI fd ps sp) (hr : RoomH (k + 1) X.A)
    (hb : KBn X.K fd ps (n + 1) ks g gV) (hg : Gl X x) (hm : X.mg x = some (.ref C)) (ha : PA X (e :: es) ta) (hkw : PK X kws tk)
    (hall : (backToKw pos (keywordEach kws X.env)).all (·.1.isSome) = true := by rfl) (hks : (backToKw pos (keywordEach kws X.env)).filterMap (·.1) = ks := by rfl) (hdb : (x == ("__debug__" : Str)) = false := by decide)
    (he : starEach (e :: es) X.env = (false, eval e X.env) :: starEach es X.env := by rfl) (hpl : ((backTo pos (starEach (e :: es) X.env)).any (·.1) || (backToKw pos (keywordEach kws X.env)).any (·.1.isNone)) = false := by rfl) :
    L2N.PMk X (.Call (.Name x p) (e :: es) kws pos) (tMkEK C n ks.length sp gV ta tk) := by
  intro pins s σ H Q I h
  refine wpAny_Call_Name_kw (ld_glob I hg hm ?_ hdb)
  refine PySem.W.callWith_KW (h₀ := X.base) I.ok.mod.kin T.kC hall (thn (ha.run pos pins s σ H _ I h) fun us s1 ⟨vs, H1, I1, r, q⟩ => ?_) hpl he
  refine thn (hkw.run pos pins s1 σ H1 _ I1 q) fun ws s2 ⟨zs, H2, I2, rz, l1, l2, ln, q2⟩ => ⟨I2.kIn, ?_⟩
  rw [hks]
  have lu : us.length = n := r.length.symm.trans l1
  exact mk_coreC (us := us) (kw := ks.zip ws) (us2 := fun a => g (a :: us) ws) (vs2 := fun a => gV (.ref a :: vs) zs) T iC tI F1 hr I2 (by rw [lu, sizeLine_eq]; omega) (fun s a KX => hb.to s (a :: us) ws KX (by rw [List.length_cons, lu]) (rz.length.symm.trans l2)) (fun a => hb.rel (.cons rfl r) rz) q2
/-- o.m() of a def that raises nothing, whatever is handled -/
theorem pe_meth0C {f C : Addr} {k : Nat} {fd : FuncData} {ps : List Str} {sp : Sp} {E : XK} {m : Str} {o : Expr} {te : TE} {pos apos : Pos} {pl : Sem Bool} (he : PE X o te) (c : Cls X.K C) (hm : Meth X.K C m f) (F : FnC X.prog X.w X.K X.mg X.base k f fd ps sp) (hr : RoomH k X.A) (hb : Binds X.K fd ps ds) (hd : Vals dvs ds)
    (ht : eval (.Call (.Attribute o m apos) [] [] pos) X.env = (do
      let ov ← eval o X.env
      standAt apos.atName
      let (f, first) ← holding [ov] (getMethod ov m pl)
      callWith pos f first (backTo pos (starEach [] X.env)) (backToKw pos (keywordEach [] X.env))) := by rfl) :
    PE X (.Call (.Attribute o m apos) [] [] pos) (tMeth C m sp dvs E te tNil) := by
  refine ⟨fun pins s σ H Q I h => ?_⟩
  refine PySem.W.methodCall_KW (pl := pl) (thn (he.run pins s σ H _ I h) fun u s1 ⟨x, H1, I1, rx, a, dx, fs, ex, ea, l, q⟩ => ?_) ht
  subst ex
  obtain rfl : u = Value.ref a := rx
  refine getmeth_ok I1 ea c hm l ?_
  exact PySem.W.callWith_K0 (first := [.ref a]) I1.kIn hm.kp (run_fnC (us := [.ref a]) (vs := [.ref a]) F hr hb hd I1 (.cons rfl .nil) q)
/-- e.f of a pinned error -/
theorem pe_xfG {f : Str} {a : Addr} {oe : Obj} {cls : Value} {d : Option Addr} {e : Expr} {te : TE} {pos : Pos} (hp : (a, oe) ∈ X.pn) (hz : Zc cls d oe) (hf : ∃ vs, oe.data = .fields vs) (he : PE X e te)
    (hb : attributeBase e f X.env (eval e X.env) = eval e X.env := by rfl) : PE X (.Attribute e f pos) (tXf X.K f a cls d te) := by
  refine ⟨fun pins s σ H Q I h => attr_of hb (thn (he.run pins s σ H _ I h) fun u s1 hh => ?_)⟩
  obtain ⟨x, H1, I1, rx, D, dd, fs, v, rfl, rfl, C, no, rfl, ed, lk, q⟩ := hh
  obtain rfl : u = Value.ref a := rx
  obtain ⟨ha, _⟩ := I1.pin (a, oe) (List.mem_append_left _ hp)
  have ob : ObjOk X.prog X.w H1 s1.heap dd (.xd fs) := I1.hok dd _ ed
  obtain ⟨mA, hns, hr⟩ := ob
  obtain ⟨od, ho, hl⟩ := lookIn_ns hns
  obtain ⟨v', hv', rv⟩ := RelO.some_of (v := v) (o := mA f) (by rw [← lk]; exact hr f)
  obtain ⟨vs, hd⟩ := hf
  have J : PySem.W.InstAt s1.heap a oe D (some od) := by
    refine ⟨ha, hz.1, ?_, ?_⟩
    · unfold PySem.W.notCls; rw [hd]
    · rw [hz.2]; exact ho
  exact HandSPX.exc_get I1.kIn J C.hg C.hk C.hs (PySem.W.findObj_own C.hd no rfl (by rw [hl, hv'])) (handed_of rv) ⟨v, H1, I1.tok _, rv, q⟩
end
end Sip
namespace Sip
open PySem PySem.Spec PyProof.Rows L2 TL L2H
section
variable {X : Cx} {C fI : Addr} {k : Nat} {fd : FuncData} {ps : List Str} {sp : Sp} {x : Str} {p pos : Pos} {ds : List Value} {dvs : List V}
/-- C() -/
theorem pmk_C0 (T : OexC X.K C) (iC : PySem.W.findIn X.K (.ref C) "__init__" = some (some (.ref fI))) (tI : PySem.W.typeIn X.K (.ref fI) = some (.type "function")) (F1 : FnC X.prog X.w X.K X.mg X.base k fI fd ps sp) (hr : RoomH (k + 1) X.A)
    (hb : Binds X.K fd ps ds) (hd : Vals dvs ds) (hg : Gl X x) (hm : X.mg x = some (.ref C)) (hdb : (x == ("__debug__" : Str)) = false := by decide) :
    L2N.PMk X (.Call (.Name x p) [] [] pos) (tMkO C sp dvs tNil) := by
  intro pins s σ H Q I h
  refine wpAny_Call_Name_kw (ld_glob I hg hm ?_ hdb)
  obtain ⟨_, q1⟩ := h
  have hl : ∀ a : Value, ([a] ++ ds).length = ps.length := fun a => by
    have e := F1.len _ _ _ _ (q1 (s.heap.objs.size + 1) (I.hok.fresh (Nat.le_succ _)))
    have l2 := Paired.length hd
    simp only [List.length_cons, List.length_append, List.length_nil] at e ⊢
    omega
  refine PySem.W.callWith_K0 (first := []) I.kIn T.kC ?_
  exact mk_coreC (us := []) (kw := []) (us2 := fun a => a :: ds) (vs2 := fun a => .ref a :: dvs) T iC tI F1 hr I (Nat.zero_le _) (fun s a KX => hb s [a] KX (hl a)) (fun a => .cons rfl hd) q1
end
end Sip
/-! errors whose context is None; except suites that raise -/
namespace Sip
open PySem PySem.Spec PyProof.Rows L2 TL L2H
section
variable {P : Program} {w : World} {K : PySem.W.Frag} {mg : Str → Option Value} {base : Heap} {x qual : Str} {st : Stmt} {f : Addr} {fd : FuncData} {N ps : List Str} {k : Nat} {sp : Sp}
theorem FunA.okXN (F : FunA K x qual st f fd) (S : FnScope N ps (defScope st)) (len : ∀ vs H Q E, sp vs H Q E → vs.length = ps.length)
    (hb : ∀ (cdv : Value) (A : Around) (outer : List Env) (s : Shared) (H : Hp) (vs : List V) (Q : VK) (E : XK), Room k (A.deeper (envOfC qual (defScope st) s.heap.objs.size f cdv)) → sp vs H Q E →
      ∃ t, PSs (cxOf (L2N.CX P w) P w K mg base N qual (defScope st) f cdv A outer s H E) (defBody st) t ∧ t { nx := fun _ H' => Q .non H', rt := Q } (start N vs) H) : FnOk P w K mg base (L2N.CX P w) (k + 1) f fd ps sp := by
  obtain ⟨oc, od, dV, kV, doc, pm, an, cdv, ct, osl, rfl, lk, hcd⟩ := F.ex
  exact fn_of lk hcd S len fun A outer s H vs Q E hr hsp => hb cdv A outer s H vs Q E hr hsp
theorem cxN {P : Program} {w : World} {outer : List Env} {H : Hp} {s s' : Shared} {E : XK} {u : Value} (h : L2N.CX P w outer H s E u s') : L2.CX P w outer H s E u s' := by
  obtain ⟨a, B, H', cls, d, e, fl, r⟩ := h
  exact ⟨a, B, H', cls, d, e, flyingZ_imp (fun o z => z.zc) fl, r⟩
/-- nothing is said of the context any more -/
theorem FnOk.zc (F : FnOk P w K mg base (L2N.CX P w) k f fd ps sp) : FnOk P w K mg base (L2.CX P w) k f fd ps sp :=
  ⟨F.len, fun A outer s H args us vs Q E hr he hb hv h => codeAny_mono (F.run A outer s H args us vs Q E hr he hb hv h) fun r s2 q => match r, q with
    | .ok (.ret _), q => q
    | .error _, q => cxN q⟩
theorem passXN {X : Cx} {E : XK} (tk : L2N.Takes X (fun cls d _ H => E cls d H)) : Passes (L2N.CX X.prog X.w) X E := fun pins σ H s e s' I c => L2N.passes_call tk (fun _ _ _ _ h => h) pins σ H s e s' I c
end
/-- a caught error that stands to be raised again, its context None -/
structure AgN (X : Cx) (a : Addr) (oe : Obj) (T : Addr) (oT : Obj) (cls : Value) (d : Option Addr) (pn : List (Addr × Obj)) : Prop where
  ag : Ag X a oe T oT cls d pn
  cn : PySem.PXN.CtxN oe
/-- as in SipAgain, in any surroundings: what an error that is held comes to when it goes on -/
theorem held_go {X : Cx} {Y : Cx} {a T : Addr} {oe oT : Obj} {pn : List (Addr × Obj)} {σ : L2.St} {H : Hp} {s : Shared} (hY : Y = { X with A := Y.A, calm := false, xe := Y.xe, pn := (a, oe) :: (T, oT) :: pn }) (ok : X.Ok)
    (dat : ∃ vs, oe.data = .fields vs ∧ vs[1]? = some (.ref T)) (tb : ∃ ts x, oT.data = .fields ts ∧ ts[3]? = some x) (ne : T ≠ a)
    (old : ∀ b o, X.s_0.heap.get? b = some o → b ∉ X.ex → b ≠ a ∧ b ≠ T) (pns : ∀ p ∈ X.pn, p ∈ pn ∧ p.1 ≠ a ∧ p.1 ≠ T) (I : Inv Y [] σ H s) :
    ∃ sI B, Inv X [] σ H sI ∧ (∀ b o, sI.heap.get? b = some o → b ∉ frs X.stack → B.get? b = some o) ∧ sI.heap.UpToSlots (s.heap.update T (Obj.mapFields (·.setIfInBounds 3 (rawInt X.env.locals)))) ∧
      (∀ Z : Obj → Prop, Z oe → HandSPX.HeldZ B X.stack a Z X.env.locals (s.heap.update T (Obj.mapFields (·.setIfInBounds 3 (rawInt X.env.locals))))) ∧ H a = none ∧ s.os = sI.os ∧ AllBare s.gens := by
  obtain ⟨ha, na, aL, aF, _⟩ := I.pin (a, oe) (by rw [hY]; exact List.mem_append_left _ List.mem_cons_self)
  obtain ⟨hT, nT, TL, TF, _⟩ := I.pin (T, oT) (by rw [hY]; exact List.mem_append_left _ (List.mem_cons_of_mem _ List.mem_cons_self))
  have eL : Y.env = X.env := by rw [hY]
  have eS : Y.stack = X.stack := by rw [hY]
  dsimp only at ha na aL aF hT nT TL TF
  obtain ⟨vs, hd, h1⟩ := dat
  obtain ⟨ts, tx, hdT, h3⟩ := tb
  have sz : 3 < ts.size := (Array.getElem?_eq_some_iff.mp h3).1
  have two : ∀ b, b ≠ a → b ≠ T → b ∉ [a, T] := fun b x y => by simp [x, y]
  have hid : ∀ b o, s.heap.get? b = some o → b ≠ a → b ≠ T → (PySem.W.hideAll s.heap [a, T]).get? b = some o := fun b o e x y => PySem.W.hideAll_get _ e (two b x y)
  have off : ∀ b o, (PySem.W.hideAll s.heap [a, T]).get? b = some o → b ≠ a ∧ b ≠ T := fun b o e => by
    constructor
    · rintro rfl; rw [PySem.W.hideAll_none _ (by simp)] at e; cases e
    · rintro rfl; rw [PySem.W.hideAll_none _ (by simp)] at e; cases e
  have cel : ∀ c v, s.heap.IsCell c v → (PySem.W.hideAll s.heap [a, T]).IsCell c v := fun c v ⟨o, ho, hc⟩ => by
    refine ⟨o, hid c o ho ?_ ?_, hc⟩
    · rintro rfl; rw [ha] at ho; cases ho; rw [hd] at hc; cases hc
    · rintro rfl; rw [hT] at ho; cases ho; rw [hdT] at hc; cases hc
  rw [hY] at I
  have J : Inv X [] σ H { s with heap := PySem.W.hideAll s.heap [a, T] } := by
    refine ⟨ok, I.os, I.bare, ⟨fun b o e n hb hx => ?_, fun b o e n hb hx => ?_, I.base.free, fun b o e hx => ?_, I.base.tups, I.base.frzs, I.base.tbls⟩, ?_, fun x c e => ?_, I.free, I.freeC, fun p hp => ?_, fun b u e => ?_, I.len⟩
    · exact hid b o (I.base.keep b o e n hb hx) (old b o e hx).1 (old b o e hx).2
    · obtain ⟨sl, q⟩ := I.base.slot b o e n hb hx
      exact ⟨sl, hid b _ q (old b o e hx).1 (old b o e hx).2⟩
    · obtain ⟨o', q⟩ := I.base.there b o e hx
      exact ⟨o', hid b _ q (old b o e hx).1 (old b o e hx).2⟩
    · obtain ⟨m, ⟨o, es, ep, ho, r⟩, hl⟩ := I.loc
      refine ⟨m, ⟨o, es, ep, hid _ o ho (by rw [← eL]; exact aL.symm) (by rw [← eL]; exact TL.symm), r⟩, fun i x v e1 e2 e3 => ?_⟩
      obtain ⟨u, ru, lk⟩ := hl i x v e1 e2 e3
      refine ⟨u, ru, ?_⟩
      rcases lk with lk | ⟨k, c, e, ic⟩
      · exact .inl lk
      · exact .inr ⟨k, c, e, cel c _ ic⟩
    · obtain ⟨v, ic⟩ := I.cell x c e
      exact ⟨v, cel c v ic⟩
    · rw [List.append_nil] at hp
      obtain ⟨p1, p2, p3⟩ := pns p hp
      obtain ⟨q1, q2⟩ := I.pin p (List.mem_append_left _ (List.mem_cons_of_mem _ (List.mem_cons_of_mem _ p1)))
      exact ⟨hid _ _ q1 p2 p3, q2⟩
    · refine (I.hok b u e).stay (fun c v hc q => ?_) (fun _ q => q) fun _ _ q => q
      rcases hc with rfl | hc
      · exact hid _ _ q (ne_of_none e na) (ne_of_none e nT)
      · exact hid _ _ q (ne_of_none hc na) (ne_of_none hc nT)
  have upT : ∀ b o, b ≠ T → s.heap.get? b = some o → (s.heap.update T (Obj.mapFields (·.setIfInBounds 3 (rawInt X.env.locals)))).get? b = some o := fun b o x e => (Heap.get?_update_other _ _ (Ne.symm x)).trans e
  refine ⟨_, PySem.W.hideAll s.heap (a :: T :: frs X.stack), J, fun b o e nb => ?_, fun b o e _ => ⟨o.slots, upT b o (off b o e).2 (PySem.W.of_hideAll _ e)⟩, fun Z hz => ⟨fun b o e => ?_, PySem.W.hideAll_none _ (by simp), ?_, ?_⟩, na, rfl, I.bare⟩
  · refine PySem.W.hideAll_get _ (PySem.W.of_hideAll _ e) fun m => ?_
    rcases List.mem_cons.mp m with z | m
    · exact (off b o e).1 z
    rcases List.mem_cons.mp m with z | m
    · exact (off b o e).2 z
    · exact nb m
  · refine upT b o (fun z => ?_) (PySem.W.of_hideAll _ e)
    rw [z, PySem.W.hideAll_none _ (by simp)] at e; cases e
  · refine Heap.FunFrames.of_keeps (fun b o e nf => ⟨o, upT b o (fun z => ?_) e, rfl⟩) (funFrames_none (show s.heap.FunFrames X.base X.stack from I.stack) fun b hb => PySem.W.hideAll_none _ (List.mem_cons_of_mem _ (List.mem_cons_of_mem _ hb)))
    rw [z, hT] at e; cases e
    exact nf _ hdT
  · exact ⟨oe, vs, T, _, _, upT a oe ne.symm ha, hz, hd, h1, PySem.W.hideAll_none _ (by simp), ne, Heap.get?_update_self _ hT (Obj.isFreed_of_fields (Obj.data_mapFields hdT _)), Obj.data_mapFields hdT _, by simp [sz]⟩
section
variable {X : Cx} {a T : Addr} {oe oT : Obj} {cls : Value} {d : Option Addr} {pn : List (Addr × Obj)} {Wout : WX} {rp : Pos}
/-- a bare raise in the suite -/
theorem ps_againN (stk : X.stack = X.env :: X.outer) (frm : X.env.frame = some X.env.locals) (tk : L2N.Takes X Wout) (g : AgN X a oe T oT cls d pn) : PS (agX X a oe T oT pn) (.Raise none none rp) (fun _ σ H => Wout cls d σ H) := by
  refine ⟨fun pins s σ H D I h => wpAny_Raise_bare ?_⟩
  obtain ⟨ha, _⟩ := I.pin (a, oe) (List.mem_append_left _ List.mem_cons_self)
  obtain ⟨hT, _⟩ := I.pin (T, oT) (List.mem_append_left _ (List.mem_cons_of_mem _ List.mem_cons_self))
  dsimp only at ha hT
  obtain ⟨vs, hd, h1⟩ := g.ag.dat
  obtain ⟨ts, hdT, h3⟩ := g.ag.tb
  have sz : 3 < ts.size := (Array.getElem?_eq_some_iff.mp h3).1
  have I0 : Inv (agX X a oe T oT pn) [] σ H s := ⟨I.ok, I.os, I.bare, I.base, I.loc, I.cell, I.free, I.freeC, fun p hp => I.pin p (by rw [List.append_nil] at hp; exact List.mem_append_left _ hp), I.hok, I.len⟩
  obtain ⟨sI, B, J, nb, up, hh, na, os, bare⟩ := held_go (Y := agX X a oe T oT pn) rfl g.ag.ok ⟨vs, hd, h1⟩ ⟨ts, _, hdT, h3⟩ g.ag.ne g.ag.old g.ag.pns I0
  have go : X.xe (.ref a) { s with heap := s.heap.update T (Obj.mapFields (·.setIfInBounds 3 (rawInt X.env.locals))) } :=
    tk _ _ ⟨a, B, sI, [], σ, H, cls, d, rfl, J, nb, up, .inr (.inr (hh _ ⟨g.ag.hz.1, g.ag.hz.2, g.cn⟩)), na, os, bare, h⟩
  unfold raiseBare raiseStmt
  dsimp only
  refine wpAny_bind (wpAny_handled ?_)
  show wpAny _ _ (match (some (Value.ref a) : Option Value) with | _ => _) _ _ _
  dsimp only
  refine wpAny_bind (wpAny_rule ?_)
  refine wpAny_bind (wpAny_field ha hd h1 ?_)
  rw [if_neg (show ¬ ((Value.ref T == Value.none) = true) from by simp)]
  rw [show (agX X a oe T oT pn).env.frame = some X.env.locals from frm]
  first
    | exact wpAny_bind (setFlight_tb (fr := some X.env.locals) ha hd h1 hT hdT sz (wpAny_throw go))
    | exact wpAny_bind (wpAny_pure (wpAny_bind (setFlight_tb (fr := some X.env.locals) ha hd h1 hT hdT sz (wpAny_throw go))))
end
end Sip
-- PART N
namespace Sip
open PySem PySem.Spec PyProof.Rows L2 TL L2H
/-- an error that has come to the clauses of a try -/
structure CaughtN (X : Cx) (pins : List (Addr × Obj)) (a : Addr) (B : Heap) (sI s1 : Shared) (h3 : Heap) (σ : L2.St) (H : Hp) (cls : Value) (d : Option Addr) : Prop where
  ok : X.Ok
  stk : X.stack = X.env :: X.outer
  frm : X.env.frame = some X.env.locals
  inv : Inv X pins σ H sI
  nb : ∀ b o, sI.heap.get? b = some o → b ∉ frs X.stack → B.get? b = some o
  up : sI.heap.UpToSlots h3
  fl : HandSPX.FlyingZ B (X.env :: X.outer) a (L2N.Zn cls d) h3
  na : H a = none
  nL : a ≠ X.env.locals
  nF : a ∉ X.fs
  os : s1.os = sI.os
  ag : AllBare s1.gens
section
variable {X : Cx} {pins : List (Addr × Obj)} {a : Addr} {B : Heap} {sI s1 : Shared} {h3 : Heap} {σ : L2.St} {H : Hp} {cls : Value} {d : Option Addr} {D : Ends} {Wo : WX}
theorem CaughtN.at (C : CaughtN X pins a B sI s1 h3 σ H cls d) {h4 : Heap} (f : HandSPX.FlyingZ B (X.env :: X.outer) a (L2N.Zn cls d) h4) (u : h3.UpToSlots h4) : Inv X pins σ H { s1 with heap := h4 } :=
  C.inv.landed (s' := { s1 with heap := h4 }) (by have := C.nb; exact this) f.1 (C.up.trans u) C.os C.ag
/-- no clause takes it -/
theorem CaughtN.none (C : CaughtN X pins a B sI s1 h3 σ H cls d) (tk : L2N.Takes X Wo) (w : Wo cls d σ H) : wpAny (model X.prog X.w) X.A (handleBy (.ref a) X.env []) (SP X pins D) X.xe { s1 with heap := h3 } := by
  have C2 := C
  obtain ⟨_, _, _, _, _, T, _, _, he, _, hd, h1, _⟩ := C2.fl
  have go : wpAny (model X.prog X.w) X.A (setFlight (.ref a) X.env.frame) (fun _ s4 => wpAny (model X.prog X.w) X.A (throw (.ref a) : Sem Flow) (SP X pins D) X.xe s4) X.xe { s1 with heap := h3 } := by
    rw [C.frm]
    exact HandSPX.setFlight_upZ C.fl fun h4 held u4 => wpAny_throw (tk _ _ ⟨a, B, sI, pins, σ, H, cls, d, rfl, C.inv, C.nb, C.up.trans u4, .inr (.inr (by rw [C.stk]; exact held)), C.na, C.os, C.ag, w⟩)
  refine wpAny_handleBy_nil ?_
  unfold PySem.passOn
  refine wpAny_bind (wpAny_field he hd h1 ?_)
  have nn : ¬ ((Value.ref T == Value.none) = true) := by simp
  rw [if_neg nn]
  first | exact wpAny_bind (wpAny_pure (wpAny_bind go)) | exact wpAny_bind go
end
section
variable {X : Cx} {x : Str} {c : Value} {body : List Stmt} {b₀ : Stmt} {suite : List Stmt} {np pos pos' : Pos} {tb : WX → TS} {ts : Addr → Value → Option Addr → TS} {Wout : WX}
/-- try: .. except C: .. (a suite that may raise the error again) -/
theorem ps_try_againN (stk : X.stack = X.env :: X.outer) (frm : X.env.frame = some X.env.locals) (hc : Names X x c) (hpa : ∀ hd : Option Value, PassesOwnAt (model X.prog X.w) (X.A.mark hd) X.A X.env X.xe) (tk : L2N.Takes X Wout)
    (hb : ∀ (W : WX) (pn : List (Addr × Obj)) (xe : Value → Shared → Prop), L2N.Takes (X.tr pn xe) W → PassesOwn (model X.prog X.w) X.A X.env xe → PSs (X.tr pn xe) body (tb W))
    (hsu : ∀ (a : Addr) (oe : Obj) (T : Addr) (oT : Obj) (cls : Value) (d : Option Addr) (pn : List (Addr × Obj)), AgN X a oe T oT cls d pn → PSs (agX X a oe T oT pn) (b₀ :: suite) (ts a cls d)) :
    PS X (.Try body [.ExceptHandler (some (.Name x np)) none (b₀ :: suite) pos'] [] [] pos) (fun D σ H => tb (wOnly X.K c ts Wout D) D σ H) := by
  refine ⟨fun pins s σ H D I h => wpAny_Try_except ?_⟩
  have ok := I.ok
  have fr : X.A.frames = some (X.env :: X.outer) := by rw [ok.frames, stk]
  have run := (hb (wOnly X.K c ts Wout D) (X.pn ++ pins) (fun e t1 => wpAny (model X.prog X.w) X.A (noteFrame e X.env) (fun _ t2 => wpAny (model X.prog X.w) X.A (setFlight e none) (fun _ t3 => wpAny (model X.prog X.w) X.A (handleBy e X.env [.ExceptHandler (some (.Name x np)) none (b₀ :: suite) pos']) (SP X pins D) X.xe t3) X.xe t2) X.xe t1) ?_ PassesOwn.looking).run [] s σ H D (I.toTry _) h
  · refine wpAny_mono run (fun f s1 hp => ?_) fun _ _ he => he
    match f, hp with
    | .next, ⟨_, _, J, q⟩ => exact wpAny_execs_nil ⟨_, _, J.ofTry ok, q⟩
    | .brk, ⟨_, _, J, q⟩ => exact ⟨_, _, J.ofTry ok, q⟩
    | .cont, ⟨_, _, J, q⟩ => exact ⟨_, _, J.ofTry ok, q⟩
    | .ret _, ⟨_, _, _, J, r, q⟩ => exact ⟨_, _, _, J.ofTry ok, r, q⟩
  · rintro u s1 ⟨a, B, sI, pins2, σ2, H2, cls, d, rfl, J2, nb, up, sky, na, os, ag, b, hb1, yes, no⟩
    have sky2 : Sky B (X.env :: X.outer) a (L2N.Zn cls d) X.env.locals s1.heap := by rw [← stk]; exact sky
    refine L2N.Sky.land L2N.Zn.steady fr frm sky2 fun h3 f3 u3 => ?_
    obtain ⟨oe, vs, he, hz, hd⟩ := f3.there
    have far : a ∉ frs (X.env :: X.outer) := fun m => by
      obtain ⟨_, o2, e2, nf⟩ := f3.2.2.1.mem m
      rw [he] at e2; cases e2
      exact nf _ hd
    have nL : a ≠ X.env.locals := fun z => far (List.mem_filterMap.mpr ⟨X.env, List.mem_cons_self, by rw [frm, z]⟩)
    have nF : a ∉ X.fs := fun m => by
      obtain ⟨e, h1, h2⟩ := List.mem_filterMap.mp m
      exact far (List.mem_filterMap.mpr ⟨e, List.mem_cons_of_mem _ h1, h2⟩)
    have C : CaughtN X pins a B sI s1 h3 σ2 H2 cls d := ⟨ok, stk, frm, J2.ofTry ok, nb, up.trans u3, f3, na, nL, nF, os, ag⟩
    have J3 := C.at C.fl (Heap.UpToSlots.refl _)
    have S3 := J3.suite he hd C.na C.nL C.nF
    refine wpAny_handleBy_cons (codeAny_handlers_test ?_) (by intro q; cases q)
    have knows : PySem.W.Looks (model X.prog X.w) h3 (typeOf (.ref a)) cls := fun _ _ _ _ k q => wpAny_typeOf_ref (k _ _ he) (by rw [hz.1]; exact q)
    have look := PySem.W.exm_one (M := model X.prog X.w) J3.kIn knows hb1
    have named : ∀ {Q E : Value → Shared → Prop}, Q c { s1 with heap := h3 } → wpAny (model X.prog X.w) (X.A.mark (some (.ref a))) (eval (.Name x np) X.env) Q E { s1 with heap := h3 } := fun q => by
      rcases hc with ⟨g1, g2, m1 | ⟨m1, m2, m3⟩⟩
      · exact ld_glob (X := X.suite a ((a, oe) :: (X.pn ++ pins))) S3 g1 m1 q g2
      · exact ld_blt (X := X.suite a ((a, oe) :: (X.pn ++ pins))) S3 g1 m1 m2 q m3 g2
    refine named (look.here ?_)
    cases b with
    | false => exact C.none tk (no rfl)
    | true =>
      refine codeAny_handlers_suite (HandSPX.lands_againZ C.fl fun h4 f4 u4 => ?_)
      have J4 := C.at f4 u4
      obtain ⟨k1, k2, k3, oe4, vs4, T, oT, tss, e4, z4, d4, v4, bT, Ta, eT, dT, t3⟩ := id f4
      have farT : T ∉ frs X.stack := fun m => by
        rw [stk] at m
        obtain ⟨_, o2, e2, nf⟩ := f4.2.2.1.mem m
        rw [eT] at e2; cases e2
        exact nf _ dT
      have TL : T ≠ X.env.locals := fun z => farT (by rw [stk]; exact List.mem_filterMap.mpr ⟨X.env, List.mem_cons_self, by rw [frm, z]⟩)
      have TF : T ∉ X.fs := fun m => by
        obtain ⟨e, h1, h2⟩ := List.mem_filterMap.mp m
        exact farT (by rw [stk]; exact List.mem_filterMap.mpr ⟨e, List.mem_cons_of_mem _ h1, h2⟩)
      have farA : a ∉ frs X.stack := by rw [stk]; exact far
      -- what stood ahead of the error is neither it nor its traceback
      have away : ∀ b o, sI.heap.get? b = some o → b ≠ a ∧ b ≠ T := fun b o e => by
        constructor
        · rintro rfl
          have := nb b o e farA
          rw [k2] at this; cases this
        · rintro rfl
          have := nb b o e farT
          rw [bT] at this; cases this
      have I2 : Inv X pins σ2 H2 sI := J2.ofTry ok
      have nT : H2 T = none := by
        cases q : H2 T with
        | none => rfl
        | some u =>
          obtain ⟨o, e⟩ := objOk_get (I2.hok T u q)
          exact absurd rfl (away T o e).2
      have G : AgN X a oe4 T oT cls d (X.pn ++ pins) := ⟨⟨ok, z4.zc, ⟨vs4, d4, v4⟩, ⟨tss, dT, t3⟩, Ta, fun b o e hx => by
        obtain ⟨o', q⟩ := I2.base.there b o e hx
        exact away b o' q, fun p hp => ⟨List.mem_append_left _ hp, away _ _ (I2.pin p (List.mem_append_left _ hp)).1⟩⟩, z4.2.2⟩
      have S4 : Inv (agX X a oe4 T oT (X.pn ++ pins)) [] σ2 H2 { s1 with heap := h4 } := by
        refine ⟨okX ok _ _, J4.os, J4.bare, J4.base, J4.loc, J4.cell, J4.free, J4.freeC, fun p hp => ?_, J4.hok, J4.len⟩
        rw [List.append_nil] at hp
        rcases List.mem_cons.mp hp with e | hp
        · rw [e]; exact ⟨e4, na, nL, nF, fun v z => by have z' : oe4.data = .cell v := z; rw [d4] at z'; cases z'⟩
        rcases List.mem_cons.mp hp with e | hp
        · rw [e]; exact ⟨eT, nT, TL, TF, fun v z => by have z' : oT.data = .cell v := z; rw [dT] at z'; cases z'⟩
        · exact J4.pin p hp
      refine wpAny_mono ((hsu a oe4 T oT cls d (X.pn ++ pins) G).run [] _ _ H2 _ S4 (yes rfl a na)) (fun f s6 hp => ?_) fun e6 s6 z => hpa (some (.ref a)) e6 s6 z
      have back : ∀ {σ6 : L2.St} {H6 : Hp}, Inv (agX X a oe4 T oT (X.pn ++ pins)) [] σ6 H6 s6 → Inv X pins σ6 H6 s6 := fun S6 => ⟨ok, S6.os, S6.bare, S6.base, S6.loc, S6.cell, S6.free, S6.freeC, fun p hp => S6.pin p (List.mem_append_left _ (List.mem_cons_of_mem _ (List.mem_cons_of_mem _ hp))), S6.hok, S6.len⟩
      match f, hp with
      | .next, ⟨_, _, S6, q6⟩ => exact ⟨_, _, back S6, q6⟩
      | .brk, ⟨_, _, S6, q6⟩ => exact ⟨_, _, back S6, q6⟩
      | .cont, ⟨_, _, S6, q6⟩ => exact ⟨_, _, back S6, q6⟩
      | .ret _, ⟨_, _, _, S6, r6, q6⟩ => exact ⟨_, _, _, back S6, r6, q6⟩
end
end Sip
/-! try: .. except C: .. except D as n: .., suites that raise -/
namespace Sip
open PySem PySem.Spec PyProof.Rows L2 TL L2H
/-- what an error does that leaves a suite whose clause names its own -/
def xeAs (X : Cx) (a : Addr) (n : Str) (q2 : Pos) : Value → Shared → Prop := fun x s3 =>
  wpAny (model X.prog X.w) (X.A.mark (some (.ref a))) (noteFrame x X.env) (fun _ s3' =>
    wpAny (model X.prog X.w) (X.A.mark (some (.ref a))) (do bindName X.env n .none; unbindBehindTheSuite X.env n q2)
      (fun _ s4 => wpAny (model X.prog X.w) (X.A.mark (some (.ref a))) (passOn "try.except-as" x X.env : Sem Flow) (fun _ _ => False) (notedBy (model X.prog X.w) (X.A.mark (some (.ref a))) X.env (cameBackBy (model X.prog X.w) X.A X.env X.xe)) s4)
      (fun y s4 => wpAny (model X.prog X.w) (X.A.mark (some (.ref a))) (setFlight x none) (fun _ s5 => (notedBy (model X.prog X.w) (X.A.mark (some (.ref a))) X.env (cameBackBy (model X.prog X.w) X.A X.env X.xe)) y s5) (notedBy (model X.prog X.w) (X.A.mark (some (.ref a))) X.env (cameBackBy (model X.prog X.w) X.A X.env X.xe)) s4) s3')
    (notedBy (model X.prog X.w) (X.A.mark (some (.ref a))) X.env (cameBackBy (model X.prog X.w) X.A X.env X.xe)) s3
abbrev sxN (X : Cx) (a : Addr) (n : Str) (q2 : Pos) (pn : List (Addr × Obj)) : Cx := { X with A := X.A.mark (some (.ref a)), calm := false, pn := pn, xe := xeAs X a n q2 }
section
variable {X : Cx} {a : Addr} {n : Str} {q2 : Pos} {i : Nat} {Wout : WX} {q : Addr × Obj} {pins : List (Addr × Obj)}
theorem takes_as (stk : X.stack = X.env :: X.outer) (frm : X.env.frame = some X.env.locals) (ok : X.Ok) (hpa : PassesOwnAt (model X.prog X.w) (X.A.mark (some (.ref a))) X.A X.env X.xe) (tk : L2.Takes X Wout)
    (hN : X.N.Nodup) (hi : X.N[i]? = some n) (hl : X.env.kindOf n = some .local) : L2.Takes (sxN X a n q2 (q :: (X.pn ++ pins))) (fun cls d σ H => Wout cls d (σ.set i none) H) := by
  rintro u s' ⟨b, B, sI, pins2, σ, H, cls, d, rfl, I, nb, up, sky, na, os, ag, w⟩
  have fr : (X.A.mark (some (.ref a))).frames = some (X.env :: X.outer) := by
    show X.A.frames = _
    rw [ok.frames, stk]
  show wpAny _ _ (noteFrame (.ref b) X.env) _ _ _
  have sky2 : Sky B (X.env :: X.outer) b (Zc cls d) X.env.locals s'.heap := by rw [← stk]; exact sky
  have fin : ∀ h1, HandSPX.HeldZ B (X.env :: X.outer) b (Zc cls d) X.env.locals h1 → s'.heap.UpToSlots h1 →
      wpAny (model X.prog X.w) (X.A.mark (some (.ref a))) (do bindName X.env n .none; unbindBehindTheSuite X.env n q2)
      (fun _ s4 => wpAny (model X.prog X.w) (X.A.mark (some (.ref a))) (passOn "try.except-as" (.ref b) X.env : Sem Flow) (fun _ _ => False) (notedBy (model X.prog X.w) (X.A.mark (some (.ref a))) X.env (cameBackBy (model X.prog X.w) X.A X.env X.xe)) s4)
      (fun y s4 => wpAny (model X.prog X.w) (X.A.mark (some (.ref a))) (setFlight (.ref b) none) (fun _ s5 => (notedBy (model X.prog X.w) (X.A.mark (some (.ref a))) X.env (cameBackBy (model X.prog X.w) X.A X.env X.xe)) y s5) (notedBy (model X.prog X.w) (X.A.mark (some (.ref a))) X.env (cameBackBy (model X.prog X.w) X.A X.env X.xe)) s4) { s' with heap := h1 } := by
    intro h1 hh up1
    obtain ⟨k1, k2, k3, oe, vs, T, oT, ts, he, hz, hd, v1, bT, Ta, eT, dT, t3⟩ := id hh
    have farT : T ∉ frs X.stack := fun m => by
      rw [stk] at m
      obtain ⟨_, o2, e2, nf⟩ := k3.mem m
      rw [eT] at e2; cases e2
      exact nf _ dT
    have farB : b ∉ frs X.stack := fun m => by
      rw [stk] at m
      obtain ⟨_, o2, e2, nf⟩ := k3.mem m
      rw [he] at e2; cases e2
      exact nf _ hd
    have notL : ∀ {c : Addr}, c ∉ frs X.stack → c ≠ X.env.locals := fun far z => far (by rw [stk]; exact List.mem_filterMap.mpr ⟨X.env, List.mem_cons_self, by rw [frm, z]⟩)
    have notF : ∀ {c : Addr}, c ∉ frs X.stack → c ∉ X.fs := fun far m => by
      obtain ⟨e, h1, h2⟩ := List.mem_filterMap.mp m
      exact far (by rw [stk]; exact List.mem_filterMap.mpr ⟨e, List.mem_cons_of_mem _ h1, h2⟩)
    have away : ∀ c o, sI.heap.get? c = some o → c ≠ b ∧ c ≠ T := fun c o e => by
      constructor
      · rintro rfl
        have := nb c o e farB
        rw [k2] at this; cases this
      · rintro rfl
        have := nb c o e farT
        rw [bT] at this; cases this
    have nT : H T = none := by
      cases qq : H T with
      | none => rfl
      | some u =>
        obtain ⟨o, e⟩ := objOk_get (I.hok T u qq)
        exact absurd rfl (away T o e).2
    have J1 : Inv (sxN X a n q2 (q :: (X.pn ++ pins))) pins2 σ H { s' with heap := h1 } := I.landed nb k1 (up.trans up1) os ag
    have S : Inv { X with A := X.A.mark (some (.ref a)), calm := false, xe := xeAs X a n q2, pn := (b, oe) :: (T, oT) :: X.pn } [] σ H { s' with heap := h1 } := by
      refine ⟨⟨ok.mod, ok.kind, ok.glob, ok.blt, ok.above, ok.inj, ok.has, ok.cab, (fun z => absurd (show false = true from z) Bool.false_ne_true), ok.frames, ok.stk, ok.exf, ok.bs, ok.bsz, ok.noex, ok.exfs, ok.funs, ok.frf⟩, J1.os, J1.bare, J1.base, J1.loc, J1.cell, J1.free, J1.freeC, fun p hp => ?_, J1.hok, J1.len⟩
      rw [List.append_nil] at hp
      rcases List.mem_cons.mp hp with e | hp
      · rw [e]; exact ⟨he, na, notL farB, notF farB, fun v z => by have z' : oe.data = .cell v := z; rw [hd] at z'; cases z'⟩
      rcases List.mem_cons.mp hp with e | hp
      · rw [e]; exact ⟨eT, nT, notL farT, notF farT, fun v z => by have z' : oT.data = .cell v := z; rw [dT] at z'; cases z'⟩
      · exact J1.pin p (List.mem_append_left _ (List.mem_cons_of_mem _ (List.mem_append_left _ hp)))
    refine gone_ok (X := { X with A := X.A.mark (some (.ref a)), calm := false, xe := xeAs X a n q2, pn := (b, oe) :: (T, oT) :: X.pn }) S hN hi hl fun s7 J7 => ?_
    obtain ⟨ha, _⟩ := J7.pin (b, oe) (List.mem_append_left _ List.mem_cons_self)
    obtain ⟨hT, _⟩ := J7.pin (T, oT) (List.mem_append_left _ (List.mem_cons_of_mem _ List.mem_cons_self))
    dsimp only at ha hT
    have sz : 3 < ts.size := (Array.getElem?_eq_some_iff.mp t3).1
    obtain ⟨sI2, B2, J2, nb2, up2, hh2, na2, os2, bare2⟩ := held_go (X := X) (Y := { X with A := X.A.mark (some (.ref a)), calm := false, xe := xeAs X a n q2, pn := (b, oe) :: (T, oT) :: X.pn }) rfl ok ⟨vs, hd, v1⟩ ⟨ts, _, dT, t3⟩ Ta
      (fun c o e hx => by obtain ⟨o', qq⟩ := I.base.there c o e hx; exact away c o' qq)
      (fun p hp => ⟨hp, away _ _ (I.pin p (List.mem_append_left _ (List.mem_cons_of_mem _ (List.mem_append_left _ hp)))).1⟩) J7
    have go : notedBy (model X.prog X.w) (X.A.mark (some (.ref a))) X.env (cameBackBy (model X.prog X.w) X.A X.env X.xe) (.ref b) { s7 with heap := s7.heap.update T (Obj.mapFields (·.setIfInBounds 3 (rawInt X.env.locals))) } :=
      hpa _ _ (tk _ _ ⟨b, B2, sI2, [], σ.set i none, H, cls, d, rfl, J2, nb2, up2, .inr (.inr (hh2 _ hz)), na2, os2, bare2, w⟩)
    unfold PySem.passOn
    refine wpAny_bind (wpAny_field ha hd v1 ?_)
    rw [if_neg (show ¬ ((Value.ref T == Value.none) = true) from by simp), show X.env.frame = some X.env.locals from frm]
    first
      | exact wpAny_bind (setFlight_tb (fr := some X.env.locals) ha hd v1 hT dT sz (wpAny_throw go))
      | exact wpAny_bind (wpAny_pure (wpAny_bind (setFlight_tb (fr := some X.env.locals) ha hd v1 hT dT sz (wpAny_throw go))))
  rcases sky2 with ⟨hB, hn, hl', oe, vs, he, hz, hd, h1⟩ | fl | hh
  · exact HandSPX.look_newZ Zc.steady fr hl' frm he hB hn hd h1 hz fin
  · exact HandSPX.looks_onZ Zc.steady fr frm fl fin
  · exact HandSPX.againZ frm hh.2.2.2 (fin s'.heap hh (Heap.UpToSlots.refl _))
end
inductive ClsOkX (X : Cx) (Wout : WX) : List ExceptHandler → List Cl → Prop
  | nil : ClsOkX X Wout [] []
  | cons {x : Str} {c : Value} {ts : Addr → Value → Option Addr → TS} {st : Stmt} {su : List Stmt} {q1 q2 : Pos} {hs : List ExceptHandler} {l : List Cl} (hc : Names X x c)
      (hsu : ∀ (a : Addr) (oe : Obj) (cls : Value) (d : Option Addr) (pn : List (Addr × Obj)), L2N.Zn cls d oe → (∃ vs, oe.data = .fields vs) → L2.Takes (suiteX X a ((a, oe) :: pn)) Wout → HotC (suiteX X a ((a, oe) :: pn)) → PSs (suiteX X a ((a, oe) :: pn)) (st :: su) (ts a cls d))
      (r : ClsOkX X Wout hs l) : ClsOkX X Wout (.ExceptHandler (some (.Name x q1)) none (st :: su) q2 :: hs) ((c, none, ts) :: l)
  | consN {x : Str} {c : Value} {n : Str} {i : Nat} {ts : Addr → Value → Option Addr → TS} {st : Stmt} {su : List Stmt} {q1 q2 : Pos} {hs : List ExceptHandler} {l : List Cl} (hc : Names X x c) (hN : X.N.Nodup) (hi : X.N[i]? = some n) (hl : X.env.kindOf n = some .local)
      (hsu : ∀ (a : Addr) (oe : Obj) (cls : Value) (d : Option Addr) (pn : List (Addr × Obj)), L2N.Zn cls d oe → (∃ vs, oe.data = .fields vs) → L2.Takes (sxN X a n q2 ((a, oe) :: pn)) (fun cls d σ H => Wout cls d (σ.set i none) H) → HotC (sxN X a n q2 ((a, oe) :: pn)) → PSs (sxN X a n q2 ((a, oe) :: pn)) (st :: su) (ts a cls d))
      (r : ClsOkX X Wout hs l) : ClsOkX X Wout (.ExceptHandler (some (.Name x q1)) (some n) (st :: su) q2 :: hs) ((c, some i, ts) :: l)
section
variable {X : Cx} {pins : List (Addr × Obj)} {a : Addr} {B : Heap} {sI s1 : Shared} {h3 : Heap} {σ : L2.St} {H : Hp} {cls : Value} {d : Option Addr} {D : Ends} {Wo : WX}
theorem CaughtN.zc (C : CaughtN X pins a B sI s1 h3 σ H cls d) : Caught X pins a B sI s1 h3 σ H cls d := ⟨C.ok, C.stk, C.frm, C.inv, C.nb, C.up, flyingZ_imp (fun o z => z.zc) C.fl, C.na, C.nL, C.nF, C.os, C.ag⟩
theorem caught_goX (C : CaughtN X pins a B sI s1 h3 σ H cls d) (hpa : ∀ hd : Option Value, PassesOwnAt (model X.prog X.w) (X.A.mark hd) X.A X.env X.xe) (tk : L2.Takes X Wo) : ∀ {hs : List ExceptHandler} {l : List Cl}, ClsOkX X Wo hs l → wMix X.K Wo D l cls d σ H →
    wpAny (model X.prog X.w) X.A (handleBy (.ref a) X.env hs) (SP X pins D) X.xe { s1 with heap := h3 } := by
  have ok := C.ok
  have J3 := C.at C.fl (Heap.UpToSlots.refl _)
  obtain ⟨oe, vs, he, hz, hd⟩ := C.fl.there
  have S3 := J3.suite he hd C.na C.nL C.nF
  have knows : PySem.W.Looks (model X.prog X.w) h3 (typeOf (.ref a)) cls := fun _ _ _ _ k q => wpAny_typeOf_ref (k _ _ he) (by rw [hz.1]; exact q)
  have named : ∀ {x : Str} {c : Value} {np : Pos} {Q E : Value → Shared → Prop}, Names X x c → Q c { s1 with heap := h3 } → wpAny (model X.prog X.w) (X.A.mark (some (.ref a))) (eval (.Name x np) X.env) Q E { s1 with heap := h3 } := fun hc q => by
    rcases hc with ⟨g1, g2, m1 | ⟨m1, m2, m3⟩⟩
    · exact ld_glob (X := X.suite a ((a, oe) :: (X.pn ++ pins))) S3 g1 m1 q g2
    · exact ld_blt (X := X.suite a ((a, oe) :: (X.pn ++ pins))) S3 g1 m1 m2 q m3 g2
  intro hs l hk
  induction hk with
  | nil => exact fun w => C.zc.none tk w
  | @cons x c ts st su q1 q2 hs2 l2 hc hsu r ih =>
    rintro ⟨b, hb, yes, no⟩
    refine wpAny_handleBy_cons (codeAny_handlers_test ?_) (by intro q; cases q)
    refine named hc ((PySem.W.exm_one (M := model X.prog X.w) J3.kIn knows hb).here ?_)
    cases b with
    | false => exact ih (no rfl)
    | true =>
      refine codeAny_handlers_suite (HandSPX.lands_againZ C.fl fun h4 f4 u4 => ?_)
      obtain ⟨oe4, vs4, e4, z4, d4⟩ := f4.there
      have S4 := (C.at f4 u4).suite e4 d4 C.na C.nL C.nF
      have tkS : L2.Takes (suiteX X a ((a, oe4) :: (X.pn ++ pins))) Wo := fun u2 s2 x2 => by
        obtain ⟨a2, B2, sI2, pn2, σ2, H2, cls2, d2, e2, I2, nb2, up2, sky2, na2, os2, ag2, w2⟩ := x2
        exact tk u2 s2 ⟨a2, B2, sI2, pins, σ2, H2, cls2, d2, e2, unsuiteX I2 ok, nb2, up2, sky2, na2, os2, ag2, w2⟩
      have hot : HotC (suiteX X a ((a, oe4) :: (X.pn ++ pins))) := ⟨(a, oe4), ⟨rfl, vs4, d4, z4.2.2 vs4 d4⟩, List.mem_cons_self⟩
      refine wpAny_mono ((hsu a oe4 cls d (X.pn ++ pins) z4 ⟨_, d4⟩ tkS hot).run [] _ _ H _ (suiteX_of S4) (yes rfl a C.na)) (fun f s6 hp => ?_) fun e6 s6 z => hpa (some (.ref a)) e6 s6 z
      match f, hp with
      | .next, ⟨_, _, S6, q6⟩ => exact ⟨_, _, unsuiteX S6 ok, q6⟩
      | .brk, ⟨_, _, S6, q6⟩ => exact ⟨_, _, unsuiteX S6 ok, q6⟩
      | .cont, ⟨_, _, S6, q6⟩ => exact ⟨_, _, unsuiteX S6 ok, q6⟩
      | .ret _, ⟨_, _, _, S6, r6, q6⟩ => exact ⟨_, _, _, unsuiteX S6 ok, r6, q6⟩
  | @consN x c n i ts st su q1 q2 hs2 l2 hc hN hi hl hsu r ih =>
    rintro ⟨b, hb, yes, no⟩
    refine wpAny_handleBy_cons (codeAny_handlers_test ?_) (by intro q; cases q)
    refine named hc ((PySem.W.exm_one (M := model X.prog X.w) J3.kIn knows hb).here ?_)
    cases b with
    | false => exact ih (no rfl)
    | true =>
      refine codeAny_handlers_suite_as (HandSPX.lands_againZ C.fl fun h4 f4 u4 => ?_)
      obtain ⟨oe4, vs4, e4, z4, d4⟩ := f4.there
      have S4 := (C.at f4 u4).suite e4 d4 C.na C.nL C.nF
      refine store_ok (X := X.suite a ((a, oe4) :: (X.pn ++ pins))) (v := .ref a) S4 hN hi (.inl hl) rfl (fun s5 S5 => ?_) (.inr hl)
      have hot : HotC (sxN X a n q2 ((a, oe4) :: (X.pn ++ pins))) := ⟨(a, oe4), ⟨rfl, vs4, d4, z4.2.2 vs4 d4⟩, List.mem_cons_self⟩
      have tkS := takes_as (q2 := q2) (q := (a, oe4)) (pins := pins) C.stk C.frm ok (hpa (some (.ref a))) tk hN hi hl
      have S5x : Inv (sxN X a n q2 ((a, oe4) :: (X.pn ++ pins))) [] _ H s5 := (suiteX_of S5).wish (xeAs X a n q2)
      refine wpAny_mono ((hsu a oe4 cls d (X.pn ++ pins) z4 ⟨_, d4⟩ tkS hot).run [] s5 _ H _ S5x (yes rfl a C.na)) (fun f s6 hp => ?_) fun e6 s6 z => z
      have off : ∀ {σ6 : L2.St} {H6 : Hp} {Q : Shared → Prop}, Inv (sxN X a n q2 ((a, oe4) :: (X.pn ++ pins))) [] σ6 H6 s6 → (∀ s7, Inv X pins (σ6.set i none) H6 s7 → Q s7) → wpAny (model X.prog X.w) X.A (do bindName X.env n .none; unbindBehindTheSuite X.env n q2) (fun _ s7 => Q s7) X.xe s6 :=
        fun S6 hq => gone_ok ((show Inv (X.suite a ((a, oe4) :: (X.pn ++ pins))) [] _ _ s6 from S6.wish fun _ _ => False).unsuite ok) hN hi hl hq
      match f, hp with
      | .next, ⟨_, _, S6, q6⟩ => exact off S6 fun _ J7 => ⟨_, _, J7, q6⟩
      | .brk, ⟨_, _, S6, q6⟩ => exact off S6 fun _ J7 => ⟨_, _, J7, q6⟩
      | .cont, ⟨_, _, S6, q6⟩ => exact off S6 fun _ J7 => ⟨_, _, J7, q6⟩
      | .ret _, ⟨_, _, _, S6, r6, q6⟩ => exact off S6 fun _ J7 => ⟨_, _, _, J7, r6, q6⟩
theorem ps_try_mixX {body : List Stmt} {h0 : ExceptHandler} {hs : List ExceptHandler} {l : List Cl} {pos : Pos} {tb : WX → TS} (stk : X.stack = X.env :: X.outer) (frm : X.env.frame = some X.env.locals) (hpa : ∀ hd : Option Value, PassesOwnAt (model X.prog X.w) (X.A.mark hd) X.A X.env X.xe) (tk : L2.Takes X Wo)
    (hb : ∀ (W : WX) (pn : List (Addr × Obj)) (xe : Value → Shared → Prop), L2N.Takes (X.tr pn xe) W → PassesOwn (model X.prog X.w) X.A X.env xe → PSs (X.tr pn xe) body (tb W)) (hh : ClsOkX X Wo (h0 :: hs) l) :
    PS X (.Try body (h0 :: hs) [] [] pos) (fun D σ H => tb (wMix X.K Wo D l) D σ H) := by
  refine ⟨fun pins s σ H D I h => wpAny_Try_except ?_⟩
  have ok := I.ok
  have fr : X.A.frames = some (X.env :: X.outer) := by rw [ok.frames, stk]
  have run := (hb (wMix X.K Wo D l) (X.pn ++ pins) (fun e t1 => wpAny (model X.prog X.w) X.A (noteFrame e X.env) (fun _ t2 => wpAny (model X.prog X.w) X.A (setFlight e none) (fun _ t3 => wpAny (model X.prog X.w) X.A (handleBy e X.env (h0 :: hs)) (SP X pins D) X.xe t3) X.xe t2) X.xe t1) ?_ PassesOwn.looking).run [] s σ H D (I.toTry _) h
  · refine wpAny_mono run (fun f s1 hp => ?_) fun _ _ he => he
    match f, hp with
    | .next, ⟨_, _, J, q⟩ => exact wpAny_execs_nil ⟨_, _, J.ofTry ok, q⟩
    | .brk, ⟨_, _, J, q⟩ => exact ⟨_, _, J.ofTry ok, q⟩
    | .cont, ⟨_, _, J, q⟩ => exact ⟨_, _, J.ofTry ok, q⟩
    | .ret _, ⟨_, _, _, J, r, q⟩ => exact ⟨_, _, _, J.ofTry ok, r, q⟩
  · rintro u s1 ⟨a, B, sI, pins2, σ2, H2, cls, d, rfl, J2, nb, up, sky, na, os, ag, w⟩
    have sky2 : Sky B (X.env :: X.outer) a (L2N.Zn cls d) X.env.locals s1.heap := by rw [← stk]; exact sky
    refine L2N.Sky.land L2N.Zn.steady fr frm sky2 fun h3 f3 u3 => ?_
    obtain ⟨oe, vs, he, _, hd⟩ := f3.there
    have far : a ∉ frs (X.env :: X.outer) := fun m => by
      obtain ⟨_, o2, e2, nf⟩ := f3.2.2.1.mem m
      rw [he] at e2; cases e2
      exact nf _ hd
    have nL : a ≠ X.env.locals := fun z => far (List.mem_filterMap.mpr ⟨X.env, List.mem_cons_self, by rw [frm, z]⟩)
    have nF : a ∉ X.fs := fun m => by
      obtain ⟨e, h1, h2⟩ := List.mem_filterMap.mp m
      exact far (List.mem_filterMap.mpr ⟨e, List.mem_cons_of_mem _ h1, h2⟩)
    exact caught_goX ⟨ok, stk, frm, J2.ofTry ok, nb, up.trans u3, f3, na, nL, nF, os, ag⟩ hpa tk hh w
end
end Sip
/-! promises of the file's calls amid stalls and faults -/
namespace Sip
open PySem PySem.Spec PyProof.Rows L2 TL
theorem PdOk.turnT {F : Fst} {D : Dst} (h : PdOk F D) (hw : F.wt ≠ []) : DOk (leadD D (ptPl F)) ∧ (leadB D (ptPl F) = true → putP F D = .fault (-numF D) (leadD D (ptPl F))) ∧
    (leadB D (ptPl F) = false → PutFit (leadD D (ptPl F)) F.wt ∧ (badN (leadD D (ptPl F)) = true → putP F D = .fault (-numF (leadD D (ptPl F))) (doneS (leadD D (ptPl F)) (.put F.wt))) ∧
      (badN (leadD D (ptPl F)) = false → putP F D = .came (putN (leadD D (ptPl F)) F.wt) (doneS (leadD D (ptPl F)) (.put F.wt)) ∧
        (putN (leadD D (ptPl F)) F.wt ≠ 0 → PdOk (wtF F (putN (leadD D (ptPl F)) F.wt)) (doneS (leadD D (ptPl F)) (.put F.wt))))) := by
  have hl := h.lw
  have hc := h.cu
  have hp : ptPl F + F.wt.length = F.cur := by unfold ptPl; omega
  have hl1 : 1 ≤ F.wt.length := by cases hh : F.wt with
    | nil => exact absurd hh hw
    | cons x xs => show 1 ≤ xs.length + 1; omega
  have hns := h.ns
  have hcl := h.cl
  obtain ⟨l1, l2, l3, l4, l5, _⟩ := leadD_facts D (ptPl F)
  have dl := leadD_ok (p := ptPl F) h.dok (by omega)
  refine ⟨dl, fun hb => ?_, fun hb => ?_⟩
  · unfold putP; rw [if_pos hb]
  have hs := lead_spot h.sk hb
  refine ⟨⟨fun _ => ⟨by rw [l1]; exact h.cl, by rw [hs]; omega⟩, by rw [l1]; omega, by rw [hs]; omega, by omega⟩, fun hbad => ?_, fun hbad => ⟨?_, fun n0 => ?_⟩⟩
  · unfold putP
    rw [if_neg (by rw [hb]; simp), if_pos hbad]
  · unfold putP
    rw [if_neg (by rw [hb]; simp), if_neg (by rw [hbad]; simp)]
  · obtain ⟨u1, u2, u3, u4, u5⟩ := doneS_used (leadD D (ptPl F)) (.put F.wt)
    have du := used_done (a := .put F.wt) dl.ok (by omega)
    have nl := putN_le (leadD D (ptPl F)) F.wt
    have eD : doneS (leadD D (ptPl F)) (.put F.wt) = goodS (leadD D (ptPl F)) (.put F.wt) := if_neg (by rw [hbad]; simp)
    obtain ⟨c1, _, _⟩ := good_put1 n0
    refine ⟨⟨du, by rw [u4]; exact dl.br⟩, by rw [u3, l3]; exact h.sk, ?_, ?_, h.cu, ?_⟩
    · rw [u5, List.length_append]
      show _ + 1 + 2 * (F.wt.drop _).length ≤ _
      rw [List.length_drop]; omega
    · rw [eD, c1, l1, hs]
      exact laidF_le ⟨h.cl, by rw [List.length_take]; omega⟩
    · show (F.wt.drop _).length ≤ F.cur
      rw [List.length_drop]; omega
/-- an error that is let out: its dict, and what stands then -/
def ErrF (CF CD : Addr) (E : XK) (C : Addr) (xd : List (Str × V)) (f d : Addr) (R : List Ch) (F : Fst) (D : Dst) : Prop := ∀ (H' : Hp) (e : Addr), Sat H' (filC CF f d F :: devC CD d D :: .pt e (.xd xd) :: R) → E (.ref C) (some e) H'
theorem ErrF.mk {CF CD C : Addr} {E : XK} {xd : List (Str × V)} {f d : Addr} {R : List Ch} {F : Fst} {D : Dst} {H : Hp} (h : ErrF CF CD E C xd f d R F D) (hS : Sat H (filC CF f d F :: devC CD d D :: R)) : ∀ e, H e = none → E (.ref C) (some e) (upd H e (.xd xd)) :=
  fun e ne => h _ e ((Sat.alloc hS ne rfl).pk (.cons (.tl .hd) (.cons (.tl .hd) (.cons .hd .nil))))
abbrev stx (n : Int) : List (Str × V) := [("taken", .int n)]
abbrev ftx (n k : Int) : List (Str × V) := [("taken", .int n), ("number", .int k)]
/-- how a call ends that puts down first -/
def Down (CF CD CS CT : Addr) (E : XK) (f d : Addr) (R : List Ch) (most : Nat) (F : Fst) (D : Dst) (k : Fst → Dst → Prop) : Prop := ∀ F1 D1 r, PdL most F D F1 D1 r →
  (r = .ok → k F1 D1) ∧ (r = .stall → ErrF CF CD E CS (stx 0) f d R F1 D1) ∧ (∀ j, r = .fault j → ErrF CF CD E CT (ftx 0 j) f d R F1 D1)
theorem Down.ok {CF CD CS CT : Addr} {E : XK} {f d : Addr} {R : List Ch} {most : Nat} {F F1 : Fst} {D D1 : Dst} {k : Fst → Dst → Prop} (h : Down CF CD CS CT E f d R most F D k) (p : PdL most F D F1 D1 .ok) : k F1 D1 := (h F1 D1 _ p).1 rfl
theorem Down.imp {CF CD CS CT : Addr} {E : XK} {f d : Addr} {R : List Ch} {most : Nat} {F : Fst} {D : Dst} {k k' : Fst → Dst → Prop} (h : Down CF CD CS CT E f d R most F D k) (g : ∀ F1 D1, PdL most F D F1 D1 .ok → k F1 D1 → k' F1 D1) : Down CF CD CS CT E f d R most F D k' :=
  fun F1 D1 r p => ⟨fun e => g F1 D1 (by rw [← e]; exact p) ((h F1 D1 r p).1 e), (h F1 D1 r p).2⟩
def spFPdT (CF CD CS CT : Addr) : Sp := fun vs H Q E => ∃ (f d : Addr) (F : Fst) (D : Dst) (most : Nat) (R : List Ch), vs = [.ref f, .int most] ∧ Sat H (filC CF f d F :: devC CD d D :: R) ∧ PdOk F D ∧
  Down CF CD CS CT E f d R most F D fun F' D' => ∀ H', Sat H' (filC CF f d F' :: devC CD d D' :: R) → Q .non H'
def spFBegT (CF CD CS CT : Addr) : Sp := fun vs H Q E => ∃ (f d : Addr) (F : Fst) (D : Dst) (R : List Ch), vs = [.ref f] ∧ Sat H (filC CF f d F :: devC CD d D :: R) ∧ PdOk F D ∧
  Down CF CD CS CT E f d R 0 F D fun F' D' => ∀ H', Sat H' (filC CF f d (begF F' D') :: devC CD d D' :: R) → Q .non H'
def spFFlushT (CF CD CS CT : Addr) : Sp := fun vs H Q E => ∃ (f d : Addr) (F : Fst) (D : Dst) (R : List Ch), vs = [.ref f] ∧ Sat H (filC CF f d F :: devC CD d D :: R) ∧ F.fin = false ∧ PdOk F D ∧
  Down CF CD CS CT E f d R 0 F D fun F' D' => ∀ H', Sat H' (filC CF f d F' :: devC CD d D' :: R) → Q .non H'
def spFSeekT (CF CD CS CT : Addr) : Sp := fun vs H Q E => ∃ (f d : Addr) (F : Fst) (D : Dst) (pl : Int) (st : Str) (g : Nat) (R : List Ch), vs = [.ref f, .int pl, .str st] ∧ Sat H (filC CF f d F :: devC CD d D :: R) ∧ F.fin = false ∧ PdOk F D ∧
  ((st = Str.ofString "head" ∧ (g : Int) = pl) ∨ (st = Str.ofString "here" ∧ (g : Int) = F.cur + pl) ∨ (st = Str.ofString "tail" ∧ (g : Int) = sizeF F D + pl)) ∧ g ≤ 4000 ∧
  (g = F.cur → ∀ H', Sat H' (filC CF f d F :: devC CD d D :: R) → Q (.int g) H') ∧
  (g ≠ F.cur → Down CF CD CS CT E f d R 0 F D fun F' D' => ∀ H', Sat H' (filC CF f d { F' with cur := g, kw := [] } :: devC CD d D' :: R) → Q (.int g) H')
def spFCutT (CF CD CS CT : Addr) : Sp := fun vs H Q E => ∃ (f d : Addr) (F : Fst) (D : Dst) (k : Option Nat) (R : List Ch), vs = [.ref f, cntV k] ∧ Sat H (filC CF f d F :: devC CD d D :: R) ∧ F.fin = false ∧ F.wr = true ∧ PdOk F D ∧ cutG F k ≤ 4000 ∧
  Down CF CD CS CT E f d R 0 F D fun F' D' => DOk D' ∧ D'.seek = true ∧ (badN D' = false → ∀ H', Sat H' (filC CF f d { F' with kw := [] } :: devC CD d (doneS D' (.cut (cutG F k))) :: R) → Q .non H') ∧
    (badN D' = true → ErrF CF CD E CT (ftx 0 (-numF D')) f d R F' (doneS D' (.cut (cutG F k))))
def TellT (CF CD CT : Addr) (Q : VK) (E : XK) (f d : Addr) (R : List Ch) (F : Fst) (D : Dst) : RR → Prop
  | .told xs => ∀ (H' : Hp) (q : Addr), Sat H' (.pt q (.lst (xs.map V.int)) :: filC CF f d F :: devC CD d D :: R) → Q (.ref q) H'
  | .non => ∀ H', Sat H' (filC CF f d F :: devC CD d D :: R) → Q .non H'
  | .fault k => ErrF CF CD E CT (ftx 0 k) f d R F D
def spFRdT (L : Option Nat → Fst → Dst → Fst → Dst → RR → Prop) (CF CD CS CT : Addr) : Sp := fun vs H Q E => ∃ (f d : Addr) (F : Fst) (D : Dst) (many : Option Nat) (R : List Ch), vs = [.ref f, cntV many] ∧ Sat H (filC CF f d F :: devC CD d D :: R) ∧ F.fin = false ∧ F.rd = true ∧ PdOk F D ∧ (∀ n, many = some n → n ≤ 1000000000) ∧
  (many = some 0 → ∀ (H' : Hp) (q : Addr), Sat H' (.pt q (.lst []) :: filC CF f d F :: devC CD d D :: R) → Q (.ref q) H') ∧
  (many ≠ some 0 → Down CF CD CS CT E f d R 0 F D fun F1 D1 => RdOk F1 D1 ∧ ∀ F' D' r, L many (begF F1 D1) D1 F' D' r → TellT CF CD CT Q E f d R F' D' r)
def SomeL (k : Option Nat) (F : Fst) (D : Dst) (F' : Fst) (D' : Dst) (r : RR) : Prop := ∃ F1, PkL k F D F1 D' r ∧ F' = someF F1 r
def spCallT (CF CD CS CT : Addr) : Sp := fun vs H Q E => ∃ (f d : Addr) (F : Fst) (D : Dst) (wd : Wd) (many : Option Nat) (R : List Ch), vs = [.ref f, .str wd.s, cntV many] ∧ Sat H (filC CF f d F :: devC CD d D :: R) ∧ F.fin = false ∧ F.rd = true ∧ PdOk F D ∧ (∀ n, many = some n → n ≤ 1000000000) ∧
  (many = some 0 → ∀ (H' : Hp) (q : Addr), Sat H' (.pt q (.lst []) :: filC CF f d F :: devC CD d D :: R) → Q (.ref q) H') ∧
  (many ≠ some 0 → Down CF CD CS CT E f d R 0 F D fun F1 D1 => RdOk F1 D1 ∧ ∀ F' D' r, CallL wd many (begF F1 D1) D1 F' D' r → TellT CF CD CT Q E f d R F' D' r)
/-- only a room full waits -/
def backF (F : Fst) (room : Nat) : Fst := { F with wt := F.wt.take room, cur := F.cur - (F.wt.length - room) }
def spFBackC (CF : Addr) : Sp := fun vs H Q _ => ∃ (f d : Addr) (F : Fst) (R : List Ch), vs = [.ref f] ∧ Sat H (filC CF f d F :: R) ∧ F.room ≤ F.wt.length ∧ F.wt.length ≤ F.cur ∧ F.wt.length ≤ 10000 ∧
  ∀ H', Sat H' (filC CF f d (backF F F.room) :: R) → Q (.int ((F.wt.length : Int) - (F.room : Int))) H'
def spFWriteT (CF CD CS CT : Addr) : Sp := fun vs H Q E => ∃ (f d b : Addr) (F : Fst) (D : Dst) (ds : List Int) (R : List Ch), vs = [.ref f, .ref b] ∧ Sat H (filC CF f d F :: devC CD d D :: .pt b (.lst (ds.map V.int)) :: R) ∧ Bytes ds ∧ F.fin = false ∧ F.wr = true ∧ D.seek = true ∧
  (ds = [] → ∀ H', Sat H' (filC CF f d F :: devC CD d D :: .pt b (.lst (ds.map V.int)) :: R) → Q (.int 0) H') ∧
  (ds ≠ [] → PdOk (wroteF F ds) D ∧ ∀ F1 D1 r, PdL F.room (wroteF F ds) D F1 D1 r →
    (r = .ok → ∀ H', Sat H' (filC CF f d F1 :: devC CD d D1 :: .pt b (.lst (ds.map V.int)) :: R) → Q (.int ds.length) H') ∧
    (r = .stall → ErrF CF CD E CS (stx ((ds.length : Int) - ((F1.wt.length : Int) - (F1.room : Int)))) f d (.pt b (.lst (ds.map V.int)) :: R) (backF F1 F1.room) D1) ∧
    (∀ j, r = .fault j → ErrF CF CD E CT (ftx ((ds.length : Int) - ((F1.wt.length : Int) - (F1.room : Int))) j) f d (.pt b (.lst (ds.map V.int)) :: R) (backF F1 F1.room) D1))
theorem delFrom (r : List Int) (n : Nat) (h : n ≤ r.length) : delV (r.map V.int) (some (n : Int)) none = (r.take n).map V.int := by
  unfold delV delL
  rw [HT.sIx_nat, HT.sIx_none, List.length_map, Nat.min_eq_left h, List.map_take]
  simp
  omega
theorem PdL.roomK {most : Nat} {F F' : Fst} {D D' : Dst} {r : PR} (h : PdL most F D F' D' r) : F'.room = F.room ∧ F'.rd = F.rd ∧ F'.wr = F.wr ∧ F'.fin = F.fin ∧ F'.cur = F.cur ∧ F'.kw = F.kw ∧ F'.seen = F.seen ∧ F'.lost = F.lost ∧ F'.busy = F.busy ∧ (r ≠ .ok → most < F'.wt.length) := by
  induction h with
  | done => exact ⟨rfl, rfl, rfl, rfl, rfl, rfl, rfl, rfl, rfl, fun z => absurd rfl z⟩
  | more _ _ _ _ ih => exact ih
  | stall h => exact ⟨rfl, rfl, rfl, rfl, rfl, rfl, rfl, rfl, rfl, fun _ => h⟩
  | fault h => exact ⟨rfl, rfl, rfl, rfl, rfl, rfl, rfl, rfl, rfl, fun _ => h⟩
theorem PdL.wtle {most : Nat} {F F' : Fst} {D D' : Dst} {r : PR} (h : PdL most F D F' D' r) : F'.wt.length ≤ F.wt.length := by
  induction h with
  | done => exact Nat.le_refl _
  | @more F D n D' F2 D2 r _ _ _ _ ih => exact Nat.le_trans ih (by show (F.wt.drop n).length ≤ _; rw [List.length_drop]; omega)
  | stall => exact Nat.le_refl _
  | fault => exact Nat.le_refl _
end Sip
/-! what putting down comes to, amid stalls and faults; how it lies -/
namespace Sip
open PySem PySem.Spec PyProof.Rows L2 TL
abbrev wPut : Str := Str.ofString "put"
abbrev wGo : Str := Str.ofString "go"
abbrev wTake : Str := Str.ofString "take"
abbrev wCut : Str := Str.ofString "cut"
/-- how a call's asks may lie: old of both's bytes wait, from place on, n of both's are put by then -/
inductive Ly (old place : Nat) (both : List Int) : Nat → List Nt → Nat → Prop
  | nil {n} : Ly old place both n [] n
  | go {n : Nat} {p q : Nat} {c ns r} : q = place + n → Ly old place both n ns r → Ly old place both n (⟨wGo, p, .i (q : Int), c⟩ :: ns) r
  | put {n p : Nat} {hs : List Int} {k : Nat} {ns r} : p = place + n → hs = (both.drop n).take hs.length → old ≤ n + hs.length → hs.length ≤ 4000 → k ≤ hs.length → Ly old place both (n + k) ns r → Ly old place both n (⟨wPut, p, .l hs, .i (k : Int)⟩ :: ns) r
  | no {n p : Nat} {hs : List Int} {z : Str} {ns r} : p = place + n → hs = (both.drop n).take hs.length → old ≤ n + hs.length → hs.length ≤ 4000 → Ly old place both n ns r → Ly old place both n (⟨wPut, p, .l hs, .s z⟩ :: ns) r
  | oth {n : Nat} {a : Nt} {ns r} : old ≤ n → a.w ≠ wPut → Ly old place both n ns r → Ly old place both n (a :: ns) r
theorem Ly.app {old place : Nat} {both : List Int} {n r s : Nat} {ns ms : List Nt} (h : Ly old place both n ns r) (k : Ly old place both r ms s) : Ly old place both n (ns ++ ms) s := by
  induction h with
  | nil => exact k
  | go a _ ih => exact .go a (ih k)
  | put a b c d e _ ih => exact .put a b c d e (ih k)
  | no a b c d _ ih => exact .no a b c d (ih k)
  | oth a b _ ih => exact .oth a b (ih k)
theorem Ly.le {old place : Nat} {both : List Int} {n r : Nat} {ns : List Nt} (h : Ly old place both n ns r) : n ≤ r := by
  induction h with
  | nil => exact Nat.le_refl _
  | go _ _ ih => exact ih
  | put _ _ _ _ _ _ ih => omega
  | no _ _ _ _ _ ih => exact ih
  | oth _ _ _ ih => exact ih
theorem Ly.max {old place : Nat} {both : List Int} {n r : Nat} {ns : List Nt} (h : Ly old place both n ns r) : n ≤ both.length → r ≤ both.length := by
  induction h with
  | nil => exact id
  | go _ _ ih => exact ih
  | @put n p hs k ns r a b c d e _ ih =>
    intro hn
    refine ih ?_
    have := congrArg List.length b
    rw [List.length_take, List.length_drop] at this
    omega
  | no _ _ _ _ _ ih => exact ih
  | oth _ _ _ ih => exact ih
/-- asks behind which nothing waits -/
theorem Ly.oths {old place : Nat} {both : List Int} {n : Nat} {ns : List Nt} (h : old ≤ n) (hw : ∀ a ∈ ns, a.w ≠ wPut) : Ly old place both n ns n := by
  induction ns with
  | nil => exact .nil
  | cons a ns ih => exact .oth h (hw a List.mem_cons_self) (ih fun b hb => hw b (List.mem_cons_of_mem _ hb))
def PutGo (as : List Ask) : Prop := ∀ a ∈ as, (∃ p, a = .go p) ∨ ∃ xs, a = .put xs
inductive PdO (D : Dst) (as : List Ask) : PR → Prop
  | ok : Calm (camesT D as) → PdO D as .ok
  | stall {ts as' xs} : camesT D as = ts ++ [.s sStall] → Calm ts → as = as' ++ [.put xs] → (asksS D as).ns.length ≤ D.plan.length → D.ns.length < (asksS D as).ns.length → PdO D as .stall
  | fault {ts k} : camesT D as = ts ++ [.s sFault] → Calm ts → D.plan[(asksS D as).ns.length - 1]? = some (-k) → (asksS D as).ns.length ≤ D.plan.length → D.ns.length < (asksS D as).ns.length → PdO D as (.fault k)
theorem PdO.pre {D : Dst} {bs as : List Ask} {r : PR} (h : PdO (asksS D bs) as r) (cb : Calm (camesT D bs)) : PdO D (bs ++ as) r := by
  have ep := (asksS_facts D bs).1
  have en : D.ns.length ≤ (asksS D bs).ns.length := by rw [asksS_ns, List.length_append]; omega
  cases h with
  | ok a => exact .ok (by rw [camesT_app]; exact cb.app a)
  | stall a b c l m => exact .stall (by rw [camesT_app, a, ← List.append_assoc]) (cb.app b) (by rw [c, ← List.append_assoc]) (by rw [asksS_app]; rw [ep] at l; exact l) (by rw [asksS_app]; omega)
  | fault a b p l m => exact .fault (by rw [camesT_app, a, ← List.append_assoc]) (cb.app b) (by rw [asksS_app]; rw [ep] at p; exact p) (by rw [asksS_app]; rw [ep] at l; exact l) (by rw [asksS_app]; omega)
theorem PdO.quiet {D : Dst} {as : List Ask} {r : PR} (h : PdO D as r) : Quiet (camesT D as) := by
  cases h with
  | ok a => exact a.quiet0
  | stall a b => rw [a]; exact b.quiet
  | fault a b => rw [a]; exact b.quiet
/-- one put of all that waits -/
theorem put_two {F : Fst} {D : Dst} (uo : UsedOk D) (sk : D.seek = true) (lc : D.cells.length ≤ 4000) (cu : F.cur ≤ 4000) (lw : F.wt.length ≤ F.cur) (hw : F.wt ≠ []) :
    ∃ bs, Seq D bs ∧ 1 ≤ bs.length ∧ bs.length ≤ 2 ∧ PutGo bs ∧
      ((∃ k, putP F D = .fault k (asksS D bs) ∧ PdO D bs (.fault k) ∧ (asksS D bs).cells = D.cells ∧
          ∀ old place both m, both.drop m = F.wt → ptPl F = place + m → m + F.wt.length = both.length → old ≤ both.length → Ly old place both m (notesT D bs) m) ∨
       (∃ n, putP F D = .came n (asksS D bs) ∧ n ≤ F.wt.length ∧ (n = 0 → PdO D bs .stall) ∧ (n ≠ 0 → Calm (camesT D bs)) ∧ (asksS D bs).cells = laidF D.cells (ptPl F) (F.wt.take n) ∧
          ∀ old place both m, both.drop m = F.wt → ptPl F = place + m → m + F.wt.length = both.length → old ≤ both.length → Ly old place both m (notesT D bs) (m + n))) := by
  have hl : 1 ≤ F.wt.length := by cases h : F.wt with
    | nil => exact absurd h hw
    | cons x xs => show 1 ≤ xs.length + 1; omega
  have hp : ptPl F + F.wt.length = F.cur := by unfold ptPl; omega
  generalize hpp : ptPl F = p at hp
  have g1 : FitA D (.go p) := by show p ≤ 4000; omega
  by_cases hb : leadB D p = true
  · have hg : goB D p = true := by unfold leadB at hb; simp at hb; exact hb.1
    have hbad : badN D = true := by unfold leadB at hb; simp at hb; exact hb.2
    have e1 : leadD D p = doneS D (.go p) := if_pos hg
    obtain ⟨k, ek, hk⟩ := badN_iff.mp hbad
    refine ⟨[.go p], .one g1, Nat.le_refl _, by show 1 ≤ 2; decide, (fun a ha => .inl ⟨p, List.mem_singleton.mp ha⟩), .inl ⟨-numF D, ?_, ?_, ?_, fun old place both m h1 h2 h3 h4 => .go h2 .nil⟩⟩
    · unfold putP; rw [hpp, if_pos hb, e1]; rfl
    · have el : (asksS D [.go p]).ns.length = D.ns.length + 1 := by rw [asksS_ns, List.length_append]; rfl
      rw [uo.plan] at ek
      have := (List.getElem?_eq_some_iff.mp ek).1
      refine .fault (ts := []) ?_ (fun t h => (by cases h)) ?_ (by rw [el]; omega) (by rw [el]; omega)
      · show [cameT D (.go p)] = _
        unfold cameT; rw [if_pos hbad]; rfl
      · rw [← uo.plan] at ek
        rw [numF_some ek, Int.neg_neg, el, Nat.add_sub_cancel, ← uo.plan, ek]
    · show (doneS D (.go p)).cells = D.cells
      rw [← e1]; exact (leadD_facts D p).1
  have hb' : leadB D p = false := Bool.eq_false_iff.mpr hb
  have hs := lead_spot sk hb'
  obtain ⟨l1, l2, l3, l4, _, _⟩ := leadD_facts D p
  obtain ⟨as, sa, la, pg, eA, cA, uA, nA⟩ : ∃ as : List Ask, Seq D as ∧ as.length ≤ 1 ∧ PutGo as ∧ leadD D p = asksS D as ∧ Calm (camesT D as) ∧ UsedOk (leadD D p) ∧ (∀ old place both m r ns, p = place + m → Ly old place both m ns r → Ly old place both m (notesT D as ++ ns) r) := by
    by_cases hg : goB D p = true
    · have hbad : badN D = false := by unfold leadB at hb'; rw [hg] at hb'; exact hb'
      refine ⟨[.go p], .one g1, Nat.le_refl _, (fun a ha => .inl ⟨p, List.mem_singleton.mp ha⟩), if_pos hg, fun t ht => ?_, by rw [show leadD D p = doneS D (.go p) from if_pos hg]; exact uo.done _, fun old place both m r ns e h => .go e h⟩
      rw [List.mem_singleton.mp (show t ∈ [cameT D (.go p)] from ht)]
      unfold cameT; rw [if_neg (by rw [hbad]; simp)]; rfl
    · exact ⟨[], .nil, Nat.zero_le _, (fun a ha => by cases ha), if_neg hg, fun t h => (by cases h), by rw [show leadD D p = D from if_neg hg]; exact uo, fun _ _ _ _ _ _ _ h => h⟩
  have f2 : FitA (asksS D as) (.put F.wt) := ⟨hw, by rw [← eA, hs]; omega⟩
  have eD : doneS (leadD D p) (.put F.wt) = asksS D (as ++ [.put F.wt]) := by rw [asksS_snoc, ← eA]
  have eC : camesT D (as ++ [.put F.wt]) = camesT D as ++ [cameT (leadD D p) (.put F.wt)] := by rw [camesT_snoc, ← eA]
  have eN : notesT D (as ++ [.put F.wt]) = notesT D as ++ [⟨wPut, p, .l F.wt, cameT (leadD D p) (.put F.wt)⟩] := by
    rw [notesT_app, ← eA]
    show _ ++ [(⟨Str.ofString "put", (leadD D p).spot, .l F.wt, cameT (leadD D p) (.put F.wt)⟩ : Nt)] = _
    rw [hs]
  have eL : (asksS D (as ++ [.put F.wt])).ns.length = (leadD D p).ns.length + 1 := by rw [← eD, (doneS_used _ _).2.2.2.2, List.length_append]; rfl
  have eM : D.ns.length ≤ (leadD D p).ns.length := by rw [eA, asksS_ns, List.length_append]; omega
  have pgA : PutGo (as ++ [.put F.wt]) := fun a ha => (List.mem_append.mp ha).elim (pg a) fun z => .inr ⟨_, List.mem_singleton.mp z⟩
  have same : ∀ {both : List Int} {m : Nat}, both.drop m = F.wt → F.wt = (both.drop m).take F.wt.length := fun h => by rw [h, List.take_length]
  refine ⟨as ++ [.put F.wt], sa.app (.one f2), by rw [List.length_append]; show 1 ≤ _ + 1; omega, by rw [List.length_append]; show _ + 1 ≤ 2; omega, pgA, ?_⟩
  by_cases hbad : badN (leadD D p) = true
  · have et : cameT (leadD D p) (.put F.wt) = .s sFault := if_pos hbad
    obtain ⟨k, ek, hk⟩ := badN_iff.mp hbad
    have ek2 := ek
    rw [uA.plan, l2] at ek2
    have := (List.getElem?_eq_some_iff.mp ek2).1
    refine .inl ⟨-numF (leadD D p), ?_, .fault (by rw [eC, et]) cA ?_ (by rw [eL]; omega) (by rw [eL]; omega), ?_, fun old place both m h1 h2 h3 h4 => ?_⟩
    · unfold putP; rw [hpp, if_neg hb, if_pos hbad, eD]
    · rw [numF_some ek, Int.neg_neg, eL, Nat.add_sub_cancel, ek2]
    · rw [← eD, show doneS (leadD D p) (.put F.wt) = noteS (leadD D p) _ _ _ from if_pos hbad, noteS_cells, l1]
    · rw [eN, et]
      exact nA _ _ _ _ _ _ h2 (.no h2 (same h1) (by omega) (by omega) .nil)
  have hbf : badN (leadD D p) = false := Bool.eq_false_iff.mpr hbad
  have ec : cameT (leadD D p) (.put F.wt) = goodT (leadD D p) (.put F.wt) := if_neg hbad
  refine .inr ⟨putN (leadD D p) F.wt, ?_, putN_le _ _, fun h0 => ?_, fun h0 => ?_, ?_, fun old place both m h1 h2 h3 h4 => ?_⟩
  · unfold putP; rw [hpp, if_neg hb, if_neg hbad, eD]
  · have et : cameT (leadD D p) (.put F.wt) = .s sStall := by rw [ec, (good_put0 h0).2.2]
    have hp1 : ∃ k, planN (leadD D p) = some k := by
      cases e : planN (leadD D p) with
      | some k => exact ⟨k, rfl⟩
      | none => unfold putN mayF at h0; rw [e] at h0; have h0 : ((F.wt.length : Nat) : Int).toNat = 0 := h0; omega
    obtain ⟨k, ek⟩ := hp1
    rw [uA.plan, l2] at ek
    have := (List.getElem?_eq_some_iff.mp ek).1
    exact .stall (by rw [eC, et]) cA rfl (by rw [eL]; omega) (by rw [eL]; omega)
  · rw [eC, ec, (good_put1 h0).2.2]
    exact cA.app fun t ht => by rw [List.mem_singleton.mp ht]; rfl
  · rw [← eD, show doneS (leadD D p) (.put F.wt) = goodS (leadD D p) (.put F.wt) from if_neg hbad]
    by_cases h0 : putN (leadD D p) F.wt = 0
    · rw [(good_put0 h0).1, h0, List.take_zero, laidF_nil, l1]
    · rw [(good_put1 h0).1, l1, hs]
  · rw [eN, ec]
    by_cases h0 : putN (leadD D p) F.wt = 0
    · rw [(good_put0 h0).2.2, h0]
      exact nA _ _ _ _ _ _ h2 (.no h2 (same h1) (by omega) (by omega) .nil)
    · rw [(good_put1 h0).2.2]
      exact nA _ _ _ _ _ _ h2 (.put h2 (same h1) (by omega) (by omega) (putN_le _ _) .nil)
/-- putting down -/
structure PdS (most : Nat) (F : Fst) (D : Dst) (as : List Ask) (n : Nat) (F' : Fst) (r : PR) : Prop where
  ef : F' = wtF F n
  nl : n ≤ F.wt.length
  seq : Seq D as
  la : as.length ≤ 2 * (n + 1)
  pg : PutGo as
  cl : (asksS D as).cells = laidF D.cells (ptPl F) (F.wt.take n)
  ly : ∀ old place both m, both.drop m = F.wt → ptPl F = place + m → m + F.wt.length = both.length → old ≤ both.length → Ly old place both m (notesT D as) (m + n)
  out : PdO D as r
  ok : r = .ok → F.wt.length - n ≤ most
  no : r ≠ .ok → most < F.wt.length - n
  nil : F.wt.length ≤ most → as = []
theorem PdL.out2 {most : Nat} {F F' : Fst} {D D' : Dst} {r : PR} (h : PdL most F D F' D' r) : ∀ (uo : UsedOk D) (sk : D.seek = true) (lc : D.cells.length ≤ 4000) (ls : D.spot ≤ 4000) (cu : F.cur ≤ 4000) (lw : F.wt.length ≤ F.cur),
    ∃ as n, D' = asksS D as ∧ PdS most F D as n F' r := by
  induction h with
  | @done F D hm =>
    intro uo sk lc ls cu lw
    exact ⟨[], 0, rfl, rfl, Nat.zero_le _, .nil, Nat.zero_le _, (fun a ha => by cases ha), by rw [List.take_zero, laidF_nil]; rfl, fun _ _ _ _ _ _ _ _ => .nil, .ok (fun t h => by cases h), fun _ => by omega, fun z => absurd rfl z, fun _ => rfl⟩
  | @more F D n D1 F2 D2 r hm e h0 _ ih =>
    intro uo sk lc ls cu lw
    have hw : F.wt ≠ [] := fun z => by rw [z] at hm; exact absurd hm (by simp)
    obtain ⟨bs, sb, b1, b2, pb, ⟨k, z, _⟩ | ⟨n', z, hn, _, cb, ec, lyb⟩⟩ := put_two uo sk lc cu lw hw
    · rw [z] at e; cases e
    rw [z] at e
    injection e with e1 e2
    subst e1 e2
    obtain ⟨f1, f2, f3, f4, f5⟩ := asksS_facts D bs
    obtain ⟨s1, s2⟩ := sb.size lc ls bs.length
    rw [List.take_of_length_le (Nat.le_refl _)] at s1 s2
    have lw2 : (wtF F n').wt.length ≤ (wtF F n').cur := by show (F.wt.drop n').length ≤ F.cur; rw [List.length_drop]; omega
    obtain ⟨as, m, i1, S⟩ := ih (f5 uo) (by rw [f2]; exact sk) s1 s2 cu lw2
    obtain ⟨i2, i3, i4, i5, i6, i7, i8, i9, i10, i11, i12⟩ := S
    have i3 : m ≤ (F.wt.drop n').length := i3
    rw [List.length_drop] at i3
    have el : (wtF F n').wt.length = F.wt.length - n' := List.length_drop
    have ep : ptPl (wtF F n') = ptPl F + n' := by unfold ptPl; rw [el]; show F.cur - _ = _; omega
    rw [el] at i10 i11
    refine ⟨bs ++ as, n' + m, by rw [i1, asksS_app], by rw [i2]; unfold wtF; rw [List.drop_drop], by omega, sb.app i4, by rw [List.length_append]; omega, fun a ha => (List.mem_append.mp ha).elim (pb a) (i6 a), ?_, fun old place both mm h1 h2 h3 h4 => ?_, i9.pre (cb h0), fun z => by have := i10 z; omega, fun z => by have := i11 z; omega, fun z => by omega⟩
    · rw [asksS_app, i7, ec, ep]
      show laidF _ _ ((F.wt.drop n').take m) = _
      have hp := laidF_parts D.cells (ptPl F) n' (F.wt.take (n' + m)) (by rw [List.length_take]; omega)
      rw [List.take_take, Nat.min_eq_left (by omega), List.drop_take] at hp
      rw [show n' + m - n' = m by omega] at hp
      exact hp
    · rw [notesT_app]
      refine (lyb old place both mm h1 h2 h3 h4).app ?_
      rw [← Nat.add_assoc]
      exact i8 old place both (mm + n') (by rw [← List.drop_drop, h1]; rfl) (by rw [ep]; omega) (by rw [el]; omega) h4
  | @stall F D D1 hm e =>
    intro uo sk lc ls cu lw
    have hw : F.wt ≠ [] := fun z => by rw [z] at hm; exact absurd hm (by simp)
    obtain ⟨bs, sb, b1, b2, pb, ⟨k, z, _⟩ | ⟨n', z, hn, pd, _, ec, lyb⟩⟩ := put_two uo sk lc cu lw hw
    · rw [z] at e; cases e
    rw [z] at e
    injection e with e1 e2
    subst e1 e2
    exact ⟨bs, 0, rfl, rfl, Nat.zero_le _, sb, by omega, pb, ec, lyb, pd rfl, fun z => (by cases z), fun _ => by omega, fun z => by omega⟩
  | @fault F D k D1 hm e =>
    intro uo sk lc ls cu lw
    have hw : F.wt ≠ [] := fun z => by rw [z] at hm; exact absurd hm (by simp)
    obtain ⟨bs, sb, b1, b2, pb, ⟨k, z, pd, ec, lyb⟩ | ⟨n', z, _⟩⟩ := put_two uo sk lc cu lw hw
    · rw [z] at e
      injection e with e1 e2
      subst e1 e2
      exact ⟨bs, 0, rfl, rfl, Nat.zero_le _, sb, by omega, pb, by rw [List.take_zero, laidF_nil]; exact ec, lyb, pd, fun z => (by cases z), fun _ => by omega, fun z => by omega⟩
    · rw [z] at e; cases e
end Sip
/-! what stands between the calls of a file that writes amid troubles -/
namespace Sip
open PySem PySem.Spec PyProof.Rows L2 TL
/-- row the plain row, c the cursor, u up to where the bytes are known, wt what waits -/
structure JI (i j : Nat) (row : List Int) (c u : Nat) (wt : List Int) (F : Fst) (D : Dst) : Prop where
  rw_ : rowF F D = row
  lr : row.length ≤ 60 + 40 * i
  lc : c ≤ 70 + 40 * i
  uo : UsedOk D
  pl : D.plan.length ≤ 400
  sk : D.seek = true
  br : D.bar = false
  ns : D.ns.length ≤ 8100 * j
  sp : D.spot ≤ 4000
  cu : F.cur = c
  ew : F.wt = wt
  lw : wt.length ≤ c
  lm : wt.length ≤ F.room
  fin : F.fin = false
  rd : F.rd = true
  wr : F.wr = true
  r1 : 1 ≤ F.room
  r2 : F.room ≤ 64
  kw0 : wt ≠ [] → F.kw = []
  kf : KnF F D.cells
  sn : F.kw = [] ∨ F.seen = D.cells.length ∨ u = c
  cu2 : c ≤ u
  un : u ≤ F.cur + F.kw.length
  ls : F.lost = []
  bz : F.busy = false
section
variable {i j : Nat} {row : List Int} {c u : Nat} {wt : List Int} {F F1 F' : Fst} {D D1 D' : Dst} {r : PR}
theorem JI.up {i' j' : Nat} (h : JI i j row c u wt F D) (a : i ≤ i') (b : j ≤ j') : JI i' j' row c u wt F D := { h with lr := by have := h.lr; omega, lc := by have := h.lc; omega, ns := by have := h.ns; omega }
theorem JI.size (h : JI i j row c u wt F D) : sizeF F D = row.length := by rw [← rowF_len (by rw [h.ew, h.cu]; exact h.lw), h.rw_]
theorem JI.cl (h : JI i j row c u wt F D) : D.cells.length ≤ row.length := by
  have := h.size
  unfold sizeF at this
  split at this <;> omega
theorem JI.row0 (h : JI i j row c u [] F D) : D.cells = row := by rw [← h.rw_, rowF_nil h.ew]
theorem JI.pd (h : JI i j row c u wt F D) (li : i ≤ 90) (lj : j ≤ 975) : PdOk F D := by
  have h1 := h.lr
  have h2 := h.lc
  have h3 := h.cl
  have h4 := h.ns
  have h5 := h.lm
  have h6 := h.r2
  have h7 := h.cu
  have h8 := h.pl
  have h9 := h.ew
  exact ⟨⟨⟨by rw [h.uo]; omega, by omega, by omega⟩, h.br⟩, h.sk, by rw [h9]; omega, by omega, by omega, by rw [h9, h7]; exact h.lw⟩
/-- what waits is put -/
theorem PdS.rowK {most : Nat} {as : List Ask} {n : Nat} (S : PdS most F D as n F1 r) (lw : F.wt.length ≤ F.cur) : rowF F1 (asksS D as) = rowF F D := by
  obtain ⟨ef, nl, _, _, _, cl, _⟩ := S
  have hl : (wtF F n).wt.length = F.wt.length - n := List.length_drop
  unfold rowF
  rw [cl, ef]
  show laidF _ (ptPl (wtF F n)) (F.wt.drop n) = _
  rw [show ptPl (wtF F n) = ptPl F + n by unfold ptPl; rw [hl]; show F.cur - _ = _; omega]
  exact laidF_parts D.cells (ptPl F) n F.wt nl
theorem JI.down (h : JI i j row c u wt F D) (li : i ≤ 90) (lj : j ≤ 975) (p : PdL 0 F D F1 D1 r) :
    ∃ as n, D1 = asksS D as ∧ PdS 0 F D as n F1 r ∧ JI i (j + 1) row c u (wt.drop n) F1 (asksS D as) ∧ F1.room = F.room ∧ (r = .ok → wt.drop n = [] ∧ (asksS D as).cells = row) := by
  have pk := h.pd li lj
  have h5 := h.lm
  have h6 := h.r2
  have h7 := h.cu
  have h8 := h.lw
  have ew := h.ew
  obtain ⟨as, n, e1, S⟩ := p.out2 h.uo h.sk pk.cl h.sp pk.cu pk.lw
  obtain ⟨f1, f2, f3, f4, f5⟩ := asksS_facts D as
  obtain ⟨g1, g2⟩ := S.seq.size pk.cl h.sp as.length
  rw [List.take_of_length_le (Nat.le_refl _)] at g1 g2
  have hr := S.rowK pk.lw
  have la := S.la
  have nl := S.nl
  have hns := h.ns
  have ef := S.ef
  have e_wt : F1.wt = wt.drop n := by rw [ef, ← ew]; rfl
  have e_kw : F1.kw = F.kw := by rw [ef]; rfl
  have e_cu : F1.cur = F.cur := by rw [ef]; rfl
  have e_rm : F1.room = F.room := by rw [ef]; rfl
  have as0 : wt = [] → as = [] := fun z => S.nil (by rw [ew, z]; exact Nat.le_refl _)
  rw [ew] at nl
  have ldr : (wt.drop n).length = wt.length - n := List.length_drop
  have J : JI i (j + 1) row c u (wt.drop n) F1 (asksS D as) := by
    refine ⟨by rw [hr, h.rw_], h.lr, h.lc, f5 h.uo, by rw [f1]; exact h.pl, by rw [f2]; exact h.sk, by rw [f3]; exact h.br, by rw [f4]; omega, g2, by rw [e_cu, h7], e_wt, by omega, by rw [e_rm]; omega, by rw [ef]; exact h.fin, by rw [ef]; exact h.rd, by rw [ef]; exact h.wr, by rw [e_rm]; exact h.r1, by rw [e_rm]; exact h.r2, fun z => ?_, ?_, ?_, h.cu2, by rw [e_cu, e_kw]; exact h.un, by rw [ef]; exact h.ls, by rw [ef]; exact h.bz⟩
    · rw [e_kw]
      exact h.kw0 fun y => z (by rw [y]; exact List.drop_nil)
    · by_cases w0 : wt = []
      · rw [as0 w0]
        have := h.kf
        unfold KnF at this ⊢
        rw [e_kw, e_cu]
        exact this
      · unfold KnF
        rw [e_kw, h.kw0 w0]
        show [] = List.take 0 _
        rw [List.take_zero]
    · by_cases w0 : wt = []
      · rw [as0 w0, e_kw, show F1.seen = F.seen by rw [ef]; rfl]
        exact h.sn
      · exact .inl (by rw [e_kw]; exact h.kw0 w0)
  refine ⟨as, n, e1, S, J, e_rm, fun z => ?_⟩
  have ok := S.ok z
  rw [ew] at ok
  have d0 : wt.drop n = [] := List.eq_nil_of_length_eq_zero (by omega)
  exact ⟨d0, by rw [← J.rw_, rowF_nil (by rw [e_wt]; exact d0)]⟩
theorem JI.wroteOk (h : JI i j row c u wt F D) (li : i ≤ 89) (lj : j ≤ 975) {ds : List Int} (ld : ds.length ≤ 40) : PdOk (wroteF F ds) D := by
  have h1 := h.lr
  have h2 := h.lc
  have h3 := h.cl
  have h4 := h.ns
  have h5 := h.lm
  have h6 := h.r2
  have h7 := h.cu
  have h8 := h.lw
  have pk := h.pd (by omega) lj
  have el : (wroteF F ds).wt.length = F.wt.length + ds.length := List.length_append
  have ec : (wroteF F ds).cur = F.cur + ds.length := rfl
  rw [h.ew] at el
  exact ⟨pk.dok, pk.sk, by omega, pk.cl, by omega, by rw [el, ec]; omega⟩
/-- a write's asks -/
structure JW (i j : Nat) (row : List Int) (c : Nat) (wt ds : List Int) (F : Fst) (D : Dst) (as : List Ask) (n : Nat) (F' : Fst) (r : PR) (many : Nat) : Prop where
  seq : Seq D as
  pg : PutGo as
  out : PdO D as r
  ly : Ly wt.length (c - wt.length) (wt ++ ds) 0 (notesT D as) n
  nil : wt.length + ds.length ≤ F.room → as = []
  nm : n ≤ wt.length + many
  ml : many ≤ ds.length
  ok : r = .ok → many = ds.length
  no : r ≠ .ok → many < ds.length ∧ F'.wt.length = F.room
  room : F'.room = F.room
  nx : JI (i + 1) (j + 1) (laidF row c (ds.take many)) (c + many) (c + many) (((wt ++ ds).take (wt.length + many)).drop n) F' (asksS D as)
theorem JI.wrote (h : JI i j row c u wt F D) (li : i ≤ 89) (lj : j ≤ 975) {ds : List Int} (hd : ds ≠ []) (ld : ds.length ≤ 40) (hc : c + ds.length ≤ 100 + 40 * i) (p : PdL F.room (wroteF F ds) D F1 D1 r) :
    ∃ as n, D1 = asksS D as ∧ (r = .ok → JW i j row c wt ds F D as n F1 r ds.length) ∧
      (r ≠ .ok → ∃ many : Nat, (ds.length : Int) - ((F1.wt.length : Int) - (F1.room : Int)) = (many : Int) ∧ JW i j row c wt ds F D as n (backF F1 F1.room) r many) := by
  have h1 := h.lr
  have h2 := h.lc
  have h3 := h.cl
  have h4 := h.ns
  have h5 := h.lm
  have h6 := h.r2
  have h7 := h.cu
  have h8 := h.lw
  have ew0 := h.ew
  have pk := h.wroteOk li lj ld
  have el : (wroteF F ds).wt.length = wt.length + ds.length := by rw [← ew0]; exact List.length_append
  have ec : (wroteF F ds).cur = c + ds.length := by rw [← h7]; rfl
  have ew : (wroteF F ds).wt = wt ++ ds := by rw [← ew0]; rfl
  have ep : ptPl (wroteF F ds) = c - wt.length := by unfold ptPl; rw [el, ec]; omega
  obtain ⟨as, n, e1, S⟩ := p.out2 h.uo h.sk pk.cl h.sp pk.cu pk.lw
  obtain ⟨f1, f2, f3, f4, f5⟩ := asksS_facts D as
  obtain ⟨g1, g2⟩ := S.seq.size pk.cl h.sp as.length
  rw [List.take_of_length_le (Nat.le_refl _)] at g1 g2
  have la := S.la
  have nl := S.nl
  have ef := S.ef
  have cl := S.cl
  have e_wt : F1.wt = (wt ++ ds).drop n := by rw [ef, ← ew]; rfl
  have e_kw : F1.kw = [] := by rw [ef]; rfl
  have e_cu : F1.cur = c + ds.length := by rw [ef, ← ec]; rfl
  have e_rm : F1.room = F.room := by rw [ef]; rfl
  rw [el] at nl
  rw [ep, ew] at cl
  have e_wl : F1.wt.length = wt.length + ds.length - n := by rw [e_wt, List.length_drop, List.length_append]
  have ly := S.ly wt.length (c - wt.length) (wt ++ ds) 0 (by rw [List.drop_zero, ew]) (by rw [ep]; rfl) (by rw [el, List.length_append]; omega) (by rw [List.length_append]; omega)
  rw [Nat.zero_add] at ly
  have pC : c - wt.length = ptPl F := by unfold ptPl; rw [ew0, h7]
  -- the row of so many that are in
  have rows : ∀ many, many ≤ ds.length → n ≤ wt.length + many → laidF (asksS D as).cells (c - wt.length + n) (((wt ++ ds).take (wt.length + many)).drop n) = laidF row c (ds.take many) := fun many lm ln => by
    have q1 := laidF_parts D.cells (c - wt.length) n ((wt ++ ds).take (wt.length + many)) (by rw [List.length_take, List.length_append]; omega)
    rw [List.take_take, Nat.min_eq_left ln, ← cl] at q1
    rw [q1]
    have q2 := laidF_parts D.cells (c - wt.length) wt.length (wt ++ ds.take many) (by rw [List.length_append]; omega)
    rw [List.take_left, List.drop_left, show c - wt.length + wt.length = c by omega] at q2
    rw [List.take_length_add_append, ← q2]
    congr 1
    rw [← h.rw_, pC]
    unfold rowF
    rw [ew0]
  have lrow : ∀ xs : List Int, xs.length ≤ ds.length → (laidF row c xs).length ≤ 60 + 40 * (i + 1) := fun xs hx => by
    have := laidF_len row (c, xs)
    rw [this]
    dsimp only
    split <;> omega
  -- the next state, many being in
  have nx : ∀ many (F2 : Fst), many ≤ ds.length → n ≤ wt.length + many → F2.wt = ((wt ++ ds).take (wt.length + many)).drop n → F2.cur = c + many → F2.kw = [] → F2.room = F.room → F2.fin = F.fin → F2.rd = F.rd → F2.wr = F.wr → F2.lost = F.lost → F2.busy = F.busy → wt.length + many - n ≤ F.room →
      JI (i + 1) (j + 1) (laidF row c (ds.take many)) (c + many) (c + many) (((wt ++ ds).take (wt.length + many)).drop n) F2 (asksS D as) := fun many F2 lm ln k1 k2 k3 k4 k5 k6 k7 k9 k10 k8 => by
    have l2 : (((wt ++ ds).take (wt.length + many)).drop n).length = wt.length + many - n := by rw [List.length_drop, List.length_take, List.length_append]; omega
    refine ⟨?_, lrow _ (by rw [List.length_take]; omega), by omega, f5 h.uo, by rw [f1]; exact h.pl, by rw [f2]; exact h.sk, by rw [f3]; exact h.br, by rw [f4]; omega, g2, k2, k1, by omega, by rw [k4]; omega, by rw [k5]; exact h.fin, by rw [k6]; exact h.rd, by rw [k7]; exact h.wr, by rw [k4]; exact h.r1, by rw [k4]; exact h.r2, fun _ => k3, ?_, .inl k3, Nat.le_refl _, by rw [k2, k3]; exact Nat.le_refl _, by rw [k9]; exact h.ls, by rw [k10]; exact h.bz⟩
    · unfold rowF
      rw [k1, show ptPl F2 = c - wt.length + n by unfold ptPl; rw [k1, k2, l2]; omega]
      exact rows many lm ln
    · unfold KnF
      rw [k3]
      show [] = List.take 0 _
      rw [List.take_zero]
  have tk : (wt ++ ds).take (wt.length + ds.length) = wt ++ ds := List.take_of_length_le (by rw [List.length_append]; omega)
  refine ⟨as, n, e1, fun z => ?_, fun z => ?_⟩
  · have ok := S.ok z
    rw [el] at ok
    refine ⟨S.seq, S.pg, S.out, ly, fun y => S.nil (by rw [el]; exact y), nl, Nat.le_refl _, fun _ => rfl, fun y => absurd z y, e_rm, ?_⟩
    exact nx ds.length F1 (Nat.le_refl _) nl (by rw [e_wt, tk]) e_cu e_kw e_rm (by rw [ef]; rfl) (by rw [ef]; rfl) (by rw [ef]; rfl) (by rw [ef]; rfl) (by rw [ef]; rfl) ok
  · have no := S.no z
    rw [el] at no
    have l1 : n + F.room ≤ wt.length + ds.length := by omega
    refine ⟨n + F.room - wt.length, by rw [e_wl, e_rm]; omega, S.seq, S.pg, S.out, ly, fun y => S.nil (by rw [el]; exact y), by omega, by omega, fun y => absurd y z, fun _ => ⟨by omega, ?_⟩, e_rm, ?_⟩
    · show (F1.wt.take F1.room).length = _
      rw [List.length_take, e_wl, e_rm]; omega
    · refine nx _ (backF F1 F1.room) (by omega) (by omega) ?_ ?_ e_kw e_rm (by rw [ef]; rfl) (by rw [ef]; rfl) (by rw [ef]; rfl) (by rw [ef]; rfl) (by rw [ef]; rfl) (by omega)
      · show F1.wt.take F1.room = _
        rw [e_wt, e_rm, List.drop_take]
        congr 1; omega
      · show F1.cur - (F1.wt.length - F1.room) = _
        rw [e_cu, e_wl, e_rm]; omega
theorem JI.seek (h : JI i j row c u [] F D) {g : Nat} (hg : g ≤ row.length + 9) : JI i j row g g [] { F with cur := g, kw := [] } D := by
  have h1 := h.lr
  refine { h with rw_ := by rw [rowF_nil (show ({ F with cur := g, kw := [] } : Fst).wt = [] from h.ew)]; exact h.row0, lc := by omega, cu := rfl, ew := h.ew, lw := Nat.zero_le _, kw0 := fun z => absurd rfl z, kf := ?_, sn := .inl rfl, cu2 := Nat.le_refl _, un := Nat.le_refl _, lm := h.lm, fin := h.fin, rd := h.rd, wr := h.wr, r1 := h.r1, r2 := h.r2, ls := h.ls, bz := h.bz }
  show ([] : List Int) = List.take 0 _
  rw [List.take_zero]
theorem JI.cutOk (h : JI i j row c u [] F D) {g : Nat} (hb : badN D = false) : JI i (j + 1) (row.take g) c c [] { F with kw := [] } (doneS D (.cut g)) ∧ (doneS D (.cut g)).cells = row.take g := by
  obtain ⟨u1, u2, u3, u4, u5⟩ := doneS_used D (.cut g)
  have h1 := h.lr
  have h4 := h.ns
  have er := h.row0
  have eD : doneS D (.cut g) = goodS D (.cut g) := if_neg (by rw [hb]; simp)
  obtain ⟨c1, c2, _⟩ := good_cut (S := D) (n := g)
  rw [← eD] at c1 c2
  rw [er] at c1
  refine ⟨⟨by rw [rowF_nil (show ({ F with kw := [] } : Fst).wt = [] from h.ew), c1], by rw [List.length_take]; omega, h.lc, h.uo.done _, by rw [u2]; exact h.pl, by rw [u3]; exact h.sk, by rw [u4]; exact h.br, by rw [u5, List.length_append]; show _ + 1 ≤ _; omega, by rw [c2]; exact h.sp, h.cu, h.ew, Nat.zero_le _, Nat.zero_le _, h.fin, h.rd, h.wr, h.r1, h.r2, fun z => absurd rfl z, ?_, .inl rfl, Nat.le_refl _, by rw [← h.cu]; exact Nat.le_refl _, h.ls, h.bz⟩, c1⟩
  show ([] : List Int) = List.take 0 _
  rw [List.take_zero]
theorem JI.cutBad (h : JI i j row c u [] F D) {g : Nat} (hb : badN D = true) : JI i (j + 1) row c u [] F (doneS D (.cut g)) := by
  obtain ⟨u1, u2, u3, u4, u5⟩ := doneS_used D (.cut g)
  have h4 := h.ns
  have eD : doneS D (.cut g) = noteS D wCut (.i g) (.s sFault) := if_pos hb
  have ec : (doneS D (.cut g)).cells = D.cells := by rw [eD, noteS_cells]
  refine { h with rw_ := by rw [rowF_nil h.ew, ec]; exact h.row0, uo := h.uo.done _, pl := by rw [u2]; exact h.pl, sk := by rw [u3]; exact h.sk, br := by rw [u4]; exact h.br, ns := by rw [u5, List.length_append]; show _ + 1 ≤ _; omega, sp := by rw [eD, noteS_spot]; exact h.sp, kf := by rw [ec]; exact h.kf, sn := by rw [ec]; exact h.sn }
theorem JI.rdOk (h : JI i j row c u [] F D) (li : i ≤ 90) (lj : j ≤ 975) : RdOk F D := by
  have pk := h.pd li lj
  have k := h.kf.len
  have h1 := h.lr
  have h2 := h.lc
  have h3 := h.cu
  have h4 := h.ns
  have h5 := h.cl
  rw [h.row0] at k
  exact ⟨h.fin, h.rd, h.ew, h.r1, pk.dok, pk.sk, by omega, pk.cl, by omega⟩
theorem JI.call {wd : Wd} {k : Option Nat} {q : RR} (h : JI i j row c u [] F D) (li : i ≤ 90) (hm : ∀ n, k = some n → n ≤ 1000000000) (h0 : k ≠ some 0) (cl : CallL wd k (begF F D) D F' D' q) :
    ∃ as, D' = asksS D as ∧ (∀ a ∈ as, GT a) ∧ Out (dueF row c (isLine wd.s) k) wd.whole D as c F' q ∧ (∀ n ∈ notesT D as, NtIn (F'.cur + F'.kw.length) n) ∧ u ≤ F'.cur + F'.kw.length ∧ F'.cur = c + wd.mv q ∧ F'.room = F.room ∧ F'.wt = [] ∧
      ∀ u', c ≤ u' → u' ≤ F'.cur + F'.kw.length → JI i (j + 1) row (c + wd.mv q) (max u' (c + wd.mv q)) [] F' (asksS D as) := by
  obtain ⟨F0, e0, kp0, kf0, sn0, un0, cu0⟩ : ∃ F0 : Fst, begF F D = F0 ∧ Kept F F0 ∧ KnF F0 D.cells ∧ (F0.kw = [] ∨ F0.seen = D.cells.length) ∧ u ≤ F0.cur + F0.kw.length ∧ F0.cur = F.cur := by
    by_cases z : F.kw = [] ∨ F.seen = D.cells.length
    · exact ⟨F, begF_id z, ⟨rfl, rfl, rfl, rfl, rfl, rfl, rfl⟩, h.kf, z, h.un, rfl⟩
    · have uc : u = c := by
        rcases h.sn with y | y | y
        · exact absurd (.inl y) z
        · exact absurd (.inr y) z
        · exact y
      refine ⟨{ F with kw := [] }, if_pos ⟨h.sk, fun y => z (.inr y.symm)⟩, ⟨rfl, rfl, rfl, rfl, rfl, rfl, rfl⟩, ?_, .inl rfl, ?_, rfl⟩
      · show ([] : List Int) = List.take 0 _
        rw [List.take_zero]
      · show u ≤ F.cur + 0
        rw [h.cu]; omega
  rw [e0] at cl
  have lr := h.lr
  have lc := h.lc
  have ec := h.cu
  have er := h.row0
  obtain ⟨as, a1, a2, a3, a4, a5⟩ := cl.out hm h0 h.uo h.sk (by rw [er]; omega) kf0 (by rw [kp0.room]; exact h.r1) (by rw [kp0.room]; exact h.r2) (by omega) sn0
  rw [cu0] at *
  rw [er, ec] at a3 a5
  rw [ec] at a4
  have hl := a3.len
  have hd := dueF_len row c (isLine wd.s) k
  have hmv := wd.mv_le q
  obtain ⟨f1, f2, f3, f4, f5⟩ := asksS_facts D as
  obtain ⟨g1, g2⟩ := gt_facts (D := D) a2.gt (by rw [er]; omega) h.sp
  have kk := kp0.trans a2.kp
  have hns := h.ns
  have hla := a2.la
  have hun := un0
  have hen := a2.en
  have kf' := a2.kf
  have sn' := a2.sn
  have ew' : F'.wt = [] := by rw [kk.wt]; exact h.ew
  refine ⟨as, a1, a2.gt, a3, a2.nt, by omega, a4, kk.room, ew', fun u' l1 l2 => ?_⟩
  exact ⟨by rw [rowF_nil ew', g1, er], lr, by omega, f5 h.uo, by rw [f1]; exact h.pl, by rw [f2]; exact h.sk, by rw [f3]; exact h.br, by rw [f4]; omega, g2, a4, ew', Nat.zero_le _, Nat.zero_le _, by rw [kk.fin]; exact h.fin, by rw [kk.rd]; exact h.rd, by rw [kk.wr]; exact h.wr, by rw [kk.room]; exact h.r1, by rw [kk.room]; exact h.r2, fun z => absurd rfl z, by rw [g1]; exact kf', (by rw [g1]; exact sn'.imp id .inl), by omega, by omega, by rw [kk.lost]; exact h.ls, by rw [kk.busy]; exact h.bz⟩
end
end Sip
/-! small steps of a reading -/
namespace Sip
open PySem PySem.Spec PyProof.Rows L2 TL
theorem kget {H : Hp} {m : Addr} {kvs : List (Key × V)} {k : Str} {v : V} (e : H m = some (.dK kvs)) (g : valV kvs (Sum.inr k) = some v) : DGet H m (.str k) (some v) := by
  rw [← g]; exact DGet.k (k := Sum.inr k) e
theorem kput {H : Hp} {m : Addr} {kvs kvs' : List (Key × V)} {k : Str} {v : V} (e : H m = some (.dK kvs)) (g : putK kvs (Sum.inr k) v = kvs') (l : kvs.length < 1000) : DPut H m (.str k) v (upd H m (.dK kvs')) := by
  rw [← g]; exact DPut.k (k := Sum.inr k) e (by rw [sizeLine_eq]; omega)
theorem iteVt {a b : Int} {A B : Prop} (e : a = b) (h : A) : if decide (V.int a = V.int b) = true then A else B := iteTc (decide_eq_true (by rw [e])) h
theorem iteVf {a b : Int} {A B : Prop} (e : a ≠ b) (h : B) : if decide (V.int a = V.int b) = true then A else B := iteFc (decide_eq_false fun z => e (V.int.inj z)) h
theorem iteNVt {a b : Int} {A B : Prop} (e : a ≠ b) (h : A) : if (!decide (V.int a = V.int b)) = true then A else B := iteTc (by rw [decide_eq_false fun z => e (V.int.inj z)]; rfl) h
theorem iteNVf {a b : Int} {A B : Prop} (e : a = b) (h : B) : if (!decide (V.int a = V.int b)) = true then A else B := iteFc (by rw [decide_eq_true (by rw [e])]; rfl) h
theorem iteNT {b : Bool} {A B : Prop} (e : b = true) (h : B) : if (!b) = true then A else B := by subst e; exact iteF h
theorem iteNF {b : Bool} {A B : Prop} (e : b = false) (h : A) : if (!b) = true then A else B := by subst e; exact iteT h
instance : Wit Fst := ⟨trivial⟩
instance : Wit Dst := ⟨trivial⟩
instance : Wit Ch := ⟨trivial⟩
instance : Wit Hp := ⟨trivial⟩
instance {α β : Type} [Wit α] [Wit β] : Wit (α ⊕ β) := ⟨trivial⟩
instance : Wit Ask := ⟨trivial⟩
instance : Wit Nt := ⟨trivial⟩
instance : Wit Tg := ⟨trivial⟩
instance : Wit PyData := ⟨trivial⟩
end Sip
/-! one call of a file amid troubles, as the laws judge it -/
namespace Sip
open PySem PySem.Spec PyProof.Rows L2 TL
inductive JQ
  | flush | seek (g : Nat) | cut (k : Option Nat) | read (wd : Wd) (k : Option Nat)
def JQ.w : JQ → Str
  | .flush => Str.ofString "flush" | .seek _ => Str.ofString "seek" | .cut _ => Str.ofString "cut" | .read wd _ => wd.s
def JQ.hv : JQ → V
  | .flush => .non | .seek g => .int g | .cut k => cntV k | .read _ k => cntV k
def JQ.ok (row : List Int) (c : Nat) : JQ → Prop
  | .flush => True | .seek g => g ≤ row.length + 9 | .cut k => k.getD c ≤ 4000 | .read _ k => ∀ n, k = some n → n ≤ 1000000000
def kindP : PR → Str
  | .ok => sTold | .stall => sStall | .fault _ => sFault
def valP : PR → V
  | .ok => .non | .stall => .int 0 | .fault k => .int k
def valR : RR → Addr → V
  | .told _, q => .ref q | .non, _ => .non | .fault k, _ => .int k
def pieceR : RR → Addr → List Ch
  | .told xs, q => [.pt q (.lst (xs.map V.int))] | _, _ => []
def kindR : RR → Str
  | .fault _ => sFault | _ => sTold
inductive JT (i j : Nat) (row : List Int) (c u : Nat) (wt : List Int) (F : Fst) (D : Dst) : JQ → Str → V → List Ch → List Ask → Nat → Fst → Prop
  | no {q as n F1 r} : r ≠ .ok → PdS 0 F D as n F1 r → JI i (j + 2) row c u (wt.drop n) F1 (asksS D as) → JT i j row c u wt F D q (kindP r) (valP r) [] as n F1
  | flushed {as n F1} : PdS 0 F D as n F1 .ok → JI i (j + 2) row c u [] F1 (asksS D as) → JT i j row c u wt F D .flush sTold .non [] as n F1
  | same : JT i j row c u wt F D (.seek c) sTold (.int c) [] [] 0 F
  | sought {g as n F1 F2} : g ≠ c → PdS 0 F D as n F1 .ok → F2.wt = [] ∧ F2.room = F.room → JI i (j + 2) row g g [] F2 (asksS D as) → JT i j row c u wt F D (.seek g) sTold (.int g) [] as n F2
  | cut {k as n F1 F2} : k.getD c ≤ 4000 → PdS 0 F D as n F1 .ok → badN (asksS D as) = false → F2.wt = [] ∧ F2.room = F.room → JI i (j + 2) (row.take (k.getD c)) c c [] F2 (asksS D (as ++ [.cut (k.getD c)])) → JT i j row c u wt F D (.cut k) sTold .non [] (as ++ [.cut (k.getD c)]) n F2
  | cutNo {k as n F1} : k.getD c ≤ 4000 → PdS 0 F D as n F1 .ok → badN (asksS D as) = true → JI i (j + 2) row c u [] F1 (asksS D (as ++ [.cut (k.getD c)])) → JT i j row c u wt F D (.cut k) sFault (.int (-numF (asksS D as))) [] (as ++ [.cut (k.getD c)]) n F1
  | read0 {wd q} : JT i j row c u wt F D (.read wd (some 0)) sTold (.ref q) [.pt q (.lst (([] : List Int).map V.int))] [] 0 F
  | read {wd k q as bs n F1 F2 r} : k ≠ some 0 → PdS 0 F D as n F1 .ok → (∀ a ∈ bs, GT a) → Out (dueF row c (isLine wd.s) k) wd.whole (asksS D as) bs c F2 r → (∀ n ∈ notesT (asksS D as) bs, NtIn (F2.cur + F2.kw.length) n) → u ≤ F2.cur + F2.kw.length → F2.cur = c + wd.mv r → F2.wt = [] ∧ F2.room = F.room →
      (∀ u', c ≤ u' → u' ≤ F2.cur + F2.kw.length → JI i (j + 2) row (c + wd.mv r) (max u' (c + wd.mv r)) [] F2 (asksS D (as ++ bs))) → JT i j row c u wt F D (.read wd k) (kindR r) (valR r q) (pieceR r q) (as ++ bs) n F2
section
variable {i j : Nat} {row : List Int} {c u : Nat} {wt : List Int} {F F' : Fst} {D : Dst} {q : JQ} {kind : Str} {v : V} {fl : List Ch} {as : List Ask} {n : Nat}
theorem Calm.of_ok {D : Dst} {as : List Ask} (h : PdO D as .ok) : Calm (camesT D as) := by cases h with | ok a => exact a
theorem cut_calm {D : Dst} {g : Nat} (hb : badN D = false) : Calm (camesT D [.cut g]) := fun t ht => by
  rw [List.mem_singleton.mp (show t ∈ [cameT D (.cut g)] from ht)]
  unfold cameT; rw [if_neg (by rw [hb]; simp)]; rfl
theorem cut_bad {D : Dst} {g : Nat} (hb : badN D = true) : camesT D [.cut g] = [] ++ [.s sFault] := by
  show [cameT D (.cut g)] = _
  unfold cameT; rw [if_pos hb]; rfl
theorem Quiet.pre {ts us : List Tg} (h : Calm ts) (k : Quiet us) : Quiet (ts ++ us) := fun i t hi hx => by
  by_cases l : i < ts.length
  · rw [List.getElem?_append_left l] at hx
    exact h t (List.mem_of_getElem? hx)
  · rw [List.getElem?_append_right (by omega)] at hx
    rw [List.length_append] at hi
    exact k (i - ts.length) t (by omega) hx
theorem JT.quiet (h : JT i j row c u wt F D q kind v fl as n F') : Quiet (camesT D as) := by
  cases h with
  | no _ S _ => exact S.out.quiet
  | flushed S _ => exact S.out.quiet
  | same => exact fun i t hi _ => absurd hi (by simp [camesT])
  | sought _ S _ _ => exact S.out.quiet
  | cut _ S hb _ _ => rw [camesT_app]; exact ((Calm.of_ok S.out).app (cut_calm hb)).quiet0
  | cutNo _ S hb _ => rw [camesT_app, cut_bad hb]; exact (Calm.of_ok S.out).quiet
  | read0 => exact fun i t hi _ => absurd hi (by simp [camesT])
  | read _ S _ o _ _ _ _ _ => rw [camesT_app]; exact Quiet.pre (Calm.of_ok S.out) o.quiet
/-- asks of putting down: puts, or goes that bring nothing -/
theorem pg_in {e : Nat} : ∀ {as : List Ask} {D : Dst}, PutGo as → ∀ m ∈ notesT D as, m.w = wPut ∨ NtIn e m := by
  intro as
  induction as with
  | nil => intro D _ m h; cases h
  | cons a as ih =>
    intro D pg m hm
    rcases List.mem_cons.mp hm with z | z
    · subst z
      rcases pg a List.mem_cons_self with ⟨p, rfl⟩ | ⟨xs, rfl⟩
      · refine .inr ⟨go_put, fun xs ex => ?_⟩
        have ex : cameT D (.go p) = .l xs := ex
        unfold cameT at ex
        split at ex <;> cases ex
      · exact .inl rfl
    · exact ih (fun b hb => pg b (List.mem_cons_of_mem _ hb)) m z
theorem gt_noput : ∀ {as : List Ask} {D : Dst}, (∀ a ∈ as, GT a) → ∀ m ∈ notesT D as, m.w ≠ wPut := by
  intro as
  induction as with
  | nil => intro D _ m h; cases h
  | cons a as ih =>
    intro D gt m hm
    rcases List.mem_cons.mp hm with z | z
    · subst z
      rcases gt a List.mem_cons_self with ⟨p, rfl, _⟩ | ⟨p, rfl, _⟩
      · exact go_put
      · exact take_put
    · exact ih (fun b hb => gt b (List.mem_cons_of_mem _ hb)) m z
/-- what is the same of all calls but a write -/
structure JG (c u : Nat) (wt : List Int) (F : Fst) (D : Dst) (kind : Str) (v : V) (as : List Ask) (n : Nat) (F' : Fst) (e : Nat) : Prop where
  seq : Seq D as
  quiet : Quiet (camesT D as)
  ly : Ly wt.length (c - wt.length) wt 0 (notesT D as) n
  nl : n ≤ wt.length
  ew : F'.wt = wt.drop n
  rm : F'.room = F.room
  kn : ∀ m ∈ notesT D as, m.w = wPut ∨ NtIn e m
  ue : u ≤ e
  knd : kind = sTold ∨ kind = sStall ∨ kind = sFault
  ref : kind ≠ sTold → ∃ (k : Int) (m : Nt), v = .int k ∧ (notesT D as).getLast? = some m ∧ m.c = .s kind ∧ (kind = sStall → m.w = wPut) ∧ (kind = sFault → D.plan[(asksS D as).ns.length - 1]? = some (-k))
  ee : e = u ∨ e = F'.cur + F'.kw.length ∧ (F'.kw = [] ∨ F'.seen = (asksS D as).cells.length)
theorem last_note {D : Dst} {as : List Ask} {ts : List Tg} {w : Str} (h : camesT D as = ts ++ [.s w]) : ∃ as' a, as = as' ++ [a] ∧ (notesT D as).getLast? = some ⟨a.w, (asksS D as').spot, a.h, .s w⟩ := by
  have ne : as ≠ [] := fun z => by rw [z] at h; cases ts <;> cases h
  obtain ⟨as', a, rfl⟩ : ∃ as' a, as = as' ++ [a] := ⟨as.dropLast, as.getLast ne, (List.dropLast_concat_getLast ne).symm⟩
  refine ⟨as', a, rfl, ?_⟩
  rw [camesT_snoc] at h
  have e := List.append_inj' h rfl
  have e2 : cameT (asksS D as') a = .s w := by
    have := e.2
    injection this
  rw [notesT_app]
  show (_ ++ [(⟨a.w, (asksS D as').spot, a.h, cameT (asksS D as') a⟩ : Nt)]).getLast? = _
  rw [List.getLast?_append, e2]
  rfl
theorem sf_ne : ¬ sFault = sStall := by decide +kernel
theorem ss_ne : ¬ sStall = sFault := by decide +kernel
theorem pd_ref {D : Dst} {as : List Ask} {r : PR} (h : PdO D as r) (hr : r ≠ .ok) : ∃ (k : Int) (m : Nt), valP r = .int k ∧ (notesT D as).getLast? = some m ∧ m.c = .s (kindP r) ∧ (kindP r = sStall → m.w = wPut) ∧ (kindP r = sFault → D.plan[(asksS D as).ns.length - 1]? = some (-k)) := by
  cases h with
  | ok => exact absurd rfl hr
  | stall a b c d e =>
    obtain ⟨as', x, ex, el⟩ := last_note a
    refine ⟨0, _, rfl, el, rfl, fun _ => ?_, fun z => absurd (show sStall = sFault from z) ss_ne⟩
    rw [c] at ex
    have := (List.append_inj' ex rfl).2
    injection this with this
    rw [← this]; rfl
  | @fault ts k a b c d e =>
    obtain ⟨as', x, ex, el⟩ := last_note a
    exact ⟨k, _, rfl, el, rfl, fun z => absurd (show sFault = sStall from z) sf_ne, fun _ => c⟩
theorem JI.jg (h : JI i j row c u wt F D) (t : JT i j row c u wt F D q kind v fl as n F') (hu : u = c ∨ wt = []) : ∃ e, JG c u wt F D kind v as n F' e := by
  have h7 := h.cu
  have h8 := h.lw
  have ew := h.ew
  have ep : ptPl F = c - wt.length := by unfold ptPl; rw [ew, h7]
  have ly : ∀ {as n F1 r}, PdS 0 F D as n F1 r → Ly wt.length (c - wt.length) wt 0 (notesT D as) n := fun S => by
    have := S.ly wt.length (c - wt.length) wt 0 (by rw [List.drop_zero, ew]) (by rw [ep]; rfl) (by rw [ew]; omega) (Nat.le_refl _)
    rw [Nat.zero_add] at this
    exact this
  have nl : ∀ {as n F1 r}, PdS 0 F D as n F1 r → n ≤ wt.length := fun S => by rw [← ew]; exact S.nl
  have nk : ∀ {as n F1}, PdS 0 F D as n F1 .ok → n = wt.length := fun S => by have := S.nl; have := S.ok rfl; rw [ew] at *; omega
  have w1 : ∀ {as n F1 r}, PdS 0 F D as n F1 r → F1.wt = wt.drop n := fun S => by rw [S.ef, ← ew]; rfl
  have r1 : ∀ {as n F1 r}, PdS 0 F D as n F1 r → F1.room = F.room := fun S => by rw [S.ef]; rfl
  have kd : ∀ r : PR, kindP r = sTold ∨ kindP r = sStall ∨ kindP r = sFault := fun r => by cases r <;> simp [kindP]
  have dn : ∀ {as n F1}, PdS 0 F D as n F1 .ok → wt.drop n = [] := fun S => List.eq_nil_of_length_eq_zero (by rw [List.length_drop, nk S]; omega)
  have no : sTold ≠ sTold → ∀ (X : Prop), X := fun z => absurd rfl z
  have hq := t.quiet
  cases t with
  | @no q as n F1 r hr S J => exact ⟨u, S.seq, hq, ly S, nl S, w1 S, r1 S, pg_in S.pg, Nat.le_refl _, kd r, fun _ => pd_ref S.out hr, .inl rfl⟩
  | flushed S J => exact ⟨u, S.seq, hq, ly S, nl S, w1 S, r1 S, pg_in S.pg, Nat.le_refl _, .inl rfl, fun z => no z _, .inl rfl⟩
  | same => exact ⟨u, .nil, hq, .nil, Nat.zero_le _, by rw [ew]; rfl, rfl, fun m hm => (by cases hm), Nat.le_refl _, .inl rfl, fun z => no z _, .inl rfl⟩
  | sought _ S w J => exact ⟨u, S.seq, hq, ly S, nl S, by rw [w.1, dn S], w.2, pg_in S.pg, Nat.le_refl _, .inl rfl, fun z => no z _, .inl rfl⟩
  | @cut k as n F1 F2 lk S hb w J =>
    have hc := J.cu
    refine ⟨u, S.seq.app (.one ?_), hq, ?_, nl S, by rw [w.1, dn S], w.2, ?_, Nat.le_refl _, .inl rfl, fun z => no z _, .inl rfl⟩
    · exact lk
    · rw [notesT_app]
      refine (ly S).app (Ly.oths (by rw [nk S]; exact Nat.le_refl _) fun a ha => ?_)
      rw [List.mem_singleton.mp (show a ∈ [_] from ha)]
      show wCut ≠ wPut
      decide +kernel
    · intro m hm
      rw [notesT_app] at hm
      rcases List.mem_append.mp hm with z | z
      · exact pg_in S.pg m z
      · rw [List.mem_singleton.mp (show m ∈ [_] from z)]
        refine .inr ⟨show wCut ≠ wPut by decide +kernel, fun xs ex => ?_⟩
        have ex : cameT (asksS D as) (.cut (k.getD c)) = .l xs := ex
        unfold cameT at ex
        split at ex <;> cases ex
  | @cutNo k as n F1 lk S hb J =>
    refine ⟨u, S.seq.app (.one ?_), hq, ?_, nl S, w1 S, r1 S, ?_, Nat.le_refl _, .inr (.inr rfl), fun _ => ?_, .inl rfl⟩
    · exact lk
    · rw [notesT_app]
      refine (ly S).app (Ly.oths (by rw [nk S]; exact Nat.le_refl _) fun a ha => ?_)
      rw [List.mem_singleton.mp (show a ∈ [_] from ha)]
      show wCut ≠ wPut
      decide +kernel
    · intro m hm
      rw [notesT_app] at hm
      rcases List.mem_append.mp hm with z | z
      · exact pg_in S.pg m z
      · rw [List.mem_singleton.mp (show m ∈ [_] from z)]
        refine .inr ⟨show wCut ≠ wPut by decide +kernel, fun xs ex => ?_⟩
        have ex : cameT (asksS D as) (.cut (k.getD c)) = .l xs := ex
        unfold cameT at ex
        split at ex <;> cases ex
    · obtain ⟨as', x, ex, el⟩ := last_note (D := D) (as := as ++ [.cut (k.getD c)]) (ts := camesT D as) (w := sFault) (by rw [camesT_app, cut_bad hb]; rfl)
      refine ⟨-numF (asksS D as), _, rfl, el, rfl, fun z => absurd (show sFault = sStall from z) sf_ne, fun _ => ?_⟩
      obtain ⟨kk, ek, hk⟩ := badN_iff.mp hb
      rw [numF_some ek, Int.neg_neg]
      have uo := ((asksS_facts D as).2.2.2.2 h.uo).plan
      rw [uo, (asksS_facts D as).1] at ek
      rw [asksS_snoc, (doneS_used _ _).2.2.2.2, List.length_append]
      exact ek
  | read0 => exact ⟨u, .nil, hq, .nil, Nat.zero_le _, by rw [ew]; rfl, rfl, fun m hm => (by cases hm), Nat.le_refl _, .inl rfl, fun z => no z _, .inl rfl⟩
  | @read wd k q as bs n F1 F2 r h0 S gt o nt ue cu w J =>
    refine ⟨F'.cur + F'.kw.length, S.seq.app (.gt gt), hq, ?_, nl S, by rw [w.1, dn S], w.2, ?_, ue, by cases r <;> simp [kindR], fun hk => ?_, .inr ⟨rfl, ?_⟩⟩
    · rw [notesT_app]
      exact (ly S).app (Ly.oths (by rw [nk S]; exact Nat.le_refl _) (gt_noput gt))
    · intro m hm
      rw [notesT_app] at hm
      exact (List.mem_append.mp hm).elim (pg_in S.pg m) fun z => .inr (nt m z)
    · cases o with
      | told => exact absurd rfl hk
      | some => exact absurd rfl hk
      | none => exact absurd rfl hk
      | @fault ts kk a b l m =>
        obtain ⟨as', x, ex, el⟩ := last_note (D := D) (as := as ++ bs) (ts := camesT D as ++ ts) (w := sFault) (by rw [camesT_app, a, List.append_assoc])
        refine ⟨kk, _, rfl, el, rfl, fun z => absurd (show sFault = sStall from z) sf_ne, fun _ => ?_⟩
        rw [(asksS_facts D as).1] at l
        rw [asksS_app]
        exact l
    · have K := J (F'.cur + F'.kw.length) (by rw [cu]; omega) (Nat.le_refl _)
      rcases K.sn with z | z | z
      · exact .inl z
      · exact .inr z
      · refine .inl (List.eq_nil_of_length_eq_zero ?_)
        have := Nat.le_max_left (F'.cur + F'.kw.length) (c + wd.mv r)
        omega
end
end Sip
/-! promises of the laws' own judging of a file's calls (written by mk_jd.py) -/
namespace Sip
open PySem PySem.Spec PyProof.Rows L2 TL
def sJ (rw : Addr) (c : Nat) (u : Nat) (wa : Addr) (sp : Nat) : List (Key × V) := [(Sum.inr (Str.ofString "row"), .ref rw), (Sum.inr (Str.ofString "cursor"), .int c), (Sum.inr (Str.ofString "upto"), .int u), (Sum.inr (Str.ofString "wait"), .ref wa), (Sum.inr (Str.ofString "room"), .int sp)]
theorem sJ_row (rw : Addr) (c : Nat) (u : Nat) (wa : Addr) (sp : Nat) : valV (sJ rw c u wa sp) (Sum.inr (Str.ofString "row")) = some (.ref rw) := by unfold sJ; kernel_rfl
theorem sJ_cursor (rw : Addr) (c : Nat) (u : Nat) (wa : Addr) (sp : Nat) : valV (sJ rw c u wa sp) (Sum.inr (Str.ofString "cursor")) = some (.int c) := by unfold sJ; kernel_rfl
theorem sJ_upto (rw : Addr) (c : Nat) (u : Nat) (wa : Addr) (sp : Nat) : valV (sJ rw c u wa sp) (Sum.inr (Str.ofString "upto")) = some (.int u) := by unfold sJ; kernel_rfl
theorem sJ_wait (rw : Addr) (c : Nat) (u : Nat) (wa : Addr) (sp : Nat) : valV (sJ rw c u wa sp) (Sum.inr (Str.ofString "wait")) = some (.ref wa) := by unfold sJ; kernel_rfl
theorem sJ_room (rw : Addr) (c : Nat) (u : Nat) (wa : Addr) (sp : Nat) : valV (sJ rw c u wa sp) (Sum.inr (Str.ofString "room")) = some (.int sp) := by unfold sJ; kernel_rfl
theorem sJ_prow (rw : Addr) (c : Nat) (u : Nat) (wa : Addr) (sp : Nat) (x_ : Addr) : putK (sJ rw c u wa sp) (Sum.inr (Str.ofString "row")) (.ref x_) = sJ x_ c u wa sp := by unfold sJ; kernel_rfl
theorem sJ_pcursor (rw : Addr) (c : Nat) (u : Nat) (wa : Addr) (sp : Nat) (x_ : Nat) : putK (sJ rw c u wa sp) (Sum.inr (Str.ofString "cursor")) (.int x_) = sJ rw x_ u wa sp := by unfold sJ; kernel_rfl
theorem sJ_pupto (rw : Addr) (c : Nat) (u : Nat) (wa : Addr) (sp : Nat) (x_ : Nat) : putK (sJ rw c u wa sp) (Sum.inr (Str.ofString "upto")) (.int x_) = sJ rw c x_ wa sp := by unfold sJ; kernel_rfl
theorem sJ_pwait (rw : Addr) (c : Nat) (u : Nat) (wa : Addr) (sp : Nat) (x_ : Addr) : putK (sJ rw c u wa sp) (Sum.inr (Str.ofString "wait")) (.ref x_) = sJ rw c u x_ sp := by unfold sJ; kernel_rfl
theorem sJ_proom (rw : Addr) (c : Nat) (u : Nat) (wa : Addr) (sp : Nat) (x_ : Nat) : putK (sJ rw c u wa sp) (Sum.inr (Str.ofString "room")) (.int x_) = sJ rw c u wa x_ := by unfold sJ; kernel_rfl
theorem Wd.ne_ws (wd : Wd) : wd.s ≠ Str.ofString "write" ∧ wd.s ≠ Str.ofString "flush" ∧ wd.s ≠ Str.ofString "seek" ∧ wd.s ≠ Str.ofString "cut" := by cases wd <;> decide +kernel
theorem cutTail (xs : List V) : cutV xs (some (-1)) none = xs.drop (xs.length - 1) := by
  unfold cutV
  have e : HT.sIx xs.length 0 (some (-1)) = xs.length - 1 := by
    unfold HT.sIx
    simp
    omega
  rw [e, HT.sIx_none]
  exact List.take_of_length_le (by rw [List.length_drop]; omega)
theorem NtsM.last {M : Hp} {vs : List V} {ns : List Nt} {v : V} {x : Nt} (h : NtsM M vs ns) (e : vs.getLast? = some v) (el : ns.getLast? = some x) : ∃ (t : Addr) (hv cv : V), v = .ref t ∧ M t = some (.tup [.str x.w, .int x.p, hv, cv]) ∧ HandV M cv x.c := by
  rw [List.getLast?_eq_getElem?] at e el
  obtain ⟨n, en, t, hv, cv, rfl, _, ht, h1, h2, _⟩ := Nts.at h e
  rw [Nts.len h, el] at en
  cases en
  exact ⟨t, hv, cv, rfl, ht, h2.hand⟩
/-- pieces as one -/
def flC (fl : List Ch) : Ch := exC (fun _ : Unit => True) fun _ => fl
theorem Sat.flE {H : Hp} {fl cs : List Ch} (h : Sat H (flC fl :: cs)) : Sat H (fl ++ cs) := by
  obtain ⟨_, _, h⟩ := h.exE
  exact h
theorem Sat.flI {H : Hp} {fl cs : List Ch} (h : Sat H (fl ++ cs)) : Sat H (flC fl :: cs) := Sat.exI () trivial h
theorem Sat.fl0 {H : Hp} {cs : List Ch} (h : Sat H cs) : Sat H (flC [] :: cs) := Sat.flI h
abbrev tup3 (k : Str) (v : V) (w : Int) : HO := .tup [.str k, v, .int w]
def valW : PR → Nat → Int
  | .ok, m => m | .stall, _ => 0 | .fault k, _ => k
def wentW : PR → Nat → Int
  | .ok, _ => 0 | _, m => m
def spTriedJ (CF CD : Addr) : Sp := fun vs H Q _ => ∃ (f d : Addr) (w : Str) (hv : V) (i j : Nat) (row : List Int) (c u : Nat) (wt : List Int) (F : Fst) (D : Dst) (R : List Ch), vs = [.ref f, .str w, hv] ∧ Sat H (filC CF f d F :: devC CD d D :: R) ∧ JI i j row c u wt F D ∧ i ≤ 88 ∧ j ≤ 970 ∧
  ((∃ q : JQ, w = q.w ∧ (q = .flush ∨ hv = q.hv) ∧ q.ok row c ∧ ∀ (H' : Hp) (t : Addr) (kind : Str) (v : V) (fl : List Ch) (as : List Ask) (n : Nat) (F' : Fst), Sat H' (.pt t (tup3 kind v 0) :: flC fl :: filC CF f d F' :: devC CD d (asksS D as) :: R) → JT i j row c u wt F D q kind v fl as n F' → Q (.ref t) H') ∨
   (∃ (b : Addr) (ds : List Int) (R' : List Ch), w = Str.ofString "write" ∧ hv = .ref b ∧ R = .pt b (.lst (ds.map V.int)) :: R' ∧ Bytes ds ∧ ds.length ≤ 40 ∧ c + ds.length ≤ 100 + 40 * i ∧
     (ds = [] → ∀ (H' : Hp) (t : Addr), Sat H' (.pt t (tup3 sTold (.int 0) 0) :: filC CF f d F :: devC CD d D :: R) → Q (.ref t) H') ∧
     (ds ≠ [] → ∀ (H' : Hp) (t : Addr) (r : PR) (as : List Ask) (n : Nat) (F' : Fst) (many : Nat), Sat H' (.pt t (tup3 (kindP r) (.int (valW r many)) (wentW r many)) :: filC CF f d F' :: devC CD d (asksS D as) :: R) → JW i j row c wt ds F D as n F' r many → Q (.ref t) H')))
def spKnownJ : Sp := fun vs H Q _ => ∃ (s nl m rw wa : Addr) (c u e sp : Nat) (ws : List V) (ns : List Nt) (S : Dst) (M : Hp) (R : List Ch), vs = [.ref s, .ref nl] ∧ Sat H (.pt s (.dK (sJ rw c u wa sp)) :: .pt nl (.lst ws) :: mdC m S M :: R) ∧ NtsM M ws ns ∧ (∀ n ∈ ns, n.w = wPut ∨ NtIn e n) ∧ c ≤ u ∧ u ≤ e ∧
  ∀ (H' : Hp) (u' : Nat), Sat H' (.pt s (.dK (sJ rw c u' wa sp)) :: .pt nl (.lst ws) :: mdC m S M :: R) → c ≤ u' → u' ≤ e → Q .non H'
def spLieJ (CF : Addr) : Sp := fun vs H Q _ => ∃ (f d s nl da m rw wa : Addr) (c u sp n many : Nat) (wt ds : List Int) (F : Fst) (ws : List V) (ns : List Nt) (S : Dst) (M : Hp) (R : List Ch), vs = [.ref f, .ref s, .ref nl, .ref da, .int many] ∧
  Sat H (filC CF f d F :: .pt s (.dK (sJ rw c u wa sp)) :: .pt wa (.lst (wt.map V.int)) :: .pt nl (.lst ws) :: .pt da (.lst (ds.map V.int)) :: mdC m S M :: R) ∧ NtsM M ws ns ∧ Ly wt.length (c - wt.length) (wt ++ ds) 0 ns n ∧ wt.length ≤ c ∧ wt.length ≤ 64 ∧ ds.length ≤ 30 ∧ n ≤ wt.length + many ∧ many ≤ ds.length ∧
  F.wt = ((wt ++ ds).take (wt.length + many)).drop n ∧ F.wt.length ≤ sp ∧ F.fin = false ∧
  ∀ (H' : Hp) (wa' : Addr), Sat H' (filC CF f d F :: .pt s (.dK (sJ rw c u wa' sp)) :: .pt wa' (.lst (F.wt.map V.int)) :: .pt nl (.lst ws) :: .pt da (.lst (ds.map V.int)) :: mdC m S M :: R) → Q (.bl true) H'
def spRefJ : Sp := fun vs H Q _ => ∃ (m nl : Addr) (kind w : Str) (num went : Int) (ws : List V) (ns : List Nt) (x : Nt) (S : Dst) (M : Hp) (R : List Ch), vs = [.ref m, .str kind, .int num, .int went, .ref nl, .str w] ∧ Sat H (.pt nl (.lst ws) :: mdC m S M :: R) ∧ NtsM M ws ns ∧
  ns.getLast? = some x ∧ x.c = .s kind ∧ (kind = sStall ∨ kind = sFault) ∧ (kind = sStall → x.w = wPut) ∧ (kind = sFault → S.plan[S.ns.length - 1]? = some (-num)) ∧ 1 ≤ S.ns.length ∧ (w = Str.ofString "write" ∨ went = 0) ∧ Q (.bl true) H
def cutRow (row : List Int) (c : Nat) : JQ → List Int
  | .cut k => row.take (k.getD c) | _ => row
def newCur (c : Nat) : JQ → Nat
  | .seek g => g | _ => c
def spOtherJ : Sp := fun vs H Q _ => ∃ (s nl m rw wa : Addr) (c u sp : Nat) (row wt : List Int) (q : JQ) (v : V) (ws : List V) (ns : List Nt) (S : Dst) (M : Hp) (R : List Ch), vs = [.ref s, .str q.w, q.hv, v, .ref nl] ∧
  Sat H (.pt s (.dK (sJ rw c u wa sp)) :: .pt wa (.lst (wt.map V.int)) :: .pt nl (.lst ws) :: .pt rw (.lst (row.map V.int)) :: mdC m S M :: R) ∧ NtsM M ws ns ∧ row.length ≤ 4000 ∧ ns.length ≤ 10000000 ∧
  ((q = .flush ∧ v = .non ∧ wt = [] ∧ ∀ H', Sat H' (.pt s (.dK (sJ rw c u wa sp)) :: .pt wa (.lst (wt.map V.int)) :: .pt nl (.lst ws) :: .pt rw (.lst (row.map V.int)) :: mdC m S M :: R) → Q (.bl true) H') ∨
   (q = .seek c ∧ v = .int c ∧ ns = [] ∧ ∀ H', Sat H' (.pt s (.dK (sJ rw c u wa sp)) :: .pt wa (.lst (wt.map V.int)) :: .pt nl (.lst ws) :: .pt rw (.lst (row.map V.int)) :: mdC m S M :: R) → Q (.bl true) H') ∨
   (∃ g : Nat, q = .seek g ∧ g ≠ c ∧ v = .int g ∧ wt = [] ∧ (∀ n ∈ ns, n.w = wPut ∨ n.w = wGo) ∧ ∀ H', Sat H' (.pt s (.dK (sJ rw g g wa sp)) :: .pt wa (.lst (wt.map V.int)) :: .pt nl (.lst ws) :: .pt rw (.lst (row.map V.int)) :: mdC m S M :: R) → Q (.bl true) H') ∨
   (∃ k : Option Nat, q = .cut k ∧ v = .non ∧ wt = [] ∧ (∀ n ∈ ns, n.w = wPut ∨ n.w = wGo ∨ n.w = wCut) ∧ ∀ (H' : Hp) (rw' : Addr), Sat H' (.pt s (.dK (sJ rw' c c wa sp)) :: .pt wa (.lst (wt.map V.int)) :: .pt nl (.lst ws) :: .pt rw' (.lst ((row.take (k.getD c)).map V.int)) :: mdC m S M :: R) → Q (.bl true) H'))
/-- a write as it may be -/
structure WrJ (kind : Str) (c sp n many : Nat) (row wt ds : List Int) (ns : List Nt) (F' : Fst) : Prop where
  ly : Ly wt.length (c - wt.length) (wt ++ ds) 0 ns n
  nm : n ≤ wt.length + many
  ml : many ≤ ds.length
  ew : F'.wt = ((wt ++ ds).take (wt.length + many)).drop n
  wl : F'.wt.length ≤ sp
  fin : F'.fin = false
  told : kind = sTold → many = ds.length ∧ ∀ x, ns.getLast? = some x → x.c ≠ .s sFault
  nil : wt.length + ds.length ≤ sp → ns = []
  pg : ∀ m ∈ ns, (m.w = wPut ∨ m.w = wGo) ∧ ∀ xs, m.c ≠ .l xs
  stall : kind = sStall → many < ds.length ∧ F'.wt.length = sp
  lr : row.length ≤ 4000
  lc : c ≤ 4000
  lw : wt.length ≤ c
  l64 : wt.length ≤ 64
  ld : ds.length ≤ 30
  ln : ns.length ≤ 10000000
def spWroteJ (CF : Addr) : Sp := fun vs H Q _ => ∃ (f d s nl da m rw wa : Addr) (c u sp n many : Nat) (kind : Str) (row wt ds : List Int) (F' : Fst) (ws : List V) (ns : List Nt) (S : Dst) (M : Hp) (R : List Ch), vs = [.ref f, .ref s, .ref da, .str kind, .int many, .ref nl] ∧
  Sat H (filC CF f d F' :: .pt s (.dK (sJ rw c u wa sp)) :: .pt wa (.lst (wt.map V.int)) :: .pt rw (.lst (row.map V.int)) :: .pt nl (.lst ws) :: .pt da (.lst (ds.map V.int)) :: mdC m S M :: R) ∧ NtsM M ws ns ∧ WrJ kind c sp n many row wt ds ns F' ∧
  ∀ (H' : Hp) (wa' rw' : Addr), Sat H' (filC CF f d F' :: .pt s (.dK (sJ rw' (c + many) (if ds = [] then u else c + many) wa' sp)) :: .pt wa' (.lst (F'.wt.map V.int)) :: .pt rw' (.lst ((laidF row c (ds.take many)).map V.int)) :: .pt da (.lst (ds.map V.int)) :: mdC m S M :: R) → Q (.bl true) H'
def spJudged (CF CD : Addr) : Sp := fun vs H Q _ => ∃ (f d m s rw wa : Addr) (i j c u : Nat) (row wt : List Int) (F : Fst) (D : Dst) (M : Hp) (R : List Ch) (w : Str) (hv : V), vs = [.ref f, .ref d, .ref m, .ref s, .str w, hv] ∧
  Sat H (filC CF f d F :: devC CD d D :: mdC m D M :: .pt s (.dK (sJ rw c u wa F.room)) :: .pt rw (.lst (row.map V.int)) :: .pt wa (.lst (wt.map V.int)) :: R) ∧ JI i j row c u wt F D ∧ i ≤ 88 ∧ j ≤ 970 ∧
  ((∃ q : JQ, w = q.w ∧ hv = q.hv ∧ q.ok row c ∧ ∀ (H' : Hp) (rw' wa' : Addr) (c' u' : Nat) (row' wt' : List Int) (F' : Fst) (D' : Dst) (M' : Hp), Sat H' (filC CF f d F' :: devC CD d D' :: mdC m D' M' :: .pt s (.dK (sJ rw' c' u' wa' F'.room)) :: .pt rw' (.lst (row'.map V.int)) :: .pt wa' (.lst (wt'.map V.int)) :: R) → JI i (j + 2) row' c' u' wt' F' D' → D'.plan = D.plan → Q (.bl true) H') ∨
   (∃ (b : Addr) (ds : List Int) (R' : List Ch), w = Str.ofString "write" ∧ hv = .ref b ∧ R = .pt b (.lst (ds.map V.int)) :: R' ∧ Bytes ds ∧ ds.length ≤ 30 ∧
     ∀ (H' : Hp) (rw' wa' : Addr) (many u' : Nat) (row' wt' : List Int) (F' : Fst) (D' : Dst) (M' : Hp), Sat H' (filC CF f d F' :: devC CD d D' :: mdC m D' M' :: .pt s (.dK (sJ rw' (c + many) u' wa' F'.room)) :: .pt rw' (.lst (row'.map V.int)) :: .pt wa' (.lst (wt'.map V.int)) :: R) → many ≤ ds.length → JI (i + 1) (j + 1) row' (c + many) u' wt' F' D' → D'.plan = D.plan → Q (.bl true) H'))
def spStandsJ (CF CD : Addr) : Sp := fun vs H Q _ => ∃ (f d rh : Addr) (i j c u : Nat) (row wt : List Int) (F : Fst) (D : Dst) (R : List Ch), vs = [.ref f, .ref d, .ref rh, .int c, .int F.room] ∧ Sat H (filC CF f d F :: devC CD d D :: .pt rh (.lst (row.map V.int)) :: R) ∧ JI i j row c u wt F D ∧ i ≤ 89 ∧ j ≤ 975 ∧
  ∀ H', Sat H' (filC CF f d F :: devC CD d D :: .pt rh (.lst (row.map V.int)) :: R) → Q (.bl true) H'
def spHouseJ (CF CD : Addr) : Sp := fun vs H Q _ => ∃ (p : Addr) (n : Int) (most tr : Nat) (R : List Ch), vs = [.ref p, .int most, .int tr] ∧ Sat H (poolC p n :: R) ∧ n ≤ 800000000 ∧ most ≤ 60 ∧ tr ≤ 3 ∧
  ∀ (H' : Hp) (t f d m s rw wa : Addr) (row : List Int) (F : Fst) (D : Dst) (M : Hp), Sat H' (.pt t (.tup [.ref f, .ref d, .ref m, .ref s]) :: filC CF f d F :: devC CD d D :: mdC m D M :: .pt s (.dK (sJ rw 0 0 wa F.room)) :: .pt rw (.lst (row.map V.int)) :: .pt wa (.lst []) :: poolC p (n + 2002) :: R) →
    JI 0 0 row 0 0 [] F D → D.plan.length ≤ 60 → Q (.ref t) H'
end Sip
/-! behind a call, as the laws judge it -/
namespace Sip
open PySem PySem.Spec PyProof.Rows L2 TL
theorem st_ne : ¬ sStall = sTold := by decide +kernel
theorem sg_ne : ¬ sFault = sTold := by decide +kernel
theorem wd_nin (wd : Wd) : inV (.str wd.s) [.str (Str.ofString "seek"), .str (Str.ofString "cut"), .str (Str.ofString "flush")] = false := by cases wd <;> decide +kernel
theorem cnt0 {k : Option Nat} (h : k ≠ some 0) : decide (cntV k = .int 0) = false := decide_eq_false (fun z => by
  cases k with
  | none => cases z
  | some n => exact h (by have := V.int.inj z; rw [show n = 0 by omega]))
theorem kno {r : PR} (hr : r ≠ .ok) : ¬ kindP r = sTold := by cases r <;> first | exact absurd rfl hr | exact st_ne | exact sg_ne
theorem kpr {r : PR} (hr : r ≠ .ok) : kindP r = sStall ∨ kindP r = sFault := by cases r <;> first | exact absurd rfl hr | exact .inl rfl | exact .inr rfl
section
variable {i j : Nat} {row : List Int} {c u : Nat} {wt ds : List Int} {F F' : Fst} {D : Dst} {q : JQ} {kind : Str} {v : V} {fl : List Ch} {as : List Ask} {n many : Nat} {r : PR}
theorem JI.hu (h : JI i j row c u wt F D) : u = c ∨ wt = [] := by
  by_cases e : wt = []
  · exact .inr e
  · have h1 := h.un
    rw [h.kw0 e, h.cu] at h1
    have h2 := h.cu2
    exact .inl (by simp at h1; omega)
theorem JI.withU {u' : Nat} (h : JI i j row c u wt F D) (a : c ≤ u') (b : u' ≤ u ∨ u' ≤ F.cur + F.kw.length ∧ (F.kw = [] ∨ F.seen = D.cells.length)) : JI i j row c u' wt F D :=
  have n1 : u' ≤ F.cur + F.kw.length := by have := h.un; omega
  have n2 : F.kw = [] ∨ F.seen = D.cells.length ∨ u' = c := by
    rcases b with b | b
    · rcases h.sn with z | z | z
      · exact .inl z
      · exact .inr (.inl z)
      · exact .inr (.inr (by omega))
    · exact b.2.imp id .inl
  { h with cu2 := a, un := n1, sn := n2 }
theorem JT.dst (h : JI i j row c u wt F D) (t : JT i j row c u wt F D q kind v fl as n F') (li : i ≤ 88) (lj : j ≤ 970) : DstOk (asksS D as) := by
  cases t with
  | no _ S J => exact (J.pd (by omega) (by omega)).dok.ok
  | flushed S J => exact (J.pd (by omega) (by omega)).dok.ok
  | same => exact (h.pd (by omega) (by omega)).dok.ok
  | sought _ S _ J => exact (J.pd (by omega) (by omega)).dok.ok
  | cut _ S _ _ J => exact (J.pd (by omega) (by omega)).dok.ok
  | cutNo _ S _ J => exact (J.pd (by omega) (by omega)).dok.ok
  | read0 => exact (h.pd (by omega) (by omega)).dok.ok
  | read _ S _ _ _ _ _ _ J => exact ((J _ (Nat.le_max_left c u) (by have := h.cu2; omega)).pd (by omega) (by omega)).dok.ok
/-- what was refused leaves -/
theorem JT.left (h : JI i j row c u wt F D) (t : JT i j row c u wt F D q kind v fl as n F') (hk : kind ≠ sTold) {e u' : Nat} (ee : e = u ∨ e = F'.cur + F'.kw.length ∧ (F'.kw = [] ∨ F'.seen = (asksS D as).cells.length)) (a : c ≤ u') (b : u' ≤ e) : JI i (j + 2) row c u' F'.wt F' (asksS D as) := by
  have ee0 : e = u ∨ e = F'.cur + F'.kw.length := ee.imp id And.left
  cases t with
  | no _ S J =>
    have l := J.un
    have ew := J.ew
    rw [ew]
    exact J.withU a (ee.imp (fun z => by omega) (fun z => ⟨by omega, z.2⟩))
  | flushed => exact absurd rfl hk
  | same => exact absurd rfl hk
  | sought => exact absurd rfl hk
  | cut => exact absurd rfl hk
  | cutNo _ S _ J =>
    have l := J.un
    have ew := J.ew
    rw [ew]
    exact J.withU a (ee.imp (fun z => by omega) (fun z => ⟨by omega, z.2⟩))
  | read0 => exact absurd rfl hk
  | @read wd k qq as bs n F1 F2 r h0 S gt o nt ue cu w J =>
    have K := J u' a (by omega)
    rw [w.1]
    cases r with
    | told => exact absurd rfl hk
    | non => exact absurd rfl hk
    | fault k =>
      rw [show wd.mv (.fault k) = 0 by cases wd <;> rfl] at K
      have K : JI i (j + 2) row c (max u' c) [] F' (asksS D (as ++ bs)) := K
      rw [Nat.max_eq_left a] at K
      exact K
theorem JT.calm (t : JT i j row c u wt F D q kind v fl as n F') (hk : kind = sTold) : trW (camesT D as) ≠ sFault ∧ (trW (camesT D as) = sStall → ∃ x, (notesT D as).getLast? = some x ∧ x.w ≠ wPut) := by
  have cl : Calm (camesT D as) → trW (camesT D as) ≠ sFault ∧ (trW (camesT D as) = sStall → ∃ x, (notesT D as).getLast? = some x ∧ x.w ≠ wPut) := fun h => by
    rw [trW_calm h]
    exact ⟨by decide +kernel, fun z => absurd z (by decide +kernel)⟩
  cases t with
  | @no _ _ _ _ r hr => cases r <;> first | exact absurd rfl hr | exact absurd hk st_ne | exact absurd hk sg_ne
  | flushed S J => exact cl (Calm.of_ok S.out)
  | same => exact cl fun t ht => by cases ht
  | sought _ S _ _ => exact cl (Calm.of_ok S.out)
  | cut _ S hb _ _ => exact cl (by rw [camesT_app]; exact (Calm.of_ok S.out).app (cut_calm hb))
  | cutNo => exact absurd hk (by decide +kernel)
  | read0 => exact cl fun t ht => by cases ht
  | @read wd k qq as bs n F1 F2 r h0 S gt o nt ue cu w J =>
    have st : ∀ ts : List Tg, camesT (asksS D as) bs = ts ++ [.s sStall] → trW (camesT D (as ++ bs)) ≠ sFault ∧ (trW (camesT D (as ++ bs)) = sStall → ∃ x, (notesT D (as ++ bs)).getLast? = some x ∧ x.w ≠ wPut) := fun ts e => by
      have e2 : camesT D (as ++ bs) = (camesT D as ++ ts) ++ [.s sStall] := by rw [camesT_app, e, List.append_assoc]
      rw [e2, trW_snoc]
      refine ⟨by decide +kernel, fun _ => ?_⟩
      obtain ⟨as', x, ex, el⟩ := last_note e
      refine ⟨_, by rw [notesT_app, List.getLast?_append, el]; rfl, ?_⟩
      rcases gt x (by rw [ex]; exact List.mem_append_right _ List.mem_cons_self) with ⟨p, rfl, _⟩ | ⟨p, rfl, _⟩
      · exact go_put
      · exact take_put
    cases o with
    | told a => exact cl (by rw [camesT_app]; exact (Calm.of_ok S.out).app a)
    | some a => exact st _ a
    | none a => exact st _ a
    | fault => exact absurd hk sg_ne
theorem JT.fin (h : JI i j row c u wt F D) (t : JT i j row c u wt F D q kind v fl as n F') : F'.fin = false := by
  cases t with
  | no _ S J => exact J.fin
  | flushed S J => exact J.fin
  | same => exact h.fin
  | sought _ S _ J => exact J.fin
  | cut _ S _ _ J => exact J.fin
  | cutNo _ S _ J => exact J.fin
  | read0 => exact h.fin
  | read _ S _ _ _ _ _ _ J => exact (J _ (Nat.le_max_left c u) (by have := h.cu2; omega)).fin
/-- a read that was told -/
theorem JT.rd {wd : Wd} {k : Option Nat} (h : JI i j row c u wt F D) (t : JT i j row c u wt F D (.read wd k) kind v fl as n F') (hk : kind = sTold) {e u' : Nat} (ee : e = u ∨ e = F'.cur + F'.kw.length ∧ (F'.kw = [] ∨ F'.seen = (asksS D as).cells.length)) (a : c ≤ u') (b : u' ≤ e) :
    ∃ (rr : RR) (qq : Addr), v = valR rr qq ∧ fl = pieceR rr qq ∧ (∀ j, rr ≠ .fault j) ∧ RightP (dueF row c (isLine wd.s) k) wd k (u' - c) rr (camesT D as) ∧ (k ≠ some 0 → F'.wt = []) ∧ JI i (j + 2) row (c + wd.mv rr) (max u' (c + wd.mv rr)) F'.wt F' (asksS D as) := by
  have ee0 : e = u ∨ e = F'.cur + F'.kw.length := ee.imp id And.left
  cases t with
  | @no _ _ _ _ r hr => cases r <;> first | exact absurd rfl hr | exact absurd hk st_ne | exact absurd hk sg_ne
  | @read0 _ qq =>
    refine ⟨.told [], qq, rfl, rfl, (fun j z => by cases z), .inl ⟨rfl, rfl, rfl⟩, fun z => absurd rfl z, ?_⟩
    have l := h.un
    have K := (h.withU a (ee.imp (fun z => by omega) (fun z => ⟨by omega, z.2⟩))).up (Nat.le_refl _) (show j ≤ j + 2 by omega)
    have e0 : wd.mv (.told []) = 0 := by cases wd <;> rfl
    rw [e0, h.ew]
    show JI i (j + 2) row c (max u' c) wt F D
    rw [Nat.max_eq_left a]
    exact K
  | @read wd k qq as bs n F1 F2 r h0 S gt o nt ue cu w J =>
    have nf : ∀ j, r ≠ .fault j := fun j z => by rw [z] at hk; exact absurd hk sg_ne
    refine ⟨r, qq, rfl, rfl, nf, (Out.pre o (Calm.of_ok S.out)).right h0 nf (by omega), fun _ => w.1, ?_⟩
    rw [w.1]
    exact J u' a (by omega)
theorem notes_cames : ∀ (as : List Ask) (D : Dst), (notesT D as).map (·.c) = camesT D as := by
  intro as
  induction as with
  | nil => intro D; rfl
  | cons a as ih => intro D; show _ :: _ = _ :: _; rw [ih]
theorem notes_len (as : List Ask) (D : Dst) : (notesT D as).length = as.length := by rw [← List.length_map (f := fun n : Nt => n.c), notes_cames, camesT_len]
theorem pg_wc : ∀ {as : List Ask} {D : Dst}, PutGo as → ∀ m ∈ notesT D as, (m.w = wPut ∨ m.w = wGo) ∧ ∀ xs, m.c ≠ .l xs := by
  intro as
  induction as with
  | nil => intro D _ m h; cases h
  | cons a as ih =>
    intro D pg m hm
    rcases List.mem_cons.mp hm with z | z
    · subst z
      rcases pg a List.mem_cons_self with ⟨p, rfl⟩ | ⟨xs, rfl⟩
      · refine ⟨.inr rfl, fun xs ex => ?_⟩
        have ex : cameT D (.go p) = .l xs := ex
        unfold cameT at ex
        split at ex <;> cases ex
      · refine ⟨.inl rfl, fun ys ex => ?_⟩
        have ex : cameT D (.put xs) = .l ys := ex
        unfold cameT at ex
        by_cases b0 : badN D = true <;> by_cases b1 : putN D xs = 0 <;> simp [b0, b1, goodT] at ex
    · exact ih (fun b hb => pg b (List.mem_cons_of_mem _ hb)) m z
theorem JW.wrj (h : JI i j row c u wt F D) (li : i ≤ 88) (lj : j ≤ 970) (ld : ds.length ≤ 30) (W : JW i j row c wt ds F D as n F' r many) : WrJ (kindP r) c F.room n many row wt ds (notesT D as) F' := by
  have h1 := h.lr
  have h2 := h.lc
  have h3 := h.lw
  have h4 := h.lm
  have h5 := h.r2
  have ew := W.nx.ew
  have ns := W.nx.ns
  have lm := W.nx.lm
  have rm := W.room
  rw [(asksS_facts D as).2.2.2.1] at ns
  refine ⟨W.ly, W.nm, W.ml, ew, by rw [ew, ← rm]; exact lm, W.nx.fin, fun hk => ?_, fun l => by rw [W.nil l]; rfl, pg_wc W.pg, fun hk => ?_, by omega, by omega, h3, by omega, ld, by rw [notes_len]; omega⟩
  · have hr : r = .ok := by cases r <;> first | rfl | exact absurd hk st_ne | exact absurd hk sg_ne
    refine ⟨W.ok hr, fun x hx hc => ?_⟩
    have o := W.out
    rw [hr] at o
    have := Calm.of_ok o x.c (by rw [← notes_cames]; exact List.mem_map.mpr ⟨x, List.mem_of_getLast? hx, rfl⟩)
    rw [hc] at this
    cases this
  · have hr : r ≠ .ok := fun e => by rw [e] at hk; exact absurd hk (by decide +kernel)
    exact W.no hr
theorem JI.wrj0 (h : JI i j row c u wt F D) (li : i ≤ 88) (lj : j ≤ 970) : WrJ sTold c F.room 0 0 row wt [] [] F := by
  have h1 := h.lr
  have h2 := h.lc
  have h3 := h.lw
  have h4 := h.lm
  have h5 := h.r2
  have ew := h.ew
  exact ⟨.nil, Nat.zero_le _, Nat.le_refl _, by rw [ew, List.append_nil, Nat.add_zero, List.take_length]; rfl, by rw [ew]; exact h4, h.fin, fun _ => ⟨rfl, fun x hx => (by cases hx)⟩, fun _ => rfl, fun m hm => (by cases hm), fun e => absurd e.symm st_ne, by omega, by omega, h3, by omega, by decide, by decide⟩
end
def spRightJ : Sp := fun vs H Q _ => ∃ (du cq m : Addr) (due : List Int) (kn : Nat) (wd : Wd) (k : Option Nat) (fv : V) (r : RR) (cvs : List V) (ts : List Tg) (S : Dst) (M : Hp) (fl R : List Ch), vs = [.ref du, .int kn, .str wd.s, cntV k, fv, .ref cq] ∧
  Sat H (.pt du (.lst (due.map V.int)) :: .pt cq (.lst cvs) :: mdC m S M :: (fl ++ R)) ∧ ((fv = .non ∧ r = .non ∧ fl = []) ∨ ∃ (q : Addr) (xs : List Int), fv = .ref q ∧ r = .told xs ∧ fl = [.pt q (.lst (xs.map V.int))]) ∧ HandVs M cvs ts ∧ TrOk ts ∧ ts.length ≤ 10000000 ∧ due.length ≤ 10000 ∧ RightP due wd k kn r ts ∧
  ∀ H', Sat H' (.pt du (.lst (due.map V.int)) :: .pt cq (.lst cvs) :: mdC m S M :: (fl ++ R)) → Q (.bl true) H'
def spWritingJ : Sp := fun vs H Q _ => ∃ (p s rw wa : Addr) (n : Int) (c u sp : Nat) (row : List Int) (R : List Ch), vs = [.ref p, .ref s] ∧ Sat H (poolC p n :: .pt s (.dK (sJ rw c u wa sp)) :: .pt rw (.lst (row.map V.int)) :: R) ∧ n ≤ 800000000 ∧ row.length ≤ 4000 ∧ c ≤ 4000 ∧
  (∀ (H' : Hp) (t b : Addr) (ds : List Int), Sat H' (.pt t (.tup [.str (Str.ofString "write"), .ref b]) :: .pt b (.lst (ds.map V.int)) :: .pt s (.dK (sJ rw c u wa sp)) :: .pt rw (.lst (row.map V.int)) :: R) → Bytes ds → ds.length ≤ 30 → Q (.ref t) H') ∧
  (∀ (H' : Hp) (t : Addr) (q : JQ), Sat H' (.pt t (.tup [.str q.w, q.hv]) :: .pt s (.dK (sJ rw c u wa sp)) :: .pt rw (.lst (row.map V.int)) :: R) → q.ok row c → Q (.ref t) H')
def spBroughtJ (CF CD : Addr) : Sp := fun vs H Q _ => ∃ (f d s rw wa : Addr) (i j c u : Nat) (row wt : List Int) (F : Fst) (D : Dst) (R : List Ch), vs = [.ref f, .ref d, .ref s] ∧ Sat H (filC CF f d F :: devC CD d D :: .pt s (.dK (sJ rw c u wa F.room)) :: .pt rw (.lst (row.map V.int)) :: R) ∧ JI i j row c u wt F D ∧ i ≤ 88 ∧ j ≤ 400 ∧ D.plan.length ≤ 60 ∧ ∀ H', Q (.bl true) H'
theorem told_shaped : SeqAt.shaped (.tuple [.str sTold, .none, .int 0]) = true := by decide +kernel
theorem told_eqv : PyData.eqv (.tuple [.str sTold, .none, .int 0]) (.tuple [.str sTold, .none, .int 0]) = true := by decide +kernel
theorem no_shaped {r : PR} (hr : r ≠ .ok) (k : Int) : SeqAt.shaped (.tuple [.str (kindP r), .int k, .int 0]) = true := by
  have h : PyData.strOk (kindP r) = true := by
    cases r with
    | ok => exact absurd rfl hr
    | stall => show PyData.strOk sStall = true; decide +kernel
    | fault j => show PyData.strOk sFault = true; decide +kernel
  simp [SeqAt.shaped, PyData.canLayAll0, PyData.canLay0, PyData.depth, PyData.depthAll, h]
theorem no_eqv (z : Str) (k : Int) : PyData.eqv (.tuple [.str z, .int k, .int 0]) (.tuple [.str sTold, .none, .int 0]) = false := by simp [PyData.eqv, PyData.eqvAll]
theorem pd_uses {D : Dst} {as : List Ask} {r : PR} (h : PdO D as r) (hr : r ≠ .ok) : D.ns.length + 1 ≤ (asksS D as).ns.length ∧ (asksS D as).ns.length ≤ (asksS D as).plan.length := by
  rw [(asksS_facts D as).1]
  cases h with
  | ok => exact absurd rfl hr
  | stall _ _ _ d e => exact ⟨e, d⟩
  | fault _ _ _ d e => exact ⟨e, d⟩
theorem pr_val {r : PR} (hr : r ≠ .ok) : ∃ k : Int, valP r = .int k := by cases r <;> first | exact absurd rfl hr | exact ⟨_, rfl⟩
theorem jq_nw (q : JQ) : decide (V.str q.w = V.str (Str.ofString "write")) = false := by
  cases q with
  | flush => decide +kernel
  | seek g => exact decide_eq_false fun z => absurd (show Str.ofString "seek" = Str.ofString "write" by injection z) (by decide +kernel)
  | cut k => exact decide_eq_false fun z => absurd (show Str.ofString "cut" = Str.ofString "write" by injection z) (by decide +kernel)
  | read wd k => exact decide_eq_false fun z => wd.ne_ws.1 (by injection z)
end Sip
/-! promises of the laws that ask anything of a file amid troubles -/
namespace Sip
open PySem PySem.Spec PyProof.Rows L2 TL
/-- what is asked next: a write, or any other call -/
def spAnyJ : Sp := fun vs H Q _ => ∃ (p s rw wa : Addr) (n : Int) (c u sp : Nat) (row : List Int) (R : List Ch), vs = [.ref p, .ref s] ∧ Sat H (poolC p n :: .pt s (.dK (sJ rw c u wa sp)) :: .pt rw (.lst (row.map V.int)) :: R) ∧ n ≤ 800000000 ∧ row.length ≤ 3900 ∧ c ≤ 4000 ∧
  (∀ (H' : Hp) (t b : Addr) (ds : List Int), Sat H' (.pt t (.tup [.str (Str.ofString "write"), .ref b]) :: .pt b (.lst (ds.map V.int)) :: .pt s (.dK (sJ rw c u wa sp)) :: .pt rw (.lst (row.map V.int)) :: poolC p (n + 1100) :: R) → Bytes ds → ds.length ≤ 20 → Q (.ref t) H') ∧
  (∀ (H' : Hp) (t : Addr) (q : JQ), Sat H' (.pt t (.tup [.str q.w, q.hv]) :: .pt s (.dK (sJ rw c u wa sp)) :: .pt rw (.lst (row.map V.int)) :: poolC p (n + 1100) :: R) → q.ok row c → Q (.ref t) H')
/-- the whole row is read back -/
def spWholeJ (CF CD : Addr) : Sp := fun vs H Q _ => ∃ (f d : Addr) (i j c u : Nat) (row wt : List Int) (F : Fst) (D : Dst) (R : List Ch), vs = [.ref f, .int 200] ∧ Sat H (filC CF f d F :: devC CD d D :: R) ∧ JI i j row c u wt F D ∧ i ≤ 50 ∧ j ≤ 110 ∧ D.plan.length ≤ 60 ∧
  ∀ (H' : Hp) (q : Addr) (F' : Fst) (D' : Dst), Sat H' (.pt q (.lst (row.map V.int)) :: filC CF f d F' :: devC CD d D' :: R) → D'.cells = row → F'.wt = [] → F'.fin = false → DstOk D' → Q (.ref q) H'
section
variable {i j : Nat} {row : List Int} {c u : Nat} {wt ds : List Int} {F F' : Fst} {D : Dst} {q : JQ} {kind : Str} {v : V} {fl : List Ch} {as : List Ask} {n many : Nat} {r : PR}
/-- told: the file stands at 0 -/
theorem JT.sk0 (h : JI i j row c u wt F D) (t : JT i j row c u wt F D (.seek 0) kind v fl as n F') (hk : kind = sTold) : ∃ u2, JI i (j + 2) row 0 u2 [] F' (asksS D as) := by
  cases t with
  | no hr => exact absurd hk (kno hr)
  | same =>
    have e : wt = [] := List.eq_nil_of_length_eq_zero (Nat.le_zero.mp h.lw)
    subst e
    exact ⟨u, h.up (Nat.le_refl _) (by omega)⟩
  | sought _ _ _ J => exact ⟨0, J⟩
/-- refused: a number of the plan is used -/
theorem JT.uses (t : JT i j row c u wt F D q kind v fl as n F') (hk : kind ≠ sTold) (hq : ∀ wd k, q ≠ .read wd k) (hc : ∀ k, q ≠ .cut k) : D.ns.length + 1 ≤ (asksS D as).ns.length ∧ (asksS D as).ns.length ≤ (asksS D as).plan.length ∧ JI i (j + 2) row c u (wt.drop n) F' (asksS D as) := by
  cases t with
  | no hr S J => exact ⟨(pd_uses S.out hr).1, (pd_uses S.out hr).2, J⟩
  | flushed => exact absurd rfl hk
  | same => exact absurd rfl hk
  | sought => exact absurd rfl hk
  | cut => exact absurd rfl hk
  | cutNo => exact absurd rfl (hc _)
  | read0 => exact absurd rfl hk
  | read => exact absurd rfl (hq _ _)
/-- what a read of up to g bytes leaves -/
inductive RdS (g i j : Nat) (row : List Int) (c : Nat) (kind : Str) (v : V) (fl : List Ch) (D D' : Dst) (F' : Fst) : Prop
  | some (xs : List Int) (qq : Addr) (u2 : Nat) : kind = sTold → v = .ref qq → fl = [.pt qq (.lst (xs.map V.int))] → xs = ((row.drop c).take g).take xs.length → xs ≠ [] → (xs.length = min g (row.length - c) ∨ D.ns.length + 1 ≤ D'.ns.length ∧ D'.ns.length ≤ D'.plan.length) → JI i j row (c + xs.length) u2 [] F' D' → RdS g i j row c kind v fl D D' F'
  | done (qq : Addr) (u2 : Nat) : kind = sTold → v = .ref qq → fl = [.pt qq (.lst (([] : List Int).map V.int))] → (row.drop c).take g = [] → JI i j row c u2 [] F' D' → RdS g i j row c kind v fl D D' F'
  | none (u2 : Nat) (k : Int) : (kind = sTold ∧ v = .non ∨ kind ≠ sTold ∧ v = .int k) → fl = [] → D.ns.length + 1 ≤ D'.ns.length → D'.ns.length ≤ D'.plan.length → JI i j row c u2 [] F' D' → RdS g i j row c kind v fl D D' F'
theorem JT.rds {g : Nat} (h : JI i j row c u [] F D) (t : JT i j row c u [] F D (.read .rd (some g)) kind v fl as n F') (hg : 1 ≤ g) : RdS g i (j + 2) row c kind v fl D (asksS D as) F' := by
  have il : isLine Wd.rd.s = false := isLine_rd
  cases t with
  | @no _ _ _ _ r hr S J =>
    obtain ⟨k, ek⟩ := pr_val hr
    exact .none u k (.inr ⟨kno hr, ek⟩) rfl (pd_uses S.out hr).1 (pd_uses S.out hr).2 (by rw [List.drop_nil] at J; exact J)
  | read0 => omega
  | @read _ _ qq as bs n F1 F2 r h0 S gt o nt ue cu w J =>
    have J := J u h.cu2 ue
    have edue : dueF row c (isLine Wd.rd.s) (some g) = (row.drop c).take g := by rw [il]; rfl
    rw [edue] at o
    have n1 : D.ns.length ≤ (asksS D as).ns.length := by rw [asksS_ns, List.length_append]; omega
    have p1 := (asksS_facts D as).1
    have p2 := (asksS_facts (asksS D as) bs).1
    have ea := asksS_app D as bs
    cases o with
    | @told xs a b e w2 =>
      have lx : xs.length = min g (row.length - c) := by have := w2 rfl; rw [this, List.length_take, List.length_drop]
      have J : JI i (j + 2) row (c + xs.length) _ [] F' (asksS D (as ++ bs)) := J
      by_cases x0 : xs = []
      · subst x0
        exact .done qq _ rfl rfl rfl (e rfl).1 J
      · exact .some xs qq _ rfl rfl rfl b x0 (.inl lx) J
    | @some xs ts a b x y z l m =>
      have J : JI i (j + 2) row (c + xs.length) _ [] F' (asksS D (as ++ bs)) := J
      exact .some xs qq _ rfl rfl rfl y x (.inr ⟨by rw [ea]; omega, by rw [ea, p2]; exact l⟩) J
    | none a b z l m => exact .none _ 0 (.inl ⟨rfl, rfl⟩) rfl (by rw [ea]; omega) (by rw [ea, p2]; exact l) J
    | @fault ts k a b l m =>
      have lt := (List.getElem?_eq_some_iff.mp l).1
      exact .none _ k (.inr ⟨sg_ne, rfl⟩) rfl (by rw [ea]; omega) (by rw [ea, p2]; omega) J
end
end Sip
/-! three files alike, upon devices without troubles -/
namespace Sip
open PySem PySem.Spec PyProof.Rows L2 TL
section
variable {K : PySem.W.Frag} {a : Addr} {x0 x1 x2 : V} {g : TG} {tb : TS} {D : Ends} {σ : L2.St} {H : Hp}
theorem for_list3 (P1 P2 P3 : L2.St → Hp → Prop) (h0 : SqL K H a [x0, x1, x2])
    (s0 : g x0 σ H fun σ2 H2 => tb { D with nx := P1, ct := P1, bk := D.nx } σ2 H2)
    (s1 : ∀ σ H, P1 σ H → SqL K H a [x0, x1, x2] ∧ g x1 σ H fun σ2 H2 => tb { D with nx := P2, ct := P2, bk := D.nx } σ2 H2)
    (s2 : ∀ σ H, P2 σ H → SqL K H a [x0, x1, x2] ∧ g x2 σ H fun σ2 H2 => tb { D with nx := P3, ct := P3, bk := D.nx } σ2 H2)
    (s3 : ∀ σ H, P3 σ H → SqL K H a [x0, x1, x2] ∧ D.nx σ H) :
    ∃ W : Nat → Nat → L2.St → Hp → Prop, (∃ m, W 0 m σ H) ∧ ∀ i m σ H, W i m σ H →
      ((Itl K a).stop i H ∧ D.nx σ H) ∨ ((Itl K a).go i H ∧ ∃ N : L2.St → Hp → Prop, (∀ σ' H', N σ' H' → ∃ m', m' < m ∧ W (i + 1) m' σ' H') ∧ ∀ x H', (Itl K a).yld i H x H' → g x σ H' fun σ2 H2 => tb { D with nx := N, ct := N, bk := D.nx } σ2 H2) := by
  refine for_list (K := K) (a := a) (xs := [x0, x1, x2]) (fun i σ' H' => match i with | 0 => σ' = σ ∧ H' = H | 1 => P1 σ' H' | 2 => P2 σ' H' | _ => P3 σ' H') ⟨rfl, rfl⟩ (fun i σ' H' hi h => ?_) (fun i x σ' H' hx h => ?_) (fun σ' H' h => (s3 σ' H' h).2)
  · match i, hi, h with
    | 0, _, h => obtain ⟨rfl, rfl⟩ := h; exact h0
    | 1, _, h => exact (s1 _ _ h).1
    | 2, _, h => exact (s2 _ _ h).1
    | 3, _, h => exact (s3 _ _ h).1
    | n + 4, hi, _ => exact absurd hi (by show ¬ n + 4 ≤ 3; omega)
  · match i, hx, h with
    | 0, hx, h => obtain ⟨rfl, rfl⟩ := h; obtain rfl : x0 = x := Option.some.inj hx; exact s0
    | 1, hx, h => obtain rfl : x1 = x := Option.some.inj hx; exact (s1 _ _ h).2
    | 2, hx, h => obtain rfl : x2 = x := Option.some.inj hx; exact (s2 _ _ h).2
    | n + 3, hx, _ => exact absurd hx (by simp)
theorem for_list2 (P1 P2 : L2.St → Hp → Prop) (h0 : SqL K H a [x0, x1])
    (s0 : g x0 σ H fun σ2 H2 => tb { D with nx := P1, ct := P1, bk := D.nx } σ2 H2)
    (s1 : ∀ σ H, P1 σ H → SqL K H a [x0, x1] ∧ g x1 σ H fun σ2 H2 => tb { D with nx := P2, ct := P2, bk := D.nx } σ2 H2)
    (s2 : ∀ σ H, P2 σ H → SqL K H a [x0, x1] ∧ D.nx σ H) :
    ∃ W : Nat → Nat → L2.St → Hp → Prop, (∃ m, W 0 m σ H) ∧ ∀ i m σ H, W i m σ H →
      ((Itl K a).stop i H ∧ D.nx σ H) ∨ ((Itl K a).go i H ∧ ∃ N : L2.St → Hp → Prop, (∀ σ' H', N σ' H' → ∃ m', m' < m ∧ W (i + 1) m' σ' H') ∧ ∀ x H', (Itl K a).yld i H x H' → g x σ H' fun σ2 H2 => tb { D with nx := N, ct := N, bk := D.nx } σ2 H2) := by
  refine for_list (K := K) (a := a) (xs := [x0, x1]) (fun i σ' H' => match i with | 0 => σ' = σ ∧ H' = H | 1 => P1 σ' H' | _ => P2 σ' H') ⟨rfl, rfl⟩ (fun i σ' H' hi h => ?_) (fun i x σ' H' hx h => ?_) (fun σ' H' h => (s2 σ' H' h).2)
  · match i, hi, h with
    | 0, _, h => obtain ⟨rfl, rfl⟩ := h; exact h0
    | 1, _, h => exact (s1 _ _ h).1
    | 2, _, h => exact (s2 _ _ h).1
    | n + 3, hi, _ => exact absurd hi (by show ¬ n + 3 ≤ 2; omega)
  · match i, hx, h with
    | 0, hx, h => obtain ⟨rfl, rfl⟩ := h; obtain rfl : x0 = x := Option.some.inj hx; exact s0
    | 1, hx, h => obtain rfl : x1 = x := Option.some.inj hx; exact (s1 _ _ h).2
    | n + 2, hx, _ => exact absurd hx (by simp)
end
section
variable {K : PySem.W.Frag} {a : Addr} {x0 x1 x2 : V} {g : TG} {tt : TT} {te : TE} {vs : List Nat} {σ : L2.St} {H1 : Hp} {D : Addr} {Qd : Hp → Prop}
/-- one element of a list that is being made -/
def Elt (g : TG) (tt : TT) (te : TE) (vs : List Nat) (σ : L2.St) (D : Addr) (x : V) (H : Hp) (Nx : Hp → Prop) : Prop := g x (wipe σ vs) H fun σ2 H2 => wipe σ2 vs = wipe σ vs ∧ tt σ2 H2 fun b H3 =>
      if b = true then te σ2 H3 fun y H4 => ∃ acc, H4 D = some (.lst acc) ∧ acc.length < sizeLine ∧ Nx (upd H4 D (.lst (acc ++ [y]))) else Nx H3
theorem lc_list3 (P1 P2 P3 : Hp → Prop) (h0 : SqL K (upd H1 D (.lst [])) a [x0, x1, x2])
    (s0 : Elt g tt te vs σ D x0 (upd H1 D (.lst [])) P1)
    (s1 : ∀ H, P1 H → SqL K H a [x0, x1, x2] ∧ Elt g tt te vs σ D x1 H P2)
    (s2 : ∀ H, P2 H → SqL K H a [x0, x1, x2] ∧ Elt g tt te vs σ D x2 H P3)
    (s3 : ∀ H, P3 H → SqL K H a [x0, x1, x2] ∧ Qd H) :
    ∃ W : Nat → Nat → Hp → Prop, (∃ m, W 0 m (upd H1 D (.lst []))) ∧ ∀ i m H, W i m H →
      ((Itl K a).stop i H ∧ Qd H) ∨ ((Itl K a).go i H ∧ ∃ Nx : Hp → Prop, (∀ H', Nx H' → ∃ m', m' < m ∧ W (i + 1) m' H') ∧ ∀ x H', (Itl K a).yld i H x H' → g x (wipe σ vs) H' fun σ2 H2 => wipe σ2 vs = wipe σ vs ∧ tt σ2 H2 fun b H3 =>
        if b = true then te σ2 H3 fun y H4 => ∃ acc, H4 D = some (.lst acc) ∧ acc.length < sizeLine ∧ Nx (upd H4 D (.lst (acc ++ [y]))) else Nx H3) := by
  refine lc_list (K := K) (a := a) (xs := [x0, x1, x2]) (fun i H' => match i with | 0 => H' = upd H1 D (.lst []) | 1 => P1 H' | 2 => P2 H' | _ => P3 H') rfl (fun i H' hi h => ?_) (fun i x H' hx h => ?_) (fun H' h => (s3 H' h).2)
  · match i, hi, h with
    | 0, _, h => obtain rfl : H' = _ := h; exact h0
    | 1, _, h => exact (s1 _ h).1
    | 2, _, h => exact (s2 _ h).1
    | 3, _, h => exact (s3 _ h).1
    | n + 4, hi, _ => exact absurd hi (by show ¬ n + 4 ≤ 3; omega)
  · match i, hx, h with
    | 0, hx, h => obtain rfl : H' = _ := h; obtain rfl : x0 = x := Option.some.inj hx; exact s0
    | 1, hx, h => obtain rfl : x1 = x := Option.some.inj hx; exact (s1 _ h).2
    | 2, hx, h => obtain rfl : x2 = x := Option.some.inj hx; exact (s2 _ h).2
    | n + 3, hx, _ => exact absurd hx (by simp)
theorem lc_range3 (P1 P2 P3 : Hp → Prop)
    (s0 : Elt g tt te vs σ D (.int 0) (upd H1 D (.lst [])) P1)
    (s1 : ∀ H, P1 H → Elt g tt te vs σ D (.int 1) H P2)
    (s2 : ∀ H, P2 H → Elt g tt te vs σ D (.int 2) H P3)
    (s3 : ∀ H, P3 H → Qd H) :
    ∃ W : Nat → Nat → Hp → Prop, (∃ m, W 0 m (upd H1 D (.lst []))) ∧ ∀ i m H, W i m H →
      ((Itr 0 3).stop i H ∧ Qd H) ∨ ((Itr 0 3).go i H ∧ ∃ Nx : Hp → Prop, (∀ H', Nx H' → ∃ m', m' < m ∧ W (i + 1) m' H') ∧ ∀ x H', (Itr 0 3).yld i H x H' → g x (wipe σ vs) H' fun σ2 H2 => wipe σ2 vs = wipe σ vs ∧ tt σ2 H2 fun b H3 =>
        if b = true then te σ2 H3 fun y H4 => ∃ acc, H4 D = some (.lst acc) ∧ acc.length < sizeLine ∧ Nx (upd H4 D (.lst (acc ++ [y]))) else Nx H3) := by
  refine lc_range (lo := 0) (n := 3) (fun i H' => match i with | 0 => H' = upd H1 D (.lst []) | 1 => P1 H' | 2 => P2 H' | _ => P3 H') rfl (fun i H' hi h => ?_) (fun H' h => s3 H' h)
  match i, hi, h with
  | 0, _, h => obtain rfl : H' = _ := h; exact s0
  | 1, _, h => exact s1 _ h
  | 2, _, h => exact s2 _ h
  | n + 3, hi, _ => exact absurd hi (by omega)
end
/-- what came of calls of a file upon a device without troubles -/
def StA (i j : Nat) (row : List Int) (c : Nat) (F0 F : Fst) (D D' : Dst) : Prop := ∃ as, D' = asksS D as ∧ Seq D as ∧ F.room = F0.room ∧ PosP D' ∧ ∃ u wt, JI i j row c u wt F D'
section
variable {i j i' j' : Nat} {row row' : List Int} {c c' u : Nat} {wt : List Int} {F F' F1 F2 : Fst} {D D' D1 D2 : Dst}
theorem JI.st (h : JI i j row c u wt F D) (p : PosP D) : StA i j row c F F D D := ⟨[], rfl, .nil, rfl, p, u, wt, h⟩
theorem StA.up (h : StA i j row c F F' D D') (a : i ≤ i') (b : j ≤ j') : StA i' j' row c F F' D D' := by
  obtain ⟨as, e, s, r, p, u, wt, J⟩ := h
  exact ⟨as, e, s, r, p, u, wt, J.up a b⟩
theorem StA.trans (h : StA i j row c F F1 D D1) (h2 : StA i' j' row' c' F1 F2 D1 D2) : StA i' j' row' c' F F2 D D2 := by
  obtain ⟨as, e, s, r, p, _⟩ := h
  obtain ⟨bs, e2, s2, r2, p2, u2, wt2, J2⟩ := h2
  subst e
  exact ⟨as ++ bs, by rw [e2, asksS_app], s.app s2, by rw [r2, r], p2, u2, wt2, J2⟩
theorem JI.seekC (h : JI i j row c u [] F D) {g : Nat} (hg : g ≤ 70 + 40 * i) : JI i j row g g [] { F with cur := g, kw := [] } D := by
  refine { h with rw_ := by rw [rowF_nil (show ({ F with cur := g, kw := [] } : Fst).wt = [] from h.ew)]; exact h.row0, lc := hg, cu := rfl, ew := h.ew, lw := Nat.zero_le _, kw0 := fun z => absurd rfl z, kf := ?_, sn := .inl rfl, cu2 := Nat.le_refl _, un := Nat.le_refl _, lm := h.lm, fin := h.fin, rd := h.rd, wr := h.wr, r1 := h.r1, r2 := h.r2, ls := h.ls, bz := h.bz }
  show ([] : List Int) = List.take 0 _
  rw [List.take_zero]
theorem JI.seekA (h : JI i j row c u wt F D) (pos : PosP D) (li : i ≤ 90) (lj : j ≤ 975) {g : Nat} (hg : g ≤ 70 + 40 * i) (p : PdL 0 F D F1 D1 .ok) : StA i (j + 1) row g F { F1 with cur := g, kw := [] } D D1 := by
  obtain ⟨as, n, e1, S, J, rm, okk⟩ := h.down li lj p
  subst e1
  rw [(okk rfl).1] at J
  exact ⟨as, rfl, S.seq, rm, pos.asks as, g, [], J.seekC hg⟩
theorem JI.flushA (h : JI i j row c u wt F D) (pos : PosP D) (li : i ≤ 90) (lj : j ≤ 975) (p : PdL 0 F D F1 D1 .ok) : StA i (j + 1) row c F F1 D D1 ∧ D1.cells = row := by
  obtain ⟨as, n, e1, S, J, rm, okk⟩ := h.down li lj p
  subst e1
  exact ⟨⟨as, rfl, S.seq, rm, pos.asks as, u, _, J⟩, (okk rfl).2⟩
theorem JI.cutA (h : JI i j row c u wt F D) (pos : PosP D) (li : i ≤ 90) (lj : j ≤ 975) {g : Nat} (hg : g ≤ 4000) (p : PdL 0 F D F1 D1 .ok) : StA i (j + 2) (row.take g) c F { F1 with kw := [] } D (doneS D1 (.cut g)) := by
  obtain ⟨as, n, e1, S, J, rm, okk⟩ := h.down li lj p
  subst e1
  rw [(okk rfl).1] at J
  have pos1 := pos.asks as
  obtain ⟨K1, _⟩ := J.cutOk (g := g) pos1.bad
  refine ⟨as ++ [.cut g], by rw [asksS_snoc], S.seq.app (.one (show FitA (asksS D as) (.cut g) from hg)), rm, by rw [← asksS_snoc]; exact pos.asks _, c, [], K1⟩
theorem JI.wroteA (h : JI i j row c u wt F D) (pos : PosP D) (li : i ≤ 89) (lj : j ≤ 975) {ds : List Int} (hd : ds ≠ []) (ld : ds.length ≤ 40) (hc : c + ds.length ≤ 100 + 40 * i) (p : PdL F.room (wroteF F ds) D F1 D1 .ok) : StA (i + 1) (j + 1) (laidF row c ds) (c + ds.length) F F1 D D1 := by
  obtain ⟨as, n, e1, wok, _⟩ := h.wrote li lj hd ld hc p
  subst e1
  have W := wok rfl
  have N := W.nx
  rw [List.take_length] at N
  exact ⟨as, rfl, W.seq, W.room, pos.asks as, _, _, N⟩
theorem JI.downRd (h : JI i j row c u wt F D) (li : i ≤ 90) (lj : j ≤ 970) (p : PdL 0 F D F1 D1 .ok) : RdOk F1 D1 := by
  obtain ⟨as, n, e1, S, J, rm, okk⟩ := h.down li (by omega) p
  subst e1
  rw [(okk rfl).1] at J
  exact J.rdOk li (by omega)
theorem PosP.calmS {bs : List Ask} : ∀ {D : Dst}, PosP D → (∀ a ∈ bs, GT a) → ∀ (s : Str), Tg.s s ∉ camesT D bs := by
  induction bs with
  | nil => intro D _ _ s z; cases z
  | cons a bs ih =>
    intro D pp g s z
    rcases List.mem_cons.mp z with z | z
    · have := pp.calm (g a List.mem_cons_self)
      rw [← z] at this; cases this
    · exact ih (D := doneS D a) (pp.done a) (fun b hb => g b (List.mem_cons_of_mem _ hb)) s z
theorem JI.readA {wd : Wd} {k : Option Nat} {r : RR} (h : JI i j row c u wt F D) (pos : PosP D) (li : i ≤ 90) (lj : j ≤ 970) (hm : ∀ n, k = some n → n ≤ 1000000000) (h0 : k ≠ some 0) (p : PdL 0 F D F1 D1 .ok) (cl : CallL wd k (begF F1 D1) D1 F' D' r) :
    ∃ xs, r = .told xs ∧ xs = (dueF row c (isLine wd.s) k).take xs.length ∧ (xs = [] → dueF row c (isLine wd.s) k = []) ∧ (wd.whole = true → xs = dueF row c (isLine wd.s) k) ∧ StA i (j + 2) row (c + wd.mv r) F F' D D' := by
  obtain ⟨as, n, e1, S, J, rm, okk⟩ := h.down li (by omega) p
  subst e1
  rw [(okk rfl).1] at J
  obtain ⟨bs, e2, gt, o, nt, ue, cu, rm2, ew2, J2⟩ := J.call li hm h0 cl
  subst e2
  have pos1 := pos.asks as
  have calm := pos1.calmS gt
  have st : StA i (j + 2) row (c + wd.mv r) F F' D (asksS (asksS D as) bs) := ⟨as ++ bs, by rw [asksS_app], S.seq.app (.gt gt), by rw [rm2, rm], by rw [← asksS_app]; exact pos.asks _, _, [], J2 (max u c) (Nat.le_max_right _ _) (by have := J.cu2; rw [Nat.max_eq_left this]; exact ue)⟩
  cases o with
  | @told xs a b e w => exact ⟨xs, rfl, b, fun z => (e z).1, fun z => by have := w z; rw [b, this, List.take_length], st⟩
  | some a => exact absurd (by rw [a]; simp) (calm sStall)
  | none a => exact absurd (by rw [a]; simp) (calm sStall)
  | fault a => exact absurd (by rw [a]; simp) (calm sFault)
end
theorem take_due {l xs : List Int} {m : Nat} (h : xs = (l.take m).take xs.length) (hm : m ≤ 30) : xs = (l.take 30).take xs.length := by
  have e := congrArg List.length h
  rw [List.length_take, List.length_take] at e
  conv => lhs; rw [h]
  rw [List.take_take, List.take_take]
  congr 1
  omega
/-- a call of all three files -/
inductive AQ
  | rd (wd : Wd) (k : Option Nat) | wr (b : Addr) (ds : List Int) | sk (pl : Int) (wh : Str) (g : Nat) | ct (g : Nat)
def AQ.w : AQ → Str
  | .rd wd _ => wd.s | .wr _ _ => Str.ofString "write" | .sk _ _ _ => Str.ofString "seek" | .ct _ => Str.ofString "cut"
def AQ.hv : AQ → V
  | .rd _ k => cntV k | .wr b _ => .ref b | .sk pl _ _ => .int pl | .ct g => .int g
def AQ.wh : AQ → Str
  | .sk _ wh _ => wh | _ => Str.ofString ""
def AQ.inp : AQ → List Ch
  | .wr b ds => [.pt b (.lst (ds.map V.int))] | _ => []
def AQ.ok (row : List Int) (c : Nat) : AQ → Prop
  | .rd wd k => wd.whole = true ∧ ∀ n, k = some n → n ≤ 1000000000 | .wr _ ds => Bytes ds ∧ ds.length ≤ 12
  | .sk pl wh g => ((wh = Str.ofString "head" ∧ (g : Int) = pl) ∨ (wh = Str.ofString "here" ∧ (g : Int) = c + pl) ∨ (wh = Str.ofString "tail" ∧ (g : Int) = row.length + pl)) ∧ g ≤ row.length + 4 | .ct g => g ≤ row.length + 4
def AQ.row (row : List Int) (c : Nat) : AQ → List Int
  | .wr _ ds => laidF row c ds | .ct g => row.take g | _ => row
def AQ.cur (row : List Int) (c : Nat) : AQ → Nat
  | .rd wd k => c + (dueF row c (isLine wd.s) k).length | .wr _ ds => c + ds.length | .sk _ _ g => g | .ct _ => c
def AQ.v (a : Addr) : AQ → V
  | .rd _ _ => .ref a | .wr _ ds => .int ds.length | .sk _ _ g => .int g | .ct _ => .non
def AQ.fl (row : List Int) (c : Nat) (a : Addr) : AQ → List Ch
  | .rd wd k => [.pt a (.lst ((dueF row c (isLine wd.s) k).map V.int))] | _ => []
def AQ.dat (row : List Int) (c : Nat) : AQ → PyData
  | .rd wd k => .list ((dueF row c (isLine wd.s) k).map PyData.int) | .wr _ ds => .int ds.length | .sk _ _ g => .int g | .ct _ => .none
theorem AQ.dp {K : PySem.W.Frag} {H : Hp} {row : List Int} {c : Nat} {a : Addr} {q : AQ} {R : List Ch} (h : Sat H (flC (q.fl row c a) :: R)) : Dp K H (q.v a) (q.dat row c) := by
  cases q with
  | rd wd k =>
    have hS : Sat H (.pt a (.lst ((dueF row c (isLine wd.s) k).map V.int)) :: R) := h.flE
    exact .lst (sq_at (hS.get .hd)) (dp_ints _)
  | wr b ds => exact .int _
  | sk pl wh g => exact .int _
  | ct g => exact .non
theorem AQ.shaped {row : List Int} {c : Nat} {q : AQ} : SeqAt.shaped (q.dat row c) = true := by
  cases q with
  | rd wd k => exact tg_shaped (t := .l _) trivial
  | wr b ds => exact tg_shaped (t := .i _) trivial
  | sk pl wh g => exact tg_shaped (t := .i _) trivial
  | ct g => show SeqAt.shaped .none = true; decide
/-- a plan without troubles -/
def PlO (pl : List Int) : Prop := pl.length ≤ 40 ∧ ∀ k ∈ pl, 1 ≤ k
theorem plO_of {pl : List Int} (l : (pl.length : Int) ≤ 40) (h : PlanOk 0 pl) : PlO pl := ⟨by omega, fun k hk => by
  obtain ⟨h1, h2, _, _⟩ := h k hk
  have h1 : k = 0 → (0 : Int) % 2 = 1 := h1
  have h2 : k < 0 → (1 : Int) < 0 := h2
  omega⟩
def JA (i j : Nat) (row : List Int) (c : Nat) (F : Fst) (D : Dst) : Prop := PosP D ∧ ∃ u wt, JI i j row c u wt F D
theorem StA.ja {i j : Nat} {row : List Int} {c : Nat} {F0 F : Fst} {D D' : Dst} (h : StA i j row c F0 F D D') : JA i j row c F D' := by
  obtain ⟨as, e, s, r, p, u, wt, J⟩ := h
  exact ⟨p, u, wt, J⟩
theorem jiA0 {r : Nat} {row pl : List Int} (lr : row.length ≤ 60) (o : PlO pl) (hr : 1 + r ≤ 64) : JI 0 0 row 0 0 [] (fst0 (1 + r) true true (if (dst0 true row pl).seek = true then (dst0 true row pl).spot else 0)) (dst0 true row pl) :=
  ⟨rowF_nil rfl, by omega, Nat.zero_le _, rfl, by show pl.length ≤ 400; have := o.1; omega, rfl, rfl, Nat.zero_le _, Nat.zero_le _, rfl, rfl, Nat.le_refl _, Nat.zero_le _, rfl, rfl, rfl, by show 1 ≤ 1 + r; omega, hr, fun z => absurd rfl z, by show ([] : List Int) = (row.drop 0).take 0; rw [List.take_zero], .inl rfl, Nat.le_refl _, Nat.zero_le _, rfl, rfl⟩
theorem posA0 {row pl : List Int} (o : PlO pl) : PosP (dst0 true row pl) := fun k hk => o.2 k hk
theorem shapedA {t0 t1 t2 : List Tg} (h0 : TrOk t0) (h1 : TrOk t1) (h2 : TrOk t2) : SeqAt.shaped (.list [.list (t0.map tgD), .list (t1.map tgD), .list (t2.map tgD)]) = true := by
  obtain ⟨a0, b0⟩ := tgs_lay h0.ok
  obtain ⟨a1, b1⟩ := tgs_lay h1.ok
  obtain ⟨a2, b2⟩ := tgs_lay h2.ok
  unfold SeqAt.shaped
  simp [PyData.canLay0, PyData.canLayAll0, PyData.depth, PyData.depthAll, a0, a1, a2]
  omega
theorem noneA {t0 t1 t2 : List PyData} : ([PyData.list t0, .list t1, .list t2].any fun z => PyData.eqv z .none) = false := by simp [PyData.eqv]
theorem shapedP {c n : Nat} : SeqAt.shaped (.list [.list [.int c, .int n], .list [.int c, .int n], .list [.int c, .int n]]) = true := by
  unfold SeqAt.shaped
  simp [PyData.canLay0, PyData.canLayAll0, PyData.depth, PyData.depthAll]
def spFRdN (L : Option Nat → Fst → Dst → Fst → Dst → RR → Prop) (CF CD C : Addr) : Sp := fun vs H Q E => ∃ (f d : Addr) (F : Fst) (D : Dst) (many : Option Nat) (R : List Ch), vs = [.ref f, cntV many] ∧ Sat H (filC CF f d F :: devC CD d D :: R) ∧ F.fin = false ∧ F.rd = true ∧ PdOk F D ∧ PosP D ∧ (∀ n, many = some n → n ≤ 1000000000) ∧
  (∀ F1 D1, PdL 0 F D F1 D1 .ok → RdOk F1 D1) ∧
  (many = some 0 → ∀ (H' : Hp) (q : Addr), Sat H' (.pt q (.lst []) :: filC CF f d F :: devC CD d D :: R) → Q (.ref q) H') ∧
  (many ≠ some 0 → ∀ F1 D1, PdL 0 F D F1 D1 .ok → ∀ F' D' r, L many (begF F1 D1) D1 F' D' r → TellR CF CD C Q E f d R F' D' r)
def spCountA : Sp := fun vs H Q _ => ∃ (p : Addr) (n : Int) (w : Str) (R : List Ch), vs = [.ref p, .str w] ∧ Sat H (poolC p n :: R) ∧ n ≤ 900000000 ∧ (w = Str.ofString "read" ∨ w = Str.ofString "readline") ∧
  ∀ (H' : Hp) (k : Option Nat), Sat H' (poolC p (n + 4) :: R) → (∀ m, k = some m → m ≤ 1000000000) → Q (cntV k) H'
def spApartA (CF CD : Addr) : Sp := fun vs H Q _ => ∃ (p fl : Addr) (n : Int) (f0 f1 f2 d0 d1 d2 rs : Addr) (i j c u0 u1 u2 : Nat) (row wt0 wt1 wt2 : List Int) (F0 F1 F2 : Fst) (D0 D1 D2 : Dst) (R : List Ch), vs = [.ref p, .ref fl, .ref rs] ∧
  Sat H (poolC p n :: .pt fl (.lst [.ref f0, .ref f1, .ref f2]) :: .pt rs (.lst ((takeO (some 30) (row.drop c)).map V.int)) :: filC CF f0 d0 F0 :: devC CD d0 D0 :: filC CF f1 d1 F1 :: devC CD d1 D1 :: filC CF f2 d2 F2 :: devC CD d2 D2 :: R) ∧ n ≤ 900000000 ∧
  JI i j row c u0 wt0 F0 D0 ∧ PosP D0 ∧ JI i j row c u1 wt1 F1 D1 ∧ PosP D1 ∧ JI i j row c u2 wt2 F2 D2 ∧ PosP D2 ∧ i ≤ 88 ∧ j ≤ 960 ∧
  ∀ (H' : Hp) (F0' F1' F2' : Fst) (D0' D1' D2' : Dst), Sat H' (.pt fl (.lst [.ref f0, .ref f1, .ref f2]) :: filC CF f0 d0 F0' :: devC CD d0 D0' :: filC CF f1 d1 F1' :: devC CD d1 D1' :: filC CF f2 d2 F2' :: devC CD d2 D2' :: R) →
    StA i (j + 4) row c F0 F0' D0 D0' → StA i (j + 4) row c F1 F1' D1 D1' → StA i (j + 4) row c F2 F2' D2 D2' → Q (.bl true) H'
def spCalledA (CF CD : Addr) : Sp := fun vs H Q _ => ∃ (f d : Addr) (i j c u : Nat) (row wt : List Int) (F : Fst) (D : Dst) (q : AQ) (R : List Ch), vs = [.ref f, .str q.w, q.hv, .str q.wh] ∧ Sat H (flC q.inp :: filC CF f d F :: devC CD d D :: R) ∧ JI i j row c u wt F D ∧ PosP D ∧ i ≤ 50 ∧ j ≤ 960 ∧ q.ok row c ∧
  ∀ (H' : Hp) (a : Addr) (F' : Fst) (D' : Dst), Sat H' (flC (q.fl row c a) :: flC q.inp :: filC CF f d F' :: devC CD d D' :: R) → StA (i + 1) (j + 2) (q.row row c) (q.cur row c) F F' D D' → Q (q.v a) H'
/-- where the starts lie -/
def wA (c n : Nat) : List (Key × V) := [(Sum.inr (Str.ofString "here"), .int c), (Sum.inr (Str.ofString "tail"), .int n)]
theorem wA_head (c n : Nat) : valV (wA c n) (Sum.inr (Str.ofString "head")) = none := by unfold wA; kernel_rfl
theorem wA_here (c n : Nat) : valV (wA c n) (Sum.inr (Str.ofString "here")) = some (.int c) := by unfold wA; kernel_rfl
theorem wA_tail (c n : Nat) : valV (wA c n) (Sum.inr (Str.ofString "tail")) = some (.int n) := by unfold wA; kernel_rfl
def spDrawnA : Sp := fun vs H Q _ => ∃ (p : Addr) (n : Int) (row : List Int) (c : Nat) (R : List Ch), vs = [.ref p, .int row.length, .int c] ∧ Sat H (poolC p n :: R) ∧ n ≤ 800000000 ∧ row.length ≤ 4000 ∧ c ≤ 4000 ∧
  ∀ (H' : Hp) (t : Addr) (q : AQ) (m : Int), Sat H' (.pt t (.tup [.str q.w, q.hv, .str q.wh]) :: flC q.inp :: poolC p m :: R) → m ≤ n + 2000 → q.ok row c → Q (.ref t) H'
end Sip
/-! len(x), x == y, x != y of instances whose class says __len__ and __eq__ -/
namespace Sip
open PySem PySem.Spec PyProof.Rows L2 TL
section
variable {prog : Program} {w : World} {A : Around} {E : Value → Shared → Prop} {s : Shared} {K : PySem.W.Frag} {x C f : Addr} {ox : Obj} {od : Option Obj} {b tb : Value}
/-- len(x) by an own __len__ -/
theorem len_own {Q : Value → Shared → Prop} (X : K.In s.heap) (I : PySem.W.InstAt s.heap x ox C od) (hs : PySem.W.findIn K (.ref C) "__len__" = some (some (.ref f))) (hf : PySem.W.isFn K (.ref f) = true)
    (h : wpAny (model prog w) A.in1 (call (.ref f) [.ref x]) (fun r s' => ∃ (n : Nat) (t : Tok), r = .int n t ∧ n < 2 ^ 63 ∧ ∀ t' tk, Q (.int n t') { s' with toks := tk }) E s) : wpAny (model prog w) A (call (.builtin "len") [.ref x]) Q E s := by
  refine Calls.call_function_entry (Q := Q) kind_len plain_len entry_len (args_len1 _) ?_
  unfold Builtin.«len»
  refine wpAny_bind (m := oneArg "len" _) (wpAny_pure (wpAny_bind (m := callSpecial? (.ref x) (PySem.Str.ofString "__len__")) (PySem.W.special_fn X I hs (beq_iff_eq.mp hf) (wpAny_mono h (fun r s' hr => ?_) fun _ _ y => y))))
  obtain ⟨n, t, rfl, hn, hq⟩ := hr
  have n0 : ¬ ((n : Nat) : Int) < 0 := by omega
  have n1 : ¬ ((n : Nat) : Int) ≥ 2 ^ 63 := by omega
  refine wpAny_bind (wpAny_holding (wpAny_pure (wpAny_bind (wpAny_letGo ?_))))
  show wpAny _ _ (if ((n : Nat) : Int) < 0 then _ else _) _ _ _; rw [if_neg n0]
  show wpAny _ _ (if ((n : Nat) : Int) ≥ 2 ^ 63 then _ else _) _ _ _; rw [if_neg n1]
  exact wpAny_bind (wpAny_mkInt (wpAny_pure ⟨_, rfl, hq _ _⟩))
/-- x != y, the class says __eq__ alone -/
theorem tryNe_own {Q : Option Value → Shared → Prop} (X : K.In s.heap) (I : PySem.W.InstAt s.heap x ox C od) (hne : PySem.W.findIn K (.ref C) "__ne__" = some (some (.builtin "object.__ne__"))) (hs : PySem.W.findIn K (.ref C) "__eq__" = some (some (.ref f))) (hf : PySem.W.isFn K (.ref f) = true)
    (hm : PySem.W.mroIn K C (.type "object") = some true) (hu : A.units + 1 < cLine)
    (h : wpAny (model prog w) A.in1 (call (.ref f) [.ref x, b]) (fun v s' => ∃ r, v = .bool r ∧ Q (some (.bool (!r))) s') E s) : wpAny (model prog w) A (tryCompare (.ref x) "__ne__" b) Q E s := by
  have S := PySem.F.cmp_object.ne
  have body : wpAny (model prog w) A (call (.builtin "object.__ne__") [.ref x, b]) (fun v s' => ∃ r, v = .bool r ∧ Q (some v) s') E s := by
    refine wpAny_call (codeAny_call_builtin S.plain PySem.F.cmpEntry_ne (@PySem.W.check_slot (model prog w) _ _ _ "object.__ne__" "object" "__ne__" (.ref x) [b] [] _ PySem.F.cmpKind_ne PySem.F.cmpSplit_ne (I.type.andThen (PySem.W.looks_mroIn X hm)) (PySem.F.cmpArgs_ne _ _) ?_))
    have hu1 : A.in1.units < cLine := hu
    unfold Builtin.«object.__ne__»
    repeat (first | with_reducible refine wpAny_cRoomFor hu1 ?_ | (refine wpAny_bind (m := callSpecialIfBound? (.ref x) (Str.ofString "__eq__") [b]) (PySem.W.ifBound_K X I hs hf (wpAny_mono h (fun v s' hv => by
          obtain ⟨r, rfl, hq⟩ := hv
          exact wpAny_bind (wpAny_truthy_bool (wpAny_pure ⟨!r, rfl, hq⟩))) fun _ _ e => e))) | wp_step)
  simp only [tryCompare]
  refine wpAny_bind (m := callSpecialIfBound? (.ref x) "__ne__" [b]) ?_
  simp only [callSpecialIfBound?, bindSpecialIfBound?]
  refine wpAny_holding (wpAny_bind (wpAny_bind (wpAny_bind (I.type.here ((PySem.W.looks_findIn X hne).here ?_)))))
  simp only [S.bind]
  have fin : ∀ {Q2 : Option Value → Shared → Prop}, (∀ r s', Q (some (.bool r)) s' → Q2 (some (.bool r)) s') → wpAny (model prog w) A (call (.builtin "object.__ne__") ([.ref x] ++ [b]) >>= fun v => pure (some v)) Q2 E s := fun k => by
    refine wpAny_bind (wpAny_mono body (fun v s' hv => ?_) fun _ _ e => e)
    obtain ⟨r, rfl, hq⟩ := hv
    exact wpAny_pure (k r s' hq)
  refine wpAny_bind (wpAny_askSetting (wpAny_ite ?_)); split
  · exact wpAny_bind (wpAny_pure (wpAny_pure (fin fun r s' hq => wpAny_pure hq)))
  · exact wpAny_tryCatch (wpAny_bind (wpAny_pure (wpAny_pure (fin fun r s' hq => wpAny_pure hq))))
/-- both of one class: the left one is asked -/
theorem rich_own {op : CmpOp} {Q : Value → Shared → Prop} (hu : A.units < cLine) (X : K.In s.heap) (I : PySem.W.InstAt s.heap x ox C od) (hb : PySem.W.Looks (model prog w) s.heap (typeOf b) (.ref C))
    (one : wpAny (model prog w) A (tryCompare (.ref x) (cmpInfo op).2.1 b) (fun r s' => ∃ v, r = some v ∧ Q v s') E s) : wpAny (model prog w) A (richCompare op (.ref x) b) Q E s := by
  have nn : (Value.ref C != Value.ref C) = false := by simp
  unfold richCompare; simp only [oneThing_ref]
  refine wpAny_holding (wpAny_bind (wpAny_cRoomFor hu (wpAny_bind (I.type.here (wpAny_bind (hb.here ?_))))))
  rw [nn]; simp only [Bool.false_eq_true, if_false]
  refine wpAny_bind (wpAny_pure ?_); simp only [Bool.false_eq_true, if_false]
  refine wpAny_bind (wpAny_mono one (fun r s' z => by obtain ⟨v, rfl, hq⟩ := z; exact wpAny_pure hq) fun _ _ e => e)
end
section
variable {X : Cx} {CX : CXT} {n : Nat} {C f : Addr} {fd : FuncData} {ps : List Str} {sp : Sp} {E : XK}
/-- len(x) of an instance -/
def rLenOwn (C : Addr) (sp : Sp) (E : XK) : List V → Hp → VK → Prop := fun xs H Q => ∃ a dx fs, xs = [V.ref a] ∧ H a = some (.ins C dx fs) ∧ sp [.ref a] H (fun z H' => ∃ k : Nat, z = .int k ∧ k < 2 ^ 63 ∧ Q z H') E
theorem call_lenOwn (hm : Meth X.K C "__len__" f) (F : FnOk X.prog X.w X.K X.mg X.base CX n f fd ps sp) (hr : Room (n + 1) X.A) (hb : Binds X.K fd ps []) (hx : Passes CX X E) : CallR X (.builtin "len") (rLenOwn C sp E) := by
  intro pins s σ H xs us Q I r h
  obtain ⟨a, dx, fs, rfl, ha, q⟩ := h
  obtain ⟨u, rfl, ru⟩ := r.one
  cases (show u = Value.ref a from ru)
  obtain ⟨mA, J, _⟩ := ins_get I.hok ha
  obtain ⟨od, J, _⟩ := J.look
  refine len_own I.kIn J hm.at_ hm.fn ?_
  have hl := F.len _ _ _ _ q
  have r2 : Vals [V.ref a] [Value.ref a] := .cons rfl .nil
  refine wpAny_call (codeAny_mono (F.run X.A.in1 X.stack s H ⟨[.ref a], []⟩ [.ref a] [.ref a] _ E hr.in1 I.env0.in1 (by
    have := hb s [.ref a] I.kIn (by simpa using hl)
    simpa using this) r2 q) fun r s' hq => ?_)
  cases r with
  | error e => exact hx pins σ H s e s' I hq
  | ok fl =>
    cases fl with
    | ret w =>
      obtain ⟨z, H', I', rz, k, ez, lk, qz⟩ := I.after hq
      subst ez
      obtain ⟨t, e⟩ := (show ∃ t, w = Value.int k t from rz)
      cases e
      exact ⟨k, t, rfl, lk, fun t' tk => ⟨.int k, H', I'.tok tk, ⟨t', rfl⟩, qz⟩⟩
    | next => exact False.elim hq
    | brk => exact False.elim hq
    | cont => exact False.elim hq
/-- x != y, both of the class at C, which says __eq__ alone -/
def rNeOwn (C : Addr) (sp : Sp) (E : XK) : R2 := fun x y H Q => ∃ a dx fs b dy gs, x = .ref a ∧ y = .ref b ∧ H a = some (.ins C dx fs) ∧ H b = some (.ins C dy gs) ∧ sp [x, y] H (fun z H' => ∃ r, z = .bl r ∧ Q (.bl (!r)) H') E
theorem op_neOwn (hm : Meth X.K C "__eq__" f) (hn : PySem.W.findIn X.K (.ref C) "__ne__" = some (some (.builtin "object.__ne__"))) (ho : PySem.W.mroIn X.K C (.type "object") = some true)
    (F : FnOk X.prog X.w X.K X.mg X.base CX n f fd ps sp) (hr : Room (n + 1) X.A) (hb : Binds X.K fd ps []) (hx : Passes CX X E) : OpR X (compareOp .NotEq) (rNeOwn C sp E) := by
  intro pins s σ H x y v u Q I rx ry h
  obtain ⟨a, dx, fs, b, dy, gs, rfl, rfl, ha, hb', q⟩ := h
  cases (show v = Value.ref a from rx)
  cases (show u = Value.ref b from ry)
  obtain ⟨mA, J, _⟩ := ins_get I.hok ha
  obtain ⟨od, J, _⟩ := J.look
  obtain ⟨mB, J', _⟩ := ins_get I.hok hb'
  obtain ⟨od', J', _⟩ := J'.look
  show wpAny (model X.prog X.w) X.A (richCompare .NotEq (.ref a) (.ref b)) (EP X pins σ Q) X.xe s
  refine rich_own hr.units0 I.kIn J J'.type (tryNe_own I.kIn J hn hm.at_ hm.fn ho hr.in1.units0 ?_)
  have hl := F.len _ _ _ _ q
  have r2 : Vals [V.ref a, V.ref b] [Value.ref a, Value.ref b] := .cons rfl (.cons rfl .nil)
  refine wpAny_call (codeAny_mono (F.run X.A.in1 X.stack s H ⟨[.ref a, .ref b], []⟩ [.ref a, .ref b] [.ref a, .ref b] _ E hr.in1 I.env0.in1 (by
    have := hb s [.ref a, .ref b] I.kIn (by simpa using hl)
    simpa using this) r2 q) fun r s' hq => ?_)
  cases r with
  | error e => exact hx pins σ H s e s' I hq
  | ok fl =>
    cases fl with
    | ret w =>
      obtain ⟨z, H', I', rz, k, ez, qz⟩ := I.after hq
      subst ez
      cases rz
      exact ⟨k, rfl, _, rfl, .bl (!k), H', I', rfl, qz⟩
    | next => exact False.elim hq
    | brk => exact False.elim hq
    | cont => exact False.elim hq
end
end Sip
namespace Sip
open PySem PySem.Spec PyProof.Rows L2 TL
theorem done_lim {S : Dst} {a : Ask} (d : DeedOk S a) : (doneS S a).cells.length ≤ max S.cells.length (S.spot + 10) ∧ (doneS S a).spot ≤ max (S.spot + 10) (S.cells.length + 5) := by
  by_cases hb : numF S < 0
  · rw [(done_bad (a := a) hb).1, noteS_cells, noteS_spot]; omega
  · rw [(done_good (a := a) hb).1]
    cases a with
    | take n =>
      by_cases h : mayF S n = 0
      · rw [(good_take0 h).1, (good_take0 h).2.1]; omega
      · rw [(good_take1 h).1, (good_take1 h).2.1]
        have := taken_len S n
        omega
    | put ds =>
      have dl := d.2
      by_cases h : putN S ds = 0
      · rw [(good_put0 h).1, (good_put0 h).2.1]; omega
      · rw [(good_put1 h).1, (good_put1 h).2.1]
        have := putN_le S ds
        refine ⟨laidF_le ⟨by omega, ?_⟩, by omega⟩
        rw [List.length_take]; omega
    | go n =>
      have dn : n ≤ S.cells.length + 5 := d
      rw [good_go.1, good_go.2.1]; omega
    | cut n => rw [good_cut.1, good_cut.2.1, List.length_take]; omega

inductive Dd
  | ask (a : Ask) | grow (ds : List Int)
def Dd.w : Dd → Str | .ask a => a.w | .grow _ => Str.ofString "grow"
def Dd.h : Dd → Tg | .ask a => a.h | .grow ds => .l ds
def stepD (S : Dst) : Dd → Dst
  | .ask a => doneS S a
  | .grow ds => { S with cells := S.cells ++ ds }
def deedsS (S : Dst) (ds : List Dd) : Dst := ds.foldl stepD S
theorem deedsS_snoc (S : Dst) (ds : List Dd) (d : Dd) : deedsS S (ds ++ [d]) = stepD (deedsS S ds) d := by unfold deedsS; rw [List.foldl_append]; rfl
def NoGo : Ask → Prop | .take _ => True | .put _ => True | _ => False
def StOk (S : Dst) : Dd → Prop
  | .ask a => DeedOk S a ∧ (S.seek = true ∨ NoGo a)
  | .grow ds => ds.length ≤ 6
def Ran (S : Dst) (ds : List Dd) : Prop := ∀ i d, ds[i]? = some d → StOk (deedsS S (ds.take i)) d
theorem Ran.snoc {S : Dst} {ds : List Dd} {d : Dd} (h : Ran S ds) (k : StOk (deedsS S ds) d) : Ran S (ds ++ [d]) := fun i x hx => by
  by_cases l : i < ds.length
  · rw [List.getElem?_append_left l] at hx
    rw [List.take_append_of_le_length (by omega)]
    exact h i x hx
  · have li := (List.getElem?_eq_some_iff.mp hx).1
    rw [List.length_append] at li
    have e : i = ds.length := by have : ([d] : List Dd).length = 1 := rfl; omega
    subst e
    rw [List.getElem?_append_right (Nat.le_refl _), Nat.sub_self] at hx
    cases hx
    rw [List.take_left]
    exact k
structure HL (k : Nat) (S : Dst) : Prop where
  uo : UsedOk S
  br : S.bar = false
  pl : S.plan.length ≤ 30
  ns : S.ns.length ≤ k
  cl : S.cells.length ≤ 30 + 10 * k
  sp : S.spot ≤ 30 + 10 * k
theorem HL.ok {k : Nat} {S : Dst} (h : HL k S) (l : k ≤ 100000) : DstOk S := ⟨by rw [h.uo]; omega, by have := h.pl; omega, by have := h.ns; omega⟩
theorem HL.step {k : Nat} {S : Dst} {d : Dd} (h : HL k S) (o : StOk S d) : HL (k + 1) (stepD S d) := by
  have i1 := h.cl
  have i2 := h.sp
  have i3 := h.ns
  cases d with
  | ask a =>
    obtain ⟨h1, h2, h3, h4, h5⟩ := doneS_used S a
    obtain ⟨d1, d2⟩ := done_lim o.1
    refine ⟨h.uo.done a, h4.trans h.br, ?_, ?_, ?_, ?_⟩
    · show (doneS S a).plan.length ≤ 30; rw [h2]; exact h.pl
    · show (doneS S a).ns.length ≤ k + 1; rw [h5, List.length_append]; show _ + 1 ≤ _; omega
    · show (doneS S a).cells.length ≤ _; omega
    · show (doneS S a).spot ≤ _; omega
  | grow ds =>
    have o : ds.length ≤ 6 := o
    refine ⟨h.uo, h.br, h.pl, by show S.ns.length ≤ _; omega, ?_, by show S.spot ≤ _; omega⟩
    show (S.cells ++ ds).length ≤ _
    rw [List.length_append]; omega
theorem Ran.hl {S : Dst} {ds : List Dd} (h : Ran S ds) (h0 : HL 0 S) : ∀ i, i ≤ ds.length → HL i (deedsS S (ds.take i))
  | 0, _ => h0
  | i + 1, l => by
    have e := List.getElem?_eq_getElem (show i < ds.length by omega)
    rw [List.take_succ_eq_append_getElem (show i < ds.length by omega), deedsS_snoc]
    exact (Ran.hl h h0 i (by omega)).step (h i _ e)
theorem deedsS_seek (S : Dst) (ds : List Dd) : (deedsS S ds).seek = S.seek := by
  induction ds generalizing S with
  | nil => rfl
  | cons d ds ih =>
    show (deedsS (stepD S d) ds).seek = _
    rw [ih]
    cases d with
    | ask a => exact (doneS_used S a).2.2.1
    | grow g => rfl
theorem HL.fit {k : Nat} {S : Dst} {a : Ask} (h : HL k S) (d : DeedOk S a) (l : k ≤ 300) : FitOk S a := by
  have i1 := h.cl
  have i2 := h.sp
  cases a with
  | take n => exact d.1
  | put ds => exact ⟨d.1, fun _ => ⟨by omega, by have := d.2; omega⟩, by omega, by omega, by have := d.2; omega⟩
  | go n => have : n ≤ S.cells.length + 5 := d; show n ≤ 4000; omega
  | cut n => have : n ≤ S.cells.length + 3 := d; show n ≤ 4000; omega
def DdV (M : Hp) (v : V) (d : Dd) : Prop := ∃ (t : Addr) (hv : V), v = .ref t ∧ M t = some (.tup [.str d.w, hv]) ∧ HandV M hv d.h
def DdVs (M : Hp) (vs : List V) (ds : List Dd) : Prop := vs.length = ds.length ∧ ∀ (i : Nat) (v : V) (d : Dd), vs[i]? = some v → ds[i]? = some d → DdV M v d
theorem DdVs.same {M N : Hp} {vs : List V} {ds : List Dd} (h : DdVs M vs ds) (s : Same M N) : DdVs N vs ds := ⟨h.1, fun i v d e1 e2 => by
  obtain ⟨t, hv, e, m, k⟩ := h.2 i v d e1 e2
  exact ⟨t, hv, e, s _ _ m, k.same s⟩⟩
theorem DdVs.snoc {M : Hp} {vs : List V} {ds : List Dd} {v : V} {d : Dd} (h : DdVs M vs ds) (k : DdV M v d) : DdVs M (vs ++ [v]) (ds ++ [d]) := by
  refine ⟨by rw [List.length_append, List.length_append, h.1]; rfl, fun i v1 d1 e1 e2 => ?_⟩
  by_cases l : i < vs.length
  · rw [List.getElem?_append_left l] at e1
    rw [List.getElem?_append_left (by rw [← h.1]; exact l)] at e2
    exact h.2 i _ _ e1 e2
  · have li := (List.getElem?_eq_some_iff.mp e1).1
    rw [List.length_append] at li
    have e : i = vs.length := by have : ([v] : List V).length = 1 := rfl; omega
    subst e
    rw [List.getElem?_append_right (Nat.le_refl _), Nat.sub_self] at e1
    rw [List.getElem?_append_right (by rw [h.1]; exact Nat.le_refl _), h.1, Nat.sub_self] at e2
    cases e1; cases e2
    exact k
theorem DdVs.at {M : Hp} {vs : List V} {ds : List Dd} {i : Nat} {v : V} (h : DdVs M vs ds) (e : vs[i]? = some v) : ∃ d, ds[i]? = some d ∧ DdV M v d := by
  have l := (List.getElem?_eq_some_iff.mp e).1
  have e2 := List.getElem?_eq_getElem (show i < ds.length by rw [← h.1]; exact l)
  exact ⟨_, e2, h.2 i _ _ e e2⟩
def hK (t d q : Addr) (n : Nat) : List (Key × V) := [(Sum.inr (Str.ofString "made"), .ref t), (Sum.inr (Str.ofString "raw"), .ref d), (Sum.inr (Str.ofString "deeds"), .ref q), (Sum.inr (Str.ofString "size"), .int n)]
theorem hK_made (t d q : Addr) (n : Nat) : valV (hK t d q n) (Sum.inr (Str.ofString "made")) = some (.ref t) := by unfold hK; kernel_rfl
theorem hK_raw (t d q : Addr) (n : Nat) : valV (hK t d q n) (Sum.inr (Str.ofString "raw")) = some (.ref d) := by unfold hK; kernel_rfl
theorem hK_deeds (t d q : Addr) (n : Nat) : valV (hK t d q n) (Sum.inr (Str.ofString "deeds")) = some (.ref q) := by unfold hK; kernel_rfl
theorem hK_size (t d q : Addr) (n : Nat) : valV (hK t d q n) (Sum.inr (Str.ofString "size")) = some (.int n) := by unfold hK; kernel_rfl
theorem hK_psize (t d q : Addr) (n m : Nat) : putK (hK t d q n) (Sum.inr (Str.ofString "size")) (.int m) = hK t d q m := by unfold hK; kernel_rfl
theorem hget {H : Hp} {h t d q : Addr} {n : Nat} {k : Str} {v : V} (e : H h = some (.dK (hK t d q n))) (g : valV (hK t d q n) (Sum.inr k) = some v) : DGet H h (.str k) (some v) := by
  rw [← g]; exact DGet.k (k := Sum.inr k) e
theorem hput {H : Hp} {h t d q : Addr} {n : Nat} {k : Str} {v : V} {kvs : List (Key × V)} (e : H h = some (.dK (hK t d q n))) (g : putK (hK t d q n) (Sum.inr k) v = kvs) : DPut H h (.str k) v (upd H h (.dK kvs)) := by
  rw [← g]; exact DPut.k (k := Sum.inr k) e (by show (4 : Nat) < sizeLine; rw [sizeLine_eq]; decide)
theorem rget {H : Hp} {m r : Addr} (e : H m = some (.dK [(Sum.inr (Str.ofString "row"), .ref r)])) : DGet H m (.str (Str.ofString "row")) (some (.ref r)) := DGet.k (k := Sum.inr (Str.ofString "row")) e
theorem dfs_len : (Str.ofString "__len__") ∉ devMs := by decide +kernel
def spLenQ (CD : Addr) : Sp := fun vs H Q _ => ∃ (d : Addr) (S : Dst) (R : List Ch), vs = [.ref d] ∧ Sat H (devC CD d S :: R) ∧ Q (.int S.cells.length) H
def spEqQ (CD : Addr) : Sp := fun vs H Q _ => ∃ (a b : Addr) (S S2 : Dst) (R : List Ch), vs = [.ref a, .ref b] ∧ Sat H (devC CD a S :: devC CD b S2 :: R) ∧ S.cells = S2.cells ∧ Q (.bl true) H
def spGrowF (CD : Addr) : Sp := fun vs H Q _ => ∃ (d l : Addr) (S : Dst) (ds : List Int) (M : Hp) (R : List Ch), vs = [.ref d, .ref l] ∧ Sat H (devC CD d S :: frC M :: R) ∧ M l = some (.lst (ds.map V.int)) ∧ (S.seek = true → S.cells.length + ds.length ≤ 4000) ∧ S.cells.length + ds.length ≤ 100000 ∧
  ∀ H', Sat H' (devC CD d { S with cells := S.cells ++ ds } :: frC M :: R) → Q .non H'
theorem spGrowF.to {CD : Addr} {vs : List V} {H : Hp} {Q : VK} {E : XK} (h : spGrowF CD vs H Q E) : spGrowD (DevAt CD) vs H Q E := by
  obtain ⟨d, l, S, ds, M, R, rfl, h, hl, l1, l2, q⟩ := h
  obtain ⟨F0, F, F2, h1, ⟨F3, F4, h3, h4, d2, u2⟩, dj, u⟩ := h
  obtain ⟨A, rfl, hA⟩ := h1.here
  have nl : ¬ F l := fun z => dj l z ((u2 l).mpr (.inl ((h3.here.2 l).mpr ⟨_, hl⟩)))
  refine ⟨A, l, F, S, ds, rfl, hA, nl, h3.here.1 _ _ hl, l1, l2, fun H' hA' st => q H' ?_⟩
  have h5 : SatF H (frC M :: R) F2 := ⟨F3, F4, h3, h4, d2, u2⟩
  exact Sat.mk (On.dev hA') (h5.keep fun b o g e => st.1 b o (fun z => dj b z g) e) dj
def spLeftQ (CD : Addr) : Sp := fun vs H Q _ => ∃ (d : Addr) (S : Dst) (R : List Ch), vs = [.ref d] ∧ Sat H (devC CD d S :: R) ∧ Q (.int ((S.plan.length : Int) - S.used)) H
theorem spLeftQ.to {CD : Addr} {vs : List V} {H : Hp} {Q : VK} {E : XK} (h : spLeftQ CD vs H Q E) : spLeft (DevAt CD) vs H Q E := by
  obtain ⟨d, S, R, rfl, h, q⟩ := h
  obtain ⟨A, F, rfl, hA, k⟩ := h.dev
  exact ⟨A, F, S, rfl, hA, q⟩
def spDeviceF : Sp := fun vs H Q _ => ∃ (a b : Addr) (go : Bool) (r ps : List Int) (M : Hp) (R : List Ch), vs = [.ref a, .ref b] ∧ Sat H (frC M :: R) ∧ M a = some (.lst (r.map V.int)) ∧ M b = some (.lst (ps.map V.int)) ∧
  ∀ (H' : Hp) (m : Addr), Sat H' (mdC m (dst0 go r ps) M :: R) → Q (.ref m) H'
def spDeedN : Sp := fun vs H Q _ => ∃ (p m rw : Addr) (xs : List V) (n : Int) (S : Dst) (R : List Ch), vs = [.ref p, .ref m] ∧ Sat H (poolC p n :: .pt m (.dK [(Sum.inr (Str.ofString "row"), .ref rw)]) :: .pt rw (.lst xs) :: R) ∧ n ≤ 800000000 ∧ xs.length = S.cells.length ∧ S.cells.length ≤ 100000 ∧
  ∀ (H' : Hp) (t : Addr) (a : Ask) (hv : V), Sat H' (.pt t (.tup [.str a.w, hv]) :: tgC hv a.h :: poolC p (n + 2000) :: R) → DeedOk S a → Q (.ref t) H'
def spToldF (CD : Addr) : Sp := fun vs H Q _ => ∃ (d : Addr) (S : Dst) (a : Ask) (hv : V) (M : Hp) (R : List Ch), vs = [.ref d, .str a.w, hv] ∧ Sat H (devC CD d S :: frC M :: R) ∧ HandV M hv a.h ∧ DstOk S ∧ S.bar = false ∧ (S.seek = true ∨ NoGo a) ∧ FitOk S a ∧
  ∀ (H' : Hp) (t : Addr), Sat H' (devC CD d (doneS S a) :: frC M :: R) → Q (.ref t) H'
def spHouseQ (CD : Addr) : Sp := fun vs H Q _ => ∃ (p : Addr) (n : Int) (go : Bool) (R : List Ch), vs = [.ref p, .bl go] ∧ Sat H (poolC p n :: R) ∧ n ≤ 800000000 ∧
  ∀ (H' : Hp) (h t d q rw pl : Addr) (r ps : List Int), Sat H' (.pt h (.dK (hK t d q r.length)) :: .pt q (.lst []) :: devC CD d (dst0 go r ps) :: .pt t (.tup [.ref rw, .ref pl, .bl go]) :: .pt rw (.lst (r.map V.int)) :: .pt pl (.lst (ps.map V.int)) :: poolC p (n + 3000) :: R) → r.length ≤ 30 → ps.length ≤ 30 → Q (.ref h) H'
structure Hs where
  h : Addr
  t : Addr
  d : Addr
  q : Addr
  row : Addr
  pl : Addr
  vs : List V
  r : List Int
  ps : List Int
  go : Bool
  ds : List Dd
def Hs.S0 (X : Hs) : Dst := dst0 X.go X.r X.ps
def Hs.S (X : Hs) : Dst := deedsS X.S0 X.ds
structure Hs.At (X : Hs) (M : Hp) : Prop where
  t : M X.t = some (.tup [.ref X.row, .ref X.pl, .bl X.go])
  r : M X.row = some (.lst (X.r.map V.int))
  p : M X.pl = some (.lst (X.ps.map V.int))
  v : DdVs M X.vs X.ds
theorem Hs.At.same {X : Hs} {M N : Hp} (h : X.At M) (s : Same M N) : X.At N := ⟨s _ _ h.t, s _ _ h.r, s _ _ h.p, h.v.same s⟩
structure Hs.Ok (X : Hs) : Prop where
  lr : X.r.length ≤ 30
  lp : X.ps.length ≤ 30
  ran : Ran X.S0 X.ds
  ld : X.ds.length ≤ 63
theorem Hs.Ok.hl0 {X : Hs} (h : X.Ok) : HL 0 X.S0 := ⟨rfl, rfl, h.lp, Nat.le_refl _, h.lr, Nat.zero_le _⟩
theorem Hs.Ok.at {X : Hs} (h : X.Ok) (i : Nat) (l : i ≤ X.ds.length) : HL i (deedsS X.S0 (X.ds.take i)) := h.ran.hl h.hl0 i l
theorem Hs.Ok.hl {X : Hs} (h : X.Ok) : HL X.ds.length X.S := by
  have := h.at X.ds.length (Nat.le_refl _)
  rw [List.take_length] at this
  exact this
def spWalkedQ (CD : Addr) : Sp := fun vs H Q _ => ∃ (X : Hs) (n : Nat) (M : Hp) (R : List Ch), vs = [.ref X.h] ∧ Sat H (.pt X.h (.dK (hK X.t X.d X.q n)) :: .pt X.q (.lst X.vs) :: devC CD X.d X.S :: frC M :: R) ∧ X.At M ∧ X.Ok ∧
  ∀ (H' : Hp) (m : Addr) (M' : Hp), Sat H' (mdC m X.S M' :: .pt X.h (.dK (hK X.t X.d X.q n)) :: .pt X.q (.lst X.vs) :: devC CD X.d X.S :: R) → Same M M' → Q (.ref m) H'
def spAgainQ (CD : Addr) : Sp := fun vs H Q _ => ∃ (X : Hs) (n : Nat) (M : Hp) (R : List Ch), vs = [.ref X.h] ∧ Sat H (.pt X.h (.dK (hK X.t X.d X.q n)) :: .pt X.q (.lst X.vs) :: frC M :: R) ∧ X.At M ∧ X.Ok ∧
  ∀ (H' : Hp) (d : Addr), Sat H' (devC CD d X.S :: .pt X.h (.dK (hK X.t X.d X.q n)) :: .pt X.q (.lst X.vs) :: frC M :: R) → Q (.ref d) H'

theorem w_ask (a : Ask) : decide (V.str a.w = V.str (Str.ofString "grow")) = false := by
  cases a with
  | take n => exact (by decide +kernel : decide (V.str (Str.ofString "take") = V.str (Str.ofString "grow")) = false)
  | put n => exact (by decide +kernel : decide (V.str (Str.ofString "put") = V.str (Str.ofString "grow")) = false)
  | go n => exact (by decide +kernel : decide (V.str (Str.ofString "go") = V.str (Str.ofString "grow")) = false)
  | cut n => exact (by decide +kernel : decide (V.str (Str.ofString "cut") = V.str (Str.ofString "grow")) = false)

theorem Sat.fr3 {H M : Hp} {cs : List Ch} {a b c : Addr} {x y z : HO} (h : Sat H (.pt a x :: .pt b y :: .pt c z :: frC M :: cs)) : ∃ U, Sat H (frC U :: cs) ∧ Same M U ∧ U a = some x ∧ U b = some y ∧ U c = some z := by
  have h1 : Sat H (.pt c z :: frC M :: .pt a x :: .pt b y :: cs) := (h.pull (.tl (.tl (.tl .hd)))).pull (.tl (.tl (.tl .hd)))
  obtain ⟨U1, h2, s1, e1⟩ := h1.ptfr
  have h3 : Sat H (.pt b y :: frC U1 :: .pt a x :: cs) := h2.pull (.tl (.tl .hd))
  obtain ⟨U2, h4, s2, e2⟩ := h3.ptfr
  have h5 : Sat H (.pt a x :: frC U2 :: cs) := h4.pull (.tl .hd)
  obtain ⟨U3, h6, s3, e3⟩ := h5.ptfr
  exact ⟨U3, h6, (s1.trans s2).trans s3, e3, s3 _ _ e2, s3 _ _ (s2 _ _ e1)⟩
theorem Sat.tgfr {H M : Hp} {cs : List Ch} {v : V} {t : Tg} (h : Sat H (tgC v t :: frC M :: cs)) : ∃ U, Sat H (frC U :: cs) ∧ Same M U ∧ HandV U v t := by
  cases t with
  | i n => obtain ⟨e, h⟩ := h.tgiE; exact ⟨M, h, Same.refl M, e⟩
  | s w => obtain ⟨e, h⟩ := h.tgsE; exact ⟨M, h, Same.refl M, e⟩
  | l xs => obtain ⟨a, e, h⟩ := h.tgE; obtain ⟨U, h, s, eU⟩ := h.ptfr; exact ⟨U, h, s, a, e, eU⟩
theorem Sat.devins {H : Hp} {cs cs1 : List Ch} {CD a : Addr} {S : Dst} (h : Sat H cs) (p : Pull (devC CD a S) cs cs1) : ∃ dx fs, H a = some (.ins CD dx fs) := by
  obtain ⟨A, F, rfl, ⟨dd, ws, G, I, hF⟩, k⟩ := (h.pull p).dev
  exact ⟨dd, _, I.hd⟩
def GoW (a : Ask) : Bool := match a with | .take _ => false | .put _ => false | _ => true
theorem in_gc (a : Ask) : (if false = true then !inV (V.str a.w) [V.str (Str.ofString "go"), V.str (Str.ofString "cut")] else inV (V.str a.w) [V.str (Str.ofString "go"), V.str (Str.ofString "cut")]) = GoW a := by
  cases a with
  | take n => exact (by decide +kernel : (if false = true then !inV (V.str (Str.ofString "take")) [V.str (Str.ofString "go"), V.str (Str.ofString "cut")] else inV (V.str (Str.ofString "take")) [V.str (Str.ofString "go"), V.str (Str.ofString "cut")]) = false)
  | put n => exact (by decide +kernel : (if false = true then !inV (V.str (Str.ofString "put")) [V.str (Str.ofString "go"), V.str (Str.ofString "cut")] else inV (V.str (Str.ofString "put")) [V.str (Str.ofString "go"), V.str (Str.ofString "cut")]) = false)
  | go n => exact (by decide +kernel : (if false = true then !inV (V.str (Str.ofString "go")) [V.str (Str.ofString "go"), V.str (Str.ofString "cut")] else inV (V.str (Str.ofString "go")) [V.str (Str.ofString "go"), V.str (Str.ofString "cut")]) = true)
  | cut n => exact (by decide +kernel : (if false = true then !inV (V.str (Str.ofString "cut")) [V.str (Str.ofString "go"), V.str (Str.ofString "cut")] else inV (V.str (Str.ofString "cut")) [V.str (Str.ofString "go"), V.str (Str.ofString "cut")]) = true)
theorem GoW.no {a : Ask} (h : GoW a = false) : NoGo a := by cases a <;> first | trivial | cases h
set_option maxHeartbeats 0 in
structure Tx (K : PySem.W.Frag) (mg : Str → Option Value) where
  C_Device : Addr
  C_Raw : Addr
  C_SipError : Addr
  C_Fault : Addr
  f_iFault : Addr
  fd_iFault : FuncData
  D_iFault : FunA K "__init__" "Fault.__init__" s_iFault f_iFault fd_iFault
  f_clen : Addr
  fd_clen : FuncData
  D_clen : Dg K mg "check_length" s_clen f_clen fd_clen
  f_ocopy : Addr
  fd_ocopy : FuncData
  D_ocopy : Dg K mg "own_copy" s_ocopy f_ocopy fd_ocopy
  f_laid : Addr
  fd_laid : FuncData
  D_laid : Dg K mg "laid" s_laid f_laid fd_laid
  f_rinit : Addr
  fd_rinit : FuncData
  D_rinit : Mf K C_Raw "__init__" "Raw.__init__" s_rinit f_rinit fd_rinit
  f_dinit : Addr
  fd_dinit : FuncData
  D_dinit : Mf K C_Device "__init__" "Device.__init__" s_dinit f_dinit fd_dinit
  f_dgrow : Addr
  fd_dgrow : FuncData
  D_dgrow : Mf K C_Device "grow" "Device.grow" s_dgrow f_dgrow fd_dgrow
  f_dcontent : Addr
  fd_dcontent : FuncData
  D_dcontent : Mf K C_Device "content" "Device.content" s_dcontent f_dcontent fd_dcontent
  f_dleft : Addr
  fd_dleft : FuncData
  D_dleft : Mf K C_Device "left" "Device.left" s_dleft f_dleft fd_dleft
  f_dgive : Addr
  fd_dgive : FuncData
  D_dgive : Mf K C_Device "give" "Device.give" s_dgive f_dgive fd_dgive
  f_daccept : Addr
  fd_daccept : FuncData
  D_daccept : Mf K C_Device "accept" "Device.accept" s_daccept f_daccept fd_daccept
  f_dmove : Addr
  fd_dmove : FuncData
  D_dmove : Mf K C_Device "move" "Device.move" s_dmove f_dmove fd_dmove
  f_dtrim : Addr
  fd_dtrim : FuncData
  D_dtrim : Mf K C_Device "trim" "Device.trim" s_dtrim f_dtrim fd_dtrim
  f_dextent : Addr
  fd_dextent : FuncData
  D_dextent : Mf K C_Device "extent" "Device.extent" s_dextent f_dextent fd_dextent
  f_dallowed : Addr
  fd_dallowed : FuncData
  D_dallowed : Mf K C_Device "allowed" "Device.allowed" s_dallowed f_dallowed fd_dallowed
  f_dtake : Addr
  fd_dtake : FuncData
  D_dtake : Mf K C_Device "take" "Raw.take" s_dtake f_dtake fd_dtake
  f_dput : Addr
  fd_dput : FuncData
  D_dput : Mf K C_Device "put" "Raw.put" s_dput f_dput fd_dput
  f_dgo : Addr
  fd_dgo : FuncData
  D_dgo : Mf K C_Device "go" "Raw.go" s_dgo f_dgo fd_dgo
  f_dcut : Addr
  fd_dcut : FuncData
  D_dcut : Mf K C_Device "cut" "Raw.cut" s_dcut f_dcut fd_dcut
  f_dnote : Addr
  fd_dnote : FuncData
  D_dnote : Mf K C_Device "note" "Raw.note" s_dnote f_dnote fd_dnote
  f_dopen : Addr
  fd_dopen : FuncData
  D_dopen : Mf K C_Device "check_open" "Raw.check_open" s_dopen f_dopen fd_dopen
  f_dseeks : Addr
  fd_dseeks : FuncData
  D_dseeks : Mf K C_Device "check_seeks" "Raw.check_seeks" s_dseeks f_dseeks fd_dseeks
  f_dmayt : Addr
  fd_dmayt : FuncData
  D_dmayt : Mf K C_Device "may_take" "Raw.may_take" s_dmayt f_dmayt fd_dmayt
  f_dmayp : Addr
  fd_dmayp : FuncData
  D_dmayp : Mf K C_Device "may_put" "Raw.may_put" s_dmayp f_dmayp fd_dmayp
  f_dmayc : Addr
  fd_dmayc : FuncData
  D_dmayc : Mf K C_Device "may_cut" "Raw.may_cut" s_dmayc f_dmayc fd_dmayc
  f_dlog : Addr
  fd_dlog : FuncData
  D_dlog : Mf K C_Device "log" "Raw.log" s_dlog f_dlog fd_dlog
  f_dlogb : Addr
  fd_dlogb : FuncData
  D_dlogb : Mf K C_Device "log_behind" "Raw.log_behind" s_dlogb f_dlogb fd_dlogb
  f_dsk : Addr
  fd_dsk : FuncData
  D_dsk : Mf K C_Device "seeks" "Raw.seeks" s_dsk f_dsk fd_dsk
  f_dplace : Addr
  fd_dplace : FuncData
  D_dplace : Mf K C_Device "place" "Raw.place" s_dplace f_dplace fd_dplace
  f_dlen : Addr
  fd_dlen : FuncData
  D_dlen : Mf K C_Device "__len__" "Device.__len__" s_dlen f_dlen fd_dlen
  f_deq : Addr
  fd_deq : FuncData
  D_deq : Mf K C_Device "__eq__" "Device.__eq__" s_deq f_deq fd_deq
  f_pool : Addr
  fd_pool : FuncData
  D_pool : Dg K mg "_law_pool" s_pool f_pool fd_pool
  f_take : Addr
  fd_take : FuncData
  D_take : Dg K mg "_law_take" s_take f_take fd_take
  f_lrow : Addr
  fd_lrow : FuncData
  D_lrow : Dg K mg "_law_row" s_lrow f_lrow fd_lrow
  f_lplan : Addr
  fd_lplan : FuncData
  D_lplan : Dg K mg "_law_plan" s_lplan f_lplan fd_lplan
  f_llaid : Addr
  fd_llaid : FuncData
  D_llaid : Dg K mg "_law_laid" s_llaid f_llaid fd_llaid
  f_ldevice : Addr
  fd_ldevice : FuncData
  D_ldevice : Dg K mg "_law_device" s_ldevice f_ldevice fd_ldevice
  f_lasked : Addr
  fd_lasked : FuncData
  D_lasked : Dg K mg "_law_asked" s_lasked f_lasked fd_lasked
  f_ltold : Addr
  fd_ltold : FuncData
  D_ltold : Dg K mg "_law_told" s_ltold f_ltold fd_ltold
  f_lhouse : Addr
  fd_lhouse : FuncData
  D_lhouse : Dg K mg "_law_house" s_lhouse f_lhouse fd_lhouse
  f_lwalked : Addr
  fd_lwalked : FuncData
  D_lwalked : Dg K mg "_law_walked" s_lwalked f_lwalked fd_lwalked
  f_lagain : Addr
  fd_lagain : FuncData
  D_lagain : Dg K mg "_law_again" s_lagain f_lagain fd_lagain
  f_law : Addr
  fd_law : FuncData
  D_law : Dg K mg "law" s_law f_law fd_law
  f_ldeed : Addr
  fd_ldeed : FuncData
  D_ldeed : Dg K mg "_law_deed" s_ldeed f_ldeed fd_ldeed
  cl_Device : Cls K C_Device
  g_Device : mg "Device" = some (.ref C_Device)
  mk_Device : Mk K C_Device f_dinit
  n_Device_can_seek : NoAttr K C_Device "can_seek"
  n_Device_spot : NoAttr K C_Device "spot"
  n_Device_barred : NoAttr K C_Device "barred"
  n_Device_notes : NoAttr K C_Device "notes"
  n_Device_cells : NoAttr K C_Device "cells"
  n_Device_plan : NoAttr K C_Device "plan"
  n_Device_used : NoAttr K C_Device "used"
  v1_Device : PySem.W.findIn K (.ref C_Device) "__ne__" = some (some (.builtin "object.__ne__"))
  v2_Device : PySem.W.findIn K (.ref C_Device) "__class__" = some (some (.builtin "object.__class__"))
  v3_Device : PySem.W.specialIn K (.builtin "object.__class__") "__get__" = some (some (.builtin "getset_descriptor.__get__"))
  v4_Device : PySem.W.takesIn K (.builtin "object.__class__") = some true
  v5_Device : PySem.W.mroIn K C_Device (.type "object") = some true
  g_Raw : mg "Raw" = some (.ref C_Raw)
  cr_Raw : ClX.CRead K C_Raw (.type "type")
  cv_rinit : PySem.W.findCls K (.ref C_Raw) (.type "type") "__init__" = some (.val (.ref f_rinit))
  g_SipError : mg "SipError" = some (.ref C_SipError)
  g_Fault : mg "Fault" = some (.ref C_Fault)
  o_Fault : OexC K C_Fault
  e_Fault : ExcC K C_Fault
  n_Fault : PySem.W.findIn K (.ref C_Fault) "number" = some none
  n2_Fault : PySem.W.findIn K (.ref C_Fault) "taken" = some none
  ini_Fault : PySem.W.findIn K (.ref C_Fault) "__init__" = some (some (.ref f_iFault))
  tI_Fault : PySem.W.typeIn K (.ref f_iFault) = some (.type "function")
  te_Fault : PySem.W.exmOne K (.ref C_Fault) (.ref C_SipError) = some true
  te_Fault_Fault : PySem.W.exmOne K (.ref C_Fault) (.ref C_Fault) = some true
  bb_clen : Binds K fd_clen P_clen []
  bb_daccept : Binds K fd_daccept P_daccept []
  bb_dallowed : Binds K fd_dallowed P_dallowed []
  bb_dcontent : Binds K fd_dcontent P_dcontent []
  bb_dcut : Binds K fd_dcut P_dcut []
  bb_deq : Binds K fd_deq P_deq []
  bb_dextent : Binds K fd_dextent P_dextent []
  bb_dgive : Binds K fd_dgive P_dgive []
  bb_dgo : Binds K fd_dgo P_dgo []
  bb_dgrow : Binds K fd_dgrow P_dgrow []
  bb_dleft : Binds K fd_dleft P_dleft []
  bb_dlen : Binds K fd_dlen P_dlen []
  bb_dlog : Binds K fd_dlog P_dlog []
  bb_dlogb : Binds K fd_dlogb P_dlogb []
  bb_dmayc : Binds K fd_dmayc P_dmayc []
  bb_dmayp : Binds K fd_dmayp P_dmayp []
  bb_dmayt : Binds K fd_dmayt P_dmayt []
  bb_dmove : Binds K fd_dmove P_dmove []
  bb_dnote : Binds K fd_dnote P_dnote []
  bb_dopen : Binds K fd_dopen P_dopen []
  bb_dplace : Binds K fd_dplace P_dplace []
  bb_dput : Binds K fd_dput P_dput []
  bb_dseeks : Binds K fd_dseeks P_dseeks []
  bb_dtake : Binds K fd_dtake P_dtake []
  bb_dtrim : Binds K fd_dtrim P_dtrim []
  bb_lagain : Binds K fd_lagain P_lagain []
  bb_laid : Binds K fd_laid P_laid []
  bb_lasked : Binds K fd_lasked P_lasked []
  bb_ldeed : Binds K fd_ldeed P_ldeed []
  bb_ldevice : Binds K fd_ldevice P_ldevice []
  bb_lhouse : Binds K fd_lhouse P_lhouse []
  bb_llaid : Binds K fd_llaid P_llaid []
  bb_lplan : Binds K fd_lplan P_lplan []
  bb_lrow : Binds K fd_lrow P_lrow []
  bb_ltold : Binds K fd_ltold P_ltold []
  bb_lwalked : Binds K fd_lwalked P_lwalked []
  bb_ocopy : Binds K fd_ocopy P_ocopy []
  bb_pool : Binds K fd_pool P_pool []
  bb_rinit : Binds K fd_rinit P_rinit []
  bb_take : Binds K fd_take P_take []
  ds_iFault_1 : List Value
  v_iFault_1 : Vals [.int 0] ds_iFault_1
  b_iFault_1 : Binds K fd_iFault P_iFault ds_iFault_1
  kb_dinit_1_plan_seeks : KBn K fd_dinit P_dinit 2 ["plan", "seeks"] (fun us ws => us ++ ws) (fun vs zs => vs ++ zs)
  t_LONGEST : Tok
  c_LONGEST : mg "LONGEST" = some (.int 4000 t_LONGEST)
  m_list : mg "list" = none
  m_len : mg "len" = none
  m_range : mg "range" = none
  m_max : mg "max" = none
  m_min : mg "min" = none
  m_isinstance : mg "isinstance" = none
  m_int : mg "int" = none
  m_bool : mg "bool" = none
local macro_rules | `(tactic| walk_at "pu") => `(tactic| first | with_reducible exact Pull.hd | (with_reducible apply Pull.tl; walk_at "pu"))
local macro_rules | `(tactic| walk_at "pt") => `(tactic| first | with_reducible exact Pk.nil | exact Pk.none _ | (with_reducible apply Pk.drop; walk_at "pt"))
local macro_rules | `(tactic| walk_at "pk") => `(tactic| first | with_reducible exact Pk.nil | (with_reducible apply Pk.cons; (focus walk_at "pu"); (focus walk_at "pk")) | walk_at "pt")
section
variable {P : Program} {w : World} {K : PySem.W.Frag} {mg : Str → Option Value} {base : Heap}

theorem ok_pool (T : Tx K mg) : FnOk P w K mg base CX0 1 T.f_pool T.fd_pool P_pool (spPool K) := by
  have sz : sizeLine = 16777216 := sizeLine_eq
  refine T.D_pool.F.ok sc_pool (fun vs H Q E h => ?_) (fun cdv A outer s H vs Q E hr h => ?_)
  · obtain ⟨a, ns, i, rfl, _⟩ := h
    rfl
  · obtain ⟨a, ns, i, rfl, hS, h63, i0, i1, q⟩ := h
    refine ⟨_, (pss_cons (ps_set (i := 2) sc_pool.nd rfl (.inl rfl) pe_int)
      (C8.pss_cut (ps_if (pt_cmpR op_gt (pe_callB call_len_seq (by rfl) T.m_len PySem.boot_len (pa_cons (pv 0) pa_nil)) pe_int (nomark _)) (pss_one (ps_set (i := 2) sc_pool.nd rfl (.inl rfl) (pe_ix ix_list (pv 0) (pe_op op_mod (pv 1) (pe_callB call_len_seq (by rfl) T.m_len PySem.boot_len (pa_cons (pv 0) pa_nil))) (fun _ _ => rfl)))) pss_nil)
      (pss_cons (ps_set (i := 3) sc_pool.nd rfl (.inl rfl) pe_int)
      (C8.pss_cut (ps_if (PW.pt (pw_and (pt_cmpR op_ge (pv 2) (pe_op op_pow pe_int pe_int) (nomark _)) (pw_and1 (pt_cmpR op_lt (pv 1) (pe_callB call_len_seq (by rfl) T.m_len PySem.boot_len (pa_cons (pv 0) pa_nil)) (nomark _))))) (pss_one (ps_set (i := 3) sc_pool.nd rfl (.inl rfl) (pv 2))) pss_nil)
      (pss_one (ps_ret (pe_lst (pa_cons (pv 3) (pa_cons (pe_op op_mul pe_int (pv 1)) (pa_cons (pv 2) pa_nil)))))))))), ?_⟩
    refine ⟨fun σ' H' => H' = H ∧ ∃ c : Int, σ' = [some (.ref a), some (.int i), some (.int c), none], ?_, fun σ' H' hm => ?_⟩
    · refine ⟨.ref a, rfl, a, ns.map V.int, rfl, .inl hS, _, _, rfl, rfl, _, rfl, ite2 (fun e => ?_) (fun e => ?_)⟩
      · have e1 : (0 : Int) < ((ns.map V.int).length : Int) := of_decide_eq_true e
        rw [List.length_map] at e1
        obtain ⟨m, _, em, _⟩ := atI_int (ms := ns) (i := i % (ns.length : Int)) (Int.emod_nonneg _ (by omega)) (Int.emod_lt_of_pos _ e1)
        refine ⟨.ref a, rfl, .int i, rfl, .ref a, rfl, a, ns.map V.int, rfl, .inl hS, _, _, rfl, rfl, ?_, a, _, _, .int m, rfl, rfl, hS, ?_, rfl, m, rfl⟩
        · rw [List.length_map]; exact e1
        · rw [List.length_map]; exact em
      · exact ⟨rfl, 0, rfl⟩
    · obtain ⟨rfl, c, rfl⟩ := hm
      refine ⟨fun σ' H'' => H'' = H' ∧ ∃ d : Int, 0 ≤ d ∧ σ' = [some (.ref a), some (.int i), some (.int c), some (.int d)], ?_, fun σ' H'' hm => ?_⟩
      · refine ⟨.int c, rfl, _, _, rfl, rfl, ⟨by decide, by decide, by decide⟩, _, _, rfl, rfl, _, rfl, ite2 (fun e => ?_) (fun e => iteF ⟨rfl, 0, by decide, rfl⟩)⟩
        have e1 : ((10 : Int) ^ (18 : Int).toNat) ≤ c := of_decide_eq_true e
        refine ⟨.int i, rfl, .ref a, rfl, a, ns.map V.int, rfl, .inl hS, _, _, rfl, rfl, _, rfl, ite2 (fun e => ?_) (fun e => ⟨rfl, 0, by decide, rfl⟩)⟩
        exact ⟨.int c, rfl, rfl, c, Int.le_trans (by decide) e1, rfl⟩
      · obtain ⟨rfl, d, d0, rfl⟩ := hm
        refine ⟨.int d, rfl, .int i, rfl, _, _, rfl, rfl, .inl ⟨by decide, by decide⟩, .int c, rfl, by show (3 : Nat) ≤ sizeLine; decide, fun p np => q p _ np ⟨d, 1000 * i, c, rfl, d0, by omega, by omega⟩⟩


theorem ok_take (T : Tx K mg) : FnOk P w K mg base CX0 1 T.f_take T.fd_take P_take (spTake) := by
  have sz : sizeLine = 16777216 := sizeLine_eq
  refine T.D_take.F.ok sc_take (fun vs H Q E h => ?_) (fun cdv A outer s H vs Q E hr h => ?_)
  · obtain ⟨p, n, wd, o, rfl, _⟩ := h
    rfl
  · obtain ⟨p, n, wd, o, rfl, hp, ⟨d, c, x, rfl, d0, c0, cn⟩, n9, w0, w1, q⟩ := h
    refine ⟨_, (pss_cons (ps_if (pt_cmpR op_gt (pe_ix ix_list (pv 0) pe_int (fun _ _ => rfl)) pe_int (nomark _)) (pss_cons (ps_set (i := 2) sc_take.nd rfl (.inl rfl) (pe_op op_mod (pe_ix ix_list (pv 0) pe_int (fun _ _ => rfl)) (pv 1)))
      (pss_cons (ps_asg (pe_op op_fdiv (pe_ix ix_list (pv 0) pe_int (fun _ _ => rfl)) (pv 1)) (pg_sub (pv 0) pe_int set_list))
      (pss_one (ps_ret (pv 2))))) pss_nil)
      (pss_cons (ps_asg (pe_op op_add (pe_ix ix_list (pv 0) pe_int (fun _ _ => rfl)) pe_int) (pg_sub (pv 0) pe_int set_list))
      (pss_cons (ps_set (i := 3) sc_take.nd rfl (.inl rfl) (pe_op op_mod (pe_op op_pow (pe_op op_add (pe_op op_mod (pe_ix ix_list (pv 0) pe_int (fun _ _ => rfl)) pe_int) (pe_op op_mul pe_int (pe_ix ix_list (pv 0) pe_int (fun _ _ => rfl)))) pe_int) pe_int))
      (pss_cons (ps_set (i := 3) sc_take.nd rfl (.inl rfl) (pe_op op_add (pe_op op_mul (pv 3) pe_int) (pe_op op_mul (pe_op op_mul (pe_ix ix_list (pv 0) pe_int (fun _ _ => rfl)) (pe_ix ix_list (pv 0) pe_int (fun _ _ => rfl))) pe_int)))
      (pss_one (ps_ret (pe_op op_mod (pe_op op_fdiv (pe_op op_mod (pe_op op_add (pv 3) (pe_op op_fdivW (pe_ix ix_list (pv 0) pe_int (fun _ _ => rfl)) pe_int)) pe_int) pe_int) (pv 1)))))))), ?_⟩
    have S0 : SqL K H p [.int d, .int c, .int x] := sq_at hp
    refine ⟨.ref p, rfl, p, _, 0, .int d, rfl, rfl, S0, rfl, d, 0, rfl, rfl, _, rfl, ite2 (fun e => ?_) (fun e => ?_)⟩
    · refine ⟨.ref p, rfl, p, _, 0, .int d, rfl, rfl, S0, rfl, .int wd, rfl, d, wd, rfl, rfl, w0, ?_⟩
      refine ⟨.ref p, rfl, p, _, 0, .int d, rfl, rfl, S0, rfl, .int wd, rfl, d, wd, rfl, rfl, ⟨w0, w1⟩, ?_⟩
      refine ⟨.ref p, rfl, p, _, 0, 0, rfl, rfl, hp, rfl, .int (d % wd), rfl, ?_⟩
      exact q _ _ (Int.emod_nonneg _ (by omega)) (Int.emod_lt_of_pos _ w0) ⟨d / wd, c, x, rfl, Int.ediv_nonneg d0 (by omega), c0, by omega⟩
    · refine ⟨.ref p, rfl, p, _, 1, .int c, rfl, rfl, S0, rfl, c, 1, rfl, rfl, .ref p, rfl, p, _, 1, 1, rfl, rfl, hp, rfl, ?_⟩
      have S1 : SqL K (upd H p (.lst [.int d, .int (c + 1), .int x])) p [.int d, .int (c + 1), .int x] := sq_new
      have y0 : 0 ≤ x % 2147483647 := Int.emod_nonneg _ (by decide)
      have y1 : x % 2147483647 < 2147483647 := Int.emod_lt_of_pos _ (by decide)
      refine ⟨.ref p, rfl, p, _, 2, .int x, rfl, rfl, S1, rfl, x, _, rfl, rfl, by show (0 : Int) < 2147483647; decide, .ref p, rfl, p, _, 1, .int (c + 1), rfl, rfl, S1, rfl, 40503, c + 1, rfl, rfl, .inl ⟨by decide, by decide⟩, _, _, rfl, rfl, _, 5, rfl, rfl, ⟨by decide, by decide, ?_⟩, _, 2147483647, rfl, rfl, by show (0 : Int) < 2147483647; decide, ?_⟩
      · show (x % 2147483647 + 40503 * (c + 1)).natAbs < 18446744073709551616
        omega
      · refine ⟨_, rfl, _, 48271, rfl, rfl, .inr ⟨by decide, by decide⟩, .ref p, rfl, p, _, 1, .int (c + 1), rfl, rfl, S1, rfl, .ref p, rfl, p, _, 1, .int (c + 1), rfl, rfl, S1, rfl, c + 1, c + 1, rfl, rfl, .inl ⟨by omega, by omega⟩, _, 39373, rfl, rfl, .inr ⟨by decide, by decide⟩, _, _, rfl, rfl, ?_⟩
        refine ⟨_, rfl, .ref p, rfl, p, _, 2, .int x, rfl, rfl, S1, rfl, x, _, rfl, rfl, wide_div (b := 32) (by decide) (by decide) (by decide) (by decide), _, _, rfl, rfl, _, _, rfl, rfl, by show (0 : Int) < 1000000007; decide, _, 16, rfl, rfl, ⟨by decide, by decide⟩, .int wd, rfl, _, wd, rfl, rfl, w0, ?_⟩
        exact q _ _ (Int.emod_nonneg _ (by omega)) (Int.emod_lt_of_pos _ w0) ⟨d, c + 1, x, rfl, d0, by omega, by omega⟩


theorem ok_laid (T : Tx K mg) : FnOk P w K mg base CX0 1 T.f_laid T.fd_laid P_laid (spLaid K) := by
  have sz : sizeLine = 16777216 := sizeLine_eq
  refine T.D_laid.F.ok sc_laid (fun vs H Q E h => ?_) (fun cdv A outer s H vs Q E hr h => ?_)
  · obtain ⟨a, b, r, n, d, rfl, _⟩ := h
    rfl
  · obtain ⟨a, b, r, n, d, rfl, hA, hB, lr, ln, ld, q⟩ := h
    refine ⟨_, (pss_cons (ps_set (i := 3) sc_laid.nd rfl (.inl rfl) (pe_callTy call_list_of (by rfl) T.m_list (by decide +kernel) (pa_cons (pv 0) pa_nil)))
      (pss_cons (ps_if (pt_not (pt_truth (pv 2) (by intro _; rfl))) (pss_one (ps_ret (pv 3))) pss_nil)
      (pss_cons (ps_expr (pe_bm PySem.F.plainAttrs_list PySem.F.slot_list_extend PySem.F.type_list_extend mt_extend (pv 3) (pa_cons (pe_op op_rep (pe_lst (pa_cons pe_int pa_nil)) (pe_op op_sub (pv 1) (pe_callB call_len_seq (by rfl) T.m_len PySem.boot_len (pa_cons (pv 3) pa_nil)))) pa_nil)))
      (pss_cons (ps_asg (pv 2) (Sip.pg_cut (pv 3) (po_some (pv 1)) (po_some (pe_op op_add (pv 1) (pe_callB call_len_seq (by rfl) T.m_len PySem.boot_len (pa_cons (pv 2) pa_nil))))))
      (pss_one (ps_ret (pv 3))))))), ?_⟩
    refine ⟨.ref a, rfl, a, _, rfl, .inl hA, fun t nt => ?_⟩
    have bt : b ≠ t := ne_of_none hB nt
    have hB1 : (upd H t (.lst (r.map V.int))) b = some (.lst (d.map V.int)) := by rw [upd_ne bt]; exact hB
    refine ⟨.ref b, rfl, _, .inl ⟨_, sq_at hB1, rfl⟩, ite2 (fun e => ?_) (fun e => ?_)⟩
    · have d0 : d = [] := by
        cases d with
        | nil => rfl
        | cons x y => cases e
      subst d0
      exact ⟨.ref t, rfl, q _ t nt (by rw [upd_same, laidF_nil]) (Kp.new (ps := []) nt).same⟩
    · have d0 : d ≠ [] := fun z => by subst z; exact e rfl
      refine ⟨.ref t, rfl, .inl ⟨rfl, _, sq_new⟩, by show (1 : Nat) ≤ sizeLine; decide, fun l nl => ?_⟩
      have tl : t ≠ l := ne_of_none (upd_same : (upd H t (.lst (r.map V.int))) t = _) nl
      have bl : b ≠ l := ne_of_none hB1 nl
      refine ⟨.int n, rfl, .ref t, rfl, t, _, rfl, .inl (sq_at (by rw [upd_ne tl]; exact upd_same)), _, _, rfl, rfl, l, _, [.int 0], rfl, rfl, upd_same, ?_, ?_, ?_, fun z nz => ?_⟩
      · rw [List.length_map]; omega
      · rw [List.length_map]; omega
      · rw [List.length_map]; show 1 * ((n : Int) - (r.length : Int)).toNat ≤ sizeLine; omega
      · have tz : t ≠ z := ne_of_none (by rw [upd_ne tl]; exact upd_same) nz
        have bz : b ≠ z := ne_of_none (by rw [upd_ne bl]; exact hB1) nz
        have ez : (List.replicate ((n : Int) - ((r.map V.int).length : Int)).toNat [V.int 0]).flatten = (List.replicate (n - r.length) (0 : Int)).map V.int := by
          rw [List.length_map, flat_rep, List.map_replicate]
          congr 1
          omega
        rw [ez]
        refine ⟨t, z, _, _, rfl, rfl, by rw [upd_ne tz, upd_ne tl]; exact upd_same, upd_same, by rw [List.length_map, List.length_map, List.length_replicate]; omega, ?_⟩
        rw [← List.map_append]
        refine ⟨.ref b, rfl, .ref t, rfl, .int n, rfl, n, rfl, .int n, rfl, .ref b, rfl, b, d.map V.int, rfl, .inl (sq_at (by rw [upd_ne bt, upd_ne bz, upd_ne bl]; exact hB1)), _, _, rfl, rfl, _, rfl, ?_⟩
        refine ⟨t, b, _, _, _, _, rfl, rfl, rfl, rfl, upd_same, by rw [upd_ne bt, upd_ne bz, upd_ne bl]; exact hB1, bt.symm, by omega, by omega, ?_, ?_, ?_⟩
        · rw [List.length_map, List.length_append, List.length_replicate]; omega
        · rw [List.length_map, List.length_append, List.length_replicate, List.length_map]; omega
        · refine ⟨.ref t, rfl, q _ t nt ?_ ?_⟩
          · rw [upd_same]
            have e1 : ((n : Int)).toNat = n := Int.toNat_natCast n
            have e2 : ((n : Int) + ((d.map V.int).length : Int)).toNat = n + d.length := by rw [List.length_map]; omega
            rw [e1, e2, laidF_cons d0, ← List.map_take, ← List.map_drop, ← List.map_append, ← List.map_append]
          · refine Kp.same ?_
            exact ((((Kp.new nt).trans (Kp.new nl)).trans (Kp.new nz)).put nt).put nt


theorem ok_iFault (T : Tx K mg) : FnOk P w K mg base CX0 1 T.f_iFault T.fd_iFault P_iFault (spErr2 T.C_Fault "number" "taken") := by
  have sz : sizeLine = 16777216 := sizeLine_eq
  refine T.D_iFault.ok sc_iFault (fun vs H Q E h => ?_) (fun cdv A outer s H vs Q E hr h => ?_)
  · obtain ⟨a, v, u, rfl, _⟩ := h
    rfl
  · obtain ⟨a, v, u, rfl, hA, q⟩ := h
    refine ⟨_, (pss_cons (ps_ost (pv 0) (pv 1))
      (pss_one (ps_ost (pv 0) (pv 2)))), ?_⟩
    refine ⟨v, rfl, .ref a, rfl, a, T.C_Fault, rfl, T.o_Fault, T.n_Fault, .inl ⟨hA, fun dx nd ne => ?_⟩⟩
    refine ⟨u, rfl, .ref a, rfl, a, T.C_Fault, rfl, T.o_Fault, T.n2_Fault, .inr ⟨dx, _, upd_same, by rw [upd_ne ne]; exact upd_same, by show 1 ≤ 900; decide, ?_⟩⟩
    have e : upd (upd (upd H dx (exd dx [("number", v)])) a (exo a T.C_Fault (some dx))) dx (exd dx [("taken", u), ("number", v)]) = upd (upd H dx (exd dx [("taken", u), ("number", v)])) a (exo a T.C_Fault (some dx)) := by
      funext b
      by_cases h1 : b = dx
      · subst h1; rw [upd_same, upd_ne ne, upd_same]
      · by_cases h2 : b = a
        · subst h2; rw [upd_ne h1, upd_same, upd_same]
        · rw [upd_ne h1, upd_ne h2, upd_ne h1, upd_ne h2, upd_ne h1]
    rw [e]
    exact q dx nd ne

theorem ok_dleft (T : Tx K mg) : FnOk P w K mg base CX0 1 T.f_dleft T.fd_dleft P_dleft (spLeft (DevAt T.C_Device)) := by
  have sz : sizeLine = 16777216 := sizeLine_eq
  refine T.D_dleft.F.ok sc_dleft (fun vs H Q E h => ?_) (fun cdv A outer s H vs Q E hr h => ?_)
  · obtain ⟨A, F, S, rfl, _⟩ := h
    rfl
  · obtain ⟨A, F, S, rfl, hP, q⟩ := h
    refine ⟨_, (pss_one (ps_ret (pe_op op_sub (pe_callB call_len_seq (by rfl) T.m_len PySem.boot_len (pa_cons (pe_fld (pv 0) rfl) pa_nil)) (pe_fld (pv 0) rfl)))), ?_⟩
    obtain ⟨dd, vs, G, I, hF⟩ := hP
    refine ⟨.ref A.d, rfl, A.d, T.C_Device, dd, _, _, rfl, I.hd, T.cl_Device, T.n_Device_plan, dfs_plan _ _ _ _ _, A.p, _, rfl, .inl (sq_at I.hp), .ref A.d, rfl, A.d, T.C_Device, dd, _, _, rfl, I.hd, T.cl_Device, T.n_Device_used, dfs_used _ _ _ _ _, _, _, rfl, rfl, ?_⟩
    rw [List.length_map]
    exact q

theorem ok_dallowed (T : Tx K mg) : FnOk P w K mg base (L2.CX P w) 3 T.f_dallowed T.fd_dallowed P_dallowed (spAllowed (DevAt T.C_Device) T.C_Fault) := by
  have G_dleft := ok_dleft (P := P) (w := w) (base := base) T
  have G_iFault := ok_iFault (P := P) (w := w) (base := base) T
  have sz : sizeLine = 16777216 := sizeLine_eq
  refine T.D_dallowed.F.okX sc_dallowed (fun vs H Q E h => ?_) (fun cdv A outer s H vs Q E hr h => ?_)
  · obtain ⟨A, F, S, n, rfl, _⟩ := h
    rfl
  · obtain ⟨A, F, S, n, rfl, hP, ok, q, qe⟩ := h
    refine ⟨_, (pss_cons (ps_if (pt_cmpR op_eq (pe_meth0 (pv 0) T.cl_Device T.D_dleft.m G_dleft (hr.mono (by decide)) T.bb_dleft .nil pass0) pe_int (nomark _)) (pss_one (ps_ret (pv 1))) pss_nil)
      (pss_cons (ps_set (i := 2) sc_dallowed.nd rfl (.inl rfl) (pe_ix ix_list (pe_fld (pv 0) rfl) (pe_fld (pv 0) rfl) (fun _ _ => rfl)))
      (pss_cons (ps_fldaug (pv 0) pe_int in_add)
      (pss_cons (ps_if (pt_cmpR op_lt (pv 2) pe_int (nomark _)) (pss_one (ps_raise rfl (takes_of rfl rfl rfl rfl) (pmk_oex T.o_Fault T.ini_Fault T.tI_Fault G_iFault (hr.mono (by decide)) T.b_iFault_1 T.v_iFault_1 pass0 (by rfl) T.g_Fault (pa_cons (pe_un un_neg (pv 2)) pa_nil)))) pss_nil)
      (pss_one (ps_ret (pe_callB (call_min2 rfl) (by rfl) T.m_min (by decide +kernel) (pa_cons (pv 1) (pa_cons (pv 2) pa_nil))))))))), ?_⟩
    have hP0 := hP
    obtain ⟨dd, vs, G, I, hF⟩ := hP
    refine ⟨.ref A.d, rfl, A.d, dd, _, rfl, I.hd, dfs_no _ _ _ _ _ "left" (by decide +kernel), A, F, S, rfl, hP0, ?_⟩
    by_cases h : S.used < S.plan.length
    · have e1 : decide (V.int ((S.plan.length : Int) - S.used) = V.int 0) = false := by
        rw [dec_int, beq_eq_false_iff_ne]; omega
      have ek := List.getElem?_eq_getElem h
      generalize S.plan[S.used] = k at ek
      have eU : usedS S = { S with used := S.used + 1 } := if_pos h
      have eM : mayF S n = min n k := by unfold mayF planN; rw [ek]
      refine ⟨rfl, _, rfl, iteFc e1 ?_⟩
      refine ⟨.ref A.d, rfl, A.d, T.C_Device, dd, _, _, rfl, I.hd, T.cl_Device, T.n_Device_plan, dfs_plan _ _ _ _ _, .ref A.d, rfl, A.d, T.C_Device, dd, _, _, rfl, I.hd, T.cl_Device, T.n_Device_used, dfs_used _ _ _ _ _, A.p, _, _, .int k, rfl, rfl, sq_at I.hp, at_map ek, ?_⟩
      refine ⟨.ref A.d, rfl, A.d, T.C_Device, dd, _, _, rfl, I.hd, T.cl_Device, T.n_Device_used, dfs_used _ _ _ _ _, _, _, rfl, rfl, dd, _, I.hd, dfs_few _ _ _ _ _, ?_⟩
      rw [show V.int ((S.used : Int) + 1) = V.int ((S.used + 1 : Nat) : Int) from rfl, dfs_put_u]
      have hU : DevAt T.C_Device (upd H A.d (.ins T.C_Device dd (dfs A S.seek S.spot S.bar (S.used + 1)))) A F (usedS S) := by rw [eU]; exact ⟨dd, vs, G, I.setd S.spot S.bar (S.used + 1), hF⟩
      refine ⟨.int k, rfl, _, _, rfl, rfl, _, rfl, ?_⟩
      by_cases hk : k < 0
      · refine iteTc (decide_eq_true hk) ?_
        exact ⟨.int k, rfl, k, rfl, mk2_fin (fun d nd => qe k ek hk _ F d (hU.same (Kp.new (ps := []) nd).same) (by rw [upd_ne (fun y => by rw [y, upd_same] at nd; cases nd)] at nd; exact nd) upd_same (hU.new nd) ((own_dev hF (.inl rfl)).trans (Step.of (Kp.new (ps := []) nd).same)))⟩
      · refine iteFc (decide_eq_false hk) ?_
        refine ⟨_, rfl, _, rfl, _, _, rfl, ?_⟩
        rw [show (if k < n then k else n) = mayF S n by rw [eM]; split <;> omega]
        exact q (fun k' e' => by rw [show planN S = some k from ek] at e'; cases e'; omega) _ hU (own_dev hF (.inl rfl))
    · have e1 : decide (V.int ((S.plan.length : Int) - S.used) = V.int 0) = true := by
        rw [dec_int, beq_iff_eq]; have := ok.1; omega
      have e0 : planN S = none := List.getElem?_eq_none (by omega)
      have eM : mayF S n = n := by unfold mayF; rw [e0]
      have eU : usedS S = S := if_neg h
      refine ⟨rfl, _, rfl, iteTc e1 ⟨.int n, rfl, ?_⟩⟩
      have q := q (fun k e => by rw [e0] at e; cases e) H (by rw [eU]; exact hP0) ⟨fun _ _ _ e => e, fun _ z => .inl z⟩
      rw [eM] at q
      exact q

theorem ok_dnote (T : Tx K mg) : FnC P w K mg base  1 T.f_dnote T.fd_dnote P_dnote (spNoteD (DevAt T.C_Device)) := by
  have sz : sizeLine = 16777216 := sizeLine_eq
  refine T.D_dnote.F.okC sc_dnote (fun vs H Q E h => ?_) (fun cdv A outer s H vs Q E hr h => ?_)
  · obtain ⟨A, w, hv, cv, F, G0, S, h, c, rfl, _⟩ := h
    rfl
  · obtain ⟨A, w, hv, cv, F, G0, S, h, c, rfl, hP, ok, h0, c0, nok, n0, a0, q⟩ := h
    refine ⟨_, (pss_one (ps_expr (pe_bm PySem.F.plainAttrs_list PySem.F.slot_list_append PySem.F.type_list_append mt_append (pe_fld (pv 0) rfl) (pa_cons (pe_tup (pa_cons (pv 1) (pa_cons (pe_fld (pv 0) rfl) (pa_cons (pv 2) (pa_cons (pv 3) pa_nil))))) pa_nil)))), ?_⟩
    obtain ⟨dd, vs, G, I, hF⟩ := hP
    refine ⟨.ref A.d, rfl, A.d, T.C_Device, dd, _, _, rfl, I.hd, T.cl_Device, T.n_Device_notes, dfs_notes _ _ _ _ _, ?_⟩
    refine ⟨.inl ⟨rfl, _, sq_at I.hl⟩, _, rfl, .ref A.d, rfl, A.d, T.C_Device, dd, _, _, rfl, I.hd, T.cl_Device, T.n_Device_spot, dfs_spot _ _ _ _ _, _, rfl, _, rfl, by show (4 : Nat) ≤ sizeLine; omega, fun t nt => ?_⟩
    have ne : ∀ {b o}, H b = some o → b ≠ t := fun {b o} e => ne_of_none e nt
    refine ⟨A.l, _, _, rfl, rfl, by rw [upd_ne (ne I.hl)]; exact I.hl, ?_, ?_⟩
    · have := I.nn.len
      have := ok.2.2
      omega
    refine q _ (fun b => F b ∨ b = t ∨ G0 b) ⟨dd, _, _, I.note (n := ⟨w, S.spot, h, c⟩) nt h0 c0 nok rfl a0 (fun b z y => n0 b z ((hF b).mpr (.inl y))), fun b => ?_⟩ (fun b o nf e => ?_) (fun b z => ?_)
    · constructor
      · rintro (z | z)
        · rcases (hF b).mp z with y | y
          · exact .inl y
          · exact .inr (.inl y)
        · exact .inr (.inr z)
      · rintro (z | z | z)
        · exact .inl ((hF b).mpr (.inl z))
        · exact .inl ((hF b).mpr (.inr z))
        · exact .inr z
    · rw [upd_ne (fun z => nf ((hF b).mpr (.inl (by rw [z]; unfold Own4; simp)))), upd_ne (ne e)]; exact e
    · rcases z with z | rfl | z
      · exact .inl z
      · exact .inr (.inr nt)
      · exact .inr (.inl z)

theorem ok_dopen (T : Tx K mg) : FnOk P w K mg base CX0 1 T.f_dopen T.fd_dopen P_dopen (spOpenD (DevAt T.C_Device)) := by
  have sz : sizeLine = 16777216 := sizeLine_eq
  refine T.D_dopen.F.ok sc_dopen (fun vs H Q E h => ?_) (fun cdv A outer s H vs Q E hr h => ?_)
  · obtain ⟨A, F, S, rfl, _⟩ := h
    rfl
  · obtain ⟨A, F, S, rfl, hP, hb, q⟩ := h
    refine ⟨_, (pss_one (ps_if (pt_val (pe_fld (pv 0) rfl)) (pss_one ps_never) pss_nil)), ?_⟩
    obtain ⟨dd, vs, G, I, hF⟩ := hP
    have hd := I.hd
    rw [hb] at hd
    exact ⟨.ref A.d, rfl, A.d, T.C_Device, dd, _, _, rfl, hd, T.cl_Device, T.n_Device_barred, dfs_barred _ _ _ _ _, false, rfl, iteF q⟩

theorem ok_dmayt (T : Tx K mg) : FnOk P w K mg base CX0 1 T.f_dmayt T.fd_dmayt P_dmayt (spMaytD (DevAt T.C_Device)) := by
  have sz : sizeLine = 16777216 := sizeLine_eq
  refine T.D_dmayt.F.ok sc_dmayt (fun vs H Q E h => ?_) (fun cdv A outer s H vs Q E hr h => ?_)
  · obtain ⟨A, F, S, rfl, _⟩ := h
    rfl
  · obtain ⟨A, F, S, rfl, hP, q⟩ := h
    refine ⟨_, (pss_one ps_pass), ?_⟩
    exact q

theorem ok_dgive (T : Tx K mg) : FnOk P w K mg base (L2.CX P w) 4 T.f_dgive T.fd_dgive P_dgive (spGiveD (DevAt T.C_Device) T.C_Fault) := by
  have G_dallowed := ok_dallowed (P := P) (w := w) (base := base) T
  have sz : sizeLine = 16777216 := sizeLine_eq
  refine T.D_dgive.F.okX sc_dgive (fun vs H Q E h => ?_) (fun cdv A outer s H vs Q E hr h => ?_)
  · obtain ⟨A, F, S, n, rfl, _⟩ := h
    rfl
  · obtain ⟨A, F, S, n, rfl, hP, ok, q, qe⟩ := h
    refine ⟨_, (pss_cons (ps_set (i := 2) sc_dgive.nd rfl (.inl rfl) (pe_meth (pv 0) T.cl_Device T.D_dallowed.m G_dallowed (hr.mono (by decide)) T.bb_dallowed .nil (Sip.passX (takes_of rfl rfl rfl rfl)) (pa_cons (pv 1) pa_nil)))
      (pss_cons (ps_if (pt_cmpR op_eq (pv 2) pe_int (nomark _)) (pss_one (ps_ret pe_non)) pss_nil)
      (pss_one (ps_ret (pe_slice sl_list (pe_fld (pv 0) rfl) (po_some (pe_fld (pv 0) rfl)) (po_some (pe_op op_add (pe_fld (pv 0) rfl) (pv 2)))))))), ?_⟩
    have hP0 := hP
    obtain ⟨dd, vs, G, I, hF⟩ := hP
    refine ⟨.ref A.d, rfl, A.d, dd, _, rfl, I.hd, dfs_no _ _ _ _ _ "allowed" (by decide +kernel), .int n, rfl, A, F, S, n, rfl, hP0, ok, fun good H1 hP1 st1 => ?_, fun k ek hk => qe k ek hk⟩
    have hP1' := hP1
    obtain ⟨dd1, vs1, G1, I1, hF1⟩ := hP1
    by_cases h0 : mayF S n = 0
    · refine ⟨_, rfl, rfl, _, rfl, iteTc (decide_eq_true (by rw [h0])) ?_⟩
      have q := q good H1 A.d hP1' (fun h => absurd h0 h) st1
      rw [if_pos h0] at q
      exact q
    · refine ⟨_, rfl, rfl, _, rfl, iteFc (decide_eq_false (fun z => h0 (V.int.inj z))) ?_⟩
      refine ⟨.ref A.d, rfl, A.d, T.C_Device, dd1, _, _, rfl, I1.hd, T.cl_Device, T.n_Device_cells, dfs_cells _ _ _ _ _, .ref A.d, rfl, A.d, T.C_Device, dd1, _, _, rfl, I1.hd, T.cl_Device, T.n_Device_spot, dfs_spot _ _ _ _ _, _, rfl, .ref A.d, rfl, A.d, T.C_Device, dd1, _, _, rfl, I1.hd, T.cl_Device, T.n_Device_spot, dfs_spot _ _ _ _ _, _, rfl, _, _, rfl, rfl, _, rfl, A.c, _, rfl, sq_at I1.hc, fun z nz => ?_⟩
      have ec : cutV ((usedS S).cells.map V.int) (some ((usedS S).spot : Int)) (some (((usedS S).spot : Int) + mayF S n)) = (takenF S n).map V.int := by
        rw [usedS_cells, usedS_spot]
        have hm := Int.toNat_of_nonneg (may_nn (n := n) good)
        unfold takenF
        rw [← mid_cut, Int.natCast_add, hm]
      rw [ec]
      have q := q good _ z (hP1'.same (Kp.new (ps := []) nz).same) (fun _ => ⟨new_of st1 (fun b f => hP1'.some b f) nz, upd_same⟩) (st1.trans (Step.of (Kp.new (ps := []) nz).same))
      rw [if_neg h0] at q
      exact q

theorem ok_dtake (T : Tx K mg) : FnOk P w K mg base (L2.CX P w) 5 T.f_dtake T.fd_dtake P_dtake (spTakeD (DevAt T.C_Device) T.C_Fault) := by
  have G_dopen := ok_dopen (P := P) (w := w) (base := base) T
  have G_dmayt := ok_dmayt (P := P) (w := w) (base := base) T
  have C_dnote := ok_dnote (P := P) (w := w) (base := base) T
  have G_dnote := C_dnote.ok
  have G_dgive := ok_dgive (P := P) (w := w) (base := base) T
  have sz : sizeLine = 16777216 := sizeLine_eq
  refine T.D_dtake.F.okX sc_dtake (fun vs H Q E h => ?_) (fun cdv A outer s H vs Q E hr h => ?_)
  · obtain ⟨A, F, S, n, rfl, _⟩ := h
    rfl
  · obtain ⟨A, F, S, n, rfl, hP, ok, hb, q, qe⟩ := h
    refine ⟨_, (pss_cons (ps_expr (pe_meth0 (pv 0) T.cl_Device T.D_dopen.m G_dopen (hr.mono (by decide)) T.bb_dopen .nil pass0))
      (pss_cons (ps_expr (pe_meth0 (pv 0) T.cl_Device T.D_dmayt.m G_dmayt (hr.mono (by decide)) T.bb_dmayt .nil pass0))
      (pss_cons (Sip.ps_try_again rfl rfl ⟨rfl, by decide, .inl T.g_Fault⟩ (fun hd => L2H.passesAt_of rfl hd) (takes_of rfl rfl rfl rfl) (fun W pn xe tk _ => (pss_one (ps_set (i := 2) sc_dtake.nd rfl (.inl rfl) (by exact (Sip.pe_methT (pv 0) T.cl_Device T.D_dgive.m G_dgive (hr.mono (by decide)) T.bb_dgive (fun σ => passAt tk σ) (by exact (pa_cons (pv 1) pa_nil))))))) (fun a oe T9 oT cls d pn ag => (pss_cons (ps_expr (Sip.pe_methC (E := fun _ _ _ => False) (pv 0) T.cl_Device T.D_dnote.m C_dnote (Sip.roomM (hr.mono (by decide))) T.bb_dnote .nil (pa_cons pe_str (pa_cons (pv 1) (pa_cons pe_str pa_nil)))))
      (pss_one (Sip.ps_again rfl rfl (takes_of rfl rfl rfl rfl) ag)))))
      (pss_cons (ps_if (pt_cmpR op_isN (pv 2) pe_non (nomark _)) (pss_cons (ps_expr (pe_meth (pv 0) T.cl_Device T.D_dnote.m G_dnote (hr.mono (by decide)) T.bb_dnote .nil pass0 (pa_cons pe_str (pa_cons (pv 1) (pa_cons pe_str pa_nil)))))
      (pss_one (ps_ret pe_non))) pss_nil)
      (pss_cons (ps_expr (pe_meth (pv 0) T.cl_Device T.D_dnote.m G_dnote (hr.mono (by decide)) T.bb_dnote .nil pass0 (pa_cons pe_str (pa_cons (pv 1) (pa_cons (pe_callTy call_list_of (by rfl) T.m_list (by decide +kernel) (pa_cons (pv 2) pa_nil)) pa_nil)))))
      (pss_cons (ps_fldaug (pv 0) (pe_callB call_len_seq (by rfl) T.m_len PySem.boot_len (pa_cons (pv 2) pa_nil)) in_add)
      (pss_one (ps_ret (pv 2))))))))), ?_⟩
    have hP0 := hP
    obtain ⟨dd, vs, G, I, hF⟩ := hP
    refine ⟨.ref A.d, rfl, A.d, dd, _, rfl, I.hd, dfs_no _ _ _ _ _ "check_open" (by decide +kernel), A, F, S, rfl, hP0, hb, ?_⟩
    refine ⟨.ref A.d, rfl, A.d, dd, _, rfl, I.hd, dfs_no _ _ _ _ _ "may_take" (by decide +kernel), A, F, S, rfl, hP0, ?_⟩
    refine ⟨.ref A.d, rfl, A.d, dd, _, rfl, I.hd, dfs_no _ _ _ _ _ "give" (by decide +kernel), .int n, rfl, A, F, S, n, rfl, hP0, ok, fun good H1 r hP1 hr1 st1 => ?_, fun k ek hk H1 F1 d hP1 n01 hd1 nd1 st1 => ?_⟩
    · have hP1' := hP1
      obtain ⟨dd1, vs1, G1, I1, hF1⟩ := hP1'
      by_cases h0 : mayF S n = 0
      · rw [if_pos h0]
        refine ⟨.non, rfl, rfl, _, rfl, iteT ?_⟩
        refine ⟨.ref A.d, rfl, A.d, dd1, _, rfl, I1.hd, dfs_no _ _ _ _ _ "note" (by decide +kernel), .int n, rfl, A, _, _, _, F, (fun _ => False), usedS S, .i n, .s (Str.ofString "stall"), rfl, hP1, usedS_ok ok, rfl, rfl, ⟨(by decide +kernel : PyData.strOk (Str.ofString "take") = true), trivial, (by decide +kernel : PyData.strOk (Str.ofString "stall") = true)⟩, fun b z => z.elim, fun b z => z.elim, fun H3 F3 hP3 k3 f3 => ?_⟩
        rw [noted] at hP3
        have f3' : ∀ b, F3 b → F b ∨ H1 b = none := fun b z => (f3 b z).elim .inl (fun y => y.elim (fun y => y.elim) .inr)
        have q := q good H3 F3 A.d (by unfold tookS; rw [if_pos h0]; exact hP3) (fun h => absurd h0 h) (st1.trans ⟨k3, f3'⟩)
        rw [if_pos h0] at q
        exact q
      · obtain ⟨nr0, er1⟩ := hr1 h0
        have nFr : ¬ F r := hP0.new nr0
        rw [if_neg h0]
        refine ⟨.ref r, rfl, rfl, _, rfl, iteFc (by rfl) ?_⟩
        refine ⟨.ref A.d, rfl, A.d, dd1, _, rfl, I1.hd, dfs_no _ _ _ _ _ "note" (by decide +kernel), .int n, rfl, .ref r, rfl, r, _, rfl, .inl (sq_at er1), fun z nz => ?_⟩
        have s3 : Same H1 (upd H1 z (.lst ((takenF S n).map V.int))) := (Kp.new (ps := []) nz).same
        have ez : (upd H1 z (.lst ((takenF S n).map V.int))) z = some (.lst ((takenF S n).map V.int)) := upd_same
        generalize upd H1 z (.lst ((takenF S n).map V.int)) = Hz at s3 ez ⊢
        have nFz := hP1.new nz
        have zr : r ≠ z := ne_of_none er1 nz
        have stz := st1.trans (Step.of s3)
        refine ⟨A, _, _, _, F, (fun b => b = z), usedS S, .i n, .l (takenF S n), rfl, hP1.same s3, usedS_ok ok, rfl, ⟨z, rfl, rfl, ez⟩, ⟨(by decide +kernel : PyData.strOk (Str.ofString "take") = true), trivial, trivial⟩, fun b y => by rw [show b = z from y]; exact nFz, fun b y => ⟨.lst ((takenF S n).map V.int), by rw [show b = z from y]; exact ez⟩, fun H3 F3 hP3 k3 f3 => ?_⟩
        rw [noted] at hP3
        have f3' : ∀ b, F3 b → F b ∨ H1 b = none := fun b y => by
          rcases f3 b y with y | y | y
          · exact .inl y
          · exact .inr (by rw [show b = z from y]; exact nz)
          · exact .inr (s3.free y)
        have k3' : ∀ b o, ¬ F b → H1 b = some o → H3 b = some o := fun b o nb e => k3 b o nb (s3 _ _ e)
        have st3 : Step F H F3 H3 := st1.trans ⟨k3', f3'⟩
        have nF3 : ¬ F3 r := fun y => (f3' r y).elim nFr (fun y => by rw [er1] at y; cases y)
        obtain ⟨dd3, vs3, G3, I3, hF3⟩ := hP3
        have rd : r ≠ A.d := fun y => nF3 ((hF3 r).mpr (.inl (.inl y)))
        have er3 := k3' _ _ nFr er1
        refine ⟨.ref A.d, rfl, A.d, T.C_Device, dd3, _, _, rfl, I3.hd, T.cl_Device, T.n_Device_spot, dfs_spot _ _ _ _ _, .ref r, rfl, r, _, rfl, .inl (sq_at er3), _, _, rfl, rfl, dd3, _, I3.hd, dfs_few _ _ _ _ _, ?_⟩
        rw [List.length_map, show (V.int (((usedS S).spot : Int) + ((takenF S n).length : Int))) = V.int ((S.spot + (takenF S n).length : Nat) : Int) by rw [usedS_spot]; rfl, dfs_put_s]
        have q := q good _ F3 r (by
          unfold tookS; rw [if_neg h0]
          exact ⟨dd3, vs3, G3, I3.setd (S.spot + (takenF S n).length) _ _, hF3⟩) (fun _ => ⟨nr0, by rw [upd_ne rd]; exact er3, nF3⟩) (st3.trans (own_dev hF3 (.inl rfl)))
        rw [if_neg h0] at q
        exact ⟨_, rfl, q⟩
    · refine ⟨true, T.te_Fault_Fault, fun _ a na => ?_, fun h => nomatch h⟩
      have hP1' := hP1
      obtain ⟨dd1, vs1, G1, I1, hF1⟩ := hP1'
      refine ⟨.ref A.d, rfl, A.d, dd1, _, rfl, I1.hd, dfs_no _ _ _ _ _ "note" (by decide +kernel), .int n, rfl, A, _, _, _, F1, (fun _ => False), usedS S, .i n, .s (Str.ofString "fault"), rfl, hP1, usedS_ok ok, rfl, rfl, ⟨(by decide +kernel : PyData.strOk (Str.ofString "take") = true), trivial, (by decide +kernel : PyData.strOk (Str.ofString "fault") = true)⟩, fun b z => z.elim, fun b z => z.elim, fun H3 F3 hP3 k3 f3 => ?_⟩
      rw [noted] at hP3
      have f3' : ∀ b, F3 b → F1 b ∨ H1 b = none := fun b z => (f3 b z).elim .inl (fun y => y.elim (fun y => y.elim) .inr)
      exact qe k ek hk H3 F3 d hP3 n01 (k3 d _ nd1 hd1) (fun z => (f3' d z).elim nd1 (fun y => by rw [hd1] at y; cases y)) (st1.trans ⟨k3, f3'⟩)

theorem ok_clen (T : Tx K mg) : FnOk P w K mg base CX0 1 T.f_clen T.fd_clen P_clen (spLenC) := by
  have sz : sizeLine = 16777216 := sizeLine_eq
  refine T.D_clen.F.ok sc_clen (fun vs H Q E h => ?_) (fun cdv A outer s H vs Q E hr h => ?_)
  · obtain ⟨v, rfl, _⟩ := h
    rfl
  · obtain ⟨v, rfl, h, q⟩ := h
    refine ⟨_, (pss_one (ps_if (pt_cmpR op_gt (pv 0) (pe_glob (v := .int 4000) (by rfl) T.c_LONGEST ⟨_, rfl⟩) (nomark _)) (pss_one ps_never) pss_nil)), ?_⟩
    exact ⟨_, rfl, _, _, rfl, rfl, _, rfl, iteFc (decide_eq_false (by omega)) q⟩

theorem ok_dextent (T : Tx K mg) : FnOk P w K mg base CX0 1 T.f_dextent T.fd_dextent P_dextent (spExtD (DevAt T.C_Device)) := by
  have sz : sizeLine = 16777216 := sizeLine_eq
  refine T.D_dextent.F.ok sc_dextent (fun vs H Q E h => ?_) (fun cdv A outer s H vs Q E hr h => ?_)
  · obtain ⟨A, F, S, rfl, _⟩ := h
    rfl
  · obtain ⟨A, F, S, rfl, hP, q⟩ := h
    refine ⟨_, (pss_one (ps_ret (pe_callB call_len_seq (by rfl) T.m_len PySem.boot_len (pa_cons (pe_fld (pv 0) rfl) pa_nil)))), ?_⟩
    obtain ⟨dd, vs, G, I, hF⟩ := hP
    refine ⟨.ref A.d, rfl, A.d, T.C_Device, dd, _, _, rfl, I.hd, T.cl_Device, T.n_Device_cells, dfs_cells _ _ _ _ _, A.c, _, rfl, .inl (sq_at I.hc), ?_⟩
    rw [List.length_map]
    exact q

theorem ok_dseeks (T : Tx K mg) : FnOk P w K mg base CX0 1 T.f_dseeks T.fd_dseeks P_dseeks (spSeeksD (DevAt T.C_Device)) := by
  have sz : sizeLine = 16777216 := sizeLine_eq
  refine T.D_dseeks.F.ok sc_dseeks (fun vs H Q E h => ?_) (fun cdv A outer s H vs Q E hr h => ?_)
  · obtain ⟨A, F, S, rfl, _⟩ := h
    rfl
  · obtain ⟨A, F, S, rfl, hP, hs, q⟩ := h
    refine ⟨_, (pss_one (ps_if (pt_not (pt_val (pe_fld (pv 0) rfl))) (pss_one ps_never) pss_nil)), ?_⟩
    obtain ⟨dd, vs, G, I, hF⟩ := hP
    have hd := I.hd
    rw [hs] at hd
    exact ⟨.ref A.d, rfl, A.d, T.C_Device, dd, _, _, rfl, hd, T.cl_Device, T.n_Device_can_seek, dfs_seek _ _ _ _ _, true, rfl, iteF q⟩

theorem ok_dmayc (T : Tx K mg) : FnOk P w K mg base CX0 2 T.f_dmayc T.fd_dmayc P_dmayc (spSeeksD (DevAt T.C_Device)) := by
  have G_dseeks := ok_dseeks (P := P) (w := w) (base := base) T
  have sz : sizeLine = 16777216 := sizeLine_eq
  refine T.D_dmayc.F.ok sc_dmayc (fun vs H Q E h => ?_) (fun cdv A outer s H vs Q E hr h => ?_)
  · obtain ⟨A, F, S, rfl, _⟩ := h
    rfl
  · obtain ⟨A, F, S, rfl, hP, hs, q⟩ := h
    refine ⟨_, (pss_one (ps_expr (pe_meth0 (pv 0) T.cl_Device T.D_dseeks.m G_dseeks (hr.mono (by decide)) T.bb_dseeks .nil pass0))), ?_⟩
    have hP0 := hP
    obtain ⟨dd, vs, G, I, hF⟩ := hP
    exact ⟨.ref A.d, rfl, A.d, dd, _, rfl, I.hd, dfs_no _ _ _ _ _ "check_seeks" (by decide +kernel), A, F, S, rfl, hP0, hs, q⟩

theorem ok_dcontent (T : Tx K mg) : FnOk P w K mg base CX0 1 T.f_dcontent T.fd_dcontent P_dcontent (spContD (DevAt T.C_Device)) := by
  have sz : sizeLine = 16777216 := sizeLine_eq
  refine T.D_dcontent.F.ok sc_dcontent (fun vs H Q E h => ?_) (fun cdv A outer s H vs Q E hr h => ?_)
  · obtain ⟨A, F, S, rfl, _⟩ := h
    rfl
  · obtain ⟨A, F, S, rfl, hP, q⟩ := h
    refine ⟨_, (pss_one (ps_ret (pe_callTy call_list_of (by rfl) T.m_list (by decide +kernel) (pa_cons (pe_fld (pv 0) rfl) pa_nil)))), ?_⟩
    obtain ⟨dd, vs, G, I, hF⟩ := hP
    exact ⟨.ref A.d, rfl, A.d, T.C_Device, dd, _, _, rfl, I.hd, T.cl_Device, T.n_Device_cells, dfs_cells _ _ _ _ _, A.c, _, rfl, .inl (sq_at I.hc), fun z nz => q _ z nz upd_same (Kp.new (ps := []) nz).same⟩

theorem ok_dmove (T : Tx K mg) : FnOk P w K mg base (L2.CX P w) 4 T.f_dmove T.fd_dmove P_dmove (spMoveD (DevAt T.C_Device) T.C_Fault) := by
  have G_dallowed := ok_dallowed (P := P) (w := w) (base := base) T
  have sz : sizeLine = 16777216 := sizeLine_eq
  refine T.D_dmove.F.okX sc_dmove (fun vs H Q E h => ?_) (fun cdv A outer s H vs Q E hr h => ?_)
  · obtain ⟨A, F, S, n, rfl, _⟩ := h
    rfl
  · obtain ⟨A, F, S, n, rfl, hP, ok, q, qe⟩ := h
    refine ⟨_, (pss_one (ps_expr (pe_meth (pv 0) T.cl_Device T.D_dallowed.m G_dallowed (hr.mono (by decide)) T.bb_dallowed .nil (Sip.passX (takes_of rfl rfl rfl rfl)) (pa_cons pe_int pa_nil)))), ?_⟩
    have hP0 := hP
    obtain ⟨dd, vs, G, I, hF⟩ := hP
    exact ⟨.ref A.d, rfl, A.d, dd, _, rfl, I.hd, dfs_no _ _ _ _ _ "allowed" (by decide +kernel), A, F, S, 1, rfl, hP0, ok, fun good H1 hP1 st1 => q good H1 hP1 st1, fun k ek hk => qe k ek hk⟩

theorem ok_dtrim (T : Tx K mg) : FnOk P w K mg base (L2.CX P w) 4 T.f_dtrim T.fd_dtrim P_dtrim (spTrimD (DevAt T.C_Device) T.C_Fault) := by
  have G_dallowed := ok_dallowed (P := P) (w := w) (base := base) T
  have sz : sizeLine = 16777216 := sizeLine_eq
  refine T.D_dtrim.F.okX sc_dtrim (fun vs H Q E h => ?_) (fun cdv A outer s H vs Q E hr h => ?_)
  · obtain ⟨A, F, S, n, rfl, _⟩ := h
    rfl
  · obtain ⟨A, F, S, n, rfl, hP, ok, q, qe⟩ := h
    refine ⟨_, (pss_cons (ps_expr (pe_meth (pv 0) T.cl_Device T.D_dallowed.m G_dallowed (hr.mono (by decide)) T.bb_dallowed .nil (Sip.passX (takes_of rfl rfl rfl rfl)) (pa_cons pe_int pa_nil)))
      (pss_one (Sip.ps_delS (pe_fld (pv 0) rfl) (po_some (pv 1)) po_none))), ?_⟩
    have hP0 := hP
    obtain ⟨dd, vs, G, I, hF⟩ := hP
    refine ⟨.ref A.d, rfl, A.d, dd, _, rfl, I.hd, dfs_no _ _ _ _ _ "allowed" (by decide +kernel), A, F, S, 1, rfl, hP0, ok, fun good H1 hP1 st1 => ?_, fun k ek hk => qe k ek hk⟩
    obtain ⟨dd1, vs1, G1, I1, hF1⟩ := hP1
    refine ⟨.ref A.d, rfl, A.d, T.C_Device, dd1, _, _, rfl, I1.hd, T.cl_Device, T.n_Device_cells, dfs_cells _ _ _ _ _, _, rfl, _, rfl, A.c, _, rfl, I1.hc, ?_⟩
    rw [usedS_cells, del_from]
    exact q good _ ⟨dd1, vs1, G1, I1.setc (S.cells.take n), hF1⟩ (st1.trans (own_dev hF1 (.inr (.inl rfl))))

theorem ok_dgo (T : Tx K mg) : FnOk P w K mg base (L2.CX P w) 5 T.f_dgo T.fd_dgo P_dgo (spGoD (DevAt T.C_Device) T.C_Fault) := by
  have G_dopen := ok_dopen (P := P) (w := w) (base := base) T
  have G_dseeks := ok_dseeks (P := P) (w := w) (base := base) T
  have G_clen := ok_clen (P := P) (w := w) (base := base) T
  have C_dnote := ok_dnote (P := P) (w := w) (base := base) T
  have G_dnote := C_dnote.ok
  have G_dmove := ok_dmove (P := P) (w := w) (base := base) T
  have sz : sizeLine = 16777216 := sizeLine_eq
  refine T.D_dgo.F.okX sc_dgo (fun vs H Q E h => ?_) (fun cdv A outer s H vs Q E hr h => ?_)
  · obtain ⟨A, F, S, n, rfl, _⟩ := h
    rfl
  · obtain ⟨A, F, S, n, rfl, hP, ok, hb, hs, hn, q, qe⟩ := h
    refine ⟨_, (pss_cons (ps_expr (pe_meth0 (pv 0) T.cl_Device T.D_dopen.m G_dopen (hr.mono (by decide)) T.bb_dopen .nil pass0))
      (pss_cons (ps_expr (pe_meth0 (pv 0) T.cl_Device T.D_dseeks.m G_dseeks (hr.mono (by decide)) T.bb_dseeks .nil pass0))
      (pss_cons (ps_expr (pe_call G_clen (hr.mono (by decide)) (by rfl) T.D_clen.g T.D_clen.F.kp T.bb_clen .nil pass0 (pa_cons (pv 1) pa_nil)))
      (pss_cons (Sip.ps_try_again rfl rfl ⟨rfl, by decide, .inl T.g_Fault⟩ (fun hd => L2H.passesAt_of rfl hd) (takes_of rfl rfl rfl rfl) (fun W pn xe tk _ => (pss_one (ps_expr (by exact (Sip.pe_methT (pv 0) T.cl_Device T.D_dmove.m G_dmove (hr.mono (by decide)) T.bb_dmove (fun σ => passAt tk σ) (by exact (pa_cons (pv 1) pa_nil))))))) (fun a oe T9 oT cls d pn ag => (pss_cons (ps_expr (Sip.pe_methC (E := fun _ _ _ => False) (pv 0) T.cl_Device T.D_dnote.m C_dnote (Sip.roomM (hr.mono (by decide))) T.bb_dnote .nil (pa_cons pe_str (pa_cons (pv 1) (pa_cons pe_str pa_nil)))))
      (pss_one (Sip.ps_again rfl rfl (takes_of rfl rfl rfl rfl) ag)))))
      (pss_cons (ps_expr (pe_meth (pv 0) T.cl_Device T.D_dnote.m G_dnote (hr.mono (by decide)) T.bb_dnote .nil pass0 (pa_cons pe_str (pa_cons (pv 1) (pa_cons pe_int pa_nil)))))
      (pss_one (ps_fld (pv 0) (pv 1) rfl))))))), ?_⟩
    have hP0 := hP
    obtain ⟨dd, vs, G, I, hF⟩ := hP
    refine ⟨.ref A.d, rfl, A.d, dd, _, rfl, I.hd, dfs_no _ _ _ _ _ "check_open" (by decide +kernel), A, F, S, rfl, hP0, hb, ?_⟩
    refine ⟨.ref A.d, rfl, A.d, dd, _, rfl, I.hd, dfs_no _ _ _ _ _ "check_seeks" (by decide +kernel), A, F, S, rfl, hP0, hs, ?_⟩
    refine ⟨.int n, rfl, n, rfl, by omega, ?_⟩
    refine ⟨.ref A.d, rfl, A.d, dd, _, rfl, I.hd, dfs_no _ _ _ _ _ "move" (by decide +kernel), .int n, rfl, A, F, S, n, rfl, hP0, ok, fun good H1 hP1 st1 => ?_, fun k ek hk H1 F1 d hP1 n01 hd1 nd1 st1 => ?_⟩
    · have hP1' := hP1
      obtain ⟨dd1, vs1, G1, I1, hF1⟩ := hP1'
      refine ⟨.ref A.d, rfl, A.d, dd1, _, rfl, I1.hd, dfs_no _ _ _ _ _ "note" (by decide +kernel), .int n, rfl, A, _, _, _, F, (fun _ => False), usedS S, .i n, .i 0, rfl, hP1, usedS_ok ok, rfl, rfl, ⟨(by decide +kernel : PyData.strOk (Str.ofString "go") = true), trivial, trivial⟩, fun b z => z.elim, fun b z => z.elim, fun H3 F3 hP3 k3 f3 => ?_⟩
      have f3' : ∀ b, F3 b → F b ∨ H1 b = none := fun b z => (f3 b z).elim .inl (fun y => y.elim (fun y => y.elim) .inr)
      rw [noted] at hP3
      obtain ⟨dd3, vs3, G3, I3, hF3⟩ := hP3
      refine ⟨_, rfl, .ref A.d, rfl, A.d, T.C_Device, dd3, _, rfl, I3.hd, T.cl_Device, T.n_Device_spot, dfs_few _ _ _ _ _, ?_⟩
      rw [dfs_put_s]
      exact q good _ F3 ⟨dd3, vs3, G3, I3.setd n _ _, hF3⟩ ((st1.trans ⟨k3, f3'⟩).trans (own_dev hF3 (.inl rfl)))
    · refine ⟨true, T.te_Fault_Fault, fun _ a na => ?_, fun h => nomatch h⟩
      have hP1' := hP1
      obtain ⟨dd1, vs1, G1, I1, hF1⟩ := hP1'
      refine ⟨.ref A.d, rfl, A.d, dd1, _, rfl, I1.hd, dfs_no _ _ _ _ _ "note" (by decide +kernel), .int n, rfl, A, _, _, _, F1, (fun _ => False), usedS S, .i n, .s (Str.ofString "fault"), rfl, hP1, usedS_ok ok, rfl, rfl, ⟨(by decide +kernel : PyData.strOk (Str.ofString "go") = true), trivial, (by decide +kernel : PyData.strOk (Str.ofString "fault") = true)⟩, fun b z => z.elim, fun b z => z.elim, fun H3 F3 hP3 k3 f3 => ?_⟩
      rw [noted] at hP3
      have f3' : ∀ b, F3 b → F1 b ∨ H1 b = none := fun b z => (f3 b z).elim .inl (fun y => y.elim (fun y => y.elim) .inr)
      exact qe k ek hk H3 F3 d hP3 n01 (k3 d _ nd1 hd1) (fun z => (f3' d z).elim nd1 (fun y => by rw [hd1] at y; cases y)) (st1.trans ⟨k3, f3'⟩)

theorem ok_dcut (T : Tx K mg) : FnOk P w K mg base (L2.CX P w) 5 T.f_dcut T.fd_dcut P_dcut (spCutD (DevAt T.C_Device) T.C_Fault) := by
  have G_dopen := ok_dopen (P := P) (w := w) (base := base) T
  have G_dmayc := ok_dmayc (P := P) (w := w) (base := base) T
  have G_clen := ok_clen (P := P) (w := w) (base := base) T
  have C_dnote := ok_dnote (P := P) (w := w) (base := base) T
  have G_dnote := C_dnote.ok
  have G_dtrim := ok_dtrim (P := P) (w := w) (base := base) T
  have sz : sizeLine = 16777216 := sizeLine_eq
  refine T.D_dcut.F.okX sc_dcut (fun vs H Q E h => ?_) (fun cdv A outer s H vs Q E hr h => ?_)
  · obtain ⟨A, F, S, n, rfl, _⟩ := h
    rfl
  · obtain ⟨A, F, S, n, rfl, hP, ok, hb, hs, hn, q, qe⟩ := h
    refine ⟨_, (pss_cons (ps_expr (pe_meth0 (pv 0) T.cl_Device T.D_dopen.m G_dopen (hr.mono (by decide)) T.bb_dopen .nil pass0))
      (pss_cons (ps_expr (pe_meth0 (pv 0) T.cl_Device T.D_dmayc.m G_dmayc (hr.mono (by decide)) T.bb_dmayc .nil pass0))
      (pss_cons (ps_expr (pe_call G_clen (hr.mono (by decide)) (by rfl) T.D_clen.g T.D_clen.F.kp T.bb_clen .nil pass0 (pa_cons (pv 1) pa_nil)))
      (pss_cons (Sip.ps_try_again rfl rfl ⟨rfl, by decide, .inl T.g_Fault⟩ (fun hd => L2H.passesAt_of rfl hd) (takes_of rfl rfl rfl rfl) (fun W pn xe tk _ => (pss_one (ps_expr (by exact (Sip.pe_methT (pv 0) T.cl_Device T.D_dtrim.m G_dtrim (hr.mono (by decide)) T.bb_dtrim (fun σ => passAt tk σ) (by exact (pa_cons (pv 1) pa_nil))))))) (fun a oe T9 oT cls d pn ag => (pss_cons (ps_expr (Sip.pe_methC (E := fun _ _ _ => False) (pv 0) T.cl_Device T.D_dnote.m C_dnote (Sip.roomM (hr.mono (by decide))) T.bb_dnote .nil (pa_cons pe_str (pa_cons (pv 1) (pa_cons pe_str pa_nil)))))
      (pss_one (Sip.ps_again rfl rfl (takes_of rfl rfl rfl rfl) ag)))))
      (pss_one (ps_expr (pe_meth (pv 0) T.cl_Device T.D_dnote.m G_dnote (hr.mono (by decide)) T.bb_dnote .nil pass0 (pa_cons pe_str (pa_cons (pv 1) (pa_cons pe_int pa_nil)))))))))), ?_⟩
    have hP0 := hP
    obtain ⟨dd, vs, G, I, hF⟩ := hP
    refine ⟨.ref A.d, rfl, A.d, dd, _, rfl, I.hd, dfs_no _ _ _ _ _ "check_open" (by decide +kernel), A, F, S, rfl, hP0, hb, ?_⟩
    refine ⟨.ref A.d, rfl, A.d, dd, _, rfl, I.hd, dfs_no _ _ _ _ _ "may_cut" (by decide +kernel), A, F, S, rfl, hP0, hs, ?_⟩
    refine ⟨.int n, rfl, n, rfl, by omega, ?_⟩
    refine ⟨.ref A.d, rfl, A.d, dd, _, rfl, I.hd, dfs_no _ _ _ _ _ "trim" (by decide +kernel), .int n, rfl, A, F, S, n, rfl, hP0, ok, fun good H1 hP1 st1 => ?_, fun k ek hk H1 F1 d hP1 n01 hd1 nd1 st1 => ?_⟩
    · have hP1' := hP1
      obtain ⟨dd1, vs1, G1, I1, hF1⟩ := hP1'
      refine ⟨.ref A.d, rfl, A.d, dd1, _, rfl, I1.hd, dfs_no _ _ _ _ _ "note" (by decide +kernel), .int n, rfl, A, _, _, _, F, (fun _ => False), { usedS S with cells := S.cells.take n }, .i n, .i 0, rfl, hP1, usedS_ok ok, rfl, rfl, ⟨(by decide +kernel : PyData.strOk (Str.ofString "cut") = true), trivial, trivial⟩, fun b z => z.elim, fun b z => z.elim, fun H3 F3 hP3 k3 f3 => ?_⟩
      have f3' : ∀ b, F3 b → F b ∨ H1 b = none := fun b z => (f3 b z).elim .inl (fun y => y.elim (fun y => y.elim) .inr)
      rw [noted_c] at hP3
      exact q good _ F3 hP3 (st1.trans ⟨k3, f3'⟩)
    · refine ⟨true, T.te_Fault_Fault, fun _ a na => ?_, fun h => nomatch h⟩
      have hP1' := hP1
      obtain ⟨dd1, vs1, G1, I1, hF1⟩ := hP1'
      refine ⟨.ref A.d, rfl, A.d, dd1, _, rfl, I1.hd, dfs_no _ _ _ _ _ "note" (by decide +kernel), .int n, rfl, A, _, _, _, F1, (fun _ => False), usedS S, .i n, .s (Str.ofString "fault"), rfl, hP1, usedS_ok ok, rfl, rfl, ⟨(by decide +kernel : PyData.strOk (Str.ofString "cut") = true), trivial, (by decide +kernel : PyData.strOk (Str.ofString "fault") = true)⟩, fun b z => z.elim, fun b z => z.elim, fun H3 F3 hP3 k3 f3 => ?_⟩
      rw [noted] at hP3
      have f3' : ∀ b, F3 b → F1 b ∨ H1 b = none := fun b z => (f3 b z).elim .inl (fun y => y.elim (fun y => y.elim) .inr)
      exact qe k ek hk H3 F3 d hP3 n01 (k3 d _ nd1 hd1) (fun z => (f3' d z).elim nd1 (fun y => by rw [hd1] at y; cases y)) (st1.trans ⟨k3, f3'⟩)

theorem ok_daccept (T : Tx K mg) : FnOk P w K mg base (L2.CX P w) 4 T.f_daccept T.fd_daccept P_daccept (spAcceptD (DevAt T.C_Device) T.C_Fault) := by
  have G_dallowed := ok_dallowed (P := P) (w := w) (base := base) T
  have G_laid := ok_laid (P := P) (w := w) (base := base) T
  have sz : sizeLine = 16777216 := sizeLine_eq
  refine T.D_daccept.F.okX sc_daccept (fun vs H Q E h => ?_) (fun cdv A outer s H vs Q E hr h => ?_)
  · obtain ⟨A, d, F, S, ds, rfl, _⟩ := h
    rfl
  · obtain ⟨A, d, F, S, ds, rfl, hP, ok, nd, hd, lc, ls, ld, q, qe⟩ := h
    refine ⟨_, (pss_cons (ps_set (i := 2) sc_daccept.nd rfl (.inl rfl) (pe_meth (pv 0) T.cl_Device T.D_dallowed.m G_dallowed (hr.mono (by decide)) T.bb_dallowed .nil (Sip.passX (takes_of rfl rfl rfl rfl)) (pa_cons (pe_callB call_len_seq (by rfl) T.m_len PySem.boot_len (pa_cons (pv 1) pa_nil)) pa_nil)))
      (pss_cons (ps_if (pt_cmpR op_eq (pv 2) pe_int (nomark _)) (pss_one (ps_ret pe_non)) pss_nil)
      (pss_cons (ps_fld (pv 0) (pe_call G_laid (hr.mono (by decide)) (by rfl) T.D_laid.g T.D_laid.F.kp T.bb_laid .nil pass0 (pa_cons (pe_fld (pv 0) rfl) (pa_cons (pe_fld (pv 0) rfl) (pa_cons (pe_slice sl_list (pv 1) po_none (po_some (pv 2))) pa_nil)))) rfl)
      (pss_one (ps_ret (pv 2)))))), ?_⟩
    have hP0 := hP
    obtain ⟨dd, vs, G, I, hF⟩ := hP
    refine ⟨.ref A.d, rfl, A.d, dd, _, rfl, I.hd, dfs_no _ _ _ _ _ "allowed" (by decide +kernel), .ref d, rfl, d, _, rfl, .inl (sq_at hd), A, F, S, (ds.length : Int), by rw [List.length_map]; rfl, hP0, ok, fun good H1 hP1 st1 => ?_, fun k ek hk => qe k ek hk⟩
    have hP1' := hP1
    obtain ⟨dd1, vs1, G1, I1, hF1⟩ := hP1
    have hm : mayF S (ds.length : Int) = (putN S ds : Int) := (Int.toNat_of_nonneg (may_nn (n := ds.length) good)).symm
    rw [hm]
    have hd1 := st1.1 d _ nd hd
    by_cases h0 : putN S ds = 0
    · refine ⟨_, rfl, rfl, _, rfl, iteTc (decide_eq_true (by rw [h0]; rfl)) ?_⟩
      have eL : laidS S ds = S.cells := by unfold laidS; rw [h0, List.take_zero, laidF_nil]
      have eS : ({ usedS S with cells := S.cells } : Dst) = usedS S := by unfold usedS; split <;> rfl
      have q := q good H1 A.c F (by rw [eL, eS]; exact hP1') st1
      rw [if_pos h0] at q
      exact q
    · refine ⟨_, rfl, rfl, _, rfl, iteFc (decide_eq_false (fun z => h0 (Int.ofNat.inj (V.int.inj z)))) ?_⟩
      refine ⟨.ref A.d, rfl, A.d, T.C_Device, dd1, _, _, rfl, I1.hd, T.cl_Device, T.n_Device_cells, dfs_cells _ _ _ _ _, .ref A.d, rfl, A.d, T.C_Device, dd1, _, _, rfl, I1.hd, T.cl_Device, T.n_Device_spot, dfs_spot _ _ _ _ _, .ref d, rfl, _, rfl, _, rfl, d, _, rfl, sq_at hd1, fun z nz => ?_⟩
      rw [show cutV (ds.map V.int) none (some (putN S ds : Int)) = (ds.take (putN S ds)).map V.int from cut_O ds (some (putN S ds))]
      have sz := (Kp.new (ps := []) (o := HO.lst ((ds.take (putN S ds)).map V.int)) nz).same
      refine ⟨A.c, z, (usedS S).cells, (usedS S).spot, ds.take (putN S ds), rfl, sq_at (sz _ _ I1.hc), upd_same, by rw [usedS_cells]; omega, by rw [usedS_spot]; omega, by rw [List.length_take]; omega, fun H3 c nc ec s3 => ?_⟩
      rw [usedS_cells, usedS_spot] at ec
      have hPz := hP1'.same sz
      have nFc := hPz.new nc
      obtain ⟨dd3, vs3, G3, I3, hF3⟩ := hPz.same s3
      refine ⟨.ref A.d, rfl, A.d, T.C_Device, dd3, _, rfl, I3.hd, T.cl_Device, T.n_Device_cells, dfs_few _ _ _ _ _, ?_⟩
      rw [dfs_put_c]
      have nc1 : H1 c = none := sz.free nc
      have nc0 : H c = none := new_of st1 (fun b f => hP1'.some b f) nc1
      have q := q good _ c (fun b => Own4 { A with c := c } b ∨ G3 b) ⟨dd3, vs3, G3, I3.newc (c := c) (xs := laidS S ds) ec (fun y => nFc ((hF3 c).mpr y)), fun b => Iff.rfl⟩ ⟨fun b o nb e => ?_, fun b y => ?_⟩
      · rw [if_neg h0] at q
        exact ⟨_, rfl, q⟩
      · rw [upd_ne (fun y => nb ((hF3 b).mpr (.inl (.inl y))))]
        exact s3 _ _ (sz _ _ (st1.1 b o nb e))
      · rcases y with (y | y | y | y) | y
        · exact .inl ((hF3 b).mpr (.inl (.inl y)))
        · exact .inr (by rw [show b = c from y]; exact nc0)
        · exact .inl ((hF3 b).mpr (.inl (.inr (.inr (.inl y)))))
        · exact .inl ((hF3 b).mpr (.inl (.inr (.inr (.inr y)))))
        · exact .inl ((hF3 b).mpr (.inr y))

theorem ok_dmayp (T : Tx K mg) : FnOk P w K mg base CX0 2 T.f_dmayp T.fd_dmayp P_dmayp (spMaypD (DevAt T.C_Device)) := by
  have G_clen := ok_clen (P := P) (w := w) (base := base) T
  have G_dextent := ok_dextent (P := P) (w := w) (base := base) T
  have sz : sizeLine = 16777216 := sizeLine_eq
  refine T.D_dmayp.F.ok sc_dmayp (fun vs H Q E h => ?_) (fun cdv A outer s H vs Q E hr h => ?_)
  · obtain ⟨A, d, F, S, ds, rfl, _⟩ := h
    rfl
  · obtain ⟨A, d, F, S, ds, rfl, hP, hd, hl, q⟩ := h
    refine ⟨_, (pss_one (ps_if (pt_val (pe_fld (pv 0) rfl)) (pss_one (ps_expr (pe_call G_clen (hr.mono (by decide)) (by rfl) T.D_clen.g T.D_clen.F.kp T.bb_clen .nil pass0 (pa_cons (pe_callB (call_max2 rfl) (by rfl) T.m_max (by decide +kernel) (pa_cons (pe_meth0 (pv 0) T.cl_Device T.D_dextent.m G_dextent (hr.mono (by decide)) T.bb_dextent .nil pass0) (pa_cons (pe_op op_add (pe_fld (pv 0) rfl) (pe_callB call_len_seq (by rfl) T.m_len PySem.boot_len (pa_cons (pv 1) pa_nil))) pa_nil))) pa_nil)))) pss_nil)), ?_⟩
    have hP0 := hP
    obtain ⟨dd, vs, G, I, hF⟩ := hP
    refine ⟨.ref A.d, rfl, A.d, T.C_Device, dd, _, _, rfl, I.hd, T.cl_Device, T.n_Device_can_seek, dfs_seek _ _ _ _ _, S.seek, rfl, ?_⟩
    cases hs : S.seek with
    | false => exact iteF q
    | true =>
      obtain ⟨h1, h2⟩ := hl hs
      refine iteT ?_
      refine ⟨.ref A.d, rfl, A.d, dd, _, rfl, I.hd, dfs_no _ _ _ _ _ "extent" (by decide +kernel), A, F, S, rfl, hP0, ?_⟩
      refine ⟨.ref A.d, rfl, A.d, T.C_Device, dd, _, _, rfl, I.hd, T.cl_Device, T.n_Device_spot, dfs_spot _ _ _ _ _, .ref d, rfl, d, _, rfl, .inl (sq_at hd), _, _, rfl, rfl, _, _, rfl, _, rfl, ?_, q⟩
      rw [List.length_map]
      split <;> omega

theorem ok_dput (T : Tx K mg) : FnOk P w K mg base (L2.CX P w) 5 T.f_dput T.fd_dput P_dput (spPutD (DevAt T.C_Device) T.C_Fault) := by
  have G_dopen := ok_dopen (P := P) (w := w) (base := base) T
  have G_dmayp := ok_dmayp (P := P) (w := w) (base := base) T
  have C_dnote := ok_dnote (P := P) (w := w) (base := base) T
  have G_dnote := C_dnote.ok
  have G_daccept := ok_daccept (P := P) (w := w) (base := base) T
  have sz : sizeLine = 16777216 := sizeLine_eq
  refine T.D_dput.F.okX sc_dput (fun vs H Q E h => ?_) (fun cdv A outer s H vs Q E hr h => ?_)
  · obtain ⟨A, d, F, S, ds, rfl, _⟩ := h
    rfl
  · obtain ⟨A, d, F, S, ds, rfl, hP, ok, hb, hd, hl, lc, ls, ld, q, qe⟩ := h
    refine ⟨_, (pss_cons (ps_expr (pe_meth0 (pv 0) T.cl_Device T.D_dopen.m G_dopen (hr.mono (by decide)) T.bb_dopen .nil pass0))
      (pss_cons (ps_expr (pe_meth (pv 0) T.cl_Device T.D_dmayp.m G_dmayp (hr.mono (by decide)) T.bb_dmayp .nil pass0 (pa_cons (pv 1) pa_nil)))
      (pss_cons (ps_set (i := 2) sc_dput.nd rfl (.inl rfl) (pe_callTy call_list_of (by rfl) T.m_list (by decide +kernel) (pa_cons (pv 1) pa_nil)))
      (pss_cons (Sip.ps_try_again rfl rfl ⟨rfl, by decide, .inl T.g_Fault⟩ (fun hd => L2H.passesAt_of rfl hd) (takes_of rfl rfl rfl rfl) (fun W pn xe tk _ => (pss_one (ps_set (i := 3) sc_dput.nd rfl (.inl rfl) (by exact (Sip.pe_methT (pv 0) T.cl_Device T.D_daccept.m G_daccept (hr.mono (by decide)) T.bb_daccept (fun σ => passAt tk σ) (by exact (pa_cons (pv 2) pa_nil))))))) (fun a oe T9 oT cls d pn ag => (pss_cons (ps_expr (Sip.pe_methC (E := fun _ _ _ => False) (pv 0) T.cl_Device T.D_dnote.m C_dnote (Sip.roomM (hr.mono (by decide))) T.bb_dnote .nil (pa_cons pe_str (pa_cons (pv 2) (pa_cons pe_str pa_nil)))))
      (pss_one (Sip.ps_again rfl rfl (takes_of rfl rfl rfl rfl) ag)))))
      (pss_cons (ps_if (pt_cmpR op_isN (pv 3) pe_non (nomark _)) (pss_cons (ps_expr (pe_meth (pv 0) T.cl_Device T.D_dnote.m G_dnote (hr.mono (by decide)) T.bb_dnote .nil pass0 (pa_cons pe_str (pa_cons (pv 2) (pa_cons pe_str pa_nil)))))
      (pss_one (ps_ret pe_non))) pss_nil)
      (pss_cons (ps_expr (pe_meth (pv 0) T.cl_Device T.D_dnote.m G_dnote (hr.mono (by decide)) T.bb_dnote .nil pass0 (pa_cons pe_str (pa_cons (pv 2) (pa_cons (pv 3) pa_nil)))))
      (pss_cons (ps_fldaug (pv 0) (pv 3) in_add)
      (pss_one (ps_ret (pv 3)))))))))), ?_⟩
    have hP0 := hP
    obtain ⟨dd, vs, G, I, hF⟩ := hP
    refine ⟨.ref A.d, rfl, A.d, dd, _, rfl, I.hd, dfs_no _ _ _ _ _ "check_open" (by decide +kernel), A, F, S, rfl, hP0, hb, ?_⟩
    refine ⟨.ref A.d, rfl, A.d, dd, _, rfl, I.hd, dfs_no _ _ _ _ _ "may_put" (by decide +kernel), .ref d, rfl, A, d, F, S, ds, rfl, hP0, hd, hl, ?_⟩
    refine ⟨.ref d, rfl, d, _, rfl, .inl (sq_at hd), fun h nh => ?_⟩
    have sh := (Kp.new (ps := []) (o := HO.lst (ds.map V.int)) nh).same
    have eh : (upd H h (.lst (ds.map V.int))) h = some (.lst (ds.map V.int)) := upd_same
    generalize upd H h (.lst (ds.map V.int)) = Hh at sh eh ⊢
    have hPh := hP0.same sh
    have nFh := hP0.new nh
    have stH : Step F H F Hh := Step.of sh
    obtain ⟨ddh, vsh, Gh, Ih, hFh⟩ := id hPh
    refine ⟨.ref A.d, rfl, A.d, ddh, _, rfl, Ih.hd, dfs_no _ _ _ _ _ "accept" (by decide +kernel), .ref h, rfl, A, h, F, S, ds, rfl, hPh, ok, nFh, eh, lc, ls, ld, fun good H1 c F1 hP1 st1 => ?_, fun k ek hk H1 F1 d1 hP1 n01 hd1 nd1 st1 => ?_⟩
    · have hP1' := hP1
      obtain ⟨dd1, vs1, G1, I1, hF1⟩ := hP1'
      have eh1 := st1.keep nFh eh
      have mk : ∀ {H3 : Hp} {F3 : Addr → Prop}, (∀ b o, ¬ F1 b → H1 b = some o → H3 b = some o) → (∀ b, F3 b → F1 b ∨ b = h ∨ H1 b = none) → Step F H F3 H3 := fun {H3 F3} k3 f3 => by
        refine ⟨fun b o nb e => k3 b o (fun z => ((stH.trans st1).keep nb e).2 z) ((stH.trans st1).1 b o nb e), fun b z => ?_⟩
        rcases f3 b z with y | y | y
        · exact (stH.trans st1).2 b y
        · exact .inr (by rw [show b = h from y]; exact nh)
        · by_cases fb : F b
          · exact .inl fb
          · cases e : H b with
            | none => exact .inr rfl
            | some o => rw [(stH.trans st1).1 b o fb e] at y; cases y
      have ok1 : DstOk ({ usedS S with cells := laidS S ds } : Dst) := usedS_ok ok
      by_cases h0 : putN S ds = 0
      · rw [if_pos h0]
        refine ⟨.non, rfl, rfl, _, rfl, iteT ?_⟩
        refine ⟨.ref A.d, rfl, A.d, dd1, _, rfl, I1.hd, dfs_no _ _ _ _ _ "note" (by decide +kernel), .ref h, rfl, { A with c := c }, _, _, _, F1, (fun b => b = h), _, .l ds, .s (Str.ofString "stall"), rfl, hP1, ok1, ⟨h, rfl, rfl, eh1.1⟩, rfl, ⟨(by decide +kernel : PyData.strOk (Str.ofString "put") = true), trivial, (by decide +kernel : PyData.strOk (Str.ofString "stall") = true)⟩, fun b z => by rw [show b = h from z]; exact eh1.2, fun b z => ⟨.lst (ds.map V.int), by rw [show b = h from z]; exact eh1.1⟩, fun H3 F3 hP3 k3 f3 => ?_⟩
        have q := q good H3 c F3 (by rw [putS_stall h0, ← noted_c]; exact hP3) (mk k3 f3)
        rw [if_pos h0] at q
        exact q
      · rw [if_neg h0]
        refine ⟨.int (putN S ds), rfl, rfl, _, rfl, iteFc (by rfl) ?_⟩
        refine ⟨.ref A.d, rfl, A.d, dd1, _, rfl, I1.hd, dfs_no _ _ _ _ _ "note" (by decide +kernel), .ref h, rfl, .int (putN S ds), rfl, { A with c := c }, _, _, _, F1, (fun b => b = h), _, .l ds, .i (putN S ds), rfl, hP1, ok1, ⟨h, rfl, rfl, eh1.1⟩, rfl, ⟨(by decide +kernel : PyData.strOk (Str.ofString "put") = true), trivial, trivial⟩, fun b z => by rw [show b = h from z]; exact eh1.2, fun b z => ⟨.lst (ds.map V.int), by rw [show b = h from z]; exact eh1.1⟩, fun H3 F3 hP3 k3 f3 => ?_⟩
        have hP3 : DevAt T.C_Device H3 { A with c := c } F3 { usedS S with cells := laidS S ds, ns := S.ns ++ [⟨Str.ofString "put", S.spot, .l ds, .i (putN S ds)⟩] } := by rw [← noted_c]; exact hP3
        obtain ⟨dd3, vs3, G3, I3, hF3⟩ := hP3
        refine ⟨.ref A.d, rfl, A.d, T.C_Device, dd3, _, _, rfl, I3.hd, T.cl_Device, T.n_Device_spot, dfs_spot _ _ _ _ _, .int (putN S ds), rfl, _, _, rfl, rfl, dd3, _, I3.hd, dfs_few _ _ _ _ _, ?_⟩
        rw [show V.int (((usedS S).spot : Int) + (putN S ds : Int)) = V.int ((S.spot + putN S ds : Nat) : Int) by rw [usedS_spot]; rfl, dfs_put_s]
        have eP : putS S ds = { usedS S with cells := laidS S ds, spot := S.spot + putN S ds, ns := S.ns ++ [⟨Str.ofString "put", S.spot, .l ds, .i (putN S ds)⟩] } := by unfold putS; rw [if_neg h0]
        have q := q good _ c F3 (by rw [eP]; exact ⟨dd3, vs3, G3, I3.setd (S.spot + putN S ds) _ _, hF3⟩) ((mk k3 f3).trans (own_dev hF3 (.inl rfl)))
        rw [if_neg h0] at q
        exact ⟨_, rfl, q⟩
    · refine ⟨true, T.te_Fault_Fault, fun _ a na => ?_, fun h => nomatch h⟩
      have hP1' := hP1
      obtain ⟨dd1, vs1, G1, I1, hF1⟩ := hP1'
      have eh1 := st1.keep nFh eh
      refine ⟨.ref A.d, rfl, A.d, dd1, _, rfl, I1.hd, dfs_no _ _ _ _ _ "note" (by decide +kernel), .ref h, rfl, A, _, _, _, F1, (fun b => b = h), usedS S, .l ds, .s (Str.ofString "fault"), rfl, hP1, usedS_ok ok, ⟨h, rfl, rfl, eh1.1⟩, rfl, ⟨(by decide +kernel : PyData.strOk (Str.ofString "put") = true), trivial, (by decide +kernel : PyData.strOk (Str.ofString "fault") = true)⟩, fun b z => by rw [show b = h from z]; exact eh1.2, fun b z => ⟨.lst (ds.map V.int), by rw [show b = h from z]; exact eh1.1⟩, fun H3 F3 hP3 k3 f3 => ?_⟩
      rw [noted] at hP3
      have hd1n : d1 ≠ h := ne_of hd1 eh1.1 (by intro z; cases z)
      refine qe k ek hk H3 F3 d1 hP3 (sh.free n01) (k3 d1 _ nd1 hd1) (fun z => ?_) ⟨fun b o nb e => k3 b o (fun z => ?_) ((stH.trans st1).1 b o nb e), fun b z => ?_⟩
      · rcases f3 d1 z with y | y | y
        · exact nd1 y
        · exact hd1n y
        · rw [hd1] at y; cases y
      · exact ((stH.trans st1).keep nb e).2 z
      · rcases f3 b z with y | y | y
        · exact (stH.trans st1).2 b y
        · exact .inr (by rw [show b = h from y]; exact nh)
        · by_cases fb : F b
          · exact .inl fb
          · cases e : H b with
            | none => exact .inr rfl
            | some o => rw [(stH.trans st1).1 b o fb e] at y; cases y

theorem ok_ocopy (T : Tx K mg) : FnOk P w K mg base CX0 1 T.f_ocopy T.fd_ocopy P_ocopy (spOwnC) := by
  have sz : sizeLine = 16777216 := sizeLine_eq
  refine T.D_ocopy.F.ok sc_ocopy (fun vs H Q E h => ?_) (fun cdv A outer s H vs Q E hr h => ?_)
  · obtain ⟨v, t, G, rfl, _⟩ := h
    rfl
  · obtain ⟨v, t, G, rfl, ht, q⟩ := h
    refine ⟨_, (pss_cons (ps_if (pt_val (pe_callB (id := "isinstance") (r := rIsi K) call_isi (by rfl) T.m_isinstance (by decide +kernel) (pa_cons (pv 0) (pa_cons (pe_bltn (v := .ty "list") (by rfl) T.m_list (by decide +kernel) rfl) pa_nil)))) (pss_one (ps_ret (pe_callTy call_list_of (by rfl) T.m_list (by decide +kernel) (pa_cons (pv 0) pa_nil)))) pss_nil)
      (pss_one (ps_ret (pv 0)))), ?_⟩
    cases t with
    | i n =>
      cases (show v = _ from ht)
      exact ⟨.int n, rfl, .int n, .ty "list", _, _, false, rfl, .ty "list", .base (.int n), kit_ty (by decide +kernel), false, rfl, iteF ⟨.int n, rfl, q _ _ rfl (Same.refl _)⟩⟩
    | s w =>
      cases (show v = _ from ht)
      exact ⟨.str w, rfl, .str w, .ty "list", _, _, false, rfl, .ty "list", .base (.str w), kit_ty (by decide +kernel), false, rfl, iteF ⟨.str w, rfl, q _ _ rfl (Same.refl _)⟩⟩
    | l xs =>
      obtain ⟨a, rfl, ga, ha⟩ := ht
      exact ⟨.ref a, rfl, .ref a, .ty "list", _, _, true, rfl, .ty "list", .base (.lst ha), kit_ty (by decide +kernel), true, rfl, iteT ⟨.ref a, rfl, a, _, rfl, .inl (sq_at ha), fun z nz => q _ _ ⟨z, rfl, nz, upd_same⟩ (Kp.new (ps := []) nz).same⟩⟩

theorem ok_dlogb (T : Tx K mg) : FnOk P w K mg base CX0 2 T.f_dlogb T.fd_dlogb P_dlogb (spLogbD (DevAt T.C_Device)) := by
  have G_ocopy := ok_ocopy (P := P) (w := w) (base := base) T
  have sz : sizeLine = 16777216 := sizeLine_eq
  refine T.D_dlogb.F.ok sc_dlogb (fun vs H Q E h => ?_) (fun cdv A outer s H vs Q E hr h => ?_)
  · obtain ⟨A, F, S, rfl, _⟩ := h
    rfl
  · obtain ⟨A, F, S, rfl, ⟨dd, vs, G, I, hF⟩, ok, q⟩ := h
    refine ⟨_, (pss_one (ps_ret (pe_lc (own := [("word", 2), ("place", 3), ("handed", 4), ("came", 5)]) (g := gTup K 4 (gCons (gName 2) (gCons (gName 3) (gCons (gName 4) (gCons (gName 5) (gNil)))))) (tt := tYes) (by rfl) sc_dlogb.nd (pi_list (pe_slice sl_list (pe_fld (pv 0) rfl) (po_some (pv 1)) po_none)) (blkOk_by (own := [("word", 2), ("place", 3), ("handed", 4), ("came", 5)]) (N := N_dlogb) (sc := defScope s_dlogb) (by decide +kernel)) (fun _ _ _ _ _ => (show PG _ _ (gTup K 4 (gCons (gName 2) (gCons (gName 3) (gCons (gName 4) (gCons (gName 5) (gNil)))))) from pg_tup rfl (pgs_cons (pg_name (i := 2) sc_dlogb.nd rfl (Or.inl rfl)) (pgs_cons (pg_name (i := 3) sc_dlogb.nd rfl (Or.inl rfl)) (pgs_cons (pg_name (i := 4) sc_dlogb.nd rfl (Or.inl rfl)) (pgs_cons (pg_name (i := 5) sc_dlogb.nd rfl (Or.inl rfl)) pgs_nil)))))) (fun _ _ _ _ _ => pts_nil) (fun _ _ _ _ _ => (pe_tup (pa_cons (pv 2) (pa_cons (pv 3) (pa_cons (pe_call G_ocopy (hr.mono (by decide)) (by rfl) T.D_ocopy.g T.D_ocopy.F.kp T.bb_ocopy .nil pass0 (pa_cons (pv 4) pa_nil)) (pa_cons (pe_call G_ocopy (hr.mono (by decide)) (by rfl) T.D_ocopy.g T.D_ocopy.F.kp T.bb_ocopy .nil pass0 (pa_cons (pv 5) pa_nil)) pa_nil))))))))), ?_⟩
    refine ⟨.ref A.d, rfl, A.d, T.C_Device, dd, _, _, rfl, I.hd, T.cl_Device, T.n_Device_notes, dfs_notes _ _ _ _ _, ?_⟩
    refine ⟨_, rfl, _, rfl, A.l, _, rfl, sq_at I.hl, fun z nz => ?_⟩
    rw [cut_0]
    have s1 : Same H (upd H z (.lst vs)) := (Kp.new (ps := []) nz).same
    have ez1 : (upd H z (.lst vs)) z = some (.lst vs) := upd_same
    generalize upd H z (.lst vs) = Hz at s1 ez1 ⊢
    refine ⟨z, rfl, ⟨_, sq_at ez1⟩, fun D nD => ?_⟩
    have zD : z ≠ D := ne_of_none ez1 nD
    refine lc_list (K := K) (a := z) (xs := vs) (fun i H' => ∃ acc, H' D = some (.lst acc) ∧ Nts H' (fun b => Hz b = none ∧ b ≠ D) acc (S.ns.take i) ∧ Same Hz H') ⟨[], upd_same, trivial, (Kp.new (ps := []) nD).same⟩ (fun i H' _ h => sq_at (h.elim fun _ h => h.2.2 _ _ ez1)) (fun i x H' hx hP => ?_) (fun H' hP => ?_)
    · obtain ⟨acc, eD, hN, sm⟩ := hP
      obtain ⟨m, em, t, hv, cv, rfl, gt, ht, h0, c0, nok⟩ := I.nn.at hx
      have ht' := sm _ _ (s1 _ _ ht)
      have h0' := h0.keep (H' := H') (fun b o _ e => sm _ _ (s1 _ _ e)) (fun _ z => z)
      have c0' := c0.keep (H' := H') (fun b o _ e => sm _ _ (s1 _ _ e)) (fun _ z => z)
      refine ⟨t, _, rfl, .inl (.inl ht'), rfl, ?_⟩
      refine ⟨_, _, rfl, _, _, rfl, _, _, rfl, _, _, rfl, rfl, rfl, ?_⟩
      refine ⟨_, rfl, _, rfl, hv, rfl, hv, m.h, G, rfl, h0', fun H2 hv2 h2 s2 => ?_⟩
      refine ⟨cv, rfl, cv, m.c, G, rfl, c0'.keep (fun b o _ e => s2 _ _ e) (fun _ z => z), fun H3 cv3 c3 s3 => ?_⟩
      refine ⟨by show (4 : Nat) ≤ sizeLine; omega, fun t2 nt2 => ?_⟩
      have s23 := s2.trans s3
      have eD3 := s23 _ _ eD
      have tD : D ≠ t2 := ne_of_none eD3 nt2
      have ne2 : ∀ {b o}, H3 b = some o → b ≠ t2 := fun {b o} e => ne_of_none e nt2
      refine ⟨acc, by rw [upd_ne tD]; exact eD3, ?_, acc ++ [.ref t2], upd_same, ?_, ?_⟩
      · have := hN.len
        have := List.length_take_le i S.ns
        have := ok.2.2
        rw [List.length_take] at *
        omega
      · rw [List.take_add_one, em]
        refine Nts.snoc ⟨t2, hv2, cv3, rfl, ⟨sm.free (s23.free nt2), tD.symm⟩, by rw [upd_ne tD.symm]; exact upd_same, ?_, ?_, nok⟩ (hN.keep (fun b o z e => ?_) (fun _ z => z))
        · exact h2.keep (fun b o z e => by rw [upd_ne (fun y => by rw [show b = D from y, eD] at z; cases z), upd_ne (ne2 (s3 _ _ e))]; exact s3 _ _ e) (fun b z => ⟨sm.free z, fun y => by rw [show b = D from y, eD] at z; cases z⟩)
        · exact c3.keep (fun b o z e => by rw [upd_ne (fun y => by rw [show b = D from y, s2 _ _ eD] at z; cases z), upd_ne (ne2 e)]; exact e) (fun b z => ⟨sm.free (s2.free z), fun y => by rw [show b = D from y, s2 _ _ eD] at z; cases z⟩)
        · rw [upd_ne z.2, upd_ne (ne2 (s23 _ _ e))]; exact s23 _ _ e
      · intro b o e
        have bD : b ≠ D := fun y => by rw [y, nD] at e; cases e
        rw [upd_ne bD, upd_ne (ne2 (s23 _ _ (sm _ _ e)))]; exact s23 _ _ (sm _ _ e)
    · obtain ⟨acc, eD, hN, sm⟩ := hP
      rw [I.nn.len, List.take_length] at hN
      exact q _ D acc _ (s1.free nD) (fun z => z.2 rfl) eD hN (fun b z => s1.free z.1) (s1.trans sm)

theorem ok_dlog (T : Tx K mg) : FnOk P w K mg base CX0 3 T.f_dlog T.fd_dlog P_dlog (spLogD (DevAt T.C_Device)) := by
  have G_dlogb := ok_dlogb (P := P) (w := w) (base := base) T
  have sz : sizeLine = 16777216 := sizeLine_eq
  refine T.D_dlog.F.ok sc_dlog (fun vs H Q E h => ?_) (fun cdv A outer s H vs Q E hr h => ?_)
  · obtain ⟨A, F, S, rfl, _⟩ := h
    rfl
  · obtain ⟨A, F, S, rfl, hP, ok, q⟩ := h
    refine ⟨_, (pss_one (ps_ret (pe_meth (pv 0) T.cl_Device T.D_dlogb.m G_dlogb (hr.mono (by decide)) T.bb_dlogb .nil pass0 (pa_cons pe_int pa_nil)))), ?_⟩
    have hP0 := hP
    obtain ⟨dd, vs, G, I, hF⟩ := hP
    exact ⟨.ref A.d, rfl, A.d, dd, _, rfl, I.hd, dfs_no _ _ _ _ _ "log_behind" (by decide +kernel), A, F, S, rfl, hP0, ok, q⟩

theorem ok_dgrow (T : Tx K mg) : FnOk P w K mg base CX0 2 T.f_dgrow T.fd_dgrow P_dgrow (spGrowD (DevAt T.C_Device)) := by
  have G_clen := ok_clen (P := P) (w := w) (base := base) T
  have sz : sizeLine = 16777216 := sizeLine_eq
  refine T.D_dgrow.F.ok sc_dgrow (fun vs H Q E h => ?_) (fun cdv A outer s H vs Q E hr h => ?_)
  · obtain ⟨A, d, F, S, ds, rfl, _⟩ := h
    rfl
  · obtain ⟨A, d, F, S, ds, rfl, hP, nd, hd, hl, lc, q⟩ := h
    refine ⟨_, (C8.pss_cut (ps_if (pt_val (pe_fld (pv 0) rfl)) (pss_one (ps_expr (pe_call G_clen (hr.mono (by decide)) (by rfl) T.D_clen.g T.D_clen.F.kp T.bb_clen .nil pass0 (pa_cons (pe_op op_add (pe_callB call_len_seq (by rfl) T.m_len PySem.boot_len (pa_cons (pe_fld (pv 0) rfl) pa_nil)) (pe_callB call_len_seq (by rfl) T.m_len PySem.boot_len (pa_cons (pv 1) pa_nil))) pa_nil)))) pss_nil)
      (pss_one (ps_expr (pe_bm PySem.F.plainAttrs_list PySem.F.slot_list_extend PySem.F.type_list_extend mt_extend (pe_fld (pv 0) rfl) (pa_cons (pv 1) pa_nil))))), ?_⟩
    obtain ⟨dd, vs, G, I, hF⟩ := hP
    refine ⟨fun σ' H' => σ' = [some (V.ref A.d), some (V.ref d)] ∧ H' = H, ?_, fun σ' H' hm => ?_⟩
    · refine ⟨.ref A.d, rfl, A.d, T.C_Device, dd, _, _, rfl, I.hd, T.cl_Device, T.n_Device_can_seek, dfs_seek _ _ _ _ _, S.seek, rfl, ?_⟩
      cases hs : S.seek with
      | false => exact iteF ⟨rfl, rfl⟩
      | true =>
        have h1 := hl hs
        refine iteT ?_
        refine ⟨.ref A.d, rfl, A.d, T.C_Device, dd, _, _, rfl, I.hd, T.cl_Device, T.n_Device_cells, dfs_cells _ _ _ _ _, A.c, _, rfl, .inl (sq_at I.hc), .ref d, rfl, d, _, rfl, .inl (sq_at hd), _, _, rfl, rfl, _, rfl, ?_, rfl, rfl⟩
        rw [List.length_map, List.length_map]; omega
    · obtain ⟨rfl, rfl⟩ := hm
      refine ⟨.ref A.d, rfl, A.d, T.C_Device, dd, _, _, rfl, I.hd, T.cl_Device, T.n_Device_cells, dfs_cells _ _ _ _ _, ?_⟩
      refine ⟨.inl ⟨rfl, _, sq_at I.hc⟩, _, rfl, A.c, d, _, _, rfl, rfl, I.hc, hd, ?_, ?_⟩
      · rw [List.length_map, List.length_map]; omega
      rw [← List.map_append]
      exact q _ ⟨dd, vs, G, I.setc (S.cells ++ ds), hF⟩ (own_dev hF (.inr (.inl rfl)))

theorem ok_rinit (T : Tx K mg) : FnOk P w K mg base CX0 1 T.f_rinit T.fd_rinit P_rinit (spRInitB K) := by
  have sz : sizeLine = 16777216 := sizeLine_eq
  refine T.D_rinit.F.ok sc_rinit (fun vs H Q E h => ?_) (fun cdv A outer s H vs Q E hr h => ?_)
  · obtain ⟨e, C, dx, k, rfl, _⟩ := h
    rfl
  · obtain ⟨e, C, dx, k, rfl, he, hC, n1, n2, n3, n4, q⟩ := h
    refine ⟨_, (pss_cons (ps_fld (pv 0) (pv 1) rfl)
      (pss_cons (ps_fld (pv 0) pe_int rfl)
      (pss_cons (ps_fld (pv 0) pe_bl rfl)
      (pss_one (ps_fld (pv 0) (pe_lst pa_nil) rfl))))), ?_⟩
    refine ⟨_, rfl, .ref e, rfl, e, C, dx, [], rfl, he, hC, n1, by show 0 < 1000; decide, ?_⟩
    refine ⟨.ref e, rfl, e, C, dx, _, rfl, upd_same, hC, n2, by show 1 < 1000; decide, ?_⟩
    refine ⟨.ref e, rfl, e, C, dx, _, rfl, upd_same, hC, n3, by show 2 < 1000; decide, ?_⟩
    rw [upd_upd, upd_upd]
    refine ⟨by show (0 : Nat) ≤ sizeLine; omega, fun l nl => ?_⟩
    have el : e ≠ l := ne_of_none upd_same nl
    refine ⟨.ref e, rfl, e, C, dx, _, rfl, by rw [upd_ne el]; exact upd_same, hC, n4, by show 3 < 1000; decide, ?_⟩
    have nl0 : H l = none := by rw [upd_ne el.symm] at nl; exact nl
    refine q _ l nl0 (by rw [upd_ne el.symm]; exact upd_same) upd_same (fun b o nb eb => ?_)
    rw [upd_ne (by simpa using nb), upd_ne (ne_of_none eb nl0), upd_ne (by simpa using nb)]
    exact eb

theorem ok_dinit (T : Tx K mg) : FnOk P w K mg base CX0 2 T.f_dinit T.fd_dinit P_dinit (spDInit T.C_Device (DevAt T.C_Device)) := by
  have G_rinit := ok_rinit (P := P) (w := w) (base := base) T
  have sz : sizeLine = 16777216 := sizeLine_eq
  refine T.D_dinit.F.ok sc_dinit (fun vs H Q E h => ?_) (fun cdv A outer s H vs Q E hr h => ?_)
  · obtain ⟨d, dd, a, p, k, row, plan, rfl, _⟩ := h
    rfl
  · obtain ⟨d, dd, a, p, k, row, plan, rfl, hd, ha, hp, q⟩ := h
    refine ⟨_, (pss_cons (ps_expr (Sip.pe_cfn (pe_glob (v := .ref T.C_Raw) (by rfl) T.g_Raw rfl) T.cr_Raw T.cv_rinit T.D_rinit.F.kp G_rinit (hr.mono (by decide)) T.bb_rinit .nil pass0 (pa_cons (pv 0) (pa_cons (pe_callTy call_bool1 (by rfl) T.m_bool (by decide +kernel) (pa_cons (pv 3) pa_nil)) pa_nil))))
      (pss_cons (ps_fld (pv 0) (pe_callTy call_list_of (by rfl) T.m_list (by decide +kernel) (pa_cons (pv 1) pa_nil)) rfl)
      (pss_cons (ps_fld (pv 0) (pe_callTy call_list_of (by rfl) T.m_list (by decide +kernel) (pa_cons (pv 2) pa_nil)) rfl)
      (pss_one (ps_fld (pv 0) pe_int rfl))))), ?_⟩
    have ad : a ≠ d := lst_ins ha hd
    have pd : p ≠ d := lst_ins hp hd
    refine ⟨rfl, .ref d, rfl, .bl k, rfl, .inr ⟨k, rfl, d, T.C_Device, dd, k, rfl, hd, T.cl_Device, T.n_Device_can_seek, T.n_Device_spot, T.n_Device_barred, T.n_Device_notes, fun H1 l nl el ee k1 => ?_⟩⟩
    have ha1 := k1 _ _ (by simpa using ad) ha
    have hp1 := k1 _ _ (by simpa using pd) hp
    have ld : l ≠ d := fun z => by rw [z, hd] at nl; cases nl
    refine ⟨.ref a, rfl, a, _, rfl, .inl (sq_at ha1), fun c nc => ?_⟩
    have cd : c ≠ d := fun z => by rw [z, ee] at nc; cases nc
    have cl : c ≠ l := fun z => by rw [z, el] at nc; cases nc
    refine ⟨.ref d, rfl, d, T.C_Device, dd, _, rfl, by rw [upd_ne cd.symm]; exact ee, T.cl_Device, T.n_Device_cells, by show 4 < 1000; decide, ?_⟩
    generalize hG : upd (upd H1 c _) d _ = H2
    have ed2 : H2 d = some (.ins T.C_Device dd (putF ("cells" : Str) (.ref c) (putF ("notes" : Str) (.ref l) (putF ("barred" : Str) (.bl false) (putF ("spot" : Str) (.int 0) (putF ("can_seek" : Str) (.bl k) [])))))) := by rw [← hG]; exact upd_same
    have k2 : Kp [d] H1 H2 := fun b o nb e => by rw [← hG, upd_ne (by simpa using nb), upd_ne (ne_of_none e nc)]; exact e
    have ec2 : H2 c = some (.lst (row.map V.int)) := by rw [← hG, upd_ne cd]; exact upd_same
    have el2 : H2 l = some (.lst []) := k2 _ _ (by simpa using ld) el
    have hp2 := k2 _ _ (by simpa using pd) hp1
    clear hG
    refine ⟨.ref p, rfl, p, _, rfl, .inl (sq_at hp2), fun pp np => ?_⟩
    have ppd : pp ≠ d := fun z => by rw [z, ed2] at np; cases np
    have ppc : c ≠ pp := ne_of_none ec2 np
    have ppl : pp ≠ l := fun z => by rw [z, el2] at np; cases np
    refine ⟨.ref d, rfl, d, T.C_Device, dd, _, rfl, by rw [upd_ne ppd.symm]; exact ed2, T.cl_Device, T.n_Device_plan, by show 5 < 1000; decide, ?_⟩
    refine ⟨.ref d, rfl, d, T.C_Device, dd, _, rfl, upd_same, T.cl_Device, T.n_Device_used, by show 6 < 1000; decide, ?_⟩
    rw [upd_upd, dfs_new ⟨d, c, pp, l⟩ k]
    have nc0 : H c = none := by
      cases e : H c with
      | none => rfl
      | some o => rw [k1 c o (by simpa using cd) e] at nc; cases nc
    have np0 : H pp = none := by
      cases e : H pp with
      | none => rfl
      | some o => rw [k2 pp o (by simpa using ppd) (k1 pp o (by simpa using ppd) e)] at np; cases np
    refine q _ ⟨d, c, pp, l⟩ (fun b => Own4 ⟨d, c, pp, l⟩ b ∨ False) rfl ⟨dd, [], fun _ => False, ⟨upd_same, ?_, ?_, ?_, trivial, fun _ z => z.elim, fun _ z => z.elim, ppc, cl, ppl⟩, fun b => Iff.rfl⟩ ⟨fun b o nb e => ?_, fun b z => ?_⟩
    · show (upd _ d _) c = _
      rw [upd_ne cd, upd_ne ppc]; exact ec2
    · show (upd _ d _) pp = _
      rw [upd_ne ppd]; exact upd_same
    · show (upd _ d _) l = _
      rw [upd_ne ld, upd_ne (fun z => ppl z.symm)]; exact el2
    · have bd : b ≠ d := fun z => nb (.inl z)
      rw [upd_ne bd, upd_ne (ne_of_none (k2 b o (by simpa using bd) (k1 b o (by simpa using bd) e)) np)]
      exact k2 b o (by simpa using bd) (k1 b o (by simpa using bd) e)
    · rcases z with (z | z | z | z) | z
      · exact .inl (.inl z)
      · exact .inr (by rw [show b = c from z]; exact nc0)
      · exact .inr (by rw [show b = pp from z]; exact np0)
      · exact .inr (by rw [show b = l from z]; exact nl)
      · exact z.elim

theorem ok_lrow (T : Tx K mg) : FnOk P w K mg base CX0 2 T.f_lrow T.fd_lrow P_lrow (spRowL) := by
  have G_take := ok_take (P := P) (w := w) (base := base) T
  have sz : sizeLine = 16777216 := sizeLine_eq
  refine T.D_lrow.F.ok sc_lrow (fun vs H Q E h => ?_) (fun cdv A outer s H vs Q E hr h => ?_)
  · obtain ⟨p, n, N, o, rfl, _⟩ := h
    rfl
  · obtain ⟨p, n, N, o, rfl, hp, hP, n9, N0, N1, q⟩ := h
    refine ⟨_, (pss_cons (ps_set (i := 2) sc_lrow.nd rfl (.inl rfl) (pe_lst pa_nil))
      (pss_cons (ps_for PassesOwn.never rfl (pi_range1 (by rfl) T.m_range (pa_cons (pe_call G_take (hr.mono (by decide)) (by rfl) T.D_take.g T.D_take.F.kp T.bb_take .nil pass0 (pa_cons (pv 0) (pa_cons (pe_op op_add (pv 1) pe_int) pa_nil))) pa_nil)) (pg_name (i := 3) sc_lrow.nd rfl (.inl rfl)) (pss_cons (ps_set (i := 4) sc_lrow.nd rfl (.inl rfl) (pe_call G_take (hr.mono (by decide)) (by rfl) T.D_take.g T.D_take.F.kp T.bb_take .nil pass0 (pa_cons (pv 0) (pa_cons pe_int pa_nil))))
      (pss_one (ps_if (pt_cmpR op_lt (pv 4) pe_int (nomark _)) (pss_one (ps_expr (pe_bm PySem.F.plainAttrs_list PySem.F.slot_list_append PySem.F.type_list_append mt_append (pv 2) (pa_cons (pe_ix ix_list (pe_lst (pa_cons pe_int (pa_cons pe_int (pa_cons pe_int (pa_cons pe_int (pa_cons pe_int pa_nil)))))) (pv 4) (fun _ _ => rfl)) pa_nil)))) (pss_one (ps_expr (pe_bm PySem.F.plainAttrs_list PySem.F.slot_list_append PySem.F.type_list_append mt_append (pv 2) (pa_cons (pe_call G_take (hr.mono (by decide)) (by rfl) T.D_take.g T.D_take.F.kp T.bb_take .nil pass0 (pa_cons (pv 0) (pa_cons pe_int pa_nil))) pa_nil))))))))
      (pss_one (ps_ret (pv 2))))), ?_⟩
    refine ⟨Nat.zero_le _, fun a na => ?_⟩
    have pa : p ≠ a := ne_of_none hp na
    have s1 : Same H (upd H a (.lst [])) := (Kp.new (ps := []) na).same
    refine ⟨.ref p, rfl, .int N, rfl, _, _, rfl, rfl, p, n, _, o, rfl, s1 _ _ hp, hP, by omega, by omega, by omega, fun z o1 r0 r1 hP1 => ?_⟩
    have k2 : Kp [p] H (upd (upd H a (.lst [])) p o1) := (Kp.new na).trans (Kp.at (by simp))
    refine ⟨z, rfl, by omega, by omega, for_range (lo := 0) (n := z.toNat) (fun i σ H' => ∃ (bs : List Int) (o2 : HO) (y y' : Option V), σ = [some (.ref p), some (.int N), some (.ref a), y, y'] ∧ H' a = some (.lst (bs.map V.int)) ∧ bs.length = i ∧ Bytes bs ∧ H' p = some o2 ∧ PoolO (n + 1 + 2 * i) o2 ∧ Kp [p] H H') ?_ (fun i σ H' hi hW => ?_) (fun σ H' hW => ?_)⟩
    · exact ⟨[], o1, none, none, rfl, by rw [upd_ne pa.symm]; exact upd_same, rfl, fun b hb => by simp at hb, upd_same, hP1.up (by omega), k2⟩
    · obtain ⟨bs, o2, y, y', rfl, ea, eb, hb, ep, hP2, kk⟩ := hW
      have fit : (bs.map V.int).length < sizeLine := by rw [List.length_map]; exact small1000 (by omega)
      refine ⟨.ref p, rfl, p, _, 8, o2, rfl, ep, hP2, by omega, by decide, by decide, fun r2 o3 w0 w1 hP3 => ?_⟩
      have ea3 : (upd H' p o3) a = some (.lst (bs.map V.int)) := by rw [upd_ne pa.symm]; exact ea
      have k3 : Kp [p] H (upd H' p o3) := kk.trans (Kp.at (by simp))
      refine ⟨.int r2, rfl, _, _, rfl, rfl, _, rfl, ite2 (fun e => ?_) (fun e => ?_)⟩
      · have e5 : r2 < 5 := of_decide_eq_true e
        refine ⟨.ref a, rfl, .inl ⟨rfl, _, sq_at ea3⟩, by show (5 : Nat) ≤ sizeLine; decide, fun l2 nl2 => ?_⟩
        have pl2 : p ≠ l2 := ne_of_none (upd_same : (upd H' p o3) p = some o3) nl2
        have al2 : a ≠ l2 := ne_of_none ea3 nl2
        obtain ⟨v, mv, ev, _⟩ := atI_int (ms := [0, 10, 10, 13, 255]) (i := r2) w0 e5
        have vb : 0 ≤ v ∧ v ≤ 255 := (show ∀ y ∈ ([0, 10, 10, 13, 255] : List Int), 0 ≤ y ∧ y ≤ 255 by decide) v mv
        refine ⟨_, rfl, l2, _, r2, .int v, rfl, rfl, .inl (.inl (by rw [upd_same]; rfl)), ev, a, bs.map V.int, .int v, rfl, rfl, by rw [upd_ne al2]; exact ea3, fit, ?_⟩
        refine ⟨bs ++ [v], o3, _, _, rfl, by rw [upd_same, List.map_append]; rfl, by rw [List.length_append, eb]; rfl, ?_, by rw [upd_ne pa, upd_ne pl2]; exact upd_same, hP3.up (by omega), (k3.trans (Kp.new nl2)).put na⟩
        intro b hb2
        rcases List.mem_append.mp hb2 with hb3 | hb3
        · exact hb b hb3
        · rw [List.mem_singleton.mp hb3]; exact vb
      · refine ⟨.ref a, rfl, .inl ⟨rfl, _, sq_at ea3⟩, .ref p, rfl, p, _, 256, o3, rfl, upd_same, hP3, by omega, by decide, by decide, fun v o4 t0 t1 hP4 => ?_⟩
        refine ⟨a, bs.map V.int, .int v, rfl, rfl, by rw [upd_ne pa.symm]; exact ea3, fit, ?_⟩
        refine ⟨bs ++ [v], o4, _, _, rfl, by rw [upd_same, List.map_append]; rfl, by rw [List.length_append, eb]; rfl, ?_, by rw [upd_ne pa]; exact upd_same, hP4.up (by omega), (k3.trans (Kp.at (by simp))).put na⟩
        intro b hb2
        rcases List.mem_append.mp hb2 with hb3 | hb3
        · exact hb b hb3
        · rw [List.mem_singleton.mp hb3]; exact ⟨t0, by omega⟩
    · obtain ⟨bs, o2, y, y', rfl, ea, eb, hb, ep, hP2, kk⟩ := hW
      exact ⟨.ref a, rfl, q H' a bs o2 na ea ep (hP2.up (by omega)) kk (by omega) hb⟩

theorem ok_lplan (T : Tx K mg) : FnOk P w K mg base CX0 2 T.f_lplan T.fd_lplan P_lplan (spPlanM) := by
  have G_take := ok_take (P := P) (w := w) (base := base) T
  have sz : sizeLine = 16777216 := sizeLine_eq
  refine T.D_lplan.F.ok sc_lplan (fun vs H Q E h => ?_) (fun cdv A outer s H vs Q E hr h => ?_)
  · obtain ⟨p, n, N, tr, o, rfl, _⟩ := h
    rfl
  · obtain ⟨p, n, N, tr, o, rfl, hp, hP, n9, N0, N1, q⟩ := h
    refine ⟨_, (pss_cons (ps_set (i := 3) sc_lplan.nd rfl (.inl rfl) (pe_lst pa_nil))
      (pss_cons (ps_for PassesOwn.never rfl (pi_range1 (by rfl) T.m_range (pa_cons (pe_call G_take (hr.mono (by decide)) (by rfl) T.D_take.g T.D_take.F.kp T.bb_take .nil pass0 (pa_cons (pv 0) (pa_cons (pe_op op_add (pv 1) pe_int) pa_nil))) pa_nil)) (pg_name (i := 4) sc_lplan.nd rfl (.inl rfl)) (pss_cons (ps_set (i := 5) sc_lplan.nd rfl (.inl rfl) (pe_call G_take (hr.mono (by decide)) (by rfl) T.D_take.g T.D_take.F.kp T.bb_take .nil pass0 (pa_cons (pv 0) (pa_cons pe_int pa_nil))))
      (pss_one (ps_if (PW.pt (pw_and (pt_cmpR op_lt (pv 5) pe_int (nomark _)) (pw_and1 (pt_cmpR op_eq (pe_op op_mod (pv 2) pe_int) pe_int (nomark _))))) (pss_one (ps_expr (pe_bm PySem.F.plainAttrs_list PySem.F.slot_list_append PySem.F.type_list_append mt_append (pv 3) (pa_cons pe_int pa_nil)))) (pss_one (ps_if (PW.pt (pw_and (pt_cmpR op_eq (pv 5) pe_int (nomark _)) (pw_and1 (pt_cmpR op_gt (pv 2) pe_int (nomark _))))) (pss_one (ps_expr (pe_bm PySem.F.plainAttrs_list PySem.F.slot_list_append PySem.F.type_list_append mt_append (pv 3) (pa_cons (pe_op op_sub (pe_un un_neg pe_int) (pe_call G_take (hr.mono (by decide)) (by rfl) T.D_take.g T.D_take.F.kp T.bb_take .nil pass0 (pa_cons (pv 0) (pa_cons pe_int pa_nil)))) pa_nil)))) (pss_one (ps_expr (pe_bm PySem.F.plainAttrs_list PySem.F.slot_list_append PySem.F.type_list_append mt_append (pv 3) (pa_cons (pe_op op_add pe_int (pe_call G_take (hr.mono (by decide)) (by rfl) T.D_take.g T.D_take.F.kp T.bb_take .nil pass0 (pa_cons (pv 0) (pa_cons (pe_ix ix_list (pe_lst (pa_cons pe_int (pa_cons pe_int (pa_cons pe_int (pa_cons pe_int pa_nil))))) (pe_call G_take (hr.mono (by decide)) (by rfl) T.D_take.g T.D_take.F.kp T.bb_take .nil pass0 (pa_cons (pv 0) (pa_cons pe_int pa_nil))) (fun _ _ => rfl)) pa_nil)))) pa_nil))))))))))
      (pss_one (ps_ret (pv 3))))), ?_⟩
    refine ⟨Nat.zero_le _, fun a na => ?_⟩
    have pa : p ≠ a := ne_of_none hp na
    have s1 : Same H (upd H a (.lst [])) := (Kp.new (ps := []) na).same
    refine ⟨.ref p, rfl, .int N, rfl, _, _, rfl, rfl, p, n, _, o, rfl, s1 _ _ hp, hP, by omega, by omega, by omega, fun z o1 r0 r1 hP1 => ?_⟩
    have k2 : Kp [p] H (upd (upd H a (.lst [])) p o1) := (Kp.new na).trans (Kp.at (by simp))
    refine ⟨z, rfl, by omega, by omega, for_range (lo := 0) (n := z.toNat) (fun i σ H' => ∃ (bs : List Int) (o2 : HO) (y y' : Option V), σ = [some (.ref p), some (.int N), some (.int tr), some (.ref a), y, y'] ∧ H' a = some (.lst (bs.map V.int)) ∧ bs.length = i ∧ PlanOk tr bs ∧ H' p = some o2 ∧ PoolO (n + 1 + 3 * i) o2 ∧ Kp [p] H H') ?_ (fun i σ H' hi hW => ?_) (fun σ H' hW => ?_)⟩
    · exact ⟨[], o1, none, none, rfl, by rw [upd_ne pa.symm]; exact upd_same, rfl, (fun k hk => by cases hk), upd_same, hP1.up (by omega), k2⟩
    · obtain ⟨bs, o2, y, y', rfl, ea, eb, hB, ep, hP2, kk⟩ := hW
      have fit : (bs.map V.int).length < sizeLine := by rw [List.length_map]; exact small1000 (by omega)
      refine ⟨.ref p, rfl, p, _, 8, o2, rfl, ep, hP2, by omega, by decide, by decide, fun r2 o3 w0 w1 hP3 => ?_⟩
      have ea3 : (upd H' p o3) a = some (.lst (bs.map V.int)) := by rw [upd_ne pa.symm]; exact ea
      have k3 : Kp [p] H (upd H' p o3) := kk.trans (Kp.at (by simp))
      by_cases c1 : r2 < 2 ∧ tr % 2 = 1
      · refine ⟨_, rfl, _, _, rfl, rfl, _, rfl, iteTc (decide_eq_true c1.1) ?_⟩
        refine ⟨_, rfl, _, _, rfl, rfl, by show (0 : Int) < 2; decide, rfl, _, rfl, iteTc (decide_eq_true (congrArg V.int c1.2)) ?_⟩
        refine ⟨.ref a, rfl, .inl ⟨rfl, _, sq_at ea3⟩, a, bs.map V.int, .int 0, rfl, rfl, ea3, fit, ?_⟩
        exact ⟨bs ++ [0], o3, _, _, rfl, by rw [upd_same, List.map_append]; rfl, by rw [List.length_append, eb]; rfl, hB.snoc ⟨fun _ => by omega, fun _ => by omega, by omega, by omega⟩, by rw [upd_ne pa]; exact upd_same, hP3.up (by omega), k3.put na⟩
      · refine ⟨_, rfl, _, _, rfl, rfl, _, rfl, ?_⟩
        by_cases a1 : r2 < 2
        · refine iteTc (decide_eq_true a1) ?_
          refine ⟨_, rfl, _, _, rfl, rfl, by show (0 : Int) < 2; decide, rfl, _, rfl, iteFc (decide_eq_false (fun z => c1 ⟨a1, V.int.inj z⟩)) ?_⟩
          refine ⟨_, rfl, rfl, _, rfl, iteFc (decide_eq_false (fun z => by have := V.int.inj z; omega)) (iteF ?_)⟩
          refine ⟨.ref a, rfl, .inl ⟨rfl, _, sq_at ea3⟩, .ref p, rfl, by show (4 : Nat) ≤ sizeLine; omega, fun l2 nl2 => ?_⟩
          have pl2 : p ≠ l2 := ne_of_none (upd_same : (upd H' p o3) p = some o3) nl2
          have al2 : a ≠ l2 := ne_of_none ea3 nl2
          refine ⟨_, rfl, p, _, 4, o3, rfl, by rw [upd_ne pl2]; exact upd_same, hP3, by omega, by decide, by decide, fun r4 o4 x0 x1 hP4 => ?_⟩
          obtain ⟨v, mv, ev, _⟩ := atI_int (ms := [3, 3, 9, 400]) (i := r4) x0 x1
          have vb : 1 ≤ v ∧ v ≤ 400 := (show ∀ y ∈ ([3, 3, 9, 400] : List Int), 1 ≤ y ∧ y ≤ 400 by decide) v mv
          refine ⟨l2, _, r4, .int v, rfl, rfl, .inl (.inl (by rw [upd_ne pl2.symm, upd_same]; rfl)), ev, p, _, v, o4, rfl, upd_same, hP4, by omega, by omega, by omega, fun r5 o5 u0 u1 hP5 => ?_⟩
          refine ⟨_, _, rfl, rfl, a, bs.map V.int, _, rfl, rfl, by rw [upd_ne pa.symm, upd_ne pa.symm, upd_ne al2]; exact ea3, fit, ?_⟩
          exact ⟨bs ++ [1 + r5], o5, _, _, rfl, by rw [upd_same, List.map_append]; rfl, by rw [List.length_append, eb]; rfl, hB.snoc ⟨fun _ => by omega, fun _ => by omega, by omega, by omega⟩, by rw [upd_ne pa]; exact upd_same, hP5.up (by omega), (((k3.trans (Kp.new nl2)).trans (Kp.at (by simp))).trans (Kp.at (by simp))).put na⟩
        · refine iteFc (decide_eq_false a1) (iteF ?_)
          refine ⟨_, rfl, rfl, _, rfl, ?_⟩
          by_cases a2 : r2 = 7
          · refine iteTc (decide_eq_true (by rw [a2])) ?_
            refine ⟨_, rfl, _, _, rfl, rfl, _, rfl, ?_⟩
            by_cases a3 : 1 < tr
            · refine iteTc (decide_eq_true a3) ?_
              refine ⟨.ref a, rfl, .inl ⟨rfl, _, sq_at ea3⟩, _, rfl, .ref p, rfl, p, _, 99, o3, rfl, upd_same, hP3, by omega, by decide, by decide, fun r4 o4 x0 x1 hP4 => ?_⟩
              refine ⟨_, _, rfl, rfl, a, bs.map V.int, _, rfl, rfl, by rw [upd_ne pa.symm]; exact ea3, fit, ?_⟩
              exact ⟨bs ++ [-1 - r4], o4, _, _, rfl, by rw [upd_same, List.map_append]; rfl, by rw [List.length_append, eb]; rfl, hB.snoc ⟨fun _ => by omega, fun _ => by omega, by omega, by omega⟩, by rw [upd_ne pa]; exact upd_same, hP4.up (by omega), (k3.trans (Kp.at (by simp))).put na⟩
            · refine iteFc (decide_eq_false a3) ?_
              refine ⟨.ref a, rfl, .inl ⟨rfl, _, sq_at ea3⟩, .ref p, rfl, by show (4 : Nat) ≤ sizeLine; omega, fun l2 nl2 => ?_⟩
              have pl2 : p ≠ l2 := ne_of_none (upd_same : (upd H' p o3) p = some o3) nl2
              have al2 : a ≠ l2 := ne_of_none ea3 nl2
              refine ⟨_, rfl, p, _, 4, o3, rfl, by rw [upd_ne pl2]; exact upd_same, hP3, by omega, by decide, by decide, fun r4 o4 x0 x1 hP4 => ?_⟩
              obtain ⟨v, mv, ev, _⟩ := atI_int (ms := [3, 3, 9, 400]) (i := r4) x0 x1
              have vb : 1 ≤ v ∧ v ≤ 400 := (show ∀ y ∈ ([3, 3, 9, 400] : List Int), 1 ≤ y ∧ y ≤ 400 by decide) v mv
              refine ⟨l2, _, r4, .int v, rfl, rfl, .inl (.inl (by rw [upd_ne pl2.symm, upd_same]; rfl)), ev, p, _, v, o4, rfl, upd_same, hP4, by omega, by omega, by omega, fun r5 o5 u0 u1 hP5 => ?_⟩
              refine ⟨_, _, rfl, rfl, a, bs.map V.int, _, rfl, rfl, by rw [upd_ne pa.symm, upd_ne pa.symm, upd_ne al2]; exact ea3, fit, ?_⟩
              exact ⟨bs ++ [1 + r5], o5, _, _, rfl, by rw [upd_same, List.map_append]; rfl, by rw [List.length_append, eb]; rfl, hB.snoc ⟨fun _ => by omega, fun _ => by omega, by omega, by omega⟩, by rw [upd_ne pa]; exact upd_same, hP5.up (by omega), (((k3.trans (Kp.new nl2)).trans (Kp.at (by simp))).trans (Kp.at (by simp))).put na⟩
          · refine iteFc (decide_eq_false (fun z => a2 (V.int.inj z))) (iteF ?_)
            refine ⟨.ref a, rfl, .inl ⟨rfl, _, sq_at ea3⟩, .ref p, rfl, by show (4 : Nat) ≤ sizeLine; omega, fun l2 nl2 => ?_⟩
            have pl2 : p ≠ l2 := ne_of_none (upd_same : (upd H' p o3) p = some o3) nl2
            have al2 : a ≠ l2 := ne_of_none ea3 nl2
            refine ⟨_, rfl, p, _, 4, o3, rfl, by rw [upd_ne pl2]; exact upd_same, hP3, by omega, by decide, by decide, fun r4 o4 x0 x1 hP4 => ?_⟩
            obtain ⟨v, mv, ev, _⟩ := atI_int (ms := [3, 3, 9, 400]) (i := r4) x0 x1
            have vb : 1 ≤ v ∧ v ≤ 400 := (show ∀ y ∈ ([3, 3, 9, 400] : List Int), 1 ≤ y ∧ y ≤ 400 by decide) v mv
            refine ⟨l2, _, r4, .int v, rfl, rfl, .inl (.inl (by rw [upd_ne pl2.symm, upd_same]; rfl)), ev, p, _, v, o4, rfl, upd_same, hP4, by omega, by omega, by omega, fun r5 o5 u0 u1 hP5 => ?_⟩
            refine ⟨_, _, rfl, rfl, a, bs.map V.int, _, rfl, rfl, by rw [upd_ne pa.symm, upd_ne pa.symm, upd_ne al2]; exact ea3, fit, ?_⟩
            exact ⟨bs ++ [1 + r5], o5, _, _, rfl, by rw [upd_same, List.map_append]; rfl, by rw [List.length_append, eb]; rfl, hB.snoc ⟨fun _ => by omega, fun _ => by omega, by omega, by omega⟩, by rw [upd_ne pa]; exact upd_same, hP5.up (by omega), (((k3.trans (Kp.new nl2)).trans (Kp.at (by simp))).trans (Kp.at (by simp))).put na⟩
    · obtain ⟨bs, o2, y, y', rfl, ea, eb, hB, ep, hP2, kk⟩ := hW
      exact ⟨.ref a, rfl, q H' a bs o2 na ea ep (hP2.up (by omega)) kk (by omega) hB⟩

theorem ok_llaid (T : Tx K mg) : FnOk P w K mg base CX0 1 T.f_llaid T.fd_llaid P_llaid (spLaidW) := by
  have sz : sizeLine = 16777216 := sizeLine_eq
  refine T.D_llaid.F.ok sc_llaid (fun vs H Q E h => ?_) (fun cdv A outer s H vs Q E hr h => ?_)
  · obtain ⟨a, b, r, ds, n, rfl, _⟩ := h
    rfl
  · obtain ⟨a, b, r, ds, n, rfl, ha, hb, lr, ln, ld, q⟩ := h
    refine ⟨_, (pss_cons (ps_if (pt_cmpR op_eq (pe_callB call_len_seq (by rfl) T.m_len PySem.boot_len (pa_cons (pv 2) pa_nil)) pe_int (nomark _)) (pss_one (ps_ret (pe_callTy call_list_of (by rfl) T.m_list (by decide +kernel) (pa_cons (pv 0) pa_nil)))) pss_nil)
      (pss_cons (ps_set (i := 3) sc_llaid.nd rfl (.inl rfl) (pe_op op_cat (pv 0) (pe_op op_rep (pe_lst (pa_cons pe_int pa_nil)) (pe_op op_sub (pv 1) (pe_callB call_len_seq (by rfl) T.m_len PySem.boot_len (pa_cons (pv 0) pa_nil))))))
      (pss_one (ps_ret (pe_op op_cat (pe_op op_cat (pe_slice sl_list (pv 3) po_none (po_some (pv 1))) (pe_callTy call_list_of (by rfl) T.m_list (by decide +kernel) (pa_cons (pv 2) pa_nil))) (pe_slice sl_list (pv 3) (po_some (pe_op op_add (pv 1) (pe_callB call_len_seq (by rfl) T.m_len PySem.boot_len (pa_cons (pv 2) pa_nil)))) po_none)))))), ?_⟩
    refine ⟨.ref b, rfl, b, _, rfl, .inl (sq_at hb), rfl, _, rfl, ?_⟩
    by_cases d0 : ds = []
    · subst d0
      refine iteTc (decide_eq_true rfl) ?_
      exact ⟨.ref a, rfl, a, _, rfl, .inl (sq_at ha), fun z nz => q _ z nz (by rw [laidF_nil]; exact upd_same) (Kp.new (ps := []) nz).same⟩
    · have dl : ds.length ≠ 0 := fun z => d0 (List.length_eq_zero_iff.mp z)
      refine iteFc (decide_eq_false (fun z => by have := V.int.inj z; rw [List.length_map] at this; omega)) ?_
      refine ⟨.ref a, rfl, by show (1 : Nat) ≤ sizeLine; omega, fun l0 nl0 => ?_⟩
      have s0 := (Kp.new (ps := []) (o := HO.lst [.int 0]) nl0).same
      refine ⟨.int n, rfl, .ref a, rfl, a, _, rfl, .inl (sq_at (s0 _ _ ha)), _, _, rfl, rfl, l0, _, _, rfl, rfl, upd_same, by rw [List.length_map]; omega, by rw [List.length_map]; omega, by rw [List.length_map]; show 1 * _ ≤ _; omega, fun l1 nl1 => ?_⟩
      have s1 := s0.trans (Kp.new (ps := []) (o := HO.lst (List.replicate ((n : Int) - ((r.map V.int).length : Int)).toNat [V.int 0]).flatten) nl1).same
      have e1 : (List.replicate ((n : Int) - ((r.map V.int).length : Int)).toNat [V.int 0]).flatten = (List.replicate (n - r.length) (0 : Int)).map V.int := by
        rw [List.length_map, show ((n : Int) - (r.length : Int)).toNat = n - r.length by omega]
        induction (n - r.length) with
        | zero => rfl
        | succ m ih => rw [List.replicate_succ, List.replicate_succ, List.flatten_cons, ih]; rfl
      rw [e1] at s1 ⊢
      have el1 : (upd (upd H l0 (.lst [.int 0])) l1 (.lst ((List.replicate (n - r.length) (0 : Int)).map V.int))) l1 = some (.lst ((List.replicate (n - r.length) (0 : Int)).map V.int)) := upd_same
      generalize upd (upd H l0 (.lst [.int 0])) l1 (.lst ((List.replicate (n - r.length) (0 : Int)).map V.int)) = H1 at s1 el1 ⊢
      refine ⟨a, l1, _, _, rfl, rfl, s1 _ _ ha, el1, by rw [List.length_map, List.length_map, List.length_replicate]; omega, fun l2 nl2 => ?_⟩
      rw [← List.map_append]
      have lp : (r ++ List.replicate (n - r.length) (0 : Int)).length ≤ 200000 := by rw [List.length_append, List.length_replicate]; omega
      have eF := laidF_cons (r := r) (n := n) d0
      generalize r ++ List.replicate (n - r.length) (0 : Int) = pad at lp eF ⊢
      have s2 := s1.trans (Kp.new (ps := []) (o := HO.lst (pad.map V.int)) nl2).same
      have el2 : (upd H1 l2 (.lst (pad.map V.int))) l2 = some (.lst (pad.map V.int)) := upd_same
      generalize upd H1 l2 (.lst (pad.map V.int)) = H2 at s2 el2 ⊢
      refine ⟨.ref l2, rfl, _, rfl, _, rfl, l2, _, rfl, sq_at el2, fun l3 nl3 => ?_⟩
      rw [show cutV (pad.map V.int) none (some (n : Int)) = (pad.take n).map V.int from cut_O pad (some n)]
      have t3 := (Kp.new (ps := []) (o := HO.lst ((pad.take n).map V.int)) nl3).same
      have el3 : (upd H2 l3 (.lst ((pad.take n).map V.int))) l3 = some (.lst ((pad.take n).map V.int)) := upd_same
      generalize upd H2 l3 (.lst ((pad.take n).map V.int)) = H3 at t3 el3 ⊢
      have s3 := s2.trans t3
      refine ⟨.ref b, rfl, b, _, rfl, .inl (sq_at (s3 _ _ hb)), fun l4 nl4 => ?_⟩
      have t4 := (Kp.new (ps := []) (o := HO.lst (ds.map V.int)) nl4).same
      have el4 : (upd H3 l4 (.lst (ds.map V.int))) l4 = some (.lst (ds.map V.int)) := upd_same
      generalize upd H3 l4 (.lst (ds.map V.int)) = H4 at t4 el4 ⊢
      have lt : (pad.take n).length ≤ 200000 := by rw [List.length_take]; omega
      refine ⟨l3, l4, _, _, rfl, rfl, t4 _ _ el3, el4, by rw [List.length_map, List.length_map]; omega, fun l5 nl5 => ?_⟩
      rw [← List.map_append]
      have t5 := (Kp.new (ps := []) (o := HO.lst ((pad.take n ++ ds).map V.int)) nl5).same
      have el5 : (upd H4 l5 (.lst ((pad.take n ++ ds).map V.int))) l5 = some (.lst ((pad.take n ++ ds).map V.int)) := upd_same
      generalize upd H4 l5 (.lst ((pad.take n ++ ds).map V.int)) = H5 at t5 el5 ⊢
      have s5 := (t3.trans t4).trans t5
      refine ⟨.ref l2, rfl, .int n, rfl, .ref b, rfl, b, _, rfl, .inl (sq_at ((t4.trans t5) _ _ (s3 _ _ hb))), _, _, rfl, rfl, _, rfl, l2, _, rfl, sq_at (s5 _ _ el2), fun l6 nl6 => ?_⟩
      rw [List.length_map, show ((n : Int) + (ds.length : Int)) = ((n + ds.length : Nat) : Int) from rfl, drop_cut]
      have t6 := (Kp.new (ps := []) (o := HO.lst ((pad.drop (n + ds.length)).map V.int)) nl6).same
      refine ⟨l5, l6, _, _, rfl, rfl, t6 _ _ el5, upd_same, by rw [List.length_map, List.length_map, List.length_append, List.length_drop]; omega, fun l7 nl7 => ?_⟩
      rw [← List.map_append]
      have s6 := (s2.trans s5).trans t6
      exact q _ l7 (s6.free nl7) (by rw [eF]; exact upd_same) (s6.trans (Kp.new (ps := []) nl7).same)

theorem ok_ldevice (T : Tx K mg) : FnOk P w K mg base CX0 1 T.f_ldevice T.fd_ldevice P_ldevice (spDeviceF) := by
  have sz : sizeLine = 16777216 := sizeLine_eq
  refine T.D_ldevice.F.ok sc_ldevice (fun vs H Q E h => ?_) (fun cdv A outer s H vs Q E hr h => ?_)
  · obtain ⟨a, b, go, r, ps, M, R, rfl, _⟩ := h
    rfl
  · obtain ⟨a, b, go, r, ps, M, R, rfl, hS, hr_, hp_, q⟩ := h
    refine ⟨_, (pss_one (ps_ret (pe_disp (pps_cons pe_str (pe_callTy call_list_of (by rfl) T.m_list (by decide +kernel) (pa_cons (pv 0) pa_nil)) (pps_cons pe_str pe_int (pps_cons pe_str (pe_callTy call_list_of (by rfl) T.m_list (by decide +kernel) (pa_cons (pv 1) pa_nil)) (pps_cons pe_str (pe_lst pa_nil) pps_nil)))) (by rfl) (by rfl) (fun z => by cases z) (by decide)))), ?_⟩
    intro d nl_
    generalize hG_ : upd _ d _ = H
    have hS := Sat.alloc hS nl_ hG_
    clear nl_ hG_
    refine ⟨.ref a, rfl, a, _, rfl, .inl (sq_at (hS.fr (by walk_at "pu") hr_)), ?_⟩
    intro rw nl_
    generalize hG_ : upd _ rw _ = H
    have hS := Sat.alloc hS nl_ hG_
    clear nl_ hG_
    refine ⟨.ref b, rfl, b, _, rfl, .inl (sq_at (hS.fr (by walk_at "pu") hp_)), ?_⟩
    intro pl nl_
    generalize hG_ : upd _ pl _ = H
    have hS := Sat.alloc hS nl_ hG_
    clear nl_ hG_
    refine ⟨Nat.zero_le _, ?_⟩
    intro no nl_
    generalize hG_ : upd _ no _ = H
    have hS := Sat.alloc hS nl_ hG_
    clear nl_ hG_
    refine ⟨(hS.get (by walk_at "pu")), mK rw pl no 0, rfl, by show (4 : Nat) ≤ 15; decide, ?_⟩
    generalize hG_ : upd _ d _ = H
    have hS := Sat.put (a := d) (hS.pk (by walk_at "pk")) hG_
    clear hG_
    rw [show mergeK [] (mK rw pl no 0) = mK rw pl no 0 by unfold mK; kernel_rfl] at hS
    have hS : Sat H (.pt d (.dK (mK rw pl no 0)) :: .pt rw (.lst (r.map V.int)) :: .pt pl (.lst (ps.map V.int)) :: .pt no (.lst []) :: frC M :: R) := (hS.pk (by walk_at "pk"))
    exact q _ d (Sat.mdI (S := dst0 go r ps) (vs := []) trivial hS)

theorem ok_lasked (T : Tx K mg) : FnOk P w K mg base CX0 2 T.f_lasked T.fd_lasked P_lasked (spAskedM) := by
  have G_llaid := (ok_llaid (P := P) (w := w) (base := base) T).imp fun _ _ _ _ => spLaidS.to
  have sz : sizeLine = 16777216 := sizeLine_eq
  refine T.D_lasked.F.ok sc_lasked (fun vs H Q E h => ?_) (fun cdv A outer s H vs Q E hr h => ?_)
  · obtain ⟨m, S, a, hv, M, R, rfl, _⟩ := h
    rfl
  · obtain ⟨m, S, a, hv, M, R, rfl, hS, hh, uo, l1, l2, l3, l4, ao, q⟩ := h
    refine ⟨_, (pss_cons (ps_set (i := 3) sc_lasked.nd rfl (.inl rfl) (pe_op op_pow pe_int pe_int))
      (C8.pss_cut (ps_if (pt_cmpR op_lt (pe_callB call_len_seq (by rfl) T.m_len PySem.boot_len (pa_cons (pe_dget (hu_of hr) (pv 0) pe_str (fun _ _ => rfl)) pa_nil)) (pe_callB call_len_seq (by rfl) T.m_len PySem.boot_len (pa_cons (pe_dget (hu_of hr) (pv 0) pe_str (fun _ _ => rfl)) pa_nil)) (nomark _)) (pss_one (ps_set (i := 3) sc_lasked.nd rfl (.inl rfl) (pe_ix ix_list (pe_dget (hu_of hr) (pv 0) pe_str (fun _ _ => rfl)) (pe_callB call_len_seq (by rfl) T.m_len PySem.boot_len (pa_cons (pe_dget (hu_of hr) (pv 0) pe_str (fun _ _ => rfl)) pa_nil)) (fun _ _ => rfl)))) pss_nil)
      (pss_cons (ps_set (i := 4) sc_lasked.nd rfl (.inl rfl) (pe_dget (hu_of hr) (pv 0) pe_str (fun _ _ => rfl)))
      (pss_cons (ps_set (i := 5) sc_lasked.nd rfl (.inl rfl) pe_int)
      (C8.pss_cut (ps_if (pt_cmpR op_lt (pv 3) pe_int (nomark _)) (pss_one (ps_set (i := 5) sc_lasked.nd rfl (.inl rfl) pe_str)) (pss_one (ps_if (PW.pt (pw_and (pt_cmpR op_eq (pv 3) pe_int (nomark _)) (pw_and1 (pt_cmpR op_in_seq (pv 1) (pe_lst (pa_cons pe_str (pa_cons pe_str pa_nil))) rfl)))) (pss_one (ps_set (i := 5) sc_lasked.nd rfl (.inl rfl) pe_str)) (pss_one (ps_if (pt_cmpR op_eq (pv 1) pe_str (nomark _)) (pss_cons (ps_set (i := 5) sc_lasked.nd rfl (.inl rfl) (pe_slice sl_list (pe_dget (hu_of hr) (pv 0) pe_str (fun _ _ => rfl)) (po_some (pv 4)) (po_some (pe_op op_add (pv 4) (pe_callB (call_min2 rfl) (by rfl) T.m_min (by decide +kernel) (pa_cons (pv 2) (pa_cons (pv 3) pa_nil)))))))
      (pss_one (ps_asg (pe_op op_add (pv 4) (pe_callB call_len_seq (by rfl) T.m_len PySem.boot_len (pa_cons (pv 5) pa_nil))) (pg_sub (pv 0) pe_str (set_dict (hu_of hr)))))) (pss_one (ps_if (pt_cmpR op_eq (pv 1) pe_str (nomark _)) (pss_cons (ps_set (i := 5) sc_lasked.nd rfl (.inl rfl) (pe_callB (call_min2 rfl) (by rfl) T.m_min (by decide +kernel) (pa_cons (pe_callB call_len_seq (by rfl) T.m_len PySem.boot_len (pa_cons (pv 2) pa_nil)) (pa_cons (pv 3) pa_nil))))
      (pss_cons (ps_asg (pe_call G_llaid (hr.mono (by decide)) (by rfl) T.D_llaid.g T.D_llaid.F.kp T.bb_llaid .nil pass0 (pa_cons (pe_dget (hu_of hr) (pv 0) pe_str (fun _ _ => rfl)) (pa_cons (pv 4) (pa_cons (pe_slice sl_list (pv 2) po_none (po_some (pv 5))) pa_nil)))) (pg_sub (pv 0) pe_str (set_dict (hu_of hr))))
      (pss_one (ps_asg (pe_op op_add (pv 4) (pv 5)) (pg_sub (pv 0) pe_str (set_dict (hu_of hr))))))) (pss_one (ps_if (pt_cmpR op_eq (pv 1) pe_str (nomark _)) (pss_one (ps_asg (pv 2) (pg_sub (pv 0) pe_str (set_dict (hu_of hr))))) (pss_one (ps_asg (pe_slice sl_list (pe_dget (hu_of hr) (pv 0) pe_str (fun _ _ => rfl)) po_none (po_some (pv 2))) (pg_sub (pv 0) pe_str (set_dict (hu_of hr))))))))))))))
      (pss_cons (ps_expr (pe_bm PySem.F.plainAttrs_list PySem.F.slot_list_append PySem.F.type_list_append mt_append (pe_dget (hu_of hr) (pv 0) pe_str (fun _ _ => rfl)) (pa_cons (pe_tup (pa_cons (pv 1) (pa_cons (pv 4) (pa_cons (pv 2) (pa_cons (pv 5) pa_nil))))) pa_nil)))
      (pss_one (ps_ret (pv 5))))))))), ?_⟩
    obtain ⟨rw, pl, no, nv, hS, N0⟩ := hS.md
    have eN := uo.plan
    have hm0 : H m = some (.dK (mK rw pl no S.spot)) := (hS.get (by walk_at "pu"))
    have hp0 : H pl = some (.lst (S.plan.map V.int)) := (hS.get (by walk_at "pu"))
    have hn0 : H no = some (.lst nv) := (hS.get (by walk_at "pu"))
    have ln : nv.length = S.ns.length := Nts.len N0
    refine ⟨_, _, rfl, rfl, ⟨by decide, by decide, by decide⟩, ?_⟩
    refine ⟨fun σ' H' => σ' = [some (V.ref m), some (V.str a.w), some hv, some (V.int (numF S)), none, none] ∧ H' = H, ?_, fun σ' H' hm => ?_⟩
    · refine ⟨.ref m, rfl, m, .ref no, rfl, mget hm0 (mK_notes _ _ _ _), no, _, rfl, .inl (sq_at hn0), .ref m, rfl, m, .ref pl, rfl, mget hm0 (mK_plan _ _ _ _), pl, _, rfl, .inl (sq_at hp0), _, _, rfl, rfl, _, rfl, ?_⟩
      rw [ln, List.length_map]
      by_cases h : S.ns.length < S.plan.length
      · refine iteTc (decide_eq_true (by omega)) ?_
        have ek := List.getElem?_eq_getElem h
        refine ⟨.ref m, rfl, m, .ref pl, rfl, mget hm0 (mK_plan _ _ _ _), .ref m, rfl, m, .ref no, rfl, mget hm0 (mK_notes _ _ _ _), no, _, rfl, .inl (sq_at hn0), pl, _, _, .int (S.plan[S.ns.length]), rfl, rfl, sq_at hp0, ?_, ?_⟩
        · rw [ln]; exact at_map ek
        · exact ⟨by rw [numF_some (eN.trans ek)]; rfl, rfl⟩
      · refine iteFc (decide_eq_false (by omega)) ?_
        exact ⟨by rw [numF_none (eN.trans (List.getElem?_eq_none (by omega)))]; rfl, rfl⟩
    obtain ⟨rfl, rfl⟩ := hm
    refine ⟨.ref m, rfl, m, .int S.spot, rfl, mget hm0 (mK_spot _ _ _ _), ?_⟩
    refine ⟨fun σ' H' => ∃ rw' cv M', σ' = [some (V.ref m), some (V.str a.w), some hv, some (V.int (numF S)), some (V.int S.spot), some cv] ∧ Sat H' (.pt m (.dK (mK rw' pl no (doneS S a).spot)) :: .pt rw' (.lst ((doneS S a).cells.map V.int)) :: .pt pl (.lst (S.plan.map V.int)) :: .pt no (.lst nv) :: frC M' :: R) ∧ Same M M' ∧ HandV M' cv (cameT S a), ?_, fun σ' H' hm => ?_⟩
    · clear hn0 N0 ln hp0 eN
      refine ⟨.int (numF S), rfl, _, _, rfl, rfl, _, rfl, ?_⟩
      by_cases hb : numF S < 0
      · refine iteTc (decide_eq_true hb) ?_
        obtain ⟨e1, e2⟩ := done_bad (a := a) hb
        refine ⟨rw, _, M, rfl, ?_, Same.refl M, ?_⟩
        · rw [e1, noteS_cells, noteS_spot]
          exact (hS.pk (by walk_at "pk"))
        · rw [e2]; rfl
      refine iteFc (decide_eq_false hb) ?_
      obtain ⟨e1, e2⟩ := done_good (a := a) hb
      rw [e1, e2]
      clear e1 e2
      refine ⟨.int (numF S), rfl, rfl, _, rfl, ?_⟩
      cases a with
      | take n =>
        cases (show hv = .int n from hh)
        by_cases h0 : numF S = 0
        · refine iteTc (decide_eq_true (by rw [h0])) ?_
          refine ⟨_, rfl, by show (2 : Nat) ≤ sizeLine; omega, ?_⟩
          intro lt nl_
          generalize hG_ : upd _ lt _ = H
          have hS := Sat.alloc hS nl_ hG_
          clear nl_ hG_
          refine ⟨lt, _, rfl, .inl (sq_at (hS.get (by walk_at "pu"))), rfl, rfl, _, rfl, iteTc in_take ?_⟩
          obtain ⟨g1, g2, g3⟩ := good_take0 (may_zero h0 n)
          rw [g1, g2, g3]
          exact ⟨rw, _, M, rfl, (hS.pk (by walk_at "pk")), Same.refl M, rfl⟩
        · refine iteFc (decide_eq_false (fun z => h0 (V.int.inj z))) (iteF ?_)
          have hm := may_pos hb h0 ao.1
          obtain ⟨g1, g2, g3⟩ := good_take1 (S := S) (n := n) (by omega)
          rw [g1, g2, g3]
          refine ⟨_, rfl, rfl, _, rfl, iteTc (decide_eq_true rfl) ?_⟩
          refine ⟨.ref m, rfl, m, .ref rw, rfl, mget hm0 (mK_row _ _ _ _), .int S.spot, rfl, _, rfl, .int S.spot, rfl, .int n, rfl, .int (numF S), rfl, _, _, rfl, _, _, rfl, rfl, _, rfl, rw, _, rfl, sq_at (hS.get (by walk_at "pu")), ?_⟩
          rw [num_may ao.2, take_cutV S n hm]
          intro z nl_
          generalize hG_ : upd _ z _ = H
          have hS := Sat.alloc hS nl_ hG_
          clear nl_ hG_
          refine ⟨_, rfl, .ref z, rfl, z, _, rfl, .inl (sq_at (hS.get (by walk_at "pu"))), _, _, rfl, rfl, .ref m, rfl, m, _, rfl, mput (kvs := mK rw pl no (S.spot + (takenF S n).length)) (hS.get (by walk_at "pu")) (by rw [List.length_map]; exact mK_pspot rw pl no S.spot (S.spot + (takenF S n).length)), ?_⟩
          generalize hG_ : upd _ m _ = H
          have hS := Sat.put (a := m) (hS.pk (by walk_at "pk")) hG_
          clear hG_
          obtain ⟨U, hS, s1, eU⟩ := Sat.ptfr (a := z) (M := M) (hS.pk (by walk_at "pk"))
          exact ⟨rw, _, U, rfl, (hS.pk (by walk_at "pk")), s1, z, rfl, eU⟩
      | put ds =>
        obtain ⟨d, ev, hd⟩ := hh
        subst ev
        by_cases h0 : numF S = 0
        · refine iteTc (decide_eq_true (by rw [h0])) ?_
          refine ⟨_, rfl, by show (2 : Nat) ≤ sizeLine; omega, ?_⟩
          intro lt nl_
          generalize hG_ : upd _ lt _ = H
          have hS := Sat.alloc hS nl_ hG_
          clear nl_ hG_
          refine ⟨lt, _, rfl, .inl (sq_at (hS.get (by walk_at "pu"))), rfl, rfl, _, rfl, iteTc in_put ?_⟩
          obtain ⟨g1, g2, g3⟩ := good_put0 (put_zero h0 ds)
          rw [g1, g2, g3]
          exact ⟨rw, _, M, rfl, (hS.pk (by walk_at "pk")), Same.refl M, rfl⟩
        · refine iteFc (decide_eq_false (fun z => h0 (V.int.inj z))) (iteF ?_)
          have hl : 1 ≤ ds.length := by
            have := ao.1
            cases ds with
            | nil => exact absurd rfl this
            | cons x xs => show 1 ≤ xs.length + 1; omega
          have hm := may_pos hb h0 hl
          have hk : mayF S (ds.length : Int) = (putN S ds : Int) := (Int.toNat_of_nonneg (Int.le_of_lt hm)).symm
          obtain ⟨g1, g2, g3⟩ := good_put1 (S := S) (ds := ds) (by omega)
          rw [g1, g2, g3]
          refine ⟨_, rfl, rfl, _, rfl, iteFc w_put_take ?_⟩
          refine ⟨_, rfl, rfl, _, rfl, iteTc (decide_eq_true rfl) ?_⟩
          refine ⟨.ref d, rfl, d, _, rfl, .inl (sq_at (hS.fr (M := M) (by walk_at "pu") hd)), .int (numF S), rfl, _, _, rfl, ?_⟩
          rw [List.length_map, num_may (by have := ao.2; omega), hk]
          refine ⟨.ref m, rfl, m, .ref rw, rfl, mget hm0 (mK_row _ _ _ _), .int S.spot, rfl, .ref d, rfl, .int (putN S ds), rfl, _, rfl, d, _, rfl, sq_at (hS.fr (M := M) (by walk_at "pu") hd), ?_⟩
          rw [show cutV (ds.map V.int) none (some (putN S ds : Int)) = (ds.take (putN S ds)).map V.int from cut_O ds (some (putN S ds))]
          intro z nl_
          generalize hG_ : upd _ z _ = H
          have hS := Sat.alloc hS nl_ hG_
          clear nl_ hG_
          refine ⟨rw, z, S.cells, ds.take (putN S ds), S.spot, _, rfl, hS, (hS.get (by walk_at "pu")), (hS.get (by walk_at "pu")), by omega, by omega, by rw [List.length_take]; have := ao.2; omega, fun H rw' hS => ?_⟩
          refine ⟨.ref m, rfl, m, _, rfl, mput (hS.get (by walk_at "pu")) (mK_prow rw pl no rw' S.spot), ?_⟩
          generalize hG_ : upd _ m _ = H
          have hS := Sat.put (a := m) (hS.pk (by walk_at "pk")) hG_
          clear hG_
          refine ⟨_, rfl, _, rfl, _, _, rfl, rfl, .ref m, rfl, m, _, rfl, mput (kvs := mK rw' pl no (S.spot + putN S ds)) (hS.get (by walk_at "pu")) (mK_pspot rw' pl no S.spot (S.spot + putN S ds)), ?_⟩
          generalize hG_ : upd _ m _ = H
          have hS := Sat.put (a := m) (hS.pk (by walk_at "pk")) hG_
          clear hG_
          exact ⟨rw', _, M, rfl, (hS.pk (by walk_at "pk")), Same.refl M, rfl⟩
      | go n =>
        cases (show hv = .int n from hh)
        obtain ⟨g1, g2, g3⟩ := good_go (S := S) (n := n)
        rw [g1, g2, g3]
        by_cases h0 : numF S = 0
        · refine iteTc (decide_eq_true (by rw [h0])) ?_
          refine ⟨_, rfl, by show (2 : Nat) ≤ sizeLine; omega, ?_⟩
          intro lt nl_
          generalize hG_ : upd _ lt _ = H
          have hS := Sat.alloc hS nl_ hG_
          clear nl_ hG_
          refine ⟨lt, _, rfl, .inl (sq_at (hS.get (by walk_at "pu"))), rfl, rfl, _, rfl, iteFc in_go ?_⟩
          refine ⟨_, rfl, rfl, _, rfl, iteFc w_go_take ?_⟩
          refine ⟨_, rfl, rfl, _, rfl, iteFc w_go_put ?_⟩
          refine ⟨_, rfl, rfl, _, rfl, iteTc (decide_eq_true rfl) ?_⟩
          refine ⟨_, rfl, .ref m, rfl, m, _, rfl, mput (hS.get (by walk_at "pu")) (mK_pspot rw pl no S.spot n), ?_⟩
          generalize hG_ : upd _ m _ = H
          have hS := Sat.put (a := m) (hS.pk (by walk_at "pk")) hG_
          clear hG_
          exact ⟨rw, _, M, rfl, (hS.pk (by walk_at "pk")), Same.refl M, rfl⟩
        · refine iteFc (decide_eq_false (fun z => h0 (V.int.inj z))) (iteF ?_)
          refine ⟨_, rfl, rfl, _, rfl, iteFc w_go_take ?_⟩
          refine ⟨_, rfl, rfl, _, rfl, iteFc w_go_put ?_⟩
          refine ⟨_, rfl, rfl, _, rfl, iteTc (decide_eq_true rfl) ?_⟩
          refine ⟨_, rfl, .ref m, rfl, m, _, rfl, mput (hS.get (by walk_at "pu")) (mK_pspot rw pl no S.spot n), ?_⟩
          generalize hG_ : upd _ m _ = H
          have hS := Sat.put (a := m) (hS.pk (by walk_at "pk")) hG_
          clear hG_
          exact ⟨rw, _, M, rfl, (hS.pk (by walk_at "pk")), Same.refl M, rfl⟩
      | cut n =>
        cases (show hv = .int n from hh)
        obtain ⟨g1, g2, g3⟩ := good_cut (S := S) (n := n)
        rw [g1, g2, g3]
        by_cases h0 : numF S = 0
        · refine iteTc (decide_eq_true (by rw [h0])) ?_
          refine ⟨_, rfl, by show (2 : Nat) ≤ sizeLine; omega, ?_⟩
          intro lt nl_
          generalize hG_ : upd _ lt _ = H
          have hS := Sat.alloc hS nl_ hG_
          clear nl_ hG_
          refine ⟨lt, _, rfl, .inl (sq_at (hS.get (by walk_at "pu"))), rfl, rfl, _, rfl, iteFc in_cut ?_⟩
          refine ⟨_, rfl, rfl, _, rfl, iteFc w_cut_take ?_⟩
          refine ⟨_, rfl, rfl, _, rfl, iteFc w_cut_put ?_⟩
          refine ⟨_, rfl, rfl, _, rfl, iteFc w_cut_go ?_⟩
          refine ⟨.ref m, rfl, m, .ref rw, rfl, mget (hS.get (by walk_at "pu")) (mK_row _ _ _ _), .int n, rfl, _, rfl, rw, _, rfl, sq_at (hS.get (by walk_at "pu")), ?_⟩
          rw [show cutV (S.cells.map V.int) none (some (n : Int)) = (S.cells.take n).map V.int from cut_O S.cells (some n)]
          intro z nl_
          generalize hG_ : upd _ z _ = H
          have hS := Sat.alloc hS nl_ hG_
          clear nl_ hG_
          refine ⟨.ref m, rfl, m, _, rfl, mput (hS.get (by walk_at "pu")) (mK_prow rw pl no z S.spot), ?_⟩
          generalize hG_ : upd _ m _ = H
          have hS := Sat.put (a := m) (hS.pk (by walk_at "pk")) hG_
          clear hG_
          exact ⟨z, _, M, rfl, (hS.pk (by walk_at "pk")), Same.refl M, rfl⟩
        · refine iteFc (decide_eq_false (fun z => h0 (V.int.inj z))) (iteF ?_)
          refine ⟨_, rfl, rfl, _, rfl, iteFc w_cut_take ?_⟩
          refine ⟨_, rfl, rfl, _, rfl, iteFc w_cut_put ?_⟩
          refine ⟨_, rfl, rfl, _, rfl, iteFc w_cut_go ?_⟩
          refine ⟨.ref m, rfl, m, .ref rw, rfl, mget (hS.get (by walk_at "pu")) (mK_row _ _ _ _), .int n, rfl, _, rfl, rw, _, rfl, sq_at (hS.get (by walk_at "pu")), ?_⟩
          rw [show cutV (S.cells.map V.int) none (some (n : Int)) = (S.cells.take n).map V.int from cut_O S.cells (some n)]
          intro z nl_
          generalize hG_ : upd _ z _ = H
          have hS := Sat.alloc hS nl_ hG_
          clear nl_ hG_
          refine ⟨.ref m, rfl, m, _, rfl, mput (hS.get (by walk_at "pu")) (mK_prow rw pl no z S.spot), ?_⟩
          generalize hG_ : upd _ m _ = H
          have hS := Sat.put (a := m) (hS.pk (by walk_at "pk")) hG_
          clear hG_
          exact ⟨z, _, M, rfl, (hS.pk (by walk_at "pk")), Same.refl M, rfl⟩
    · obtain ⟨rw', cv, M', rfl, hS, s1, tv⟩ := hm
      obtain ⟨h1, h2, h3, h4, h5⟩ := doneS_used S a
      refine ⟨.ref m, rfl, m, .ref no, rfl, mget (hS.get (by walk_at "pu")) (mK_notes _ _ _ _), .inl ⟨rfl, _, sq_at (hS.get (by walk_at "pu"))⟩, _, rfl, _, rfl, _, rfl, _, rfl, by show (4 : Nat) ≤ sizeLine; omega, ?_⟩
      intro t nl_
      generalize hG_ : upd _ t _ = H
      have hS := Sat.alloc hS nl_ hG_
      clear nl_ hG_
      refine ⟨no, nv, .ref t, rfl, rfl, (hS.get (by walk_at "pu")), by omega, ?_⟩
      generalize hG_ : upd _ no _ = H
      have hS := Sat.put (a := no) (hS.pk (by walk_at "pk")) hG_
      clear hG_
      obtain ⟨U, hS, s2, eU⟩ := Sat.ptfr (a := t) (M := M') (hS.pk (by walk_at "pk"))
      refine ⟨_, rfl, q _ cv U (Sat.mdI (rw := rw') (pl := pl) (no := no) (vs := nv ++ [.ref t]) ?_ ?_) (s1.trans s2) (tv.same s2)⟩
      · rw [h5]
        exact Nts.snoc ⟨t, hv, cv, rfl, trivial, eU, ((hh.same s1).same s2).tg, (tv.same s2).tg, askw_ok a, askh_ok a, came_ok S a⟩ (N0.same (s1.trans s2))
      · rw [h2]
        exact (hS.pk (by walk_at "pk"))

theorem ok_dplace (T : Tx K mg) : FnOk P w K mg base CX0 2 T.f_dplace T.fd_dplace P_dplace (spPlQ T.C_Device) := by
  have G_dseeks := ok_dseeks (P := P) (w := w) (base := base) T
  have sz : sizeLine = 16777216 := sizeLine_eq
  refine T.D_dplace.F.ok sc_dplace (fun vs H Q E h => ?_) (fun cdv A outer s H vs Q E hr h => ?_)
  · obtain ⟨d, S, R, rfl, _⟩ := h
    rfl
  · obtain ⟨d, S, R, rfl, hS, hs, q⟩ := h
    refine ⟨_, (pss_cons (ps_expr (pe_meth0 (pv 0) T.cl_Device T.D_dseeks.m G_dseeks (hr.mono (by decide)) T.bb_dseeks .nil pass0))
      (pss_one (ps_ret (pe_fld (pv 0) rfl)))), ?_⟩
    have hS0 := hS
    obtain ⟨B, G0, rfl, hA, k⟩ := hS.dev
    obtain ⟨dd, ws, G, I, hF⟩ := id hA
    refine ⟨.ref B.d, rfl, meth_dev hS0 (by decide +kernel) ⟨B, G0, S, rfl, hA, hs, ?_⟩⟩
    exact ⟨.ref B.d, rfl, B.d, T.C_Device, dd, _, _, rfl, I.hd, T.cl_Device, T.n_Device_spot, dfs_spot _ _ _ _ _, q⟩

theorem ok_dlen (T : Tx K mg) : FnOk P w K mg base CX0 1 T.f_dlen T.fd_dlen P_dlen (spLenQ T.C_Device) := by
  have sz : sizeLine = 16777216 := sizeLine_eq
  refine T.D_dlen.F.ok sc_dlen (fun vs H Q E h => ?_) (fun cdv A outer s H vs Q E hr h => ?_)
  · obtain ⟨d, S, R, rfl, _⟩ := h
    rfl
  · obtain ⟨d, S, R, rfl, hS, q⟩ := h
    refine ⟨_, (pss_one (ps_ret (pe_callB call_len_seq (by rfl) T.m_len PySem.boot_len (pa_cons (pe_fld (pv 0) rfl) pa_nil)))), ?_⟩
    obtain ⟨B, G0, rfl, ⟨dd, ws, G, I, hF⟩, k⟩ := hS.dev
    refine ⟨.ref B.d, rfl, B.d, T.C_Device, dd, _, _, rfl, I.hd, T.cl_Device, T.n_Device_cells, dfs_cells _ _ _ _ _, B.c, _, rfl, .inl (sq_at I.hc), ?_⟩
    rw [List.length_map]
    exact q

theorem ok_deq (T : Tx K mg) : FnOk P w K mg base CX0 1 T.f_deq T.fd_deq P_deq (spEqQ T.C_Device) := by
  have sz : sizeLine = 16777216 := sizeLine_eq
  refine T.D_deq.F.ok sc_deq (fun vs H Q E h => ?_) (fun cdv A outer s H vs Q E hr h => ?_)
  · obtain ⟨a, b, S, S2, R, rfl, _⟩ := h
    rfl
  · obtain ⟨a, b, S, S2, R, rfl, hS, e, q⟩ := h
    refine ⟨_, (pss_one (ps_ret (pe_and (pe_callB (id := "isinstance") (r := rIsi K) call_isi (by rfl) T.m_isinstance (by decide +kernel) (pa_cons (pv 1) (pa_cons (pe_glob (v := .ref T.C_Device) (by rfl) T.g_Device rfl) pa_nil))) (pe_one (pe_cmpR (op_eqI hr.units) (pe_fld (pv 0) rfl) (pe_fld (pv 1) rfl) (nomark _)))))), ?_⟩
    have hS2 := hS.pull (.tl .hd)
    obtain ⟨B2, G2, rfl, ⟨dd2, ws2, G3, I2, hF2⟩, k2⟩ := hS2.dev
    obtain ⟨B, G0, rfl, ⟨dd, ws, G, I, hF⟩, k⟩ := hS.dev
    refine ⟨.ref B2.d, rfl, .ref B2.d, .ref T.C_Device, .ref T.C_Device, .ref T.C_Device, true, rfl, .own _, .base (.ins I2.hd T.cl_Device T.v2_Device T.v3_Device T.v4_Device T.v5_Device), by simp [PySem.W.kitOne], ?_⟩
    refine ⟨true, rfl, ?_⟩
    rw [if_pos rfl]
    refine ⟨.ref B.d, rfl, B.d, T.C_Device, dd, _, _, rfl, I.hd, T.cl_Device, T.n_Device_cells, dfs_cells _ _ _ _ _, .ref B2.d, rfl, B2.d, T.C_Device, dd2, _, _, rfl, I2.hd, T.cl_Device, T.n_Device_cells, dfs_cells _ _ _ _ _, B.c, B2.c, _, _, rfl, rfl, sq_at I.hc, sq_at I2.hc, ?_⟩
    rw [e, decide_eq_true rfl]
    exact q

theorem ok_ldeed (T : Tx K mg) : FnOk P w K mg base CX0 3 T.f_ldeed T.fd_ldeed P_ldeed (spDeedN) := by
  have G_take := (ok_take (P := P) (w := w) (base := base) T).imp fun _ _ _ _ => spTakeS.to
  have G_lrow := (ok_lrow (P := P) (w := w) (base := base) T).imp fun _ _ _ _ => spRowS.to
  have sz : sizeLine = 16777216 := sizeLine_eq
  refine T.D_ldeed.F.ok sc_ldeed (fun vs H Q E h => ?_) (fun cdv A outer s H vs Q E hr h => ?_)
  · obtain ⟨p, m, rw, xs, n, S, R, rfl, _⟩ := h
    rfl
  · obtain ⟨p, m, rw, xs, n, S, R, rfl, hS, n9, lx, lc, q⟩ := h
    refine ⟨_, (pss_cons (ps_set (i := 2) sc_ldeed.nd rfl (.inl rfl) (pe_call G_take (hr.mono (by decide)) (by rfl) T.D_take.g T.D_take.F.kp T.bb_take .nil pass0 (pa_cons (pv 0) (pa_cons pe_int pa_nil))))
      (pss_cons (ps_if (pt_cmpR op_lt (pv 2) pe_int (nomark _)) (pss_one (ps_ret (pe_tup (pa_cons pe_str (pa_cons (pe_op op_add pe_int (pe_call G_take (hr.mono (by decide)) (by rfl) T.D_take.g T.D_take.F.kp T.bb_take .nil pass0 (pa_cons (pv 0) (pa_cons (pe_ix ix_list (pe_lst (pa_cons pe_int (pa_cons pe_int (pa_cons pe_int pa_nil)))) (pe_call G_take (hr.mono (by decide)) (by rfl) T.D_take.g T.D_take.F.kp T.bb_take .nil pass0 (pa_cons (pv 0) (pa_cons pe_int pa_nil))) (fun _ _ => rfl)) pa_nil)))) pa_nil))))) pss_nil)
      (pss_cons (ps_if (pt_cmpR op_lt (pv 2) pe_int (nomark _)) (pss_one (ps_ret (pe_tup (pa_cons pe_str (pa_cons (pe_op op_cat (pe_call G_lrow (hr.mono (by decide)) (by rfl) T.D_lrow.g T.D_lrow.F.kp T.bb_lrow .nil pass0 (pa_cons (pv 0) (pa_cons pe_int pa_nil))) (pe_lst (pa_cons (pe_call G_take (hr.mono (by decide)) (by rfl) T.D_take.g T.D_take.F.kp T.bb_take .nil pass0 (pa_cons (pv 0) (pa_cons pe_int pa_nil))) pa_nil))) pa_nil))))) pss_nil)
      (pss_cons (ps_if (pt_cmpR op_eq (pv 2) pe_int (nomark _)) (pss_one (ps_ret (pe_tup (pa_cons pe_str (pa_cons (pe_call G_take (hr.mono (by decide)) (by rfl) T.D_take.g T.D_take.F.kp T.bb_take .nil pass0 (pa_cons (pv 0) (pa_cons (pe_op op_add (pe_callB call_len_seq (by rfl) T.m_len PySem.boot_len (pa_cons (pe_dget (hu_of hr) (pv 1) pe_str (fun _ _ => rfl)) pa_nil)) pe_int) pa_nil))) pa_nil))))) pss_nil)
      (pss_one (ps_ret (pe_tup (pa_cons pe_str (pa_cons (pe_call G_take (hr.mono (by decide)) (by rfl) T.D_take.g T.D_take.F.kp T.bb_take .nil pass0 (pa_cons (pv 0) (pa_cons (pe_op op_add (pe_callB call_len_seq (by rfl) T.m_len PySem.boot_len (pa_cons (pe_dget (hu_of hr) (pv 1) pe_str (fun _ _ => rfl)) pa_nil)) pe_int) pa_nil))) pa_nil))))))))), ?_⟩
    refine ⟨.ref p, rfl, p, n, 8, _, rfl, (hS.pk (by walk_at "pk")), by omega, by decide, by decide, fun r H r1 hS => ?_⟩
    refine ⟨.int r, rfl, _, _, rfl, rfl, _, rfl, ite2 (fun _ => ?_) (fun _ => ?_)⟩
    · refine ⟨.ref p, rfl, by show (3 : Nat) ≤ sizeLine; omega, ?_⟩
      intro l nl_
      generalize hG_ : upd _ l _ = H
      have hS := Sat.alloc hS nl_ hG_
      clear nl_ hG_
      refine ⟨.ref p, rfl, p, _, 3, _, rfl, (hS.pk (by walk_at "pk")), by omega, by decide, by decide, fun r2 H r3 hS => ?_⟩
      obtain ⟨v, mv, ev, _⟩ := atI_int (ms := [3, 9, 400]) (i := r2) (by omega) r3
      have vb : 1 ≤ v ∧ v ≤ 400 := (show ∀ y ∈ ([3, 9, 400] : List Int), 1 ≤ y ∧ y ≤ 400 by decide) v mv
      refine ⟨l, [.int 3, .int 9, .int 400], r2, .int v, rfl, rfl, sq_at (hS.get (by walk_at "pu")), ev, p, _, v, _, rfl, (hS.pk (by walk_at "pk")), by omega, by omega, by omega, fun r4 H r5 hS => ?_⟩
      refine ⟨_, _, rfl, rfl, by show (2 : Nat) ≤ sizeLine; omega, ?_⟩
      intro t nl_
      generalize hG_ : upd _ t _ = H
      have hS := Sat.alloc hS nl_ hG_
      clear nl_ hG_
      have hS := Sat.tgi (1 + (r4 : Int)) (Sat.poolup (p := p) (m := n + 2000) (hS.pk (by walk_at "pk")) (by omega))
      refine q _ t (.take (1 + r4)) (.int (1 + (r4 : Int))) ?_ ⟨by omega, by omega⟩
      show Sat H (.pt t (.tup [.str (Str.ofString "take"), .int (1 + (r4 : Int))]) :: tgC (.int (1 + (r4 : Int))) (.i (1 + (r4 : Int))) :: poolC p (n + 2000) :: R)
      exact (hS.pk (by walk_at "pk"))
    refine ⟨.int r, rfl, _, _, rfl, rfl, _, rfl, ite2 (fun _ => ?_) (fun _ => ?_)⟩
    · refine ⟨.ref p, rfl, p, _, 9, _, rfl, (hS.pk (by walk_at "pk")), by omega, by decide, by decide, fun H b bs hS lb _ => ?_⟩
      refine ⟨.ref p, rfl, p, _, 256, _, rfl, (hS.pk (by walk_at "pk")), by omega, by decide, by decide, fun r2 H r3 hS => ?_⟩
      refine ⟨by show (1 : Nat) ≤ sizeLine; omega, ?_⟩
      intro l nl_
      generalize hG_ : upd _ l _ = H
      have hS := Sat.alloc hS nl_ hG_
      clear nl_ hG_
      refine ⟨b, l, _, _, rfl, rfl, (hS.get (by walk_at "pu")), (hS.get (by walk_at "pu")), by rw [List.length_map]; show _ + 1 ≤ _; omega, ?_⟩
      rw [show bs.map V.int ++ [V.int (r2 : Int)] = (bs ++ [(r2 : Int)]).map V.int by rw [List.map_append]; rfl]
      intro z nl_
      generalize hG_ : upd _ z _ = H
      have hS := Sat.alloc hS nl_ hG_
      clear nl_ hG_
      refine ⟨by show (2 : Nat) ≤ sizeLine; omega, ?_⟩
      intro t nl_
      generalize hG_ : upd _ t _ = H
      have hS := Sat.alloc hS nl_ hG_
      clear nl_ hG_
      have hS := Sat.poolup (p := p) (m := n + 2000) (hS.pk (by walk_at "pk")) (by omega)
      have hS := Sat.tgl (a := z) (hS.pk (by walk_at "pk"))
      refine q _ t (.put (bs ++ [(r2 : Int)])) (.ref z) ?_ ⟨by simp, by rw [List.length_append]; show _ + 1 ≤ _; omega⟩
      simp only [Ask.h, Ask.w]
      exact (hS.pk (by walk_at "pk"))
    refine ⟨.int r, rfl, rfl, _, rfl, ite2 (fun _ => ?_) (fun _ => ?_)⟩
    · refine ⟨.ref p, rfl, .ref m, rfl, m, .ref rw, rfl, rget (hS.get (by walk_at "pu")), rw, _, rfl, .inl (sq_at (hS.get (by walk_at "pu"))), _, _, rfl, rfl, p, _, _, _, rfl, (hS.pk (by walk_at "pk")), by omega, by omega, by omega, fun r2 H r3 hS => ?_⟩
      rw [lx] at r3
      refine ⟨by show (2 : Nat) ≤ sizeLine; omega, ?_⟩
      intro t nl_
      generalize hG_ : upd _ t _ = H
      have hS := Sat.alloc hS nl_ hG_
      clear nl_ hG_
      have hS := Sat.tgi (r2 : Int) (Sat.poolup (p := p) (m := n + 2000) (hS.pk (by walk_at "pk")) (by omega))
      refine q _ t (.go r2) (.int r2) ?_ (by show r2 ≤ _; omega)
      simp only [Ask.h, Ask.w]
      exact (hS.pk (by walk_at "pk"))
    · refine ⟨.ref p, rfl, .ref m, rfl, m, .ref rw, rfl, rget (hS.get (by walk_at "pu")), rw, _, rfl, .inl (sq_at (hS.get (by walk_at "pu"))), _, _, rfl, rfl, p, _, _, _, rfl, (hS.pk (by walk_at "pk")), by omega, by omega, by omega, fun r2 H r3 hS => ?_⟩
      rw [lx] at r3
      refine ⟨by show (2 : Nat) ≤ sizeLine; omega, ?_⟩
      intro t nl_
      generalize hG_ : upd _ t _ = H
      have hS := Sat.alloc hS nl_ hG_
      clear nl_ hG_
      have hS := Sat.tgi (r2 : Int) (Sat.poolup (p := p) (m := n + 2000) (hS.pk (by walk_at "pk")) (by omega))
      refine q _ t (.cut r2) (.int r2) ?_ (by show r2 ≤ _; omega)
      simp only [Ask.h, Ask.w]
      exact (hS.pk (by walk_at "pk"))

theorem ok_ltold (T : Tx K mg) : FnOk P w K mg base CX0 6 T.f_ltold T.fd_ltold P_ltold (spToldF T.C_Device) := by
  have G_dtake := (ok_dtake (P := P) (w := w) (base := base) T).imp fun _ _ _ _ => spTakeDS.to
  have G_dput := (ok_dput (P := P) (w := w) (base := base) T).imp fun _ _ _ _ => spPutDS.to
  have G_dgo := (ok_dgo (P := P) (w := w) (base := base) T).imp fun _ _ _ _ => spGoDS.to
  have G_dcut := (ok_dcut (P := P) (w := w) (base := base) T).imp fun _ _ _ _ => spCutDS.to
  have sz : sizeLine = 16777216 := sizeLine_eq
  refine T.D_ltold.F.ok sc_ltold (fun vs H Q E h => ?_) (fun cdv A outer s H vs Q E hr h => ?_)
  · obtain ⟨d, S, a, hv, M, R, rfl, _⟩ := h
    rfl
  · obtain ⟨d, S, a, hv, M, R, rfl, hS, hh, ok, hb, hg, fo, q⟩ := h
    refine ⟨_, (pss_cons (ps_set (i := 3) sc_ltold.nd rfl (.inl rfl) (pe_tup (pa_cons pe_str (pa_cons pe_non pa_nil))))
      (pss_cons (ps_try_as (i := 4) rfl rfl sc_ltold.nd rfl rfl ⟨rfl, by decide, .inl T.g_Fault⟩ takes0 (fun W pn xe tk _ => (pss_one (ps_if (pt_cmpR op_eq (pv 1) pe_str (nomark _)) (pss_one (ps_set (i := 3) sc_ltold.nd rfl (.inl rfl) (pe_tup (pa_cons pe_str (pa_cons (by exact (Sip.pe_methT (pv 0) T.cl_Device T.D_dtake.m G_dtake (hr.mono (by decide)) T.bb_dtake (fun σ => passAt tk σ) (by exact (pa_cons (pv 2) pa_nil)))) pa_nil))))) (pss_one (ps_if (pt_cmpR op_eq (pv 1) pe_str (nomark _)) (pss_one (ps_set (i := 3) sc_ltold.nd rfl (.inl rfl) (pe_tup (pa_cons pe_str (pa_cons (by exact (Sip.pe_methT (pv 0) T.cl_Device T.D_dput.m G_dput (hr.mono (by decide)) T.bb_dput (fun σ => passAt tk σ) (by exact (pa_cons (pe_callTy (T := "list") (r := fun xs H Q => ∃ p ys, xs = [V.ref p] ∧ (SqL K H p ys ∨ SqT K H p ys) ∧ ∀ l, H l = none → Q (V.ref l) (upd H l (.lst ys))) call_list_of (by rfl) T.m_list (by decide +kernel) (pa_cons (pv 2) pa_nil)) pa_nil)))) pa_nil))))) (pss_one (ps_if (pt_cmpR op_eq (pv 1) pe_str (nomark _)) (pss_one (ps_set (i := 3) sc_ltold.nd rfl (.inl rfl) (pe_tup (pa_cons pe_str (pa_cons (by exact (Sip.pe_methT (pv 0) T.cl_Device T.D_dgo.m G_dgo (hr.mono (by decide)) T.bb_dgo (fun σ => passAt tk σ) (by exact (pa_cons (pv 2) pa_nil)))) pa_nil))))) (pss_one (ps_set (i := 3) sc_ltold.nd rfl (.inl rfl) (pe_tup (pa_cons pe_str (pa_cons (by exact (Sip.pe_methT (pv 0) T.cl_Device T.D_dcut.m G_dcut (hr.mono (by decide)) T.bb_dcut (fun σ => passAt tk σ) (by exact (pa_cons (pv 2) pa_nil)))) pa_nil)))))))))))) (fun a oe cls d pn hz hf => (pss_one (ps_set (i := 3) sc_ltold.nd rfl (.inl rfl) (pe_tup (pa_cons pe_str (pa_cons (show PE _ _ (Sip.tXf K "number" a cls d _) from Sip.pe_xf (f := "number") hz hf (pv 4)) pa_nil)))))))
      (pss_one (ps_ret (pv 3))))), ?_⟩
    refine ⟨by show (2 : Nat) ≤ sizeLine; omega, ?_⟩
    intro t0 nl_
    generalize hG_ : upd _ t0 _ = H
    have hS := Sat.alloc hS nl_ hG_
    clear nl_ hG_
    cases a with
    | take n =>
      cases (show hv = .int n from hh)
      refine ⟨_, rfl, rfl, _, rfl, iteTc (decide_eq_true rfl) ?_⟩
      refine ⟨.ref d, rfl, meth_devP hS (by walk_at "pu") (by decide +kernel) ?_⟩
      refine ⟨_, rfl, d, S, n, _, rfl, (hS.pk (by walk_at "pk")), ok, hb, fun good h0 H hS => ?_, fun good h0 H z hS => ?_, fun k ek hk H fe hS => ?_⟩
      · skip
        refine ⟨by show (2 : Nat) ≤ sizeLine; omega, ?_⟩
        intro t nl_
        generalize hG_ : upd _ t _ = H
        have hS := Sat.alloc hS nl_ hG_
        clear nl_ hG_
        refine ⟨_, rfl, q _ t ?_⟩
        rw [(told_good (a := .take n) good).2]
        simp only [goodS]
        exact (hS.pk (by walk_at "pk"))
      · skip
        refine ⟨by show (2 : Nat) ≤ sizeLine; omega, ?_⟩
        intro t nl_
        generalize hG_ : upd _ t _ = H
        have hS := Sat.alloc hS nl_ hG_
        clear nl_ hG_
        refine ⟨_, rfl, q _ t ?_⟩
        rw [(told_good (a := .take n) good).2]
        simp only [goodS]
        exact (hS.pk (by walk_at "pk"))
      · skip
        refine ⟨true, T.te_Fault_Fault, fun _ x nx => ?_, fun h => nomatch h⟩
        refine ⟨.ref x, rfl, T.C_Fault, fe, _, .int (-k), rfl, rfl, T.e_Fault, T.n_Fault, rfl, (hS.get (by walk_at "pu")), rfl, by show (2 : Nat) ≤ sizeLine; omega, ?_⟩
        intro t nl_
        generalize hG_ : upd _ t _ = H
        have hS := Sat.alloc hS nl_ hG_
        clear nl_ hG_
        refine ⟨_, rfl, q _ t ?_⟩
        rw [(told_bad (a := .take n) ek hk).2.1]
        simp only [Ask.w, Ask.h]
        exact (hS.pk (by walk_at "pk"))
    | put ds =>
      obtain ⟨l, ev, hl⟩ := hh
      subst ev
      refine ⟨_, rfl, rfl, _, rfl, iteFc w_put_take ?_⟩
      refine ⟨_, rfl, rfl, _, rfl, iteTc (decide_eq_true rfl) ?_⟩
      refine ⟨.ref d, rfl, meth_devP hS (by walk_at "pu") (by decide +kernel) ?_⟩
      refine ⟨_, rfl, l, _, rfl, .inl (sq_at (hS.fr (by walk_at "pu") hl)), ?_⟩
      intro l2 nl_
      generalize hG_ : upd _ l2 _ = H
      have hS := Sat.alloc hS nl_ hG_
      clear nl_ hG_
      refine ⟨d, l2, S, ds, _, rfl, (hS.pk (by walk_at "pk")), (hS.get (by walk_at "pu")), ok, hb, fo.2, fun good H hS => ?_, fun k ek hk H fe hS => ?_⟩
      · skip
        refine ⟨by show (2 : Nat) ≤ sizeLine; omega, ?_⟩
        intro t nl_
        generalize hG_ : upd _ t _ = H
        have hS := Sat.alloc hS nl_ hG_
        clear nl_ hG_
        refine ⟨_, rfl, q _ t ?_⟩
        rw [(told_good (a := .put ds) good).2]
        simp only [goodS]
        exact (hS.pk (by walk_at "pk"))
      · skip
        refine ⟨true, T.te_Fault_Fault, fun _ x nx => ?_, fun h => nomatch h⟩
        refine ⟨.ref x, rfl, T.C_Fault, fe, _, .int (-k), rfl, rfl, T.e_Fault, T.n_Fault, rfl, (hS.get (by walk_at "pu")), rfl, by show (2 : Nat) ≤ sizeLine; omega, ?_⟩
        intro t nl_
        generalize hG_ : upd _ t _ = H
        have hS := Sat.alloc hS nl_ hG_
        clear nl_ hG_
        refine ⟨_, rfl, q _ t ?_⟩
        rw [(told_bad (a := .put ds) ek hk).2.1]
        simp only [Ask.w, Ask.h]
        exact (hS.pk (by walk_at "pk"))
    | go n =>
      have hs : S.seek = true := hg.elim id fun z => z.elim
      cases (show hv = .int n from hh)
      refine ⟨_, rfl, rfl, _, rfl, iteFc w_go_take ?_⟩
      refine ⟨_, rfl, rfl, _, rfl, iteFc w_go_put ?_⟩
      refine ⟨_, rfl, rfl, _, rfl, iteTc (decide_eq_true rfl) ?_⟩
      refine ⟨.ref d, rfl, meth_devP hS (by walk_at "pu") (by decide +kernel) ?_⟩
      refine ⟨_, rfl, d, S, n, _, rfl, (hS.pk (by walk_at "pk")), ok, hb, hs, fo, fun good H hS => ?_, fun k ek hk H fe hS => ?_⟩
      · skip
        refine ⟨by show (2 : Nat) ≤ sizeLine; omega, ?_⟩
        intro t nl_
        generalize hG_ : upd _ t _ = H
        have hS := Sat.alloc hS nl_ hG_
        clear nl_ hG_
        refine ⟨_, rfl, q _ t ?_⟩
        rw [(told_good (a := .go n) good).2]
        simp only [goodS]
        exact (hS.pk (by walk_at "pk"))
      · skip
        refine ⟨true, T.te_Fault_Fault, fun _ x nx => ?_, fun h => nomatch h⟩
        refine ⟨.ref x, rfl, T.C_Fault, fe, _, .int (-k), rfl, rfl, T.e_Fault, T.n_Fault, rfl, (hS.get (by walk_at "pu")), rfl, by show (2 : Nat) ≤ sizeLine; omega, ?_⟩
        intro t nl_
        generalize hG_ : upd _ t _ = H
        have hS := Sat.alloc hS nl_ hG_
        clear nl_ hG_
        refine ⟨_, rfl, q _ t ?_⟩
        rw [(told_bad (a := .go n) ek hk).2.1]
        simp only [Ask.w, Ask.h]
        exact (hS.pk (by walk_at "pk"))
    | cut n =>
      have hs : S.seek = true := hg.elim id fun z => z.elim
      cases (show hv = .int n from hh)
      refine ⟨_, rfl, rfl, _, rfl, iteFc w_cut_take ?_⟩
      refine ⟨_, rfl, rfl, _, rfl, iteFc w_cut_put ?_⟩
      refine ⟨_, rfl, rfl, _, rfl, iteFc w_cut_go ?_⟩
      refine ⟨.ref d, rfl, meth_devP hS (by walk_at "pu") (by decide +kernel) ?_⟩
      refine ⟨_, rfl, d, S, n, _, rfl, (hS.pk (by walk_at "pk")), ok, hb, hs, fo, fun good H hS => ?_, fun k ek hk H fe hS => ?_⟩
      · skip
        refine ⟨by show (2 : Nat) ≤ sizeLine; omega, ?_⟩
        intro t nl_
        generalize hG_ : upd _ t _ = H
        have hS := Sat.alloc hS nl_ hG_
        clear nl_ hG_
        refine ⟨_, rfl, q _ t ?_⟩
        rw [(told_good (a := .cut n) good).2]
        simp only [goodS]
        exact (hS.pk (by walk_at "pk"))
      · skip
        refine ⟨true, T.te_Fault_Fault, fun _ x nx => ?_, fun h => nomatch h⟩
        refine ⟨.ref x, rfl, T.C_Fault, fe, _, .int (-k), rfl, rfl, T.e_Fault, T.n_Fault, rfl, (hS.get (by walk_at "pu")), rfl, by show (2 : Nat) ≤ sizeLine; omega, ?_⟩
        intro t nl_
        generalize hG_ : upd _ t _ = H
        have hS := Sat.alloc hS nl_ hG_
        clear nl_ hG_
        refine ⟨_, rfl, q _ t ?_⟩
        rw [(told_bad (a := .cut n) ek hk).2.1]
        simp only [Ask.w, Ask.h]
        exact (hS.pk (by walk_at "pk"))

theorem ok_lhouse (T : Tx K mg) : FnOk P w K mg base CX0 5 T.f_lhouse T.fd_lhouse P_lhouse (spHouseQ T.C_Device) := by
  have G_take := (ok_take (P := P) (w := w) (base := base) T).imp fun _ _ _ _ => spTakeS.to
  have G_lrow := (ok_lrow (P := P) (w := w) (base := base) T).imp fun _ _ _ _ => spRowS.to
  have G_lplan := (ok_lplan (P := P) (w := w) (base := base) T).imp fun _ _ _ _ => spPlanMS.to
  have G_dinit := (ok_dinit (P := P) (w := w) (base := base) T).imp fun _ _ _ _ => spDInitS.to
  have sz : sizeLine = 16777216 := sizeLine_eq
  refine T.D_lhouse.F.ok sc_lhouse (fun vs H Q E h => ?_) (fun cdv A outer s H vs Q E hr h => ?_)
  · obtain ⟨p, n, go, R, rfl, _⟩ := h
    rfl
  · obtain ⟨p, n, go, R, rfl, hS, n8, q⟩ := h
    refine ⟨_, (pss_cons (ps_set (i := 2) sc_lhouse.nd rfl (.inl rfl) (pe_call G_lrow (hr.mono (by decide)) (by rfl) T.D_lrow.g T.D_lrow.F.kp T.bb_lrow .nil pass0 (pa_cons (pv 0) (pa_cons pe_int pa_nil))))
      (pss_cons (ps_set (i := 3) sc_lhouse.nd rfl (.inl rfl) (pe_call G_lplan (hr.mono (by decide)) (by rfl) T.D_lplan.g T.D_lplan.F.kp T.bb_lplan .nil pass0 (pa_cons (pv 0) (pa_cons pe_int (pa_cons (pe_call G_take (hr.mono (by decide)) (by rfl) T.D_take.g T.D_take.F.kp T.bb_take .nil pass0 (pa_cons (pv 0) (pa_cons pe_int pa_nil))) pa_nil)))))
      (pss_cons (ps_set (i := 4) sc_lhouse.nd rfl (.inl rfl) (pe_makeK T.mk_Device G_dinit (hr.mono (by decide)) (by rfl) T.g_Device T.kb_dinit_1_plan_seeks pass0 (pa_cons (pv 2) pa_nil) (pk_cons (pv 3) (pk_cons (pv 1) pk_nil))))
      (pss_one (ps_ret (pe_disp (pps_cons pe_str (pe_tup (pa_cons (pv 2) (pa_cons (pv 3) (pa_cons (pv 1) pa_nil)))) (pps_cons pe_str (pv 4) (pps_cons pe_str (pe_lst pa_nil) (pps_cons pe_str (pe_callB call_len_seq (by rfl) T.m_len PySem.boot_len (pa_cons (pv 2) pa_nil)) pps_nil)))) (by rfl) (by rfl) (fun z => by cases z) (by decide))))))), ?_⟩
    refine ⟨.ref p, rfl, p, _, 30, _, rfl, (hS.pk (by walk_at "pk")), by omega, by decide, by decide, fun H rh row hS lr _ => ?_⟩
    refine ⟨.ref p, rfl, .ref p, rfl, p, _, 4, _, rfl, (hS.pk (by walk_at "pk")), by omega, by decide, by decide, fun tr H _ hS => ?_⟩
    refine ⟨p, _, 30, (tr : Nat), _, rfl, (hS.pk (by walk_at "pk")), by omega, by decide, by decide, fun H nu pl hS lp _ => ?_⟩
    refine ⟨.ref rh, rfl, .ref nu, rfl, .bl go, rfl, rfl, rfl, fun d dd nd ndd ne => ?_⟩
    generalize hG : upd (upd _ dd _) d _ = H
    have hS := Sat.make hS nd ndd ne hG
    clear hG nd ndd ne
    refine ⟨d, dd, rh, nu, go, row, pl, _, rfl, (hS.pk (by walk_at "pk")), (hS.get (by walk_at "pu")), (hS.get (by walk_at "pu")), fun H hS => ⟨rfl, ?_⟩⟩
    intro h nl_
    generalize hG_ : upd _ h _ = H
    have hS := Sat.alloc hS nl_ hG_
    clear nl_ hG_
    refine ⟨_, rfl, _, rfl, _, rfl, by show (3 : Nat) ≤ sizeLine; omega, ?_⟩
    intro t nl_
    generalize hG_ : upd _ t _ = H
    have hS := Sat.alloc hS nl_ hG_
    clear nl_ hG_
    refine ⟨_, rfl, Nat.zero_le _, ?_⟩
    intro q_ nl_
    generalize hG_ : upd _ q_ _ = H
    have hS := Sat.alloc hS nl_ hG_
    clear nl_ hG_
    refine ⟨_, rfl, rh, _, rfl, .inl (sq_at (hS.get (by walk_at "pu"))), (hS.get (by walk_at "pu")), hK t d q_ row.length, by unfold hK; rw [List.length_map]; rfl, by show (4 : Nat) ≤ 15; decide, ?_⟩
    generalize hG_ : upd _ h _ = H
    have hS := Sat.put (a := h) (hS.pk (by walk_at "pk")) hG_
    clear hG_
    rw [show mergeK [] (hK t d q_ row.length) = hK t d q_ row.length by unfold hK; kernel_rfl] at hS
    have hS := Sat.poolup (p := p) (m := n + 3000) (hS.pk (by walk_at "pk")) (by omega)
    exact q _ h t d q_ rh nu row pl (hS.pk (by walk_at "pk")) (by omega) (by omega)

set_option maxHeartbeats 0 in
theorem ok_lwalked (T : Tx K mg) : FnOk P w K mg base CX0 5 T.f_lwalked T.fd_lwalked P_lwalked (spWalkedQ T.C_Device) := by
  have G_ldevice := ok_ldevice (P := P) (w := w) (base := base) T
  have G_dlog := (ok_dlog (P := P) (w := w) (base := base) T).imp fun _ _ _ _ => spLogDS.to
  have G_lasked := ok_lasked (P := P) (w := w) (base := base) T
  have G_dcontent := (ok_dcontent (P := P) (w := w) (base := base) T).imp fun _ _ _ _ => spContDS.to
  have sz : sizeLine = 16777216 := sizeLine_eq
  refine T.D_lwalked.F.ok sc_lwalked (fun vs H Q E h => ?_) (fun cdv A outer s H vs Q E hr h => ?_)
  · obtain ⟨X, n, M, R, rfl, _⟩ := h
    rfl
  · obtain ⟨X, n, M, R, rfl, hS, hA, ho, q⟩ := h
    refine ⟨_, (pss_cons (ps_asg (pe_dget (hu_of hr) (pv 0) pe_str (fun _ _ => rfl)) (pg_tup rfl (pgs_cons (pg_name (i := 1) sc_lwalked.nd rfl (.inl rfl)) (pgs_cons (pg_name (i := 2) sc_lwalked.nd rfl (.inl rfl)) (pgs_cons (pg_name (i := 3) sc_lwalked.nd rfl (.inl rfl)) pgs_nil)))))
      (pss_cons (ps_set (i := 4) sc_lwalked.nd rfl (.inl rfl) (pe_call G_ldevice (hr.mono (by decide)) (by rfl) T.D_ldevice.g T.D_ldevice.F.kp T.bb_ldevice .nil pass0 (pa_cons (pv 1) (pa_cons (pv 2) pa_nil))))
      (pss_cons (ps_set (i := 5) sc_lwalked.nd rfl (.inl rfl) (pe_meth0 (pe_dget (hu_of hr) (pv 0) pe_str (fun _ _ => rfl)) T.cl_Device T.D_dlog.m G_dlog (hr.mono (by decide)) T.bb_dlog .nil pass0))
      (pss_cons (ps_for PassesOwn.never rfl (pi_list (pe_dget (hu_of hr) (pv 0) pe_str (fun _ _ => rfl))) (pg_tup rfl (pgs_cons (pg_name (i := 6) sc_lwalked.nd rfl (.inl rfl)) (pgs_cons (pg_name (i := 7) sc_lwalked.nd rfl (.inl rfl)) pgs_nil))) (pss_one (ps_if (pt_cmpR op_eq (pv 6) pe_str (nomark _)) (pss_one (ps_asg (pe_op op_cat (pe_dget (hu_of hr) (pv 4) pe_str (fun _ _ => rfl)) (pv 7)) (pg_sub (pv 4) pe_str (set_dict (hu_of hr))))) (pss_one (ps_expr (pe_call G_lasked (hr.mono (by decide)) (by rfl) T.D_lasked.g T.D_lasked.F.kp T.bb_lasked .nil pass0 (pa_cons (pv 4) (pa_cons (pv 6) (pa_cons (pv 7) pa_nil)))))))))
      (pss_cons (ps_if (PW.pt (pw_or (pt_cmpR (Sip.op_neS hr.units) (pe_dget (hu_of hr) (pv 4) pe_str (fun _ _ => rfl)) (pv 5) (nomark _)) (pw_or1 (pt_cmpR (op_neI hr.units) (pe_dget (hu_of hr) (pv 4) pe_str (fun _ _ => rfl)) (pe_meth0 (pe_dget (hu_of hr) (pv 0) pe_str (fun _ _ => rfl)) T.cl_Device T.D_dcontent.m G_dcontent (hr.mono (by decide)) T.bb_dcontent .nil pass0) (nomark _))))) (pss_one (ps_ret pe_non)) pss_nil)
      (pss_one (ps_ret (pv 4)))))))), ?_⟩
    have okS := ho.hl.ok (by have := ho.ld; omega)
    have ldx := ho.ld
    refine ⟨.ref X.h, rfl, X.h, .ref X.t, rfl, hget (hS.get (by walk_at "pu")) (hK_made _ _ _ _), X.t, _, rfl, .inl (.inl (hS.fr (by walk_at "pu") hA.t)), rfl, ?_⟩
    refine ⟨_, _, rfl, _, _, rfl, _, _, rfl, rfl, ?_⟩
    refine ⟨.ref X.row, rfl, .ref X.pl, rfl, X.row, X.pl, X.go, X.r, X.ps, M, _, rfl, (hS.pk (by walk_at "pk")), hA.r, hA.p, fun H m hS => ?_⟩
    refine ⟨.ref X.h, rfl, X.h, .ref X.d, rfl, hget (hS.get (by walk_at "pu")) (hK_raw _ _ _ _), meth_devP hS (by walk_at "pu") (by decide +kernel) ⟨X.d, X.S, _, rfl, (hS.pk (by walk_at "pk")), okS, fun H lg hS => ?_⟩⟩
    obtain ⟨N, vs, G, hS, eN, NN⟩ := Sat.ntsf (q := lg) (hS.pk (by walk_at "pk"))
    obtain ⟨U, hS, s1, s2⟩ := Sat.mdjoin (m := m) (N := N) (hS.pk (by walk_at "pk"))
    have eU := s2 _ _ eN
    have NU : NtsM U vs X.S.ns := NN.toM.same s2
    clear eN NN s2
    refine ⟨.ref X.h, rfl, X.h, .ref X.q, rfl, hget (hS.get (by walk_at "pu")) (hK_deeds _ _ _ _), X.q, rfl, ⟨_, sq_at (hS.get (by walk_at "pu"))⟩, ?_⟩
    refine for_list (K := K) (a := X.q) (xs := X.vs) (fun i σ H' => ∃ (M' : Hp) (y6 y7 : Option V), σ = [some (.ref X.h), some (.ref X.row), some (.ref X.pl), some (.bl X.go), some (.ref m), some (.ref lg), y6, y7] ∧ Sat H' (mdC m (deedsS X.S0 (X.ds.take i)) M' :: .pt X.h (.dK (hK X.t X.d X.q n)) :: .pt X.q (.lst X.vs) :: devC T.C_Device X.d X.S :: R) ∧ Same U M') ⟨U, none, none, rfl, (show Sat H (mdC m (dst0 X.go X.r X.ps) U :: _) from (hS.pk (by walk_at "pk"))), Same.refl U⟩ (fun i σ H' _ h => by obtain ⟨_, _, _, _, hS, _⟩ := h; exact sq_at (hS.get (by walk_at "pu"))) (fun i x σ H' hx hW => ?_) (fun σ H' hW => ?_)
    · obtain ⟨M', y6, y7, rfl, hS, sm⟩ := hW
      obtain ⟨de, ed, t, hv, rfl, ht, hh⟩ := (hA.v.same (s1.trans sm)).at hx
      have il := (List.getElem?_eq_some_iff.mp ed).1
      have lim := ho.at i (by omega)
      have so := ho.ran i de ed
      have hk : deedsS X.S0 (X.ds.take (i + 1)) = stepD (deedsS X.S0 (X.ds.take i)) de := by
        rw [List.take_succ_eq_append_getElem il, deedsS_snoc, (List.getElem?_eq_some_iff.mp ed).2]
      rw [hk]
      generalize deedsS X.S0 (X.ds.take i) = S at lim so hS hk ⊢
      have l1 := lim.cl
      have l2 := lim.sp
      have l3 := lim.ns
      have l4 := lim.pl
      refine ⟨t, _, rfl, .inl (.inl (hS.mds (m := m) (by walk_at "pu") _ _ ht)), rfl, ?_⟩
      refine ⟨_, _, rfl, _, _, rfl, rfl, ?_⟩
      cases de with
      | ask a =>
        refine ⟨_, rfl, rfl, _, rfl, iteFc (w_ask a) ?_⟩
        refine ⟨.ref m, rfl, _, rfl, _, rfl, m, S, a, hv, M', _, rfl, (hS.pk (by walk_at "pk")), hh, lim.uo, by omega, by omega, by omega, by omega, so.1.ask, fun H cv M2 hS s3 hcv => ?_⟩
        have hS : Sat H (mdC m (doneS S a) M2 :: .pt X.h (.dK (hK X.t X.d X.q n)) :: .pt X.q (.lst X.vs) :: devC T.C_Device X.d X.S :: R) := (hS.pk (by walk_at "pk"))
        exact ⟨M2, _, _, rfl, hS, sm.trans s3⟩
      | grow g =>
        obtain ⟨l, rfl, hl⟩ := hh
        have lg6 : g.length ≤ 6 := so
        refine ⟨_, rfl, rfl, _, rfl, iteTc (decide_eq_true rfl) ?_⟩
        obtain ⟨rw, pl, no, nv, hM, N0⟩ := Sat.md (m := m) (hS.pk (by walk_at "pk"))
        have hS := hM
        refine ⟨.ref m, rfl, m, .ref rw, rfl, mget (hS.get (by walk_at "pu")) (mK_row _ _ _ _), .ref l, rfl, rw, l, _, _, rfl, rfl, (hS.get (by walk_at "pu")), hS.fr (by walk_at "pu") hl, by rw [List.length_map, List.length_map]; omega, ?_⟩
        rw [← List.map_append]
        intro z nl_
        generalize hG_ : upd _ z _ = H
        have hS := Sat.alloc hS nl_ hG_
        clear nl_ hG_
        refine ⟨.ref m, rfl, m, _, rfl, mput (kvs := mK z pl no S.spot) (hS.get (by walk_at "pu")) (mK_prow _ _ _ _ _), ?_⟩
        generalize hG_ : upd _ m _ = H
        have hS := Sat.put (a := m) (hS.pk (by walk_at "pk")) hG_
        clear hG_
        have hS : Sat H (.pt m (.dK (mK z pl no S.spot)) :: .pt z (.lst ((S.cells ++ g).map V.int)) :: .pt pl (.lst (S.plan.map V.int)) :: .pt no (.lst nv) :: frC M' :: .pt X.h (.dK (hK X.t X.d X.q n)) :: .pt X.q (.lst X.vs) :: devC T.C_Device X.d X.S :: R) := (hS.pk (by walk_at "pk"))
        exact ⟨M', _, _, rfl, Sat.mdI (S := stepD S (.grow g)) N0 hS, sm⟩
    · obtain ⟨M', y6, y7, rfl, hS, sm⟩ := hW
      rw [hA.v.1, List.take_length] at hS
      have hS : Sat H' (mdC m X.S M' :: .pt X.h (.dK (hK X.t X.d X.q n)) :: .pt X.q (.lst X.vs) :: devC T.C_Device X.d X.S :: R) := hS
      obtain ⟨rw, pl, no, nv, hM, N0⟩ := Sat.md (m := m) (hS.pk (by walk_at "pk"))
      have nok := Nts.ok N0
      have sH := hS.mds (m := m) (by walk_at "pu")
      refine ⟨.ref m, rfl, m, .ref no, rfl, mget (hM.get (by walk_at "pu")) (mK_notes _ _ _ _), _, rfl, ntsD X.S.ns, Nts.dp (N0.same sH) (hM.get (by walk_at "pu")), Nts.dp ((NU.same sm).same sH) (sH _ _ (sm _ _ eU)), log_shaped nok, _, rfl, iteF ?_⟩
      have hS := hM
      refine ⟨.ref m, rfl, m, .ref rw, rfl, mget (hS.get (by walk_at "pu")) (mK_row _ _ _ _), .ref X.h, rfl, X.h, .ref X.d, rfl, hget (hS.get (by walk_at "pu")) (hK_raw _ _ _ _), meth_devP hS (by walk_at "pu") (by decide +kernel) ⟨X.d, X.S, _, rfl, (hS.pk (by walk_at "pk")), fun H ct hS => ?_⟩⟩
      refine ⟨rw, ct, _, _, rfl, rfl, sq_at (hS.get (by walk_at "pu")), sq_at (hS.get (by walk_at "pu")), _, rfl, iteFc (by simp) ?_⟩
      have hS : Sat H (.pt m (.dK (mK rw pl no X.S.spot)) :: .pt rw (.lst (X.S.cells.map V.int)) :: .pt pl (.lst (X.S.plan.map V.int)) :: .pt no (.lst nv) :: frC M' :: .pt X.h (.dK (hK X.t X.d X.q n)) :: .pt X.q (.lst X.vs) :: devC T.C_Device X.d X.S :: R) := (hS.pk (by walk_at "pk"))
      exact ⟨_, rfl, q _ m M' (Sat.mdI N0 hS) (s1.trans sm)⟩

set_option maxHeartbeats 0 in
theorem ok_lagain (T : Tx K mg) : FnOk P w K mg base CX0 8 T.f_lagain T.fd_lagain P_lagain (spAgainQ T.C_Device) := by
  have G_dinit := (ok_dinit (P := P) (w := w) (base := base) T).imp fun _ _ _ _ => spDInitS.to
  have G_dgrow := (ok_dgrow (P := P) (w := w) (base := base) T).imp fun _ _ _ _ => spGrowF.to
  have G_ltold := ok_ltold (P := P) (w := w) (base := base) T
  have sz : sizeLine = 16777216 := sizeLine_eq
  refine T.D_lagain.F.ok sc_lagain (fun vs H Q E h => ?_) (fun cdv A outer s H vs Q E hr h => ?_)
  · obtain ⟨X, n, M, R, rfl, _⟩ := h
    rfl
  · obtain ⟨X, n, M, R, rfl, hS, hA, ho, q⟩ := h
    refine ⟨_, (pss_cons (ps_asg (pe_dget (hu_of hr) (pv 0) pe_str (fun _ _ => rfl)) (pg_tup rfl (pgs_cons (pg_name (i := 1) sc_lagain.nd rfl (.inl rfl)) (pgs_cons (pg_name (i := 2) sc_lagain.nd rfl (.inl rfl)) (pgs_cons (pg_name (i := 3) sc_lagain.nd rfl (.inl rfl)) pgs_nil)))))
      (pss_cons (ps_set (i := 4) sc_lagain.nd rfl (.inl rfl) (pe_makeK T.mk_Device G_dinit (hr.mono (by decide)) (by rfl) T.g_Device T.kb_dinit_1_plan_seeks pass0 (pa_cons (pv 1) pa_nil) (pk_cons (pv 2) (pk_cons (pv 3) pk_nil))))
      (pss_cons (ps_for PassesOwn.never rfl (pi_list (pe_dget (hu_of hr) (pv 0) pe_str (fun _ _ => rfl))) (pg_tup rfl (pgs_cons (pg_name (i := 5) sc_lagain.nd rfl (.inl rfl)) (pgs_cons (pg_name (i := 6) sc_lagain.nd rfl (.inl rfl)) pgs_nil))) (pss_one (ps_if (pt_cmpR op_eq (pv 5) pe_str (nomark _)) (pss_one (ps_expr (pe_meth (pv 4) T.cl_Device T.D_dgrow.m G_dgrow (hr.mono (by decide)) T.bb_dgrow .nil pass0 (pa_cons (pv 6) pa_nil)))) (pss_one (ps_expr (pe_call G_ltold (hr.mono (by decide)) (by rfl) T.D_ltold.g T.D_ltold.F.kp T.bb_ltold .nil pass0 (pa_cons (pv 4) (pa_cons (pv 5) (pa_cons (pv 6) pa_nil)))))))))
      (pss_one (ps_ret (pv 4)))))), ?_⟩
    have ldx := ho.ld
    refine ⟨.ref X.h, rfl, X.h, .ref X.t, rfl, hget (hS.get (by walk_at "pu")) (hK_made _ _ _ _), X.t, _, rfl, .inl (.inl (hS.fr (by walk_at "pu") hA.t)), rfl, ?_⟩
    refine ⟨_, _, rfl, _, _, rfl, _, _, rfl, rfl, ?_⟩
    refine ⟨.ref X.row, rfl, .ref X.pl, rfl, .bl X.go, rfl, rfl, rfl, fun d dd nd ndd ne => ?_⟩
    generalize hG : upd (upd _ dd _) d _ = H
    have hS := Sat.make hS nd ndd ne hG
    clear hG nd ndd ne
    refine ⟨d, dd, X.row, X.pl, X.go, X.r, X.ps, _, rfl, (hS.pk (by walk_at "pk")), hS.fr (by walk_at "pu") hA.r, hS.fr (by walk_at "pu") hA.p, fun H hS => ⟨rfl, ?_⟩⟩
    refine ⟨.ref X.h, rfl, X.h, .ref X.q, rfl, hget (hS.get (by walk_at "pu")) (hK_deeds _ _ _ _), X.q, rfl, ⟨_, sq_at (hS.get (by walk_at "pu"))⟩, ?_⟩
    refine for_list (K := K) (a := X.q) (xs := X.vs) (fun i σ H' => ∃ (y6 y7 : Option V), σ = [some (.ref X.h), some (.ref X.row), some (.ref X.pl), some (.bl X.go), some (.ref d), y6, y7] ∧ Sat H' (devC T.C_Device d (deedsS X.S0 (X.ds.take i)) :: .pt X.h (.dK (hK X.t X.d X.q n)) :: .pt X.q (.lst X.vs) :: frC M :: R)) ⟨none, none, rfl, (show Sat H (devC T.C_Device d (dst0 X.go X.r X.ps) :: _) from (hS.pk (by walk_at "pk")))⟩ (fun i σ H' _ h => by obtain ⟨_, _, _, hS⟩ := h; exact sq_at (hS.get (by walk_at "pu"))) (fun i x σ H' hx hW => ?_) (fun σ H' hW => ?_)
    · obtain ⟨y6, y7, rfl, hS⟩ := hW
      obtain ⟨de, ed, t, hv, rfl, ht, hh⟩ := hA.v.at hx
      have il := (List.getElem?_eq_some_iff.mp ed).1
      have lim := ho.at i (by omega)
      have so := ho.ran i de ed
      have hk : deedsS X.S0 (X.ds.take (i + 1)) = stepD (deedsS X.S0 (X.ds.take i)) de := by
        rw [List.take_succ_eq_append_getElem il, deedsS_snoc, (List.getElem?_eq_some_iff.mp ed).2]
      rw [hk]
      generalize deedsS X.S0 (X.ds.take i) = S at lim so hS hk ⊢
      have l1 := lim.cl
      refine ⟨t, _, rfl, .inl (.inl (hS.fr (by walk_at "pu") ht)), rfl, ?_⟩
      refine ⟨_, _, rfl, _, _, rfl, rfl, ?_⟩
      cases de with
      | ask a =>
        refine ⟨_, rfl, rfl, _, rfl, iteFc (w_ask a) ?_⟩
        refine ⟨.ref d, rfl, _, rfl, _, rfl, d, S, a, hv, M, _, rfl, (hS.pk (by walk_at "pk")), hh, lim.ok (by omega), lim.br, so.2, lim.fit so.1 (by omega), fun H t2 hS => ?_⟩
        have hS : Sat H (devC T.C_Device d (doneS S a) :: .pt X.h (.dK (hK X.t X.d X.q n)) :: .pt X.q (.lst X.vs) :: frC M :: R) := (hS.pk (by walk_at "pk"))
        exact ⟨_, _, rfl, hS⟩
      | grow g =>
        obtain ⟨l, rfl, hl⟩ := hh
        have lg6 : g.length ≤ 6 := so
        refine ⟨_, rfl, rfl, _, rfl, iteTc (decide_eq_true rfl) ?_⟩
        refine ⟨.ref d, rfl, meth_devP hS (by walk_at "pu") (by decide +kernel) ⟨.ref l, rfl, d, l, S, g, M, _, rfl, (hS.pk (by walk_at "pk")), hl, fun _ => by omega, by omega, fun H hS => ?_⟩⟩
        have hS : Sat H (devC T.C_Device d { S with cells := S.cells ++ g } :: .pt X.h (.dK (hK X.t X.d X.q n)) :: .pt X.q (.lst X.vs) :: frC M :: R) := (hS.pk (by walk_at "pk"))
        exact ⟨_, _, rfl, hS⟩
    · obtain ⟨y6, y7, rfl, hS⟩ := hW
      rw [hA.v.1, List.take_length] at hS
      exact ⟨_, rfl, q _ d hS⟩

set_option maxHeartbeats 0 in
theorem ok_law (T : Tx K mg) : FnOk P w K mg base CX0 10 T.f_law T.fd_law P_law (spLaw K) := by
  have G_pool := (ok_pool (P := P) (w := w) (base := base) T).imp fun _ _ _ _ => spPoolS.to
  have G_take := (ok_take (P := P) (w := w) (base := base) T).imp fun _ _ _ _ => spTakeS.to
  have G_lrow := (ok_lrow (P := P) (w := w) (base := base) T).imp fun _ _ _ _ => spRowS.to
  have G_ldeed := ok_ldeed (P := P) (w := w) (base := base) T
  have G_ltold := ok_ltold (P := P) (w := w) (base := base) T
  have G_lhouse := ok_lhouse (P := P) (w := w) (base := base) T
  have G_lwalked := ok_lwalked (P := P) (w := w) (base := base) T
  have G_lagain := ok_lagain (P := P) (w := w) (base := base) T
  have G_dlen := ok_dlen (P := P) (w := w) (base := base) T
  have G_deq := ok_deq (P := P) (w := w) (base := base) T
  have G_dplace := ok_dplace (P := P) (w := w) (base := base) T
  have G_dlog := (ok_dlog (P := P) (w := w) (base := base) T).imp fun _ _ _ _ => spLogDS.to
  have G_dleft := (ok_dleft (P := P) (w := w) (base := base) T).imp fun _ _ _ _ => spLeftQ.to
  have G_dgrow := (ok_dgrow (P := P) (w := w) (base := base) T).imp fun _ _ _ _ => spGrowF.to
  have sz : sizeLine = 16777216 := sizeLine_eq
  refine T.D_law.F.ok sc_law (fun vs H Q E h => ?_) (fun cdv A outer s H vs Q E hr h => ?_)
  · obtain ⟨a, ns, rfl, _⟩ := h
    rfl
  · obtain ⟨a, ns, rfl, hS, h63, q⟩ := h
    refine ⟨_, (pss_cons (ps_set (i := 1) sc_law.nd rfl (.inl rfl) (pe_call G_pool (hr.mono (by decide)) (by rfl) T.D_pool.g T.D_pool.F.kp T.bb_pool .nil pass0 (pa_cons (pv 0) (pa_cons pe_int pa_nil))))
      (pss_cons (ps_set (i := 2) sc_law.nd rfl (.inl rfl) (pe_lst (pa_cons (pe_call G_lhouse (hr.mono (by decide)) (by rfl) T.D_lhouse.g T.D_lhouse.F.kp T.bb_lhouse .nil pass0 (pa_cons (pv 1) (pa_cons pe_bl pa_nil))) (pa_cons (pe_call G_lhouse (hr.mono (by decide)) (by rfl) T.D_lhouse.g T.D_lhouse.F.kp T.bb_lhouse .nil pass0 (pa_cons (pv 1) (pa_cons (pe_cmpR op_gt (pe_call G_take (hr.mono (by decide)) (by rfl) T.D_take.g T.D_take.F.kp T.bb_take .nil pass0 (pa_cons (pv 1) (pa_cons pe_int pa_nil))) pe_int (nomark _)) pa_nil))) pa_nil))))
      (pss_cons (ps_for PassesOwn.never rfl (pi_range2 (by rfl) T.m_range (pa_cons pe_int (pa_cons (pe_callB (call_max2 rfl) (by rfl) T.m_max (by decide +kernel) (pa_cons pe_int (pa_cons (pe_callB (call_min2 rfl) (by rfl) T.m_min (by decide +kernel) (pa_cons pe_int (pa_cons (pe_callB call_len_seq (by rfl) T.m_len PySem.boot_len (pa_cons (pv 0) pa_nil)) pa_nil))) pa_nil))) pa_nil))) (pg_name (i := 3) sc_law.nd rfl (.inl rfl)) (pss_cons (ps_set (i := 1) sc_law.nd rfl (.inl rfl) (pe_call G_pool (hr.mono (by decide)) (by rfl) T.D_pool.g T.D_pool.F.kp T.bb_pool .nil pass0 (pa_cons (pv 0) (pa_cons (pv 3) pa_nil))))
      (pss_cons (ps_set (i := 4) sc_law.nd rfl (.inl rfl) (pe_ix ix_list (pv 2) (pe_call G_take (hr.mono (by decide)) (by rfl) T.D_take.g T.D_take.F.kp T.bb_take .nil pass0 (pa_cons (pv 1) (pa_cons pe_int pa_nil))) (fun _ _ => rfl)))
      (pss_cons (ps_asg (pe_call G_ldeed (hr.mono (by decide)) (by rfl) T.D_ldeed.g T.D_ldeed.F.kp T.bb_ldeed .nil pass0 (pa_cons (pv 1) (pa_cons (pe_disp (pps_cons pe_str (pe_op op_rep (pe_lst (pa_cons pe_int pa_nil)) (pe_dget (hu_of hr) (pv 4) pe_str (fun _ _ => rfl))) pps_nil) (by rfl) (by rfl) (fun z => by cases z) (by decide)) pa_nil))) (pg_tup rfl (pgs_cons (pg_name (i := 5) sc_law.nd rfl (.inl rfl)) (pgs_cons (pg_name (i := 6) sc_law.nd rfl (.inl rfl)) pgs_nil))))
      (C8.pss_cut (ps_if (PW.pt (pw_and (pt_cmpR op_in_seq (pv 5) (pe_lst (pa_cons pe_str (pa_cons pe_str pa_nil))) rfl) (pw_and1 (PW.pt (pw_or (pt_not (pt_val (pe_ix ix_tup (pe_dget (hu_of hr) (pv 4) pe_str (fun _ _ => rfl)) pe_int (fun _ _ => rfl)))) (pw_or1 (pt_cmpR op_eq (pe_call G_take (hr.mono (by decide)) (by rfl) T.D_take.g T.D_take.F.kp T.bb_take .nil pass0 (pa_cons (pv 1) (pa_cons pe_int pa_nil))) pe_int (nomark _)))))))) (pss_cons (ps_par (i := 5) (j := 6) (by rfl) sc_law.nd rfl rfl (by decide) rfl rfl (pa_cons pe_str (pa_cons (pe_call G_lrow (hr.mono (by decide)) (by rfl) T.D_lrow.g T.D_lrow.F.kp T.bb_lrow .nil pass0 (pa_cons (pv 1) (pa_cons pe_int pa_nil))) pa_nil)) (by rfl))
      (pss_one (ps_expr (pe_meth (pe_dget (hu_of hr) (pv 4) pe_str (fun _ _ => rfl)) T.cl_Device T.D_dgrow.m G_dgrow (hr.mono (by decide)) T.bb_dgrow .nil pass0 (pa_cons (pv 6) pa_nil))))) (pss_one (ps_expr (pe_call G_ltold (hr.mono (by decide)) (by rfl) T.D_ltold.g T.D_ltold.F.kp T.bb_ltold .nil pass0 (pa_cons (pe_dget (hu_of hr) (pv 4) pe_str (fun _ _ => rfl)) (pa_cons (pv 5) (pa_cons (pv 6) pa_nil)))))))
      (pss_cons (ps_expr (pe_bm PySem.F.plainAttrs_list PySem.F.slot_list_append PySem.F.type_list_append mt_append (pe_dget (hu_of hr) (pv 4) pe_str (fun _ _ => rfl)) (pa_cons (pe_tup (pa_cons (pv 5) (pa_cons (pv 6) pa_nil))) pa_nil)))
      (pss_cons (ps_asg (pe_callB (id := "len") (Sip.call_lenOwn T.D_dlen.m G_dlen (hr.mono (by decide)) T.bb_dlen pass0) (by rfl) T.m_len PySem.boot_len (pa_cons (pe_dget (hu_of hr) (pv 4) pe_str (fun _ _ => rfl)) pa_nil)) (pg_sub (pv 4) pe_str (set_dict (hu_of hr))))
      (pss_one (ps_for PassesOwn.never rfl (pi_list (pv 2)) (pg_name (i := 7) sc_law.nd rfl (.inl rfl)) (pss_cons (ps_set (i := 8) sc_law.nd rfl (.inl rfl) (pe_call G_lwalked (hr.mono (by decide)) (by rfl) T.D_lwalked.g T.D_lwalked.F.kp T.bb_lwalked .nil pass0 (pa_cons (pv 7) pa_nil)))
      (pss_one (ps_if (PW.pt (pw_or (pt_cmpR op_isN (pv 8) pe_non (nomark _)) (pw_or1 (PW.pt (pw_and (pt_val (pe_ix ix_tup (pe_dget (hu_of hr) (pv 7) pe_str (fun _ _ => rfl)) pe_int (fun _ _ => rfl))) (pw_and1 (pt_cmpR op_ne (pe_meth0 (pe_dget (hu_of hr) (pv 7) pe_str (fun _ _ => rfl)) T.cl_Device T.D_dplace.m G_dplace (hr.mono (by decide)) T.bb_dplace .nil pass0) (pe_dget (hu_of hr) (pv 8) pe_str (fun _ _ => rfl)) (nomark _)))))))) (pss_one (ps_ret pe_bl)) pss_nil))))))))))))
      (pss_cons (ps_for PassesOwn.never rfl (pi_list (pv 2)) (pg_name (i := 4) sc_law.nd rfl (.inl rfl)) (pss_cons (ps_set (i := 9) sc_law.nd rfl (.inl rfl) (pe_call G_lagain (hr.mono (by decide)) (by rfl) T.D_lagain.g T.D_lagain.F.kp T.bb_lagain .nil pass0 (pa_cons (pv 4) pa_nil)))
      (pss_cons (ps_if (PW.pt (pw_or (pt_cmpR (Sip.op_neOwn T.D_deq.m T.v1_Device T.v5_Device G_deq (hr.mono (by decide)) T.bb_deq pass0) (pv 9) (pe_dget (hu_of hr) (pv 4) pe_str (fun _ _ => rfl)) (nomark _)) (pw_or1 (pt_cmpR (Sip.op_neS hr.units) (pe_meth0 (pv 9) T.cl_Device T.D_dlog.m G_dlog (hr.mono (by decide)) T.bb_dlog .nil pass0) (pe_meth0 (pe_dget (hu_of hr) (pv 4) pe_str (fun _ _ => rfl)) T.cl_Device T.D_dlog.m G_dlog (hr.mono (by decide)) T.bb_dlog .nil pass0) (nomark _))))) (pss_one (ps_ret pe_bl)) pss_nil)
      (pss_one (ps_if (pt_cmpR op_ne (pe_meth0 (pv 9) T.cl_Device T.D_dleft.m G_dleft (hr.mono (by decide)) T.bb_dleft .nil pass0) (pe_meth0 (pe_dget (hu_of hr) (pv 4) pe_str (fun _ _ => rfl)) T.cl_Device T.D_dleft.m G_dleft (hr.mono (by decide)) T.bb_dleft .nil pass0) (nomark _)) (pss_one (ps_ret pe_bl)) pss_nil)))))
      (pss_one (ps_ret pe_bl)))))), ?_⟩
    have hS := Sat.scr0 hS
    refine ⟨.ref a, rfl, a, ns, 0, [], rfl, hS, h63, by decide, by decide, fun p H hS => ?_⟩
    refine ⟨.ref p, rfl, p, _, true, _, rfl, (hS.pk (by walk_at "pk")), by decide, fun H h0 t0 d0 q0 rw0 pl0 r0 ps0 hS lr0 lp0 => ?_⟩
    refine ⟨.ref p, rfl, .ref p, rfl, p, _, 3, _, rfl, (hS.pk (by walk_at "pk")), by decide, by decide, by decide, fun go H _ hS => ?_⟩
    refine ⟨_, _, rfl, rfl, p, _, _, _, rfl, (hS.pk (by walk_at "pk")), by decide, fun H h1 t1 d1 q1 rw1 pl1 r1 ps1 hS lr1 lp1 => ?_⟩
    generalize decide ((0 : Int) < go) = g1 at hS
    refine ⟨by show (2 : Nat) ≤ sizeLine; omega, ?_⟩
    intro hs nl_
    generalize hG_ : upd _ hs _ = H
    have hS := Sat.alloc hS nl_ hG_
    clear nl_ hG_
    have hS := hS.fr0
    have hS : Sat H (.pt t0 (.tup [.ref rw0, .ref pl0, .bl true]) :: .pt rw0 (.lst (r0.map V.int)) :: .pt pl0 (.lst (ps0.map V.int)) :: frC (fun _ => none) :: .pt t1 (.tup [.ref rw1, .ref pl1, .bl g1]) :: .pt rw1 (.lst (r1.map V.int)) :: .pt pl1 (.lst (ps1.map V.int)) :: .pt hs (.lst [.ref h0, .ref h1]) :: .pt h0 (.dK (hK t0 d0 q0 r0.length)) :: .pt q0 (.lst []) :: devC T.C_Device d0 (dst0 true r0 ps0) :: .pt h1 (.dK (hK t1 d1 q1 r1.length)) :: .pt q1 (.lst []) :: devC T.C_Device d1 (dst0 g1 r1 ps1) :: scrC K a (ns.map V.int) :: []) := (hS.pk (by walk_at "pk"))
    obtain ⟨U, hS, _, u1, u2, u3⟩ := hS.fr3
    have hS : Sat H (.pt t1 (.tup [.ref rw1, .ref pl1, .bl g1]) :: .pt rw1 (.lst (r1.map V.int)) :: .pt pl1 (.lst (ps1.map V.int)) :: frC U :: .pt hs (.lst [.ref h0, .ref h1]) :: .pt h0 (.dK (hK t0 d0 q0 r0.length)) :: .pt q0 (.lst []) :: devC T.C_Device d0 (dst0 true r0 ps0) :: .pt h1 (.dK (hK t1 d1 q1 r1.length)) :: .pt q1 (.lst []) :: devC T.C_Device d1 (dst0 g1 r1 ps1) :: scrC K a (ns.map V.int) :: []) := (hS.pk (by walk_at "pk"))
    obtain ⟨M, hS, sU, m1, m2, m3⟩ := hS.fr3
    obtain ⟨X, hX⟩ : ∃ X : Hs, X = ⟨h0, t0, d0, q0, rw0, pl0, [], r0, ps0, true, []⟩ := ⟨_, rfl⟩
    obtain ⟨Y, hY⟩ : ∃ Y : Hs, Y = ⟨h1, t1, d1, q1, rw1, pl1, [], r1, ps1, g1, []⟩ := ⟨_, rfl⟩
    have aX : X.At M := by subst hX; exact ⟨sU _ _ u1, sU _ _ u2, sU _ _ u3, rfl, fun i v d e => by simp at e⟩
    have aY : Y.At M := by subst hY; exact ⟨m1, m2, m3, rfl, fun i v d e => by simp at e⟩
    have oX : X.Ok := by subst hX; exact ⟨lr0, lp0, fun i d e => by simp at e, Nat.zero_le _⟩
    have oY : Y.Ok := by subst hY; exact ⟨lr1, lp1, fun i d e => by simp at e, Nat.zero_le _⟩
    have dX : X.ds.length ≤ 0 := by subst hX; exact Nat.le_refl _
    have dY : Y.ds.length ≤ 0 := by subst hY; exact Nat.le_refl _
    have ex : (h0 = X.h ∧ h1 = Y.h) ∨ (h0 = Y.h ∧ h1 = X.h) := by subst hX hY; exact .inl ⟨rfl, rfl⟩
    have hS : Sat H (.pt X.h (.dK (hK X.t X.d X.q X.S.cells.length)) :: .pt X.q (.lst X.vs) :: devC T.C_Device X.d X.S :: .pt Y.h (.dK (hK Y.t Y.d Y.q Y.S.cells.length)) :: .pt Y.q (.lst Y.vs) :: devC T.C_Device Y.d Y.S :: frC M :: .pt hs (.lst [.ref h0, .ref h1]) :: scrC K a (ns.map V.int) :: []) := by
      subst hX hY
      exact (show Sat H (.pt h0 (.dK (hK t0 d0 q0 r0.length)) :: .pt q0 (.lst []) :: devC T.C_Device d0 (dst0 true r0 ps0) :: .pt h1 (.dK (hK t1 d1 q1 r1.length)) :: .pt q1 (.lst []) :: devC T.C_Device d1 (dst0 g1 r1 ps1) :: frC M :: .pt hs (.lst [.ref h0, .ref h1]) :: scrC K a (ns.map V.int) :: []) from (hS.pk (by walk_at "pk")))
    clear hX hY u1 u2 u3 m1 m2 m3 sU lr0 lp0 lr1 lp1
    refine ⟨.ref a, rfl, a, _, rfl, .inl (Sat.scr (K := K) (xs := ns.map V.int) hS (by walk_at "pu")), _, _, rfl, _, _, rfl, _, _, rfl, ?_, ?_⟩
    · refine ⟨by decide, by decide, ?_, ?_⟩ <;> split <;> (split <;> omega)
    have en : ∃ n : Nat, n ≤ 63 ∧ ((if (if (((ns.map V.int).length : Nat) : Int) < 64 then (((ns.map V.int).length : Nat) : Int) else 64) > 11 then (if (((ns.map V.int).length : Nat) : Int) < 64 then (((ns.map V.int).length : Nat) : Int) else 64) else 11) - 1).toNat = n := by
      refine ⟨_, ?_, rfl⟩
      split <;> (split <;> omega)
    obtain ⟨n, n63, en⟩ := en
    rw [en]
    refine for_range (lo := 1) (n := n) (fun i σ H' => ∃ (X Y : Hs) (M : Hp) (y1 y3 y4 y5 y6 y7 y8 y9 : Option V), σ = [some (.ref a), y1, some (.ref hs), y3, y4, y5, y6, y7, y8, y9] ∧ Sat H' (.pt X.h (.dK (hK X.t X.d X.q X.S.cells.length)) :: .pt X.q (.lst X.vs) :: devC T.C_Device X.d X.S :: .pt Y.h (.dK (hK Y.t Y.d Y.q Y.S.cells.length)) :: .pt Y.q (.lst Y.vs) :: devC T.C_Device Y.d Y.S :: frC M :: .pt hs (.lst [.ref h0, .ref h1]) :: scrC K a (ns.map V.int) :: []) ∧ ((h0 = X.h ∧ h1 = Y.h) ∨ (h0 = Y.h ∧ h1 = X.h)) ∧ X.At M ∧ Y.At M ∧ X.Ok ∧ Y.Ok ∧ X.ds.length ≤ i ∧ Y.ds.length ≤ i) ⟨X, Y, M, _, _, _, _, _, _, _, _, rfl, hS, ex, aX, aY, oX, oY, dX, dY⟩ (fun i σ H' hi hW => ?_) (fun σ H' hW => ?_)
    · clear hS ex aX aY oX oY dX dY en
      obtain ⟨X0, Y0, M, y1, y3, y4, y5, y6, y7, y8, y9, rfl, hS, ex0, aX0, aY0, oX0, oY0, dX0, dY0⟩ := hW
      refine ⟨.ref a, rfl, _, rfl, a, ns, 1 + (i : Int), _, rfl, (hS.pk (by walk_at "pk")), h63, by omega, by omega, fun p H hS => ?_⟩
      refine ⟨_, rfl, .ref p, rfl, p, _, 2, _, rfl, (hS.pk (by walk_at "pk")), by omega, by decide, by decide, fun r H r2 hS => ?_⟩
      have sel : ∃ X Y : Hs, atI [V.ref h0, V.ref h1] (r : Int) = some (.ref X.h) ∧ Sat H (.pt X.h (.dK (hK X.t X.d X.q X.S.cells.length)) :: .pt X.q (.lst X.vs) :: devC T.C_Device X.d X.S :: .pt Y.h (.dK (hK Y.t Y.d Y.q Y.S.cells.length)) :: .pt Y.q (.lst Y.vs) :: devC T.C_Device Y.d Y.S :: frC M :: .pt hs (.lst [.ref h0, .ref h1]) :: poolC p (1000 * (1 + (i : Int)) + 1) :: scrC K a (ns.map V.int) :: []) ∧ ((h0 = X.h ∧ h1 = Y.h) ∨ (h0 = Y.h ∧ h1 = X.h)) ∧ X.At M ∧ Y.At M ∧ X.Ok ∧ Y.Ok ∧ X.ds.length ≤ i ∧ Y.ds.length ≤ i := by
        rcases (show r = 0 ∨ r = 1 by omega) with rfl | rfl
        · rcases ex0 with ⟨e1, e2⟩ | ⟨e1, e2⟩
          · exact ⟨X0, Y0, by rw [e1]; rfl, (hS.pk (by walk_at "pk")), .inl ⟨e1, e2⟩, aX0, aY0, oX0, oY0, dX0, dY0⟩
          · exact ⟨Y0, X0, by rw [e1]; rfl, (hS.pk (by walk_at "pk")), .inl ⟨e1, e2⟩, aY0, aX0, oY0, oX0, dY0, dX0⟩
        · rcases ex0 with ⟨e1, e2⟩ | ⟨e1, e2⟩
          · exact ⟨Y0, X0, by rw [e2]; rfl, (hS.pk (by walk_at "pk")), .inr ⟨e1, e2⟩, aY0, aX0, oY0, oX0, dY0, dX0⟩
          · exact ⟨X0, Y0, by rw [e2]; rfl, (hS.pk (by walk_at "pk")), .inr ⟨e1, e2⟩, aX0, aY0, oX0, oY0, dX0, dY0⟩
      clear hS ex0 aX0 aY0 oX0 oY0 dX0 dY0
      obtain ⟨X, Y, er, hS, ex, aX, aY, oX, oY, dX, dY⟩ := sel
      refine ⟨hs, _, r, .ref X.h, rfl, rfl, sq_at (hS.get (by walk_at "pu")), er, ?_⟩
      have lim := oX.hl
      have l1 := lim.cl
      refine ⟨.ref p, rfl, ?_⟩
      intro m nl_
      generalize hG_ : upd _ m _ = H
      have hS := Sat.alloc hS nl_ hG_
      clear nl_ hG_
      refine ⟨by show (1 : Nat) ≤ sizeLine; omega, ?_⟩
      intro l0 nl_
      generalize hG_ : upd _ l0 _ = H
      have hS := Sat.alloc hS nl_ hG_
      clear nl_ hG_
      refine ⟨.ref X.h, rfl, X.h, .int X.S.cells.length, rfl, hget (hS.get (by walk_at "pu")) (hK_size _ _ _ _), l0, _, _, rfl, rfl, (hS.get (by walk_at "pu")), by omega, by omega, by show 1 * _ ≤ _; omega, ?_⟩
      intro rr nl_
      generalize hG_ : upd _ rr _ = H
      have hS := Sat.alloc hS nl_ hG_
      clear nl_ hG_
      refine ⟨(hS.get (by walk_at "pu")), [(Sum.inr (Str.ofString "row"), .ref rr)], rfl, by show (1 : Nat) ≤ 15; decide, ?_⟩
      generalize hG_ : upd _ m _ = H
      have hS := Sat.put (a := m) (hS.pk (by walk_at "pk")) hG_
      clear hG_
      rw [show mergeK [] [(Sum.inr (Str.ofString "row"), V.ref rr)] = [(Sum.inr (Str.ofString "row"), V.ref rr)] by kernel_rfl] at hS
      refine ⟨p, m, rr, _, _, X.S, _, rfl, (hS.pk (by walk_at "pk")), by omega, by simp, by omega, fun H t ak hv hS dk => ?_⟩
      refine ⟨t, _, rfl, .inl (.inl (hS.get (by walk_at "pu"))), rfl, ?_⟩
      refine ⟨_, _, rfl, _, _, rfl, rfl, ?_⟩
      have hS : Sat H (tgC hv ak.h :: frC M :: .pt X.h (.dK (hK X.t X.d X.q X.S.cells.length)) :: .pt X.q (.lst X.vs) :: devC T.C_Device X.d X.S :: .pt Y.h (.dK (hK Y.t Y.d Y.q Y.S.cells.length)) :: .pt Y.q (.lst Y.vs) :: devC T.C_Device Y.d Y.S :: .pt hs (.lst [.ref h0, .ref h1]) :: poolC p (1000 * (1 + (i : Int)) + 1 + 2000) :: scrC K a (ns.map V.int) :: []) := (hS.pk (by walk_at "pk"))
      obtain ⟨U, hS, sU, hh⟩ := hS.tgfr
      have aX := aX.same sU
      have aY := aY.same sU
      have ldX := oX.ld
      have okS := lim.ok (by omega)
      refine ⟨fun σ' H' => ∃ (de : Dd) (hv' : V) (U' : Hp), σ' = [some (.ref a), some (.ref p), some (.ref hs), some (.int (1 + (i : Int))), some (.ref X.h), some (.str de.w), some hv', y7, y8, y9] ∧ Sat H' (.pt X.h (.dK (hK X.t X.d X.q X.S.cells.length)) :: .pt X.q (.lst X.vs) :: devC T.C_Device X.d (stepD X.S de) :: .pt Y.h (.dK (hK Y.t Y.d Y.q Y.S.cells.length)) :: .pt Y.q (.lst Y.vs) :: devC T.C_Device Y.d Y.S :: frC U' :: .pt hs (.lst [.ref h0, .ref h1]) :: scrC K a (ns.map V.int) :: []) ∧ Same U U' ∧ HandV U' hv' de.h ∧ StOk X.S de, ?_, fun σ' H' hm => ?_⟩
      · refine ⟨_, rfl, by show (2 : Nat) ≤ sizeLine; omega, ?_⟩
        intro lt nl_
        generalize hG_ : upd _ lt _ = H
        have hS := Sat.alloc hS nl_ hG_
        clear nl_ hG_
        refine ⟨lt, _, rfl, .inl (sq_at (hS.get (by walk_at "pu"))), rfl, rfl, _, rfl, ?_⟩
        rw [in_gc]
        have told : (X.S.seek = true ∨ NoGo ak) → ∀ (H : Hp), Sat H (devC T.C_Device X.d (doneS X.S ak) :: frC U :: .pt X.h (.dK (hK X.t X.d X.q X.S.cells.length)) :: .pt X.q (.lst X.vs) :: .pt Y.h (.dK (hK Y.t Y.d Y.q Y.S.cells.length)) :: .pt Y.q (.lst Y.vs) :: devC T.C_Device Y.d Y.S :: .pt hs (.lst [.ref h0, .ref h1]) :: scrC K a (ns.map V.int) :: []) → ∃ (de : Dd) (hv' : V) (U' : Hp), [some (.ref a), some (.ref p), some (.ref hs), some (.int (1 + (i : Int))), some (.ref X.h), some (.str ak.w), some hv, y7, y8, y9] = [some (.ref a), some (.ref p), some (.ref hs), some (.int (1 + (i : Int))), some (.ref X.h), some (.str de.w), some hv', y7, y8, y9] ∧ Sat H (.pt X.h (.dK (hK X.t X.d X.q X.S.cells.length)) :: .pt X.q (.lst X.vs) :: devC T.C_Device X.d (stepD X.S de) :: .pt Y.h (.dK (hK Y.t Y.d Y.q Y.S.cells.length)) :: .pt Y.q (.lst Y.vs) :: devC T.C_Device Y.d Y.S :: frC U' :: .pt hs (.lst [.ref h0, .ref h1]) :: scrC K a (ns.map V.int) :: []) ∧ Same U U' ∧ HandV U' hv' de.h ∧ StOk X.S de := fun hg H hS => by
          have hS : Sat H (.pt X.h (.dK (hK X.t X.d X.q X.S.cells.length)) :: .pt X.q (.lst X.vs) :: devC T.C_Device X.d (doneS X.S ak) :: .pt Y.h (.dK (hK Y.t Y.d Y.q Y.S.cells.length)) :: .pt Y.q (.lst Y.vs) :: devC T.C_Device Y.d Y.S :: frC U :: .pt hs (.lst [.ref h0, .ref h1]) :: scrC K a (ns.map V.int) :: []) := (hS.pk (by walk_at "pk"))
          exact ⟨.ask ak, hv, U, rfl, hS, Same.refl U, hh, dk, hg⟩
        have eSk : X.S.seek = X.go := deedsS_seek _ _
        cases hg : GoW ak with
        | false =>
          refine iteF ?_
          refine ⟨.ref X.h, rfl, X.h, .ref X.d, rfl, hget (hS.get (by walk_at "pu")) (hK_raw _ _ _ _), _, rfl, _, rfl, X.d, X.S, ak, hv, U, _, rfl, (hS.pk (by walk_at "pk")), hh, okS, lim.br, .inr (GoW.no hg), lim.fit dk (by omega), fun H t2 hS => ?_⟩
          exact told (.inr (GoW.no hg)) H (hS.pk (by walk_at "pk"))
        | true =>
          refine iteT ?_
          refine ⟨.ref X.h, rfl, X.h, .ref X.t, rfl, hget (hS.get (by walk_at "pu")) (hK_made _ _ _ _), X.t, _, 2, .bl X.go, rfl, rfl, .inl (.inl (hS.fr (by walk_at "pu") aX.t)), rfl, X.go, rfl, ?_⟩
          cases hgo : X.go with
          | false =>
            refine iteT (iteT ?_)
            refine ⟨_, rfl, p, _, 6, _, rfl, (hS.pk (by walk_at "pk")), by omega, by decide, by decide, fun H gl gs hS lg _ => ?_⟩
            refine ⟨_, _, rfl, ?_⟩
            obtain ⟨U2, hS, s2, e2⟩ := Sat.ptfr (a := gl) (M := U) (hS.pk (by walk_at "pk"))
            refine ⟨.ref X.h, rfl, X.h, .ref X.d, rfl, hget (hS.get (by walk_at "pu")) (hK_raw _ _ _ _), meth_devP hS (by walk_at "pu") (by decide +kernel) ⟨.ref gl, rfl, X.d, gl, X.S, gs, U2, _, rfl, (hS.pk (by walk_at "pk")), e2, fun _ => by omega, by omega, fun H hS => ?_⟩⟩
            have hS : Sat H (.pt X.h (.dK (hK X.t X.d X.q X.S.cells.length)) :: .pt X.q (.lst X.vs) :: devC T.C_Device X.d { X.S with cells := X.S.cells ++ gs } :: .pt Y.h (.dK (hK Y.t Y.d Y.q Y.S.cells.length)) :: .pt Y.q (.lst Y.vs) :: devC T.C_Device Y.d Y.S :: frC U2 :: .pt hs (.lst [.ref h0, .ref h1]) :: scrC K a (ns.map V.int) :: []) := (hS.pk (by walk_at "pk"))
            exact ⟨.grow gs, .ref gl, U2, rfl, hS, s2, ⟨gl, rfl, e2⟩, by show gs.length ≤ 6; omega⟩
          | true =>
            refine iteF ?_
            refine ⟨_, rfl, p, _, 4, _, rfl, (hS.pk (by walk_at "pk")), by omega, by decide, by decide, fun r3 H _ hS => ?_⟩
            refine ⟨rfl, _, rfl, ite2 (fun _ => ?_) (fun _ => ?_)⟩
            · skip
              refine ⟨_, rfl, p, _, 6, _, rfl, (hS.pk (by walk_at "pk")), by omega, by decide, by decide, fun H gl gs hS lg _ => ?_⟩
              refine ⟨_, _, rfl, ?_⟩
              obtain ⟨U2, hS, s2, e2⟩ := Sat.ptfr (a := gl) (M := U) (hS.pk (by walk_at "pk"))
              refine ⟨.ref X.h, rfl, X.h, .ref X.d, rfl, hget (hS.get (by walk_at "pu")) (hK_raw _ _ _ _), meth_devP hS (by walk_at "pu") (by decide +kernel) ⟨.ref gl, rfl, X.d, gl, X.S, gs, U2, _, rfl, (hS.pk (by walk_at "pk")), e2, fun _ => by omega, by omega, fun H hS => ?_⟩⟩
              have hS : Sat H (.pt X.h (.dK (hK X.t X.d X.q X.S.cells.length)) :: .pt X.q (.lst X.vs) :: devC T.C_Device X.d { X.S with cells := X.S.cells ++ gs } :: .pt Y.h (.dK (hK Y.t Y.d Y.q Y.S.cells.length)) :: .pt Y.q (.lst Y.vs) :: devC T.C_Device Y.d Y.S :: frC U2 :: .pt hs (.lst [.ref h0, .ref h1]) :: scrC K a (ns.map V.int) :: []) := (hS.pk (by walk_at "pk"))
              exact ⟨.grow gs, .ref gl, U2, rfl, hS, s2, ⟨gl, rfl, e2⟩, by show gs.length ≤ 6; omega⟩
            · refine ⟨.ref X.h, rfl, X.h, .ref X.d, rfl, hget (hS.get (by walk_at "pu")) (hK_raw _ _ _ _), _, rfl, _, rfl, X.d, X.S, ak, hv, U, _, rfl, (hS.pk (by walk_at "pk")), hh, okS, lim.br, .inl (by rw [eSk, hgo]), lim.fit dk (by omega), fun H t2 hS => ?_⟩
              exact told (.inl (by rw [eSk, hgo])) H (hS.pk (by walk_at "pk"))
      · clear hS
        obtain ⟨de, hv2, U2, rfl, hS, sU2, hh2, so⟩ := hm
        have aX := aX.same sU2
        have aY := aY.same sU2
        have lv : X.vs.length ≤ 63 := by rw [aX.v.1]; exact ldX
        refine ⟨.ref X.h, rfl, X.h, .ref X.q, rfl, hget (hS.get (by walk_at "pu")) (hK_deeds _ _ _ _), .inl ⟨rfl, _, sq_at (hS.get (by walk_at "pu"))⟩, _, rfl, _, rfl, by show (2 : Nat) ≤ sizeLine; omega, ?_⟩
        intro t2 nl_
        generalize hG_ : upd _ t2 _ = H
        have hS := Sat.alloc hS nl_ hG_
        clear nl_ hG_
        refine ⟨X.q, _, _, rfl, rfl, (hS.get (by walk_at "pu")), by omega, ?_⟩
        generalize hG_ : upd _ X.q _ = H
        have hS := Sat.put (a := X.q) (hS.pk (by walk_at "pk")) hG_
        clear hG_
        obtain ⟨dx, fs, ei⟩ := Sat.devins (CD := T.C_Device) (a := X.d) (S := stepD X.S de) hS (by walk_at "pu")
        have hl2 : (stepD X.S de).cells.length ≤ 1000 := by have := (lim.step so).cl; omega
        refine ⟨.ref X.h, rfl, X.h, .ref X.d, rfl, hget (hS.get (by walk_at "pu")) (hK_raw _ _ _ _), X.d, dx, fs, rfl, ei, X.d, stepD X.S de, _, rfl, (hS.pk (by walk_at "pk")), (stepD X.S de).cells.length, rfl, by omega, ?_⟩
        refine ⟨.ref X.h, rfl, X.h, _, rfl, hput (kvs := hK X.t X.d X.q (stepD X.S de).cells.length) (hS.get (by walk_at "pu")) (hK_psize _ _ _ _ _), ?_⟩
        generalize hG_ : upd _ X.h _ = H
        have hS := Sat.put (a := X.h) (hS.pk (by walk_at "pk")) hG_
        clear hG_
        obtain ⟨N5, hS, sV, eV⟩ := Sat.ptfr (a := t2) (M := U2) (hS.pk (by walk_at "pk"))
        have aY := aY.same sV
        obtain ⟨X1, hX1⟩ : ∃ X1 : Hs, X1 = { X with vs := X.vs ++ [V.ref t2], ds := X.ds ++ [de] } := ⟨_, rfl⟩
        have eS1 : X1.S = stepD X.S de := by subst hX1; exact deedsS_snoc _ _ _
        have aX1 : X1.At N5 := by subst hX1; exact ⟨sV _ _ aX.t, sV _ _ aX.r, sV _ _ aX.p, (aX.v.same sV).snoc ⟨t2, hv2, rfl, eV, hh2.same sV⟩⟩
        have oX1 : X1.Ok := by subst hX1; exact ⟨oX.lr, oX.lp, oX.ran.snoc so, by show (X.ds ++ [de]).length ≤ 63; rw [List.length_append]; show _ + 1 ≤ 63; omega⟩
        have dX1 : X1.ds.length ≤ i + 1 := by subst hX1; show (X.ds ++ [de]).length ≤ _; rw [List.length_append]; show _ + 1 ≤ _; omega
        have ex1 : (h0 = X1.h ∧ h1 = Y.h) ∨ (h0 = Y.h ∧ h1 = X1.h) := by subst hX1; exact ex
        have hS : Sat H (.pt X1.h (.dK (hK X1.t X1.d X1.q X1.S.cells.length)) :: .pt X1.q (.lst X1.vs) :: devC T.C_Device X1.d X1.S :: .pt Y.h (.dK (hK Y.t Y.d Y.q Y.S.cells.length)) :: .pt Y.q (.lst Y.vs) :: devC T.C_Device Y.d Y.S :: frC N5 :: .pt hs (.lst [.ref h0, .ref h1]) :: scrC K a (ns.map V.int) :: []) := by
          rw [eS1]
          subst hX1
          exact (show Sat H (.pt X.h (.dK (hK X.t X.d X.q (stepD X.S de).cells.length)) :: .pt X.q (.lst (X.vs ++ [V.ref t2])) :: devC T.C_Device X.d (stepD X.S de) :: .pt Y.h (.dK (hK Y.t Y.d Y.q Y.S.cells.length)) :: .pt Y.q (.lst Y.vs) :: devC T.C_Device Y.d Y.S :: frC N5 :: .pt hs (.lst [.ref h0, .ref h1]) :: scrC K a (ns.map V.int) :: []) from (hS.pk (by walk_at "pk")))
        clear hX1 eS1
        refine ⟨.ref hs, rfl, hs, rfl, ⟨_, sq_at (hS.get (by walk_at "pu"))⟩, ?_⟩
        refine for_list (K := K) (a := hs) (xs := [.ref h0, .ref h1]) (fun j σ H' => ∃ (V2 : Hp) (z7 z8 : Option V), σ = [some (.ref a), some (.ref p), some (.ref hs), some (.int (1 + (i : Int))), some (.ref X.h), some (.str de.w), some hv2, z7, z8, y9] ∧ Sat H' (.pt X1.h (.dK (hK X1.t X1.d X1.q X1.S.cells.length)) :: .pt X1.q (.lst X1.vs) :: devC T.C_Device X1.d X1.S :: .pt Y.h (.dK (hK Y.t Y.d Y.q Y.S.cells.length)) :: .pt Y.q (.lst Y.vs) :: devC T.C_Device Y.d Y.S :: frC V2 :: .pt hs (.lst [.ref h0, .ref h1]) :: scrC K a (ns.map V.int) :: []) ∧ Same N5 V2) ⟨N5, _, _, rfl, hS, Same.refl N5⟩ (fun j σ H' _ h => by obtain ⟨_, _, _, _, hS, _⟩ := h; exact sq_at (hS.get (by walk_at "pu"))) (fun j x σ H' hx hW => ?_) (fun σ H' hW => ?_)
        · clear hS
          obtain ⟨V2, z7, z8, rfl, hS, sV2⟩ := hW
          have aX2 := aX1.same sV2
          have aY2 := aY.same sV2
          obtain ⟨Z, W, rfl, hS, aZ, oZ, back⟩ : ∃ Z W : Hs, x = .ref Z.h ∧ Sat H' (.pt Z.h (.dK (hK Z.t Z.d Z.q Z.S.cells.length)) :: .pt Z.q (.lst Z.vs) :: devC T.C_Device Z.d Z.S :: .pt W.h (.dK (hK W.t W.d W.q W.S.cells.length)) :: .pt W.q (.lst W.vs) :: devC T.C_Device W.d W.S :: frC V2 :: .pt hs (.lst [.ref h0, .ref h1]) :: scrC K a (ns.map V.int) :: []) ∧ Z.At V2 ∧ Z.Ok ∧ (∀ (H : Hp) (V3 : Hp), Sat H (.pt Z.h (.dK (hK Z.t Z.d Z.q Z.S.cells.length)) :: .pt Z.q (.lst Z.vs) :: devC T.C_Device Z.d Z.S :: .pt W.h (.dK (hK W.t W.d W.q W.S.cells.length)) :: .pt W.q (.lst W.vs) :: devC T.C_Device W.d W.S :: frC V3 :: .pt hs (.lst [.ref h0, .ref h1]) :: scrC K a (ns.map V.int) :: []) → Sat H (.pt X1.h (.dK (hK X1.t X1.d X1.q X1.S.cells.length)) :: .pt X1.q (.lst X1.vs) :: devC T.C_Device X1.d X1.S :: .pt Y.h (.dK (hK Y.t Y.d Y.q Y.S.cells.length)) :: .pt Y.q (.lst Y.vs) :: devC T.C_Device Y.d Y.S :: frC V3 :: .pt hs (.lst [.ref h0, .ref h1]) :: scrC K a (ns.map V.int) :: [])) := by
            have j2 := (List.getElem?_eq_some_iff.mp hx).1
            rcases (show j = 0 ∨ j = 1 by have : j < 2 := j2; omega) with rfl | rfl
            · cases (show some (V.ref h0) = some x from hx)
              rcases ex1 with ⟨e1, e2⟩ | ⟨e1, e2⟩
              · exact ⟨X1, Y, by rw [e1], hS, aX2, oX1, fun _ _ h => h⟩
              · exact ⟨Y, X1, by rw [e1], (hS.pk (by walk_at "pk")), aY2, oY, fun H V3 hS => (hS.pk (by walk_at "pk"))⟩
            · cases (show some (V.ref h1) = some x from hx)
              rcases ex1 with ⟨e1, e2⟩ | ⟨e1, e2⟩
              · exact ⟨Y, X1, by rw [e2], (hS.pk (by walk_at "pk")), aY2, oY, fun H V3 hS => (hS.pk (by walk_at "pk"))⟩
              · exact ⟨X1, Y, by rw [e2], hS, aX2, oX1, fun _ _ h => h⟩
          refine ⟨.ref Z.h, rfl, Z, _, V2, _, rfl, (hS.pk (by walk_at "pk")), aZ, oZ, fun H m2 V3 hS sV3 => ?_⟩
          refine ⟨_, rfl, rfl, _, rfl, iteFc (decide_eq_false (fun z => by cases z)) ?_⟩
          have aZ3 := aZ.same sV3
          obtain ⟨rw, pl, no, nv, hM, _⟩ := Sat.md (m := m2) (hS.pk (by walk_at "pk"))
          have hS := hM
          have fin : Sat H (.pt X1.h (.dK (hK X1.t X1.d X1.q X1.S.cells.length)) :: .pt X1.q (.lst X1.vs) :: devC T.C_Device X1.d X1.S :: .pt Y.h (.dK (hK Y.t Y.d Y.q Y.S.cells.length)) :: .pt Y.q (.lst Y.vs) :: devC T.C_Device Y.d Y.S :: frC V3 :: .pt hs (.lst [.ref h0, .ref h1]) :: scrC K a (ns.map V.int) :: []) := back _ _ (hS.pk (by walk_at "pk"))
          refine ⟨.ref Z.h, rfl, Z.h, .ref Z.t, rfl, hget (hS.get (by walk_at "pu")) (hK_made _ _ _ _), Z.t, _, 2, .bl Z.go, rfl, rfl, .inl (.inl (hS.fr (by walk_at "pu") aZ3.t)), rfl, Z.go, rfl, ?_⟩
          cases hz : Z.go with
          | false => exact iteF (iteF ⟨V3, _, _, rfl, fin, sV2.trans sV3⟩)
          | true =>
            have sk : Z.S.seek = true := (deedsS_seek _ _).trans hz
            refine iteT ?_
            refine ⟨.ref Z.h, rfl, Z.h, .ref Z.d, rfl, hget (hS.get (by walk_at "pu")) (hK_raw _ _ _ _), meth_devP hS (by walk_at "pu") (by decide +kernel) ⟨Z.d, Z.S, _, rfl, (hS.pk (by walk_at "pk")), sk, ?_⟩⟩
            exact ⟨.ref m2, rfl, m2, .int Z.S.spot, rfl, mget (hS.get (by walk_at "pu")) (mK_spot _ _ _ _), rfl, _, rfl, iteFc (by rw [decide_eq_true rfl]; rfl) ⟨V3, _, _, rfl, fin, sV2.trans sV3⟩⟩
        · obtain ⟨V2, z7, z8, rfl, hS, sV2⟩ := hW
          exact ⟨X1, Y, V2, _, _, _, _, _, _, _, _, rfl, hS, ex1, aX1.same sV2, aY.same sV2, oX1, oY, dX1, by omega⟩
    · clear hS ex aX aY oX oY dX dY en
      obtain ⟨X, Y, M, y1, y3, y4, y5, y6, y7, y8, y9, rfl, hS, ex, aX, aY, oX, oY, dX, dY⟩ := hW
      refine ⟨.ref hs, rfl, hs, rfl, ⟨_, sq_at (hS.get (by walk_at "pu"))⟩, ?_⟩
      refine for_list (K := K) (a := hs) (xs := [.ref h0, .ref h1]) (fun j σ H' => ∃ (z4 z9 : Option V), σ = [some (.ref a), y1, some (.ref hs), y3, z4, y5, y6, y7, y8, z9] ∧ Sat H' (.pt X.h (.dK (hK X.t X.d X.q X.S.cells.length)) :: .pt X.q (.lst X.vs) :: devC T.C_Device X.d X.S :: .pt Y.h (.dK (hK Y.t Y.d Y.q Y.S.cells.length)) :: .pt Y.q (.lst Y.vs) :: devC T.C_Device Y.d Y.S :: frC M :: .pt hs (.lst [.ref h0, .ref h1]) :: scrC K a (ns.map V.int) :: [])) ⟨_, _, rfl, hS⟩ (fun j σ H' _ h => by obtain ⟨_, _, _, hS⟩ := h; exact sq_at (hS.get (by walk_at "pu"))) (fun j x σ H' hx hW => ?_) (fun σ H' hW => ?_)
      · clear hS
        obtain ⟨z4, z9, rfl, hS⟩ := hW
        obtain ⟨Z, W, rfl, hS, aZ, oZ, back⟩ : ∃ Z W : Hs, x = .ref Z.h ∧ Sat H' (.pt Z.h (.dK (hK Z.t Z.d Z.q Z.S.cells.length)) :: .pt Z.q (.lst Z.vs) :: devC T.C_Device Z.d Z.S :: .pt W.h (.dK (hK W.t W.d W.q W.S.cells.length)) :: .pt W.q (.lst W.vs) :: devC T.C_Device W.d W.S :: frC M :: .pt hs (.lst [.ref h0, .ref h1]) :: scrC K a (ns.map V.int) :: []) ∧ Z.At M ∧ Z.Ok ∧ (∀ (H : Hp), Sat H (.pt Z.h (.dK (hK Z.t Z.d Z.q Z.S.cells.length)) :: .pt Z.q (.lst Z.vs) :: devC T.C_Device Z.d Z.S :: .pt W.h (.dK (hK W.t W.d W.q W.S.cells.length)) :: .pt W.q (.lst W.vs) :: devC T.C_Device W.d W.S :: frC M :: .pt hs (.lst [.ref h0, .ref h1]) :: scrC K a (ns.map V.int) :: []) → Sat H (.pt X.h (.dK (hK X.t X.d X.q X.S.cells.length)) :: .pt X.q (.lst X.vs) :: devC T.C_Device X.d X.S :: .pt Y.h (.dK (hK Y.t Y.d Y.q Y.S.cells.length)) :: .pt Y.q (.lst Y.vs) :: devC T.C_Device Y.d Y.S :: frC M :: .pt hs (.lst [.ref h0, .ref h1]) :: scrC K a (ns.map V.int) :: [])) := by
          have j2 := (List.getElem?_eq_some_iff.mp hx).1
          rcases (show j = 0 ∨ j = 1 by have : j < 2 := j2; omega) with rfl | rfl
          · cases (show some (V.ref h0) = some x from hx)
            rcases ex with ⟨e1, e2⟩ | ⟨e1, e2⟩
            · exact ⟨X, Y, by rw [e1], hS, aX, oX, fun _ h => h⟩
            · exact ⟨Y, X, by rw [e1], (hS.pk (by walk_at "pk")), aY, oY, fun H hS => (hS.pk (by walk_at "pk"))⟩
          · cases (show some (V.ref h1) = some x from hx)
            rcases ex with ⟨e1, e2⟩ | ⟨e1, e2⟩
            · exact ⟨Y, X, by rw [e2], (hS.pk (by walk_at "pk")), aY, oY, fun H hS => (hS.pk (by walk_at "pk"))⟩
            · exact ⟨X, Y, by rw [e2], hS, aX, oX, fun _ h => h⟩
        have okZ := oZ.hl.ok (by have := oZ.ld; omega)
        refine ⟨.ref Z.h, rfl, Z, _, M, _, rfl, (hS.pk (by walk_at "pk")), aZ, oZ, fun H d hS => ?_⟩
        obtain ⟨dx, fs, e1⟩ := Sat.devins (CD := T.C_Device) (a := d) (S := Z.S) hS (by walk_at "pu")
        obtain ⟨dy, gs, e2⟩ := Sat.devins (CD := T.C_Device) (a := Z.d) (S := Z.S) hS (by walk_at "pu")
        refine ⟨.ref d, rfl, .ref Z.h, rfl, Z.h, .ref Z.d, rfl, hget (hS.get (by walk_at "pu")) (hK_raw _ _ _ _), d, dx, fs, Z.d, dy, gs, rfl, rfl, e1, e2, d, Z.d, Z.S, Z.S, _, rfl, (hS.pk (by walk_at "pk")), rfl, true, rfl, _, rfl, iteF ?_⟩
        refine ⟨.ref d, rfl, meth_devP hS (by walk_at "pu") (by decide +kernel) ⟨d, Z.S, _, rfl, (hS.pk (by walk_at "pk")), okZ, fun H lg1 hS => ?_⟩⟩
        refine ⟨.ref Z.h, rfl, Z.h, .ref Z.d, rfl, hget (hS.get (by walk_at "pu")) (hK_raw _ _ _ _), meth_devP hS (by walk_at "pu") (by decide +kernel) ⟨Z.d, Z.S, _, rfl, (hS.pk (by walk_at "pk")), okZ, fun H lg2 hS => ?_⟩⟩
        obtain ⟨nv1, nG1, hn1, N1⟩ := hS.nts (q := lg1) (by walk_at "pu")
        obtain ⟨nv2, nG2, hn2, N2⟩ := hS.nts (q := lg2) (by walk_at "pu")
        refine ⟨ntsD Z.S.ns, N1.dp hn1, N2.dp hn2, log_shaped N1.ok, _, rfl, iteF ?_⟩
        refine ⟨.ref d, rfl, meth_devP hS (by walk_at "pu") (by decide +kernel) ⟨d, Z.S, _, rfl, (hS.pk (by walk_at "pk")), ?_⟩⟩
        refine ⟨.ref Z.h, rfl, Z.h, .ref Z.d, rfl, hget (hS.get (by walk_at "pu")) (hK_raw _ _ _ _), meth_devP hS (by walk_at "pu") (by decide +kernel) ⟨Z.d, Z.S, _, rfl, (hS.pk (by walk_at "pk")), ?_⟩⟩
        have fin : Sat H (.pt X.h (.dK (hK X.t X.d X.q X.S.cells.length)) :: .pt X.q (.lst X.vs) :: devC T.C_Device X.d X.S :: .pt Y.h (.dK (hK Y.t Y.d Y.q Y.S.cells.length)) :: .pt Y.q (.lst Y.vs) :: devC T.C_Device Y.d Y.S :: frC M :: .pt hs (.lst [.ref h0, .ref h1]) :: scrC K a (ns.map V.int) :: []) := back _ (hS.pk (by walk_at "pk"))
        exact ⟨rfl, _, rfl, iteFc (by rw [decide_eq_true rfl]; rfl) ⟨_, _, rfl, fin⟩⟩
      · exact q _
end
set_option maxHeartbeats 0 in
theorem all_mk {l : PySem.W.OpenLaw} {w : World} {K : PySem.W.Frag} {h : Heap} {mg : Str → Option Value} {fa C_Device C_Raw C_SipError C_Fault f_iFault f_clen f_ocopy f_laid f_rinit f_dinit f_dgrow f_dcontent f_dleft f_dgive f_daccept f_dmove f_dtrim f_dextent f_dallowed f_dtake f_dput f_dgo f_dcut f_dnote f_dopen f_dseeks f_dmayt f_dmayp f_dmayc f_dlog f_dlogb f_dsk f_dplace f_dlen f_deq f_pool f_take f_lrow f_lplan f_llaid f_ldevice f_lasked f_ltold f_lhouse f_lwalked f_lagain f_law f_ldeed : Addr} (X : K.In h) (G : h.Ns mainGlobals mg) (hfa : mg "law" = some (.ref fa))
    (qa_Device : PySem.W.nsIn K mainGlobals "Device" = some (some (.ref C_Device)))
    (qa_Raw : PySem.W.nsIn K mainGlobals "Raw" = some (some (.ref C_Raw)))
    (rd_Raw : PySem.W.readsIn K C_Raw (.type "type") = true)
    (ga_Raw : PySem.W.specialIn K (.ref C_Raw) "__getattribute__" = some (some (.builtin "type.__getattribute__")))
    (qa_SipError : PySem.W.nsIn K mainGlobals "SipError" = some (some (.ref C_SipError)))
    (qa_Fault : PySem.W.nsIn K mainGlobals "Fault" = some (some (.ref C_Fault)))
    (sb_SipError : PySem.W.subIn K (.ref C_SipError) (.type "BaseException") = some true)
    (sh_SipError : PySem.W.hasDictIn K C_SipError = true)
    (st_SipError : PySem.W.typeIn K (.ref C_SipError) = some (.type "type"))
    (hb_Fault : PySem.W.subIn K (.ref C_Fault) (.type "BaseException") = some true)
    (hh_Fault : PySem.W.hasDictIn K C_Fault = true)
    (hy_Fault : PySem.W.typeIn K (.ref C_Fault) = some (.type "type"))
    (hs_Fault_Fault : PySem.W.subIn K (.ref C_Fault) (.ref C_Fault) = some true)
    (xo_Fault : Sip.IsExcObj K C_Fault C_SipError)
    (sa_Fault : PySem.W.findIn K (.ref C_Fault) "__setattr__" = some (some (.builtin "object.__setattr__")))
    (ex_Fault : PySem.W.subIn K (.ref C_Fault) (.type "BaseException") = some true)
    (ty_Fault : PySem.W.typeIn K (.ref C_Fault) = some (.type "type"))
    (kx_Fault : PySem.W.keepIn K (.ref C_Fault) = true)
    (hg_Fault : PySem.W.findIn K (.ref C_Fault) "__getattribute__" = some (some (.builtin "BaseException.__getattribute__")))
    (hk_Fault : PySem.W.findIn K (.ref C_Fault) "__getattr__" = some none)
    (hd_Fault : PySem.W.hasDictIn K C_Fault = true)
    (ha_Fault : PySem.W.findIn K (.ref C_Fault) "__class__" = some (some (.builtin "object.__class__")))
    (hn_Fault : PySem.W.specialIn K (.builtin "object.__class__") "__get__" = some (some (.builtin "getset_descriptor.__get__")))
    (ht_Fault : PySem.W.takesIn K (.builtin "object.__class__") = some true)
    (hm_Fault : PySem.W.mroIn K C_Fault (.type "object") = some true)
    (no_Fault : PySem.W.findIn K (.ref C_Fault) "number" = some none)
    (ss_Fault : PySem.W.subIn K (.ref C_Fault) (.ref C_SipError) = some true)
    (se_Fault : PySem.W.subIn K (.ref C_Fault) (.ref C_Fault) = some true)
    (no2_Fault : PySem.W.findIn K (.ref C_Fault) "taken" = some none)
    (a_iFault : PySem.W.findIn K (.ref C_Fault) "__init__" = some (some (.ref f_iFault)))
    (i_iFault : PySem.W.typeIn K (.ref f_iFault) = some (.type "function"))
    (FX_iFault : ∃ fd, FunD K "__init__" "Fault.__init__" (defArgs s_iFault) (defBody s_iFault) (defScope s_iFault) ([] : List V) ([("taken", .int 0)] : List (Str × V)) f_iFault fd)
    (a_clen : PySem.W.nsIn K mainGlobals "check_length" = some (some (.ref f_clen)))
    (FX_clen : ∃ fd, FunD K "check_length" "check_length" (defArgs s_clen) (defBody s_clen) (defScope s_clen) ([] : List V) ([] : List (Str × V)) f_clen fd)
    (a_ocopy : PySem.W.nsIn K mainGlobals "own_copy" = some (some (.ref f_ocopy)))
    (FX_ocopy : ∃ fd, FunD K "own_copy" "own_copy" (defArgs s_ocopy) (defBody s_ocopy) (defScope s_ocopy) ([] : List V) ([] : List (Str × V)) f_ocopy fd)
    (a_laid : PySem.W.nsIn K mainGlobals "laid" = some (some (.ref f_laid)))
    (FX_laid : ∃ fd, FunD K "laid" "laid" (defArgs s_laid) (defBody s_laid) (defScope s_laid) ([] : List V) ([] : List (Str × V)) f_laid fd)
    (a_rinit : PySem.W.findIn K (.ref C_Raw) "__init__" = some (some (.ref f_rinit)))
    (i_rinit : PySem.W.isFn K (.ref f_rinit) = true)
    (cv_rinit : PySem.W.findCls K (.ref C_Raw) (.type "type") "__init__" = some (.val (.ref f_rinit)))
    (FX_rinit : ∃ fd, FunD K "__init__" "Raw.__init__" (defArgs s_rinit) (defBody s_rinit) (defScope s_rinit) ([] : List V) ([] : List (Str × V)) f_rinit fd)
    (a_dinit : PySem.W.findIn K (.ref C_Device) "__init__" = some (some (.ref f_dinit)))
    (i_dinit : PySem.W.isFn K (.ref f_dinit) = true)
    (FX_dinit : ∃ fd, FunD K "__init__" "Device.__init__" (defArgs s_dinit) (defBody s_dinit) (defScope s_dinit) ([] : List V) ([("seeks", .bl true)] : List (Str × V)) f_dinit fd)
    (a_dgrow : PySem.W.findIn K (.ref C_Device) "grow" = some (some (.ref f_dgrow)))
    (i_dgrow : PySem.W.isFn K (.ref f_dgrow) = true)
    (FX_dgrow : ∃ fd, FunD K "grow" "Device.grow" (defArgs s_dgrow) (defBody s_dgrow) (defScope s_dgrow) ([] : List V) ([] : List (Str × V)) f_dgrow fd)
    (a_dcontent : PySem.W.findIn K (.ref C_Device) "content" = some (some (.ref f_dcontent)))
    (i_dcontent : PySem.W.isFn K (.ref f_dcontent) = true)
    (FX_dcontent : ∃ fd, FunD K "content" "Device.content" (defArgs s_dcontent) (defBody s_dcontent) (defScope s_dcontent) ([] : List V) ([] : List (Str × V)) f_dcontent fd)
    (a_dleft : PySem.W.findIn K (.ref C_Device) "left" = some (some (.ref f_dleft)))
    (i_dleft : PySem.W.isFn K (.ref f_dleft) = true)
    (FX_dleft : ∃ fd, FunD K "left" "Device.left" (defArgs s_dleft) (defBody s_dleft) (defScope s_dleft) ([] : List V) ([] : List (Str × V)) f_dleft fd)
    (a_dgive : PySem.W.findIn K (.ref C_Device) "give" = some (some (.ref f_dgive)))
    (i_dgive : PySem.W.isFn K (.ref f_dgive) = true)
    (FX_dgive : ∃ fd, FunD K "give" "Device.give" (defArgs s_dgive) (defBody s_dgive) (defScope s_dgive) ([] : List V) ([] : List (Str × V)) f_dgive fd)
    (a_daccept : PySem.W.findIn K (.ref C_Device) "accept" = some (some (.ref f_daccept)))
    (i_daccept : PySem.W.isFn K (.ref f_daccept) = true)
    (FX_daccept : ∃ fd, FunD K "accept" "Device.accept" (defArgs s_daccept) (defBody s_daccept) (defScope s_daccept) ([] : List V) ([] : List (Str × V)) f_daccept fd)
    (a_dmove : PySem.W.findIn K (.ref C_Device) "move" = some (some (.ref f_dmove)))
    (i_dmove : PySem.W.isFn K (.ref f_dmove) = true)
    (FX_dmove : ∃ fd, FunD K "move" "Device.move" (defArgs s_dmove) (defBody s_dmove) (defScope s_dmove) ([] : List V) ([] : List (Str × V)) f_dmove fd)
    (a_dtrim : PySem.W.findIn K (.ref C_Device) "trim" = some (some (.ref f_dtrim)))
    (i_dtrim : PySem.W.isFn K (.ref f_dtrim) = true)
    (FX_dtrim : ∃ fd, FunD K "trim" "Device.trim" (defArgs s_dtrim) (defBody s_dtrim) (defScope s_dtrim) ([] : List V) ([] : List (Str × V)) f_dtrim fd)
    (a_dextent : PySem.W.findIn K (.ref C_Device) "extent" = some (some (.ref f_dextent)))
    (i_dextent : PySem.W.isFn K (.ref f_dextent) = true)
    (FX_dextent : ∃ fd, FunD K "extent" "Device.extent" (defArgs s_dextent) (defBody s_dextent) (defScope s_dextent) ([] : List V) ([] : List (Str × V)) f_dextent fd)
    (a_dallowed : PySem.W.findIn K (.ref C_Device) "allowed" = some (some (.ref f_dallowed)))
    (i_dallowed : PySem.W.isFn K (.ref f_dallowed) = true)
    (FX_dallowed : ∃ fd, FunD K "allowed" "Device.allowed" (defArgs s_dallowed) (defBody s_dallowed) (defScope s_dallowed) ([] : List V) ([] : List (Str × V)) f_dallowed fd)
    (a_dtake : PySem.W.findIn K (.ref C_Device) "take" = some (some (.ref f_dtake)))
    (i_dtake : PySem.W.isFn K (.ref f_dtake) = true)
    (FX_dtake : ∃ fd, FunD K "take" "Raw.take" (defArgs s_dtake) (defBody s_dtake) (defScope s_dtake) ([] : List V) ([] : List (Str × V)) f_dtake fd)
    (a_dput : PySem.W.findIn K (.ref C_Device) "put" = some (some (.ref f_dput)))
    (i_dput : PySem.W.isFn K (.ref f_dput) = true)
    (FX_dput : ∃ fd, FunD K "put" "Raw.put" (defArgs s_dput) (defBody s_dput) (defScope s_dput) ([] : List V) ([] : List (Str × V)) f_dput fd)
    (a_dgo : PySem.W.findIn K (.ref C_Device) "go" = some (some (.ref f_dgo)))
    (i_dgo : PySem.W.isFn K (.ref f_dgo) = true)
    (FX_dgo : ∃ fd, FunD K "go" "Raw.go" (defArgs s_dgo) (defBody s_dgo) (defScope s_dgo) ([] : List V) ([] : List (Str × V)) f_dgo fd)
    (a_dcut : PySem.W.findIn K (.ref C_Device) "cut" = some (some (.ref f_dcut)))
    (i_dcut : PySem.W.isFn K (.ref f_dcut) = true)
    (FX_dcut : ∃ fd, FunD K "cut" "Raw.cut" (defArgs s_dcut) (defBody s_dcut) (defScope s_dcut) ([] : List V) ([] : List (Str × V)) f_dcut fd)
    (a_dnote : PySem.W.findIn K (.ref C_Device) "note" = some (some (.ref f_dnote)))
    (i_dnote : PySem.W.isFn K (.ref f_dnote) = true)
    (FX_dnote : ∃ fd, FunD K "note" "Raw.note" (defArgs s_dnote) (defBody s_dnote) (defScope s_dnote) ([] : List V) ([] : List (Str × V)) f_dnote fd)
    (a_dopen : PySem.W.findIn K (.ref C_Device) "check_open" = some (some (.ref f_dopen)))
    (i_dopen : PySem.W.isFn K (.ref f_dopen) = true)
    (FX_dopen : ∃ fd, FunD K "check_open" "Raw.check_open" (defArgs s_dopen) (defBody s_dopen) (defScope s_dopen) ([] : List V) ([] : List (Str × V)) f_dopen fd)
    (a_dseeks : PySem.W.findIn K (.ref C_Device) "check_seeks" = some (some (.ref f_dseeks)))
    (i_dseeks : PySem.W.isFn K (.ref f_dseeks) = true)
    (FX_dseeks : ∃ fd, FunD K "check_seeks" "Raw.check_seeks" (defArgs s_dseeks) (defBody s_dseeks) (defScope s_dseeks) ([] : List V) ([] : List (Str × V)) f_dseeks fd)
    (a_dmayt : PySem.W.findIn K (.ref C_Device) "may_take" = some (some (.ref f_dmayt)))
    (i_dmayt : PySem.W.isFn K (.ref f_dmayt) = true)
    (FX_dmayt : ∃ fd, FunD K "may_take" "Raw.may_take" (defArgs s_dmayt) (defBody s_dmayt) (defScope s_dmayt) ([] : List V) ([] : List (Str × V)) f_dmayt fd)
    (a_dmayp : PySem.W.findIn K (.ref C_Device) "may_put" = some (some (.ref f_dmayp)))
    (i_dmayp : PySem.W.isFn K (.ref f_dmayp) = true)
    (FX_dmayp : ∃ fd, FunD K "may_put" "Raw.may_put" (defArgs s_dmayp) (defBody s_dmayp) (defScope s_dmayp) ([] : List V) ([] : List (Str × V)) f_dmayp fd)
    (a_dmayc : PySem.W.findIn K (.ref C_Device) "may_cut" = some (some (.ref f_dmayc)))
    (i_dmayc : PySem.W.isFn K (.ref f_dmayc) = true)
    (FX_dmayc : ∃ fd, FunD K "may_cut" "Raw.may_cut" (defArgs s_dmayc) (defBody s_dmayc) (defScope s_dmayc) ([] : List V) ([] : List (Str × V)) f_dmayc fd)
    (a_dlog : PySem.W.findIn K (.ref C_Device) "log" = some (some (.ref f_dlog)))
    (i_dlog : PySem.W.isFn K (.ref f_dlog) = true)
    (FX_dlog : ∃ fd, FunD K "log" "Raw.log" (defArgs s_dlog) (defBody s_dlog) (defScope s_dlog) ([] : List V) ([] : List (Str × V)) f_dlog fd)
    (a_dlogb : PySem.W.findIn K (.ref C_Device) "log_behind" = some (some (.ref f_dlogb)))
    (i_dlogb : PySem.W.isFn K (.ref f_dlogb) = true)
    (FX_dlogb : ∃ fd, FunD K "log_behind" "Raw.log_behind" (defArgs s_dlogb) (defBody s_dlogb) (defScope s_dlogb) ([] : List V) ([] : List (Str × V)) f_dlogb fd)
    (a_dsk : PySem.W.findIn K (.ref C_Device) "seeks" = some (some (.ref f_dsk)))
    (i_dsk : PySem.W.isFn K (.ref f_dsk) = true)
    (FX_dsk : ∃ fd, FunD K "seeks" "Raw.seeks" (defArgs s_dsk) (defBody s_dsk) (defScope s_dsk) ([] : List V) ([] : List (Str × V)) f_dsk fd)
    (a_dplace : PySem.W.findIn K (.ref C_Device) "place" = some (some (.ref f_dplace)))
    (i_dplace : PySem.W.isFn K (.ref f_dplace) = true)
    (FX_dplace : ∃ fd, FunD K "place" "Raw.place" (defArgs s_dplace) (defBody s_dplace) (defScope s_dplace) ([] : List V) ([] : List (Str × V)) f_dplace fd)
    (a_dlen : PySem.W.findIn K (.ref C_Device) "__len__" = some (some (.ref f_dlen)))
    (i_dlen : PySem.W.isFn K (.ref f_dlen) = true)
    (FX_dlen : ∃ fd, FunD K "__len__" "Device.__len__" (defArgs s_dlen) (defBody s_dlen) (defScope s_dlen) ([] : List V) ([] : List (Str × V)) f_dlen fd)
    (a_deq : PySem.W.findIn K (.ref C_Device) "__eq__" = some (some (.ref f_deq)))
    (i_deq : PySem.W.isFn K (.ref f_deq) = true)
    (FX_deq : ∃ fd, FunD K "__eq__" "Device.__eq__" (defArgs s_deq) (defBody s_deq) (defScope s_deq) ([] : List V) ([] : List (Str × V)) f_deq fd)
    (a_pool : PySem.W.nsIn K mainGlobals "_law_pool" = some (some (.ref f_pool)))
    (FX_pool : ∃ fd, FunD K "_law_pool" "_law_pool" (defArgs s_pool) (defBody s_pool) (defScope s_pool) ([] : List V) ([] : List (Str × V)) f_pool fd)
    (a_take : PySem.W.nsIn K mainGlobals "_law_take" = some (some (.ref f_take)))
    (FX_take : ∃ fd, FunD K "_law_take" "_law_take" (defArgs s_take) (defBody s_take) (defScope s_take) ([] : List V) ([] : List (Str × V)) f_take fd)
    (a_lrow : PySem.W.nsIn K mainGlobals "_law_row" = some (some (.ref f_lrow)))
    (FX_lrow : ∃ fd, FunD K "_law_row" "_law_row" (defArgs s_lrow) (defBody s_lrow) (defScope s_lrow) ([] : List V) ([] : List (Str × V)) f_lrow fd)
    (a_lplan : PySem.W.nsIn K mainGlobals "_law_plan" = some (some (.ref f_lplan)))
    (FX_lplan : ∃ fd, FunD K "_law_plan" "_law_plan" (defArgs s_lplan) (defBody s_lplan) (defScope s_lplan) ([] : List V) ([] : List (Str × V)) f_lplan fd)
    (a_llaid : PySem.W.nsIn K mainGlobals "_law_laid" = some (some (.ref f_llaid)))
    (FX_llaid : ∃ fd, FunD K "_law_laid" "_law_laid" (defArgs s_llaid) (defBody s_llaid) (defScope s_llaid) ([] : List V) ([] : List (Str × V)) f_llaid fd)
    (a_ldevice : PySem.W.nsIn K mainGlobals "_law_device" = some (some (.ref f_ldevice)))
    (FX_ldevice : ∃ fd, FunD K "_law_device" "_law_device" (defArgs s_ldevice) (defBody s_ldevice) (defScope s_ldevice) ([] : List V) ([] : List (Str × V)) f_ldevice fd)
    (a_lasked : PySem.W.nsIn K mainGlobals "_law_asked" = some (some (.ref f_lasked)))
    (FX_lasked : ∃ fd, FunD K "_law_asked" "_law_asked" (defArgs s_lasked) (defBody s_lasked) (defScope s_lasked) ([] : List V) ([] : List (Str × V)) f_lasked fd)
    (a_ltold : PySem.W.nsIn K mainGlobals "_law_told" = some (some (.ref f_ltold)))
    (FX_ltold : ∃ fd, FunD K "_law_told" "_law_told" (defArgs s_ltold) (defBody s_ltold) (defScope s_ltold) ([] : List V) ([] : List (Str × V)) f_ltold fd)
    (a_lhouse : PySem.W.nsIn K mainGlobals "_law_house" = some (some (.ref f_lhouse)))
    (FX_lhouse : ∃ fd, FunD K "_law_house" "_law_house" (defArgs s_lhouse) (defBody s_lhouse) (defScope s_lhouse) ([] : List V) ([] : List (Str × V)) f_lhouse fd)
    (a_lwalked : PySem.W.nsIn K mainGlobals "_law_walked" = some (some (.ref f_lwalked)))
    (FX_lwalked : ∃ fd, FunD K "_law_walked" "_law_walked" (defArgs s_lwalked) (defBody s_lwalked) (defScope s_lwalked) ([] : List V) ([] : List (Str × V)) f_lwalked fd)
    (a_lagain : PySem.W.nsIn K mainGlobals "_law_again" = some (some (.ref f_lagain)))
    (FX_lagain : ∃ fd, FunD K "_law_again" "_law_again" (defArgs s_lagain) (defBody s_lagain) (defScope s_lagain) ([] : List V) ([] : List (Str × V)) f_lagain fd)
    (a_law : PySem.W.nsIn K mainGlobals "law" = some (some (.ref f_law)))
    (FX_law : ∃ fd, FunD K "law" "law" (defArgs s_law) (defBody s_law) (defScope s_law) ([] : List V) ([] : List (Str × V)) f_law fd)
    (a_ldeed : PySem.W.nsIn K mainGlobals "_law_deed" = some (some (.ref f_ldeed)))
    (FX_ldeed : ∃ fd, FunD K "_law_deed" "_law_deed" (defArgs s_ldeed) (defBody s_ldeed) (defScope s_ldeed) ([] : List V) ([] : List (Str × V)) f_ldeed fd)
    (pg_Device : PySem.W.plainGet K C_Device Str.empty = true)
    (hd_Device : PySem.W.hasDictIn K C_Device = true)
    (po_Device : PySem.W.plainOver K C_Device = true)
    (sa_Device : PySem.W.findIn K (.ref C_Device) "__setattr__" = some (some (.builtin "object.__setattr__")))
    (mk_Device : PySem.W.makesIn K C_Device = true)
    (kc_Device : PySem.W.keepIn K (.ref C_Device) = true)
    (n_Device_can_seek : PySem.W.findIn K (.ref C_Device) "can_seek" = some none)
    (n_Device_spot : PySem.W.findIn K (.ref C_Device) "spot" = some none)
    (n_Device_barred : PySem.W.findIn K (.ref C_Device) "barred" = some none)
    (n_Device_notes : PySem.W.findIn K (.ref C_Device) "notes" = some none)
    (n_Device_cells : PySem.W.findIn K (.ref C_Device) "cells" = some none)
    (n_Device_plan : PySem.W.findIn K (.ref C_Device) "plan" = some none)
    (n_Device_used : PySem.W.findIn K (.ref C_Device) "used" = some none)
    (v1_Device : PySem.W.findIn K (.ref C_Device) "__ne__" = some (some (.builtin "object.__ne__")))
    (v2_Device : PySem.W.findIn K (.ref C_Device) "__class__" = some (some (.builtin "object.__class__")))
    (v3_Device : PySem.W.specialIn K (.builtin "object.__class__") "__get__" = some (some (.builtin "getset_descriptor.__get__")))
    (v4_Device : PySem.W.takesIn K (.builtin "object.__class__") = some true)
    (v5_Device : PySem.W.mroIn K C_Device (.type "object") = some true)
    (cq_LONGEST : ∃ u, PySem.W.nsIn K mainGlobals "LONGEST" = some (some u) ∧ RelV (.int 4000) u)
    (z_list : PySem.W.nsIn K mainGlobals "list" = some none)
    (z_len : PySem.W.nsIn K mainGlobals "len" = some none)
    (z_range : PySem.W.nsIn K mainGlobals "range" = some none)
    (z_max : PySem.W.nsIn K mainGlobals "max" = some none)
    (z_min : PySem.W.nsIn K mainGlobals "min" = some none)
    (z_isinstance : PySem.W.nsIn K mainGlobals "isinstance" = some none)
    (z_int : PySem.W.nsIn K mainGlobals "int" = some none)
    (z_bool : PySem.W.nsIn K mainGlobals "bool" = some none) :
    ∃ fd : FuncData, (∀ (s : Shared) (v : Value), BindsTo s fd ⟨[v], []⟩ [("_law_script", v)]) ∧ ∀ base : Heap, K.In base → base.Ns mainGlobals mg → FnOk l.prog w K mg base CX0 10 fa fd ["_law_script"] (spLaw K) := by
  have e := hfa.symm.trans (PySem.W.mg_of X G a_law)
  cases e
  obtain ⟨_, ⟨oc_iFault, od_iFault, dV_iFault, kV_iFault, dc_iFault, pm_iFault, an_iFault, cd_iFault, ct_iFault, sl_iFault, rfl, l_iFault, c_iFault, df_iFault, kw_iFault⟩, k_iFault⟩ := FX_iFault
  obtain rfl := Sip.dfl_none df_iFault
  have F_iFault := funA_mk (st := s_iFault) l_iFault c_iFault k_iFault
  obtain ⟨_, ⟨oc_clen, od_clen, dV_clen, kV_clen, dc_clen, pm_clen, an_clen, cd_clen, ct_clen, sl_clen, rfl, l_clen, c_clen, df_clen, kw_clen⟩, k_clen⟩ := FX_clen
  obtain rfl := Sip.dfl_none df_clen
  have F_clen := funA_mk (st := s_clen) l_clen c_clen k_clen
  obtain ⟨_, ⟨oc_ocopy, od_ocopy, dV_ocopy, kV_ocopy, dc_ocopy, pm_ocopy, an_ocopy, cd_ocopy, ct_ocopy, sl_ocopy, rfl, l_ocopy, c_ocopy, df_ocopy, kw_ocopy⟩, k_ocopy⟩ := FX_ocopy
  obtain rfl := Sip.dfl_none df_ocopy
  have F_ocopy := funA_mk (st := s_ocopy) l_ocopy c_ocopy k_ocopy
  obtain ⟨_, ⟨oc_laid, od_laid, dV_laid, kV_laid, dc_laid, pm_laid, an_laid, cd_laid, ct_laid, sl_laid, rfl, l_laid, c_laid, df_laid, kw_laid⟩, k_laid⟩ := FX_laid
  obtain rfl := Sip.dfl_none df_laid
  have F_laid := funA_mk (st := s_laid) l_laid c_laid k_laid
  obtain ⟨_, ⟨oc_rinit, od_rinit, dV_rinit, kV_rinit, dc_rinit, pm_rinit, an_rinit, cd_rinit, ct_rinit, sl_rinit, rfl, l_rinit, c_rinit, df_rinit, kw_rinit⟩, k_rinit⟩ := FX_rinit
  obtain rfl := Sip.dfl_none df_rinit
  have F_rinit := funA_mk (st := s_rinit) l_rinit c_rinit k_rinit
  obtain ⟨_, ⟨oc_dinit, od_dinit, dV_dinit, kV_dinit, dc_dinit, pm_dinit, an_dinit, cd_dinit, ct_dinit, sl_dinit, rfl, l_dinit, c_dinit, df_dinit, kw_dinit⟩, k_dinit⟩ := FX_dinit
  obtain rfl := Sip.dfl_none df_dinit
  have F_dinit := funA_mk (st := s_dinit) l_dinit c_dinit k_dinit
  obtain ⟨_, ⟨oc_dgrow, od_dgrow, dV_dgrow, kV_dgrow, dc_dgrow, pm_dgrow, an_dgrow, cd_dgrow, ct_dgrow, sl_dgrow, rfl, l_dgrow, c_dgrow, df_dgrow, kw_dgrow⟩, k_dgrow⟩ := FX_dgrow
  obtain rfl := Sip.dfl_none df_dgrow
  have F_dgrow := funA_mk (st := s_dgrow) l_dgrow c_dgrow k_dgrow
  obtain ⟨_, ⟨oc_dcontent, od_dcontent, dV_dcontent, kV_dcontent, dc_dcontent, pm_dcontent, an_dcontent, cd_dcontent, ct_dcontent, sl_dcontent, rfl, l_dcontent, c_dcontent, df_dcontent, kw_dcontent⟩, k_dcontent⟩ := FX_dcontent
  obtain rfl := Sip.dfl_none df_dcontent
  have F_dcontent := funA_mk (st := s_dcontent) l_dcontent c_dcontent k_dcontent
  obtain ⟨_, ⟨oc_dleft, od_dleft, dV_dleft, kV_dleft, dc_dleft, pm_dleft, an_dleft, cd_dleft, ct_dleft, sl_dleft, rfl, l_dleft, c_dleft, df_dleft, kw_dleft⟩, k_dleft⟩ := FX_dleft
  obtain rfl := Sip.dfl_none df_dleft
  have F_dleft := funA_mk (st := s_dleft) l_dleft c_dleft k_dleft
  obtain ⟨_, ⟨oc_dgive, od_dgive, dV_dgive, kV_dgive, dc_dgive, pm_dgive, an_dgive, cd_dgive, ct_dgive, sl_dgive, rfl, l_dgive, c_dgive, df_dgive, kw_dgive⟩, k_dgive⟩ := FX_dgive
  obtain rfl := Sip.dfl_none df_dgive
  have F_dgive := funA_mk (st := s_dgive) l_dgive c_dgive k_dgive
  obtain ⟨_, ⟨oc_daccept, od_daccept, dV_daccept, kV_daccept, dc_daccept, pm_daccept, an_daccept, cd_daccept, ct_daccept, sl_daccept, rfl, l_daccept, c_daccept, df_daccept, kw_daccept⟩, k_daccept⟩ := FX_daccept
  obtain rfl := Sip.dfl_none df_daccept
  have F_daccept := funA_mk (st := s_daccept) l_daccept c_daccept k_daccept
  obtain ⟨_, ⟨oc_dmove, od_dmove, dV_dmove, kV_dmove, dc_dmove, pm_dmove, an_dmove, cd_dmove, ct_dmove, sl_dmove, rfl, l_dmove, c_dmove, df_dmove, kw_dmove⟩, k_dmove⟩ := FX_dmove
  obtain rfl := Sip.dfl_none df_dmove
  have F_dmove := funA_mk (st := s_dmove) l_dmove c_dmove k_dmove
  obtain ⟨_, ⟨oc_dtrim, od_dtrim, dV_dtrim, kV_dtrim, dc_dtrim, pm_dtrim, an_dtrim, cd_dtrim, ct_dtrim, sl_dtrim, rfl, l_dtrim, c_dtrim, df_dtrim, kw_dtrim⟩, k_dtrim⟩ := FX_dtrim
  obtain rfl := Sip.dfl_none df_dtrim
  have F_dtrim := funA_mk (st := s_dtrim) l_dtrim c_dtrim k_dtrim
  obtain ⟨_, ⟨oc_dextent, od_dextent, dV_dextent, kV_dextent, dc_dextent, pm_dextent, an_dextent, cd_dextent, ct_dextent, sl_dextent, rfl, l_dextent, c_dextent, df_dextent, kw_dextent⟩, k_dextent⟩ := FX_dextent
  obtain rfl := Sip.dfl_none df_dextent
  have F_dextent := funA_mk (st := s_dextent) l_dextent c_dextent k_dextent
  obtain ⟨_, ⟨oc_dallowed, od_dallowed, dV_dallowed, kV_dallowed, dc_dallowed, pm_dallowed, an_dallowed, cd_dallowed, ct_dallowed, sl_dallowed, rfl, l_dallowed, c_dallowed, df_dallowed, kw_dallowed⟩, k_dallowed⟩ := FX_dallowed
  obtain rfl := Sip.dfl_none df_dallowed
  have F_dallowed := funA_mk (st := s_dallowed) l_dallowed c_dallowed k_dallowed
  obtain ⟨_, ⟨oc_dtake, od_dtake, dV_dtake, kV_dtake, dc_dtake, pm_dtake, an_dtake, cd_dtake, ct_dtake, sl_dtake, rfl, l_dtake, c_dtake, df_dtake, kw_dtake⟩, k_dtake⟩ := FX_dtake
  obtain rfl := Sip.dfl_none df_dtake
  have F_dtake := funA_mk (st := s_dtake) l_dtake c_dtake k_dtake
  obtain ⟨_, ⟨oc_dput, od_dput, dV_dput, kV_dput, dc_dput, pm_dput, an_dput, cd_dput, ct_dput, sl_dput, rfl, l_dput, c_dput, df_dput, kw_dput⟩, k_dput⟩ := FX_dput
  obtain rfl := Sip.dfl_none df_dput
  have F_dput := funA_mk (st := s_dput) l_dput c_dput k_dput
  obtain ⟨_, ⟨oc_dgo, od_dgo, dV_dgo, kV_dgo, dc_dgo, pm_dgo, an_dgo, cd_dgo, ct_dgo, sl_dgo, rfl, l_dgo, c_dgo, df_dgo, kw_dgo⟩, k_dgo⟩ := FX_dgo
  obtain rfl := Sip.dfl_none df_dgo
  have F_dgo := funA_mk (st := s_dgo) l_dgo c_dgo k_dgo
  obtain ⟨_, ⟨oc_dcut, od_dcut, dV_dcut, kV_dcut, dc_dcut, pm_dcut, an_dcut, cd_dcut, ct_dcut, sl_dcut, rfl, l_dcut, c_dcut, df_dcut, kw_dcut⟩, k_dcut⟩ := FX_dcut
  obtain rfl := Sip.dfl_none df_dcut
  have F_dcut := funA_mk (st := s_dcut) l_dcut c_dcut k_dcut
  obtain ⟨_, ⟨oc_dnote, od_dnote, dV_dnote, kV_dnote, dc_dnote, pm_dnote, an_dnote, cd_dnote, ct_dnote, sl_dnote, rfl, l_dnote, c_dnote, df_dnote, kw_dnote⟩, k_dnote⟩ := FX_dnote
  obtain rfl := Sip.dfl_none df_dnote
  have F_dnote := funA_mk (st := s_dnote) l_dnote c_dnote k_dnote
  obtain ⟨_, ⟨oc_dopen, od_dopen, dV_dopen, kV_dopen, dc_dopen, pm_dopen, an_dopen, cd_dopen, ct_dopen, sl_dopen, rfl, l_dopen, c_dopen, df_dopen, kw_dopen⟩, k_dopen⟩ := FX_dopen
  obtain rfl := Sip.dfl_none df_dopen
  have F_dopen := funA_mk (st := s_dopen) l_dopen c_dopen k_dopen
  obtain ⟨_, ⟨oc_dseeks, od_dseeks, dV_dseeks, kV_dseeks, dc_dseeks, pm_dseeks, an_dseeks, cd_dseeks, ct_dseeks, sl_dseeks, rfl, l_dseeks, c_dseeks, df_dseeks, kw_dseeks⟩, k_dseeks⟩ := FX_dseeks
  obtain rfl := Sip.dfl_none df_dseeks
  have F_dseeks := funA_mk (st := s_dseeks) l_dseeks c_dseeks k_dseeks
  obtain ⟨_, ⟨oc_dmayt, od_dmayt, dV_dmayt, kV_dmayt, dc_dmayt, pm_dmayt, an_dmayt, cd_dmayt, ct_dmayt, sl_dmayt, rfl, l_dmayt, c_dmayt, df_dmayt, kw_dmayt⟩, k_dmayt⟩ := FX_dmayt
  obtain rfl := Sip.dfl_none df_dmayt
  have F_dmayt := funA_mk (st := s_dmayt) l_dmayt c_dmayt k_dmayt
  obtain ⟨_, ⟨oc_dmayp, od_dmayp, dV_dmayp, kV_dmayp, dc_dmayp, pm_dmayp, an_dmayp, cd_dmayp, ct_dmayp, sl_dmayp, rfl, l_dmayp, c_dmayp, df_dmayp, kw_dmayp⟩, k_dmayp⟩ := FX_dmayp
  obtain rfl := Sip.dfl_none df_dmayp
  have F_dmayp := funA_mk (st := s_dmayp) l_dmayp c_dmayp k_dmayp
  obtain ⟨_, ⟨oc_dmayc, od_dmayc, dV_dmayc, kV_dmayc, dc_dmayc, pm_dmayc, an_dmayc, cd_dmayc, ct_dmayc, sl_dmayc, rfl, l_dmayc, c_dmayc, df_dmayc, kw_dmayc⟩, k_dmayc⟩ := FX_dmayc
  obtain rfl := Sip.dfl_none df_dmayc
  have F_dmayc := funA_mk (st := s_dmayc) l_dmayc c_dmayc k_dmayc
  obtain ⟨_, ⟨oc_dlog, od_dlog, dV_dlog, kV_dlog, dc_dlog, pm_dlog, an_dlog, cd_dlog, ct_dlog, sl_dlog, rfl, l_dlog, c_dlog, df_dlog, kw_dlog⟩, k_dlog⟩ := FX_dlog
  obtain rfl := Sip.dfl_none df_dlog
  have F_dlog := funA_mk (st := s_dlog) l_dlog c_dlog k_dlog
  obtain ⟨_, ⟨oc_dlogb, od_dlogb, dV_dlogb, kV_dlogb, dc_dlogb, pm_dlogb, an_dlogb, cd_dlogb, ct_dlogb, sl_dlogb, rfl, l_dlogb, c_dlogb, df_dlogb, kw_dlogb⟩, k_dlogb⟩ := FX_dlogb
  obtain rfl := Sip.dfl_none df_dlogb
  have F_dlogb := funA_mk (st := s_dlogb) l_dlogb c_dlogb k_dlogb
  obtain ⟨_, ⟨oc_dsk, od_dsk, dV_dsk, kV_dsk, dc_dsk, pm_dsk, an_dsk, cd_dsk, ct_dsk, sl_dsk, rfl, l_dsk, c_dsk, df_dsk, kw_dsk⟩, k_dsk⟩ := FX_dsk
  obtain rfl := Sip.dfl_none df_dsk
  have F_dsk := funA_mk (st := s_dsk) l_dsk c_dsk k_dsk
  obtain ⟨_, ⟨oc_dplace, od_dplace, dV_dplace, kV_dplace, dc_dplace, pm_dplace, an_dplace, cd_dplace, ct_dplace, sl_dplace, rfl, l_dplace, c_dplace, df_dplace, kw_dplace⟩, k_dplace⟩ := FX_dplace
  obtain rfl := Sip.dfl_none df_dplace
  have F_dplace := funA_mk (st := s_dplace) l_dplace c_dplace k_dplace
  obtain ⟨_, ⟨oc_dlen, od_dlen, dV_dlen, kV_dlen, dc_dlen, pm_dlen, an_dlen, cd_dlen, ct_dlen, sl_dlen, rfl, l_dlen, c_dlen, df_dlen, kw_dlen⟩, k_dlen⟩ := FX_dlen
  obtain rfl := Sip.dfl_none df_dlen
  have F_dlen := funA_mk (st := s_dlen) l_dlen c_dlen k_dlen
  obtain ⟨_, ⟨oc_deq, od_deq, dV_deq, kV_deq, dc_deq, pm_deq, an_deq, cd_deq, ct_deq, sl_deq, rfl, l_deq, c_deq, df_deq, kw_deq⟩, k_deq⟩ := FX_deq
  obtain rfl := Sip.dfl_none df_deq
  have F_deq := funA_mk (st := s_deq) l_deq c_deq k_deq
  obtain ⟨_, ⟨oc_pool, od_pool, dV_pool, kV_pool, dc_pool, pm_pool, an_pool, cd_pool, ct_pool, sl_pool, rfl, l_pool, c_pool, df_pool, kw_pool⟩, k_pool⟩ := FX_pool
  obtain rfl := Sip.dfl_none df_pool
  have F_pool := funA_mk (st := s_pool) l_pool c_pool k_pool
  obtain ⟨_, ⟨oc_take, od_take, dV_take, kV_take, dc_take, pm_take, an_take, cd_take, ct_take, sl_take, rfl, l_take, c_take, df_take, kw_take⟩, k_take⟩ := FX_take
  obtain rfl := Sip.dfl_none df_take
  have F_take := funA_mk (st := s_take) l_take c_take k_take
  obtain ⟨_, ⟨oc_lrow, od_lrow, dV_lrow, kV_lrow, dc_lrow, pm_lrow, an_lrow, cd_lrow, ct_lrow, sl_lrow, rfl, l_lrow, c_lrow, df_lrow, kw_lrow⟩, k_lrow⟩ := FX_lrow
  obtain rfl := Sip.dfl_none df_lrow
  have F_lrow := funA_mk (st := s_lrow) l_lrow c_lrow k_lrow
  obtain ⟨_, ⟨oc_lplan, od_lplan, dV_lplan, kV_lplan, dc_lplan, pm_lplan, an_lplan, cd_lplan, ct_lplan, sl_lplan, rfl, l_lplan, c_lplan, df_lplan, kw_lplan⟩, k_lplan⟩ := FX_lplan
  obtain rfl := Sip.dfl_none df_lplan
  have F_lplan := funA_mk (st := s_lplan) l_lplan c_lplan k_lplan
  obtain ⟨_, ⟨oc_llaid, od_llaid, dV_llaid, kV_llaid, dc_llaid, pm_llaid, an_llaid, cd_llaid, ct_llaid, sl_llaid, rfl, l_llaid, c_llaid, df_llaid, kw_llaid⟩, k_llaid⟩ := FX_llaid
  obtain rfl := Sip.dfl_none df_llaid
  have F_llaid := funA_mk (st := s_llaid) l_llaid c_llaid k_llaid
  obtain ⟨_, ⟨oc_ldevice, od_ldevice, dV_ldevice, kV_ldevice, dc_ldevice, pm_ldevice, an_ldevice, cd_ldevice, ct_ldevice, sl_ldevice, rfl, l_ldevice, c_ldevice, df_ldevice, kw_ldevice⟩, k_ldevice⟩ := FX_ldevice
  obtain rfl := Sip.dfl_none df_ldevice
  have F_ldevice := funA_mk (st := s_ldevice) l_ldevice c_ldevice k_ldevice
  obtain ⟨_, ⟨oc_lasked, od_lasked, dV_lasked, kV_lasked, dc_lasked, pm_lasked, an_lasked, cd_lasked, ct_lasked, sl_lasked, rfl, l_lasked, c_lasked, df_lasked, kw_lasked⟩, k_lasked⟩ := FX_lasked
  obtain rfl := Sip.dfl_none df_lasked
  have F_lasked := funA_mk (st := s_lasked) l_lasked c_lasked k_lasked
  obtain ⟨_, ⟨oc_ltold, od_ltold, dV_ltold, kV_ltold, dc_ltold, pm_ltold, an_ltold, cd_ltold, ct_ltold, sl_ltold, rfl, l_ltold, c_ltold, df_ltold, kw_ltold⟩, k_ltold⟩ := FX_ltold
  obtain rfl := Sip.dfl_none df_ltold
  have F_ltold := funA_mk (st := s_ltold) l_ltold c_ltold k_ltold
  obtain ⟨_, ⟨oc_lhouse, od_lhouse, dV_lhouse, kV_lhouse, dc_lhouse, pm_lhouse, an_lhouse, cd_lhouse, ct_lhouse, sl_lhouse, rfl, l_lhouse, c_lhouse, df_lhouse, kw_lhouse⟩, k_lhouse⟩ := FX_lhouse
  obtain rfl := Sip.dfl_none df_lhouse
  have F_lhouse := funA_mk (st := s_lhouse) l_lhouse c_lhouse k_lhouse
  obtain ⟨_, ⟨oc_lwalked, od_lwalked, dV_lwalked, kV_lwalked, dc_lwalked, pm_lwalked, an_lwalked, cd_lwalked, ct_lwalked, sl_lwalked, rfl, l_lwalked, c_lwalked, df_lwalked, kw_lwalked⟩, k_lwalked⟩ := FX_lwalked
  obtain rfl := Sip.dfl_none df_lwalked
  have F_lwalked := funA_mk (st := s_lwalked) l_lwalked c_lwalked k_lwalked
  obtain ⟨_, ⟨oc_lagain, od_lagain, dV_lagain, kV_lagain, dc_lagain, pm_lagain, an_lagain, cd_lagain, ct_lagain, sl_lagain, rfl, l_lagain, c_lagain, df_lagain, kw_lagain⟩, k_lagain⟩ := FX_lagain
  obtain rfl := Sip.dfl_none df_lagain
  have F_lagain := funA_mk (st := s_lagain) l_lagain c_lagain k_lagain
  obtain ⟨_, ⟨oc_law, od_law, dV_law, kV_law, dc_law, pm_law, an_law, cd_law, ct_law, sl_law, rfl, l_law, c_law, df_law, kw_law⟩, k_law⟩ := FX_law
  obtain rfl := Sip.dfl_none df_law
  have F_law := funA_mk (st := s_law) l_law c_law k_law
  obtain ⟨_, ⟨oc_ldeed, od_ldeed, dV_ldeed, kV_ldeed, dc_ldeed, pm_ldeed, an_ldeed, cd_ldeed, ct_ldeed, sl_ldeed, rfl, l_ldeed, c_ldeed, df_ldeed, kw_ldeed⟩, k_ldeed⟩ := FX_ldeed
  obtain rfl := Sip.dfl_none df_ldeed
  have F_ldeed := funA_mk (st := s_ldeed) l_ldeed c_ldeed k_ldeed
  obtain ⟨_, v_LONGEST, t_LONGEST, rfl⟩ := cq_LONGEST
  have FD_iFault : FunD K "__init__" "Fault.__init__" (defArgs s_iFault) (defBody s_iFault) (defScope s_iFault) ([] : List V) ([("taken", .int 0)] : List (Str × V)) f_iFault (PySem.W.fnOf "__init__" "Fault.__init__" (defArgs s_iFault) (defBody s_iFault) (defScope s_iFault) .none kV_iFault dc_iFault pm_iFault an_iFault cd_iFault ct_iFault) := ⟨⟨_, _, _, _, _, _, _, _, _, _, rfl, l_iFault, c_iFault, df_iFault, kw_iFault⟩, k_iFault⟩
  have FD_dinit : FunD K "__init__" "Device.__init__" (defArgs s_dinit) (defBody s_dinit) (defScope s_dinit) ([] : List V) ([("seeks", .bl true)] : List (Str × V)) f_dinit (PySem.W.fnOf "__init__" "Device.__init__" (defArgs s_dinit) (defBody s_dinit) (defScope s_dinit) .none kV_dinit dc_dinit pm_dinit an_dinit cd_dinit ct_dinit) := ⟨⟨_, _, _, _, _, _, _, _, _, _, rfl, l_dinit, c_dinit, df_dinit, kw_dinit⟩, k_dinit⟩
  obtain ⟨ds_iFault_1, v_iFault_1, b_iFault_1⟩ := FD_iFault.binds0 (ps := P_iFault) 2 (by simp) rfl fun _ _ _ _ _ _ us ks h1 h2 => match us, ks, h1, h2 with | [_, _], [_], _, _ => ⟨_, _, _, _, _, _, rfl, rfl, rfl⟩
  have bb_clen : Binds K (PySem.W.fnOf "check_length" "check_length" (defArgs s_clen) (defBody s_clen) (defScope s_clen) .none kV_clen dc_clen pm_clen an_clen cd_clen ct_clen) P_clen [] := .all fun us hl => match us, hl with | [_], _ => rfl
  have bb_daccept : Binds K (PySem.W.fnOf "accept" "Device.accept" (defArgs s_daccept) (defBody s_daccept) (defScope s_daccept) .none kV_daccept dc_daccept pm_daccept an_daccept cd_daccept ct_daccept) P_daccept [] := .all fun us hl => match us, hl with | [_, _], _ => rfl
  have bb_dallowed : Binds K (PySem.W.fnOf "allowed" "Device.allowed" (defArgs s_dallowed) (defBody s_dallowed) (defScope s_dallowed) .none kV_dallowed dc_dallowed pm_dallowed an_dallowed cd_dallowed ct_dallowed) P_dallowed [] := .all fun us hl => match us, hl with | [_, _], _ => rfl
  have bb_dcontent : Binds K (PySem.W.fnOf "content" "Device.content" (defArgs s_dcontent) (defBody s_dcontent) (defScope s_dcontent) .none kV_dcontent dc_dcontent pm_dcontent an_dcontent cd_dcontent ct_dcontent) P_dcontent [] := .all fun us hl => match us, hl with | [_], _ => rfl
  have bb_dcut : Binds K (PySem.W.fnOf "cut" "Raw.cut" (defArgs s_dcut) (defBody s_dcut) (defScope s_dcut) .none kV_dcut dc_dcut pm_dcut an_dcut cd_dcut ct_dcut) P_dcut [] := .all fun us hl => match us, hl with | [_, _], _ => rfl
  have bb_deq : Binds K (PySem.W.fnOf "__eq__" "Device.__eq__" (defArgs s_deq) (defBody s_deq) (defScope s_deq) .none kV_deq dc_deq pm_deq an_deq cd_deq ct_deq) P_deq [] := .all fun us hl => match us, hl with | [_, _], _ => rfl
  have bb_dextent : Binds K (PySem.W.fnOf "extent" "Device.extent" (defArgs s_dextent) (defBody s_dextent) (defScope s_dextent) .none kV_dextent dc_dextent pm_dextent an_dextent cd_dextent ct_dextent) P_dextent [] := .all fun us hl => match us, hl with | [_], _ => rfl
  have bb_dgive : Binds K (PySem.W.fnOf "give" "Device.give" (defArgs s_dgive) (defBody s_dgive) (defScope s_dgive) .none kV_dgive dc_dgive pm_dgive an_dgive cd_dgive ct_dgive) P_dgive [] := .all fun us hl => match us, hl with | [_, _], _ => rfl
  have bb_dgo : Binds K (PySem.W.fnOf "go" "Raw.go" (defArgs s_dgo) (defBody s_dgo) (defScope s_dgo) .none kV_dgo dc_dgo pm_dgo an_dgo cd_dgo ct_dgo) P_dgo [] := .all fun us hl => match us, hl with | [_, _], _ => rfl
  have bb_dgrow : Binds K (PySem.W.fnOf "grow" "Device.grow" (defArgs s_dgrow) (defBody s_dgrow) (defScope s_dgrow) .none kV_dgrow dc_dgrow pm_dgrow an_dgrow cd_dgrow ct_dgrow) P_dgrow [] := .all fun us hl => match us, hl with | [_, _], _ => rfl
  have bb_dleft : Binds K (PySem.W.fnOf "left" "Device.left" (defArgs s_dleft) (defBody s_dleft) (defScope s_dleft) .none kV_dleft dc_dleft pm_dleft an_dleft cd_dleft ct_dleft) P_dleft [] := .all fun us hl => match us, hl with | [_], _ => rfl
  have bb_dlen : Binds K (PySem.W.fnOf "__len__" "Device.__len__" (defArgs s_dlen) (defBody s_dlen) (defScope s_dlen) .none kV_dlen dc_dlen pm_dlen an_dlen cd_dlen ct_dlen) P_dlen [] := .all fun us hl => match us, hl with | [_], _ => rfl
  have bb_dlog : Binds K (PySem.W.fnOf "log" "Raw.log" (defArgs s_dlog) (defBody s_dlog) (defScope s_dlog) .none kV_dlog dc_dlog pm_dlog an_dlog cd_dlog ct_dlog) P_dlog [] := .all fun us hl => match us, hl with | [_], _ => rfl
  have bb_dlogb : Binds K (PySem.W.fnOf "log_behind" "Raw.log_behind" (defArgs s_dlogb) (defBody s_dlogb) (defScope s_dlogb) .none kV_dlogb dc_dlogb pm_dlogb an_dlogb cd_dlogb ct_dlogb) P_dlogb [] := .all fun us hl => match us, hl with | [_, _], _ => rfl
  have bb_dmayc : Binds K (PySem.W.fnOf "may_cut" "Raw.may_cut" (defArgs s_dmayc) (defBody s_dmayc) (defScope s_dmayc) .none kV_dmayc dc_dmayc pm_dmayc an_dmayc cd_dmayc ct_dmayc) P_dmayc [] := .all fun us hl => match us, hl with | [_], _ => rfl
  have bb_dmayp : Binds K (PySem.W.fnOf "may_put" "Raw.may_put" (defArgs s_dmayp) (defBody s_dmayp) (defScope s_dmayp) .none kV_dmayp dc_dmayp pm_dmayp an_dmayp cd_dmayp ct_dmayp) P_dmayp [] := .all fun us hl => match us, hl with | [_, _], _ => rfl
  have bb_dmayt : Binds K (PySem.W.fnOf "may_take" "Raw.may_take" (defArgs s_dmayt) (defBody s_dmayt) (defScope s_dmayt) .none kV_dmayt dc_dmayt pm_dmayt an_dmayt cd_dmayt ct_dmayt) P_dmayt [] := .all fun us hl => match us, hl with | [_], _ => rfl
  have bb_dmove : Binds K (PySem.W.fnOf "move" "Device.move" (defArgs s_dmove) (defBody s_dmove) (defScope s_dmove) .none kV_dmove dc_dmove pm_dmove an_dmove cd_dmove ct_dmove) P_dmove [] := .all fun us hl => match us, hl with | [_, _], _ => rfl
  have bb_dnote : Binds K (PySem.W.fnOf "note" "Raw.note" (defArgs s_dnote) (defBody s_dnote) (defScope s_dnote) .none kV_dnote dc_dnote pm_dnote an_dnote cd_dnote ct_dnote) P_dnote [] := .all fun us hl => match us, hl with | [_, _, _, _], _ => rfl
  have bb_dopen : Binds K (PySem.W.fnOf "check_open" "Raw.check_open" (defArgs s_dopen) (defBody s_dopen) (defScope s_dopen) .none kV_dopen dc_dopen pm_dopen an_dopen cd_dopen ct_dopen) P_dopen [] := .all fun us hl => match us, hl with | [_], _ => rfl
  have bb_dplace : Binds K (PySem.W.fnOf "place" "Raw.place" (defArgs s_dplace) (defBody s_dplace) (defScope s_dplace) .none kV_dplace dc_dplace pm_dplace an_dplace cd_dplace ct_dplace) P_dplace [] := .all fun us hl => match us, hl with | [_], _ => rfl
  have bb_dput : Binds K (PySem.W.fnOf "put" "Raw.put" (defArgs s_dput) (defBody s_dput) (defScope s_dput) .none kV_dput dc_dput pm_dput an_dput cd_dput ct_dput) P_dput [] := .all fun us hl => match us, hl with | [_, _], _ => rfl
  have bb_dseeks : Binds K (PySem.W.fnOf "check_seeks" "Raw.check_seeks" (defArgs s_dseeks) (defBody s_dseeks) (defScope s_dseeks) .none kV_dseeks dc_dseeks pm_dseeks an_dseeks cd_dseeks ct_dseeks) P_dseeks [] := .all fun us hl => match us, hl with | [_], _ => rfl
  have bb_dtake : Binds K (PySem.W.fnOf "take" "Raw.take" (defArgs s_dtake) (defBody s_dtake) (defScope s_dtake) .none kV_dtake dc_dtake pm_dtake an_dtake cd_dtake ct_dtake) P_dtake [] := .all fun us hl => match us, hl with | [_, _], _ => rfl
  have bb_dtrim : Binds K (PySem.W.fnOf "trim" "Device.trim" (defArgs s_dtrim) (defBody s_dtrim) (defScope s_dtrim) .none kV_dtrim dc_dtrim pm_dtrim an_dtrim cd_dtrim ct_dtrim) P_dtrim [] := .all fun us hl => match us, hl with | [_, _], _ => rfl
  have bb_lagain : Binds K (PySem.W.fnOf "_law_again" "_law_again" (defArgs s_lagain) (defBody s_lagain) (defScope s_lagain) .none kV_lagain dc_lagain pm_lagain an_lagain cd_lagain ct_lagain) P_lagain [] := .all fun us hl => match us, hl with | [_], _ => rfl
  have bb_laid : Binds K (PySem.W.fnOf "laid" "laid" (defArgs s_laid) (defBody s_laid) (defScope s_laid) .none kV_laid dc_laid pm_laid an_laid cd_laid ct_laid) P_laid [] := .all fun us hl => match us, hl with | [_, _, _], _ => rfl
  have bb_lasked : Binds K (PySem.W.fnOf "_law_asked" "_law_asked" (defArgs s_lasked) (defBody s_lasked) (defScope s_lasked) .none kV_lasked dc_lasked pm_lasked an_lasked cd_lasked ct_lasked) P_lasked [] := .all fun us hl => match us, hl with | [_, _, _], _ => rfl
  have bb_ldeed : Binds K (PySem.W.fnOf "_law_deed" "_law_deed" (defArgs s_ldeed) (defBody s_ldeed) (defScope s_ldeed) .none kV_ldeed dc_ldeed pm_ldeed an_ldeed cd_ldeed ct_ldeed) P_ldeed [] := .all fun us hl => match us, hl with | [_, _], _ => rfl
  have bb_ldevice : Binds K (PySem.W.fnOf "_law_device" "_law_device" (defArgs s_ldevice) (defBody s_ldevice) (defScope s_ldevice) .none kV_ldevice dc_ldevice pm_ldevice an_ldevice cd_ldevice ct_ldevice) P_ldevice [] := .all fun us hl => match us, hl with | [_, _], _ => rfl
  have bb_lhouse : Binds K (PySem.W.fnOf "_law_house" "_law_house" (defArgs s_lhouse) (defBody s_lhouse) (defScope s_lhouse) .none kV_lhouse dc_lhouse pm_lhouse an_lhouse cd_lhouse ct_lhouse) P_lhouse [] := .all fun us hl => match us, hl with | [_, _], _ => rfl
  have bb_llaid : Binds K (PySem.W.fnOf "_law_laid" "_law_laid" (defArgs s_llaid) (defBody s_llaid) (defScope s_llaid) .none kV_llaid dc_llaid pm_llaid an_llaid cd_llaid ct_llaid) P_llaid [] := .all fun us hl => match us, hl with | [_, _, _], _ => rfl
  have bb_lplan : Binds K (PySem.W.fnOf "_law_plan" "_law_plan" (defArgs s_lplan) (defBody s_lplan) (defScope s_lplan) .none kV_lplan dc_lplan pm_lplan an_lplan cd_lplan ct_lplan) P_lplan [] := .all fun us hl => match us, hl with | [_, _, _], _ => rfl
  have bb_lrow : Binds K (PySem.W.fnOf "_law_row" "_law_row" (defArgs s_lrow) (defBody s_lrow) (defScope s_lrow) .none kV_lrow dc_lrow pm_lrow an_lrow cd_lrow ct_lrow) P_lrow [] := .all fun us hl => match us, hl with | [_, _], _ => rfl
  have bb_ltold : Binds K (PySem.W.fnOf "_law_told" "_law_told" (defArgs s_ltold) (defBody s_ltold) (defScope s_ltold) .none kV_ltold dc_ltold pm_ltold an_ltold cd_ltold ct_ltold) P_ltold [] := .all fun us hl => match us, hl with | [_, _, _], _ => rfl
  have bb_lwalked : Binds K (PySem.W.fnOf "_law_walked" "_law_walked" (defArgs s_lwalked) (defBody s_lwalked) (defScope s_lwalked) .none kV_lwalked dc_lwalked pm_lwalked an_lwalked cd_lwalked ct_lwalked) P_lwalked [] := .all fun us hl => match us, hl with | [_], _ => rfl
  have bb_ocopy : Binds K (PySem.W.fnOf "own_copy" "own_copy" (defArgs s_ocopy) (defBody s_ocopy) (defScope s_ocopy) .none kV_ocopy dc_ocopy pm_ocopy an_ocopy cd_ocopy ct_ocopy) P_ocopy [] := .all fun us hl => match us, hl with | [_], _ => rfl
  have bb_pool : Binds K (PySem.W.fnOf "_law_pool" "_law_pool" (defArgs s_pool) (defBody s_pool) (defScope s_pool) .none kV_pool dc_pool pm_pool an_pool cd_pool ct_pool) P_pool [] := .all fun us hl => match us, hl with | [_, _], _ => rfl
  have bb_rinit : Binds K (PySem.W.fnOf "__init__" "Raw.__init__" (defArgs s_rinit) (defBody s_rinit) (defScope s_rinit) .none kV_rinit dc_rinit pm_rinit an_rinit cd_rinit ct_rinit) P_rinit [] := .all fun us hl => match us, hl with | [_, _], _ => rfl
  have bb_take : Binds K (PySem.W.fnOf "_law_take" "_law_take" (defArgs s_take) (defBody s_take) (defScope s_take) .none kV_take dc_take pm_take an_take cd_take ct_take) P_take [] := .all fun us hl => match us, hl with | [_, _], _ => rfl
  have kb_dinit_1_plan_seeks : KBn K (PySem.W.fnOf "__init__" "Device.__init__" (defArgs s_dinit) (defBody s_dinit) (defScope s_dinit) .none kV_dinit dc_dinit pm_dinit an_dinit cd_dinit ct_dinit) P_dinit 2 ["plan", "seeks"] (fun us ws => us ++ ws) (fun vs zs => vs ++ zs) := ⟨fun s us ws X l1 l2 => .of_eq (match us, ws, l1, l2 with | [_, _], [_, _], _, _ => rfl), fun r1 r2 => Vals.append r1 r2⟩
  let T : Tx K mg := ⟨C_Device, C_Raw, C_SipError, C_Fault, f_iFault, _, F_iFault, f_clen, _, ⟨F_clen, PySem.W.mg_of X G a_clen⟩, f_ocopy, _, ⟨F_ocopy, PySem.W.mg_of X G a_ocopy⟩, f_laid, _, ⟨F_laid, PySem.W.mg_of X G a_laid⟩, f_rinit, _, ⟨F_rinit, ⟨a_rinit, i_rinit, k_rinit⟩⟩, f_dinit, _, ⟨F_dinit, ⟨a_dinit, i_dinit, k_dinit⟩⟩, f_dgrow, _, ⟨F_dgrow, ⟨a_dgrow, i_dgrow, k_dgrow⟩⟩, f_dcontent, _, ⟨F_dcontent, ⟨a_dcontent, i_dcontent, k_dcontent⟩⟩, f_dleft, _, ⟨F_dleft, ⟨a_dleft, i_dleft, k_dleft⟩⟩, f_dgive, _, ⟨F_dgive, ⟨a_dgive, i_dgive, k_dgive⟩⟩, f_daccept, _, ⟨F_daccept, ⟨a_daccept, i_daccept, k_daccept⟩⟩, f_dmove, _, ⟨F_dmove, ⟨a_dmove, i_dmove, k_dmove⟩⟩, f_dtrim, _, ⟨F_dtrim, ⟨a_dtrim, i_dtrim, k_dtrim⟩⟩, f_dextent, _, ⟨F_dextent, ⟨a_dextent, i_dextent, k_dextent⟩⟩, f_dallowed, _, ⟨F_dallowed, ⟨a_dallowed, i_dallowed, k_dallowed⟩⟩, f_dtake, _, ⟨F_dtake, ⟨a_dtake, i_dtake, k_dtake⟩⟩, f_dput, _, ⟨F_dput, ⟨a_dput, i_dput, k_dput⟩⟩, f_dgo, _, ⟨F_dgo, ⟨a_dgo, i_dgo, k_dgo⟩⟩, f_dcut, _, ⟨F_dcut, ⟨a_dcut, i_dcut, k_dcut⟩⟩, f_dnote, _, ⟨F_dnote, ⟨a_dnote, i_dnote, k_dnote⟩⟩, f_dopen, _, ⟨F_dopen, ⟨a_dopen, i_dopen, k_dopen⟩⟩, f_dseeks, _, ⟨F_dseeks, ⟨a_dseeks, i_dseeks, k_dseeks⟩⟩, f_dmayt, _, ⟨F_dmayt, ⟨a_dmayt, i_dmayt, k_dmayt⟩⟩, f_dmayp, _, ⟨F_dmayp, ⟨a_dmayp, i_dmayp, k_dmayp⟩⟩, f_dmayc, _, ⟨F_dmayc, ⟨a_dmayc, i_dmayc, k_dmayc⟩⟩, f_dlog, _, ⟨F_dlog, ⟨a_dlog, i_dlog, k_dlog⟩⟩, f_dlogb, _, ⟨F_dlogb, ⟨a_dlogb, i_dlogb, k_dlogb⟩⟩, f_dsk, _, ⟨F_dsk, ⟨a_dsk, i_dsk, k_dsk⟩⟩, f_dplace, _, ⟨F_dplace, ⟨a_dplace, i_dplace, k_dplace⟩⟩, f_dlen, _, ⟨F_dlen, ⟨a_dlen, i_dlen, k_dlen⟩⟩, f_deq, _, ⟨F_deq, ⟨a_deq, i_deq, k_deq⟩⟩, f_pool, _, ⟨F_pool, PySem.W.mg_of X G a_pool⟩, f_take, _, ⟨F_take, PySem.W.mg_of X G a_take⟩, f_lrow, _, ⟨F_lrow, PySem.W.mg_of X G a_lrow⟩, f_lplan, _, ⟨F_lplan, PySem.W.mg_of X G a_lplan⟩, f_llaid, _, ⟨F_llaid, PySem.W.mg_of X G a_llaid⟩, f_ldevice, _, ⟨F_ldevice, PySem.W.mg_of X G a_ldevice⟩, f_lasked, _, ⟨F_lasked, PySem.W.mg_of X G a_lasked⟩, f_ltold, _, ⟨F_ltold, PySem.W.mg_of X G a_ltold⟩, f_lhouse, _, ⟨F_lhouse, PySem.W.mg_of X G a_lhouse⟩, f_lwalked, _, ⟨F_lwalked, PySem.W.mg_of X G a_lwalked⟩, f_lagain, _, ⟨F_lagain, PySem.W.mg_of X G a_lagain⟩, fa, _, ⟨F_law, PySem.W.mg_of X G a_law⟩, f_ldeed, _, ⟨F_ldeed, PySem.W.mg_of X G a_ldeed⟩, ⟨pg_Device, hd_Device, po_Device, sa_Device⟩, PySem.W.mg_of X G qa_Device, ⟨mk_Device, a_dinit, i_dinit, kc_Device⟩, n_Device_can_seek, n_Device_spot, n_Device_barred, n_Device_notes, n_Device_cells, n_Device_plan, n_Device_used, v1_Device, v2_Device, v3_Device, v4_Device, v5_Device, PySem.W.mg_of X G qa_Raw, ⟨rd_Raw, ga_Raw⟩, cv_rinit, PySem.W.mg_of X G qa_SipError, PySem.W.mg_of X G qa_Fault, ⟨xo_Fault, sa_Fault, ex_Fault, ty_Fault, kx_Fault⟩, ⟨hg_Fault, hk_Fault, ex_Fault, hd_Fault, ha_Fault, hn_Fault, ht_Fault, hm_Fault⟩, no_Fault, no2_Fault, a_iFault, i_iFault, PySem.W.exm_ref sb_SipError sh_SipError st_SipError ss_Fault, PySem.W.exm_ref hb_Fault hh_Fault hy_Fault hs_Fault_Fault, bb_clen, bb_daccept, bb_dallowed, bb_dcontent, bb_dcut, bb_deq, bb_dextent, bb_dgive, bb_dgo, bb_dgrow, bb_dleft, bb_dlen, bb_dlog, bb_dlogb, bb_dmayc, bb_dmayp, bb_dmayt, bb_dmove, bb_dnote, bb_dopen, bb_dplace, bb_dput, bb_dseeks, bb_dtake, bb_dtrim, bb_lagain, bb_laid, bb_lasked, bb_ldeed, bb_ldevice, bb_lhouse, bb_llaid, bb_lplan, bb_lrow, bb_ltold, bb_lwalked, bb_ocopy, bb_pool, bb_rinit, bb_take, ds_iFault_1, v_iFault_1, b_iFault_1, kb_dinit_1_plan_seeks, t_LONGEST, PySem.W.mg_of X G v_LONGEST, PySem.W.mg_none_of X G z_list, PySem.W.mg_none_of X G z_len, PySem.W.mg_none_of X G z_range, PySem.W.mg_none_of X G z_max, PySem.W.mg_none_of X G z_min, PySem.W.mg_none_of X G z_isinstance, PySem.W.mg_none_of X G z_int, PySem.W.mg_none_of X G z_bool⟩
  exact ⟨_, fun s v => .of_eq rfl, fun base _ _ => ok_law T⟩
set_option maxHeartbeats 0 in
theorem all_of {l : PySem.W.OpenLaw} {w : World} {K : PySem.W.Frag} {h : Heap} {mg : Str → Option Value} {fa : Addr} (X : K.In h) (G : h.Ns mainGlobals mg) (hfa : mg "law" = some (.ref fa)) (c : Sip.SaysS re_0 hdF K) :
    ∃ fd : FuncData, (∀ (s : Shared) (v : Value), BindsTo s fd ⟨[v], []⟩ [("_law_script", v)]) ∧ ∀ base : Heap, K.In base → base.Ns mainGlobals mg → FnOk l.prog w K mg base CX0 10 fa fd ["_law_script"] (spLaw K) := by
  have r_0 : re_0 K = true := c.facts
  obtain ⟨b_0, r_1⟩ := He.ba (show (decide (PySem.W.nsIn K mainGlobals "Device" = some (some (.ref (He.ga K "Device")))) && re_1 K) = true from r_0)
  clear r_0
  have qa_Device : PySem.W.nsIn K mainGlobals "Device" = some (some (.ref (He.ga K "Device"))) := of_decide_eq_true b_0
  clear b_0
  obtain ⟨b_1, r_2⟩ := He.ba (show (decide (PySem.W.nsIn K mainGlobals "Raw" = some (some (.ref (He.ga K "Raw")))) && re_2 K) = true from r_1)
  clear r_1
  have qa_Raw : PySem.W.nsIn K mainGlobals "Raw" = some (some (.ref (He.ga K "Raw"))) := of_decide_eq_true b_1
  clear b_1
  obtain ⟨b_2, r_3⟩ := He.ba (show (decide (PySem.W.readsIn K (He.ga K "Raw") (.type "type") = true) && re_3 K) = true from r_2)
  clear r_2
  have rd_Raw : PySem.W.readsIn K (He.ga K "Raw") (.type "type") = true := of_decide_eq_true b_2
  clear b_2
  obtain ⟨b_3, r_4⟩ := He.ba (show (decide (PySem.W.specialIn K (.ref (He.ga K "Raw")) "__getattribute__" = some (some (.builtin "type.__getattribute__"))) && re_4 K) = true from r_3)
  clear r_3
  have ga_Raw : PySem.W.specialIn K (.ref (He.ga K "Raw")) "__getattribute__" = some (some (.builtin "type.__getattribute__")) := of_decide_eq_true b_3
  clear b_3
  obtain ⟨b_4, r_5⟩ := He.ba (show (decide (PySem.W.nsIn K mainGlobals "SipError" = some (some (.ref (He.ga K "SipError")))) && re_5 K) = true from r_4)
  clear r_4
  have qa_SipError : PySem.W.nsIn K mainGlobals "SipError" = some (some (.ref (He.ga K "SipError"))) := of_decide_eq_true b_4
  clear b_4
  obtain ⟨b_5, r_6⟩ := He.ba (show (decide (PySem.W.nsIn K mainGlobals "Fault" = some (some (.ref (He.ga K "Fault")))) && re_6 K) = true from r_5)
  clear r_5
  have qa_Fault : PySem.W.nsIn K mainGlobals "Fault" = some (some (.ref (He.ga K "Fault"))) := of_decide_eq_true b_5
  clear b_5
  obtain ⟨b_6, r_7⟩ := He.ba (show (decide (PySem.W.subIn K (.ref (He.ga K "SipError")) (.type "BaseException") = some true) && re_7 K) = true from r_6)
  clear r_6
  have sb_SipError : PySem.W.subIn K (.ref (He.ga K "SipError")) (.type "BaseException") = some true := of_decide_eq_true b_6
  clear b_6
  obtain ⟨b_7, r_8⟩ := He.ba (show (decide (PySem.W.hasDictIn K (He.ga K "SipError") = true) && re_8 K) = true from r_7)
  clear r_7
  have sh_SipError : PySem.W.hasDictIn K (He.ga K "SipError") = true := of_decide_eq_true b_7
  clear b_7
  obtain ⟨b_8, r_9⟩ := He.ba (show (decide (PySem.W.typeIn K (.ref (He.ga K "SipError")) = some (.type "type")) && re_9 K) = true from r_8)
  clear r_8
  have st_SipError : PySem.W.typeIn K (.ref (He.ga K "SipError")) = some (.type "type") := of_decide_eq_true b_8
  clear b_8
  obtain ⟨b_9, r_10⟩ := He.ba (show (decide (PySem.W.subIn K (.ref (He.ga K "Fault")) (.type "BaseException") = some true) && re_10 K) = true from r_9)
  clear r_9
  have hb_Fault : PySem.W.subIn K (.ref (He.ga K "Fault")) (.type "BaseException") = some true := of_decide_eq_true b_9
  clear b_9
  obtain ⟨b_10, r_11⟩ := He.ba (show (decide (PySem.W.hasDictIn K (He.ga K "Fault") = true) && re_11 K) = true from r_10)
  clear r_10
  have hh_Fault : PySem.W.hasDictIn K (He.ga K "Fault") = true := of_decide_eq_true b_10
  clear b_10
  obtain ⟨b_11, r_12⟩ := He.ba (show (decide (PySem.W.typeIn K (.ref (He.ga K "Fault")) = some (.type "type")) && re_12 K) = true from r_11)
  clear r_11
  have hy_Fault : PySem.W.typeIn K (.ref (He.ga K "Fault")) = some (.type "type") := of_decide_eq_true b_11
  clear b_11
  obtain ⟨b_12, r_13⟩ := He.ba (show (decide (PySem.W.subIn K (.ref (He.ga K "Fault")) (.ref (He.ga K "Fault")) = some true) && re_13 K) = true from r_12)
  clear r_12
  have hs_Fault_Fault : PySem.W.subIn K (.ref (He.ga K "Fault")) (.ref (He.ga K "Fault")) = some true := of_decide_eq_true b_12
  clear b_12
  obtain ⟨b_13, r_14⟩ := He.ba (show (Sip.excObjB K (He.ga K "Fault") && re_14 K) = true from r_13)
  clear r_13
  have xo_Fault : Sip.IsExcObj K (He.ga K "Fault") (He.ga K "SipError") := Sip.excObjB_ok b_13
  clear b_13
  obtain ⟨b_14, r_15⟩ := He.ba (show (decide (PySem.W.findIn K (.ref (He.ga K "Fault")) "__setattr__" = some (some (.builtin "object.__setattr__"))) && re_15 K) = true from r_14)
  clear r_14
  have sa_Fault : PySem.W.findIn K (.ref (He.ga K "Fault")) "__setattr__" = some (some (.builtin "object.__setattr__")) := of_decide_eq_true b_14
  clear b_14
  obtain ⟨b_15, r_16⟩ := He.ba (show (decide (PySem.W.subIn K (.ref (He.ga K "Fault")) (.type "BaseException") = some true) && re_16 K) = true from r_15)
  clear r_15
  have ex_Fault : PySem.W.subIn K (.ref (He.ga K "Fault")) (.type "BaseException") = some true := of_decide_eq_true b_15
  clear b_15
  obtain ⟨b_16, r_17⟩ := He.ba (show (decide (PySem.W.typeIn K (.ref (He.ga K "Fault")) = some (.type "type")) && re_17 K) = true from r_16)
  clear r_16
  have ty_Fault : PySem.W.typeIn K (.ref (He.ga K "Fault")) = some (.type "type") := of_decide_eq_true b_16
  clear b_16
  obtain ⟨b_17, r_18⟩ := He.ba (show (decide (PySem.W.keepIn K (.ref (He.ga K "Fault")) = true) && re_18 K) = true from r_17)
  clear r_17
  have kx_Fault : PySem.W.keepIn K (.ref (He.ga K "Fault")) = true := of_decide_eq_true b_17
  clear b_17
  obtain ⟨b_18, r_19⟩ := He.ba (show (decide (PySem.W.findIn K (.ref (He.ga K "Fault")) "__getattribute__" = some (some (.builtin "BaseException.__getattribute__"))) && re_19 K) = true from r_18)
  clear r_18
  have hg_Fault : PySem.W.findIn K (.ref (He.ga K "Fault")) "__getattribute__" = some (some (.builtin "BaseException.__getattribute__")) := of_decide_eq_true b_18
  clear b_18
  obtain ⟨b_19, r_20⟩ := He.ba (show (decide (PySem.W.findIn K (.ref (He.ga K "Fault")) "__getattr__" = some none) && re_20 K) = true from r_19)
  clear r_19
  have hk_Fault : PySem.W.findIn K (.ref (He.ga K "Fault")) "__getattr__" = some none := of_decide_eq_true b_19
  clear b_19
  obtain ⟨b_20, r_21⟩ := He.ba (show (decide (PySem.W.hasDictIn K (He.ga K "Fault") = true) && re_21 K) = true from r_20)
  clear r_20
  have hd_Fault : PySem.W.hasDictIn K (He.ga K "Fault") = true := of_decide_eq_true b_20
  clear b_20
  obtain ⟨b_21, r_22⟩ := He.ba (show (decide (PySem.W.findIn K (.ref (He.ga K "Fault")) "__class__" = some (some (.builtin "object.__class__"))) && re_22 K) = true from r_21)
  clear r_21
  have ha_Fault : PySem.W.findIn K (.ref (He.ga K "Fault")) "__class__" = some (some (.builtin "object.__class__")) := of_decide_eq_true b_21
  clear b_21
  obtain ⟨b_22, r_23⟩ := He.ba (show (decide (PySem.W.specialIn K (.builtin "object.__class__") "__get__" = some (some (.builtin "getset_descriptor.__get__"))) && re_23 K) = true from r_22)
  clear r_22
  have hn_Fault : PySem.W.specialIn K (.builtin "object.__class__") "__get__" = some (some (.builtin "getset_descriptor.__get__")) := of_decide_eq_true b_22
  clear b_22
  obtain ⟨b_23, r_24⟩ := He.ba (show (decide (PySem.W.takesIn K (.builtin "object.__class__") = some true) && re_24 K) = true from r_23)
  clear r_23
  have ht_Fault : PySem.W.takesIn K (.builtin "object.__class__") = some true := of_decide_eq_true b_23
  clear b_23
  obtain ⟨b_24, r_25⟩ := He.ba (show (decide (PySem.W.mroIn K (He.ga K "Fault") (.type "object") = some true) && re_25 K) = true from r_24)
  clear r_24
  have hm_Fault : PySem.W.mroIn K (He.ga K "Fault") (.type "object") = some true := of_decide_eq_true b_24
  clear b_24
  obtain ⟨b_25, r_26⟩ := He.ba (show (decide (PySem.W.findIn K (.ref (He.ga K "Fault")) "number" = some none) && re_26 K) = true from r_25)
  clear r_25
  have no_Fault : PySem.W.findIn K (.ref (He.ga K "Fault")) "number" = some none := of_decide_eq_true b_25
  clear b_25
  obtain ⟨b_26, r_27⟩ := He.ba (show (decide (PySem.W.subIn K (.ref (He.ga K "Fault")) (.ref (He.ga K "SipError")) = some true) && re_27 K) = true from r_26)
  clear r_26
  have ss_Fault : PySem.W.subIn K (.ref (He.ga K "Fault")) (.ref (He.ga K "SipError")) = some true := of_decide_eq_true b_26
  clear b_26
  obtain ⟨b_27, r_28⟩ := He.ba (show (decide (PySem.W.subIn K (.ref (He.ga K "Fault")) (.ref (He.ga K "Fault")) = some true) && re_28 K) = true from r_27)
  clear r_27
  have se_Fault : PySem.W.subIn K (.ref (He.ga K "Fault")) (.ref (He.ga K "Fault")) = some true := of_decide_eq_true b_27
  clear b_27
  obtain ⟨b_28, r_29⟩ := He.ba (show (decide (PySem.W.findIn K (.ref (He.ga K "Fault")) "taken" = some none) && re_29 K) = true from r_28)
  clear r_28
  have no2_Fault : PySem.W.findIn K (.ref (He.ga K "Fault")) "taken" = some none := of_decide_eq_true b_28
  clear b_28
  obtain ⟨b_29, r_30⟩ := He.ba (show (decide (PySem.W.findIn K (.ref (He.ga K "Fault")) "__init__" = some (some (.ref (He.fAd K ("Fault", some "__init__"))))) && re_30 K) = true from r_29)
  clear r_29
  have a_iFault : PySem.W.findIn K (.ref (He.ga K "Fault")) "__init__" = some (some (.ref (He.fAd K ("Fault", some "__init__")))) := of_decide_eq_true b_29
  clear b_29
  obtain ⟨b_30, r_31⟩ := He.ba (show (decide (PySem.W.typeIn K (.ref (He.fAd K ("Fault", some "__init__"))) = some (.type "function")) && re_31 K) = true from r_30)
  clear r_30
  have i_iFault : PySem.W.typeIn K (.ref (He.fAd K ("Fault", some "__init__"))) = some (.type "function") := of_decide_eq_true b_30
  clear b_30
  obtain ⟨b_31, r_32⟩ := He.ba (show (decide (PySem.W.nsIn K mainGlobals "check_length" = some (some (.ref (He.fAd K ("check_length", none))))) && re_32 K) = true from r_31)
  clear r_31
  have a_clen : PySem.W.nsIn K mainGlobals "check_length" = some (some (.ref (He.fAd K ("check_length", none)))) := of_decide_eq_true b_31
  clear b_31
  obtain ⟨b_32, r_33⟩ := He.ba (show (decide (PySem.W.nsIn K mainGlobals "own_copy" = some (some (.ref (He.fAd K ("own_copy", none))))) && re_33 K) = true from r_32)
  clear r_32
  have a_ocopy : PySem.W.nsIn K mainGlobals "own_copy" = some (some (.ref (He.fAd K ("own_copy", none)))) := of_decide_eq_true b_32
  clear b_32
  obtain ⟨b_33, r_34⟩ := He.ba (show (decide (PySem.W.nsIn K mainGlobals "laid" = some (some (.ref (He.fAd K ("laid", none))))) && re_34 K) = true from r_33)
  clear r_33
  have a_laid : PySem.W.nsIn K mainGlobals "laid" = some (some (.ref (He.fAd K ("laid", none)))) := of_decide_eq_true b_33
  clear b_33
  obtain ⟨b_34, r_35⟩ := He.ba (show (decide (PySem.W.findIn K (.ref (He.ga K "Raw")) "__init__" = some (some (.ref (He.fAd K ("Raw", some "__init__"))))) && re_35 K) = true from r_34)
  clear r_34
  have a_rinit : PySem.W.findIn K (.ref (He.ga K "Raw")) "__init__" = some (some (.ref (He.fAd K ("Raw", some "__init__")))) := of_decide_eq_true b_34
  clear b_34
  obtain ⟨b_35, r_36⟩ := He.ba (show (decide (PySem.W.isFn K (.ref (He.fAd K ("Raw", some "__init__"))) = true) && re_36 K) = true from r_35)
  clear r_35
  have i_rinit : PySem.W.isFn K (.ref (He.fAd K ("Raw", some "__init__"))) = true := of_decide_eq_true b_35
  clear b_35
  obtain ⟨b_36, r_37⟩ := He.ba (show (Sip.clsB K (.ref (He.ga K "Raw")) (.type "type") "__init__" (.ref (He.fAd K ("Raw", some "__init__"))) && re_37 K) = true from r_36)
  clear r_36
  have cv_rinit : PySem.W.findCls K (.ref (He.ga K "Raw")) (.type "type") "__init__" = some (.val (.ref (He.fAd K ("Raw", some "__init__")))) := Sip.clsB_ok b_36
  clear b_36
  obtain ⟨b_37, r_38⟩ := He.ba (show (decide (PySem.W.findIn K (.ref (He.ga K "Device")) "__init__" = some (some (.ref (He.fAd K ("Device", some "__init__"))))) && re_38 K) = true from r_37)
  clear r_37
  have a_dinit : PySem.W.findIn K (.ref (He.ga K "Device")) "__init__" = some (some (.ref (He.fAd K ("Device", some "__init__")))) := of_decide_eq_true b_37
  clear b_37
  obtain ⟨b_38, r_39⟩ := He.ba (show (decide (PySem.W.isFn K (.ref (He.fAd K ("Device", some "__init__"))) = true) && re_39 K) = true from r_38)
  clear r_38
  have i_dinit : PySem.W.isFn K (.ref (He.fAd K ("Device", some "__init__"))) = true := of_decide_eq_true b_38
  clear b_38
  obtain ⟨b_39, r_40⟩ := He.ba (show (decide (PySem.W.findIn K (.ref (He.ga K "Device")) "grow" = some (some (.ref (He.fAd K ("Device", some "grow"))))) && re_40 K) = true from r_39)
  clear r_39
  have a_dgrow : PySem.W.findIn K (.ref (He.ga K "Device")) "grow" = some (some (.ref (He.fAd K ("Device", some "grow")))) := of_decide_eq_true b_39
  clear b_39
  obtain ⟨b_40, r_41⟩ := He.ba (show (decide (PySem.W.isFn K (.ref (He.fAd K ("Device", some "grow"))) = true) && re_41 K) = true from r_40)
  clear r_40
  have i_dgrow : PySem.W.isFn K (.ref (He.fAd K ("Device", some "grow"))) = true := of_decide_eq_true b_40
  clear b_40
  obtain ⟨b_41, r_42⟩ := He.ba (show (decide (PySem.W.findIn K (.ref (He.ga K "Device")) "content" = some (some (.ref (He.fAd K ("Device", some "content"))))) && re_42 K) = true from r_41)
  clear r_41
  have a_dcontent : PySem.W.findIn K (.ref (He.ga K "Device")) "content" = some (some (.ref (He.fAd K ("Device", some "content")))) := of_decide_eq_true b_41
  clear b_41
  obtain ⟨b_42, r_43⟩ := He.ba (show (decide (PySem.W.isFn K (.ref (He.fAd K ("Device", some "content"))) = true) && re_43 K) = true from r_42)
  clear r_42
  have i_dcontent : PySem.W.isFn K (.ref (He.fAd K ("Device", some "content"))) = true := of_decide_eq_true b_42
  clear b_42
  obtain ⟨b_43, r_44⟩ := He.ba (show (decide (PySem.W.findIn K (.ref (He.ga K "Device")) "left" = some (some (.ref (He.fAd K ("Device", some "left"))))) && re_44 K) = true from r_43)
  clear r_43
  have a_dleft : PySem.W.findIn K (.ref (He.ga K "Device")) "left" = some (some (.ref (He.fAd K ("Device", some "left")))) := of_decide_eq_true b_43
  clear b_43
  obtain ⟨b_44, r_45⟩ := He.ba (show (decide (PySem.W.isFn K (.ref (He.fAd K ("Device", some "left"))) = true) && re_45 K) = true from r_44)
  clear r_44
  have i_dleft : PySem.W.isFn K (.ref (He.fAd K ("Device", some "left"))) = true := of_decide_eq_true b_44
  clear b_44
  obtain ⟨b_45, r_46⟩ := He.ba (show (decide (PySem.W.findIn K (.ref (He.ga K "Device")) "give" = some (some (.ref (He.fAd K ("Device", some "give"))))) && re_46 K) = true from r_45)
  clear r_45
  have a_dgive : PySem.W.findIn K (.ref (He.ga K "Device")) "give" = some (some (.ref (He.fAd K ("Device", some "give")))) := of_decide_eq_true b_45
  clear b_45
  obtain ⟨b_46, r_47⟩ := He.ba (show (decide (PySem.W.isFn K (.ref (He.fAd K ("Device", some "give"))) = true) && re_47 K) = true from r_46)
  clear r_46
  have i_dgive : PySem.W.isFn K (.ref (He.fAd K ("Device", some "give"))) = true := of_decide_eq_true b_46
  clear b_46
  obtain ⟨b_47, r_48⟩ := He.ba (show (decide (PySem.W.findIn K (.ref (He.ga K "Device")) "accept" = some (some (.ref (He.fAd K ("Device", some "accept"))))) && re_48 K) = true from r_47)
  clear r_47
  have a_daccept : PySem.W.findIn K (.ref (He.ga K "Device")) "accept" = some (some (.ref (He.fAd K ("Device", some "accept")))) := of_decide_eq_true b_47
  clear b_47
  obtain ⟨b_48, r_49⟩ := He.ba (show (decide (PySem.W.isFn K (.ref (He.fAd K ("Device", some "accept"))) = true) && re_49 K) = true from r_48)
  clear r_48
  have i_daccept : PySem.W.isFn K (.ref (He.fAd K ("Device", some "accept"))) = true := of_decide_eq_true b_48
  clear b_48
  obtain ⟨b_49, r_50⟩ := He.ba (show (decide (PySem.W.findIn K (.ref (He.ga K "Device")) "move" = some (some (.ref (He.fAd K ("Device", some "move"))))) && re_50 K) = true from r_49)
  clear r_49
  have a_dmove : PySem.W.findIn K (.ref (He.ga K "Device")) "move" = some (some (.ref (He.fAd K ("Device", some "move")))) := of_decide_eq_true b_49
  clear b_49
  obtain ⟨b_50, r_51⟩ := He.ba (show (decide (PySem.W.isFn K (.ref (He.fAd K ("Device", some "move"))) = true) && re_51 K) = true from r_50)
  clear r_50
  have i_dmove : PySem.W.isFn K (.ref (He.fAd K ("Device", some "move"))) = true := of_decide_eq_true b_50
  clear b_50
  obtain ⟨b_51, r_52⟩ := He.ba (show (decide (PySem.W.findIn K (.ref (He.ga K "Device")) "trim" = some (some (.ref (He.fAd K ("Device", some "trim"))))) && re_52 K) = true from r_51)
  clear r_51
  have a_dtrim : PySem.W.findIn K (.ref (He.ga K "Device")) "trim" = some (some (.ref (He.fAd K ("Device", some "trim")))) := of_decide_eq_true b_51
  clear b_51
  obtain ⟨b_52, r_53⟩ := He.ba (show (decide (PySem.W.isFn K (.ref (He.fAd K ("Device", some "trim"))) = true) && re_53 K) = true from r_52)
  clear r_52
  have i_dtrim : PySem.W.isFn K (.ref (He.fAd K ("Device", some "trim"))) = true := of_decide_eq_true b_52
  clear b_52
  obtain ⟨b_53, r_54⟩ := He.ba (show (decide (PySem.W.findIn K (.ref (He.ga K "Device")) "extent" = some (some (.ref (He.fAd K ("Device", some "extent"))))) && re_54 K) = true from r_53)
  clear r_53
  have a_dextent : PySem.W.findIn K (.ref (He.ga K "Device")) "extent" = some (some (.ref (He.fAd K ("Device", some "extent")))) := of_decide_eq_true b_53
  clear b_53
  obtain ⟨b_54, r_55⟩ := He.ba (show (decide (PySem.W.isFn K (.ref (He.fAd K ("Device", some "extent"))) = true) && re_55 K) = true from r_54)
  clear r_54
  have i_dextent : PySem.W.isFn K (.ref (He.fAd K ("Device", some "extent"))) = true := of_decide_eq_true b_54
  clear b_54
  obtain ⟨b_55, r_56⟩ := He.ba (show (decide (PySem.W.findIn K (.ref (He.ga K "Device")) "allowed" = some (some (.ref (He.fAd K ("Device", some "allowed"))))) && re_56 K) = true from r_55)
  clear r_55
  have a_dallowed : PySem.W.findIn K (.ref (He.ga K "Device")) "allowed" = some (some (.ref (He.fAd K ("Device", some "allowed")))) := of_decide_eq_true b_55
  clear b_55
  obtain ⟨b_56, r_57⟩ := He.ba (show (decide (PySem.W.isFn K (.ref (He.fAd K ("Device", some "allowed"))) = true) && re_57 K) = true from r_56)
  clear r_56
  have i_dallowed : PySem.W.isFn K (.ref (He.fAd K ("Device", some "allowed"))) = true := of_decide_eq_true b_56
  clear b_56
  obtain ⟨b_57, r_58⟩ := He.ba (show (decide (PySem.W.findIn K (.ref (He.ga K "Device")) "take" = some (some (.ref (He.fAd K ("Device", some "take"))))) && re_58 K) = true from r_57)
  clear r_57
  have a_dtake : PySem.W.findIn K (.ref (He.ga K "Device")) "take" = some (some (.ref (He.fAd K ("Device", some "take")))) := of_decide_eq_true b_57
  clear b_57
  obtain ⟨b_58, r_59⟩ := He.ba (show (decide (PySem.W.isFn K (.ref (He.fAd K ("Device", some "take"))) = true) && re_59 K) = true from r_58)
  clear r_58
  have i_dtake : PySem.W.isFn K (.ref (He.fAd K ("Device", some "take"))) = true := of_decide_eq_true b_58
  clear b_58
  obtain ⟨b_59, r_60⟩ := He.ba (show (decide (PySem.W.findIn K (.ref (He.ga K "Device")) "put" = some (some (.ref (He.fAd K ("Device", some "put"))))) && re_60 K) = true from r_59)
  clear r_59
  have a_dput : PySem.W.findIn K (.ref (He.ga K "Device")) "put" = some (some (.ref (He.fAd K ("Device", some "put")))) := of_decide_eq_true b_59
  clear b_59
  obtain ⟨b_60, r_61⟩ := He.ba (show (decide (PySem.W.isFn K (.ref (He.fAd K ("Device", some "put"))) = true) && re_61 K) = true from r_60)
  clear r_60
  have i_dput : PySem.W.isFn K (.ref (He.fAd K ("Device", some "put"))) = true := of_decide_eq_true b_60
  clear b_60
  obtain ⟨b_61, r_62⟩ := He.ba (show (decide (PySem.W.findIn K (.ref (He.ga K "Device")) "go" = some (some (.ref (He.fAd K ("Device", some "go"))))) && re_62 K) = true from r_61)
  clear r_61
  have a_dgo : PySem.W.findIn K (.ref (He.ga K "Device")) "go" = some (some (.ref (He.fAd K ("Device", some "go")))) := of_decide_eq_true b_61
  clear b_61
  obtain ⟨b_62, r_63⟩ := He.ba (show (decide (PySem.W.isFn K (.ref (He.fAd K ("Device", some "go"))) = true) && re_63 K) = true from r_62)
  clear r_62
  have i_dgo : PySem.W.isFn K (.ref (He.fAd K ("Device", some "go"))) = true := of_decide_eq_true b_62
  clear b_62
  obtain ⟨b_63, r_64⟩ := He.ba (show (decide (PySem.W.findIn K (.ref (He.ga K "Device")) "cut" = some (some (.ref (He.fAd K ("Device", some "cut"))))) && re_64 K) = true from r_63)
  clear r_63
  have a_dcut : PySem.W.findIn K (.ref (He.ga K "Device")) "cut" = some (some (.ref (He.fAd K ("Device", some "cut")))) := of_decide_eq_true b_63
  clear b_63
  obtain ⟨b_64, r_65⟩ := He.ba (show (decide (PySem.W.isFn K (.ref (He.fAd K ("Device", some "cut"))) = true) && re_65 K) = true from r_64)
  clear r_64
  have i_dcut : PySem.W.isFn K (.ref (He.fAd K ("Device", some "cut"))) = true := of_decide_eq_true b_64
  clear b_64
  obtain ⟨b_65, r_66⟩ := He.ba (show (decide (PySem.W.findIn K (.ref (He.ga K "Device")) "note" = some (some (.ref (He.fAd K ("Device", some "note"))))) && re_66 K) = true from r_65)
  clear r_65
  have a_dnote : PySem.W.findIn K (.ref (He.ga K "Device")) "note" = some (some (.ref (He.fAd K ("Device", some "note")))) := of_decide_eq_true b_65
  clear b_65
  obtain ⟨b_66, r_67⟩ := He.ba (show (decide (PySem.W.isFn K (.ref (He.fAd K ("Device", some "note"))) = true) && re_67 K) = true from r_66)
  clear r_66
  have i_dnote : PySem.W.isFn K (.ref (He.fAd K ("Device", some "note"))) = true := of_decide_eq_true b_66
  clear b_66
  obtain ⟨b_67, r_68⟩ := He.ba (show (decide (PySem.W.findIn K (.ref (He.ga K "Device")) "check_open" = some (some (.ref (He.fAd K ("Device", some "check_open"))))) && re_68 K) = true from r_67)
  clear r_67
  have a_dopen : PySem.W.findIn K (.ref (He.ga K "Device")) "check_open" = some (some (.ref (He.fAd K ("Device", some "check_open")))) := of_decide_eq_true b_67
  clear b_67
  obtain ⟨b_68, r_69⟩ := He.ba (show (decide (PySem.W.isFn K (.ref (He.fAd K ("Device", some "check_open"))) = true) && re_69 K) = true from r_68)
  clear r_68
  have i_dopen : PySem.W.isFn K (.ref (He.fAd K ("Device", some "check_open"))) = true := of_decide_eq_true b_68
  clear b_68
  obtain ⟨b_69, r_70⟩ := He.ba (show (decide (PySem.W.findIn K (.ref (He.ga K "Device")) "check_seeks" = some (some (.ref (He.fAd K ("Device", some "check_seeks"))))) && re_70 K) = true from r_69)
  clear r_69
  have a_dseeks : PySem.W.findIn K (.ref (He.ga K "Device")) "check_seeks" = some (some (.ref (He.fAd K ("Device", some "check_seeks")))) := of_decide_eq_true b_69
  clear b_69
  obtain ⟨b_70, r_71⟩ := He.ba (show (decide (PySem.W.isFn K (.ref (He.fAd K ("Device", some "check_seeks"))) = true) && re_71 K) = true from r_70)
  clear r_70
  have i_dseeks : PySem.W.isFn K (.ref (He.fAd K ("Device", some "check_seeks"))) = true := of_decide_eq_true b_70
  clear b_70
  obtain ⟨b_71, r_72⟩ := He.ba (show (decide (PySem.W.findIn K (.ref (He.ga K "Device")) "may_take" = some (some (.ref (He.fAd K ("Device", some "may_take"))))) && re_72 K) = true from r_71)
  clear r_71
  have a_dmayt : PySem.W.findIn K (.ref (He.ga K "Device")) "may_take" = some (some (.ref (He.fAd K ("Device", some "may_take")))) := of_decide_eq_true b_71
  clear b_71
  obtain ⟨b_72, r_73⟩ := He.ba (show (decide (PySem.W.isFn K (.ref (He.fAd K ("Device", some "may_take"))) = true) && re_73 K) = true from r_72)
  clear r_72
  have i_dmayt : PySem.W.isFn K (.ref (He.fAd K ("Device", some "may_take"))) = true := of_decide_eq_true b_72
  clear b_72
  obtain ⟨b_73, r_74⟩ := He.ba (show (decide (PySem.W.findIn K (.ref (He.ga K "Device")) "may_put" = some (some (.ref (He.fAd K ("Device", some "may_put"))))) && re_74 K) = true from r_73)
  clear r_73
  have a_dmayp : PySem.W.findIn K (.ref (He.ga K "Device")) "may_put" = some (some (.ref (He.fAd K ("Device", some "may_put")))) := of_decide_eq_true b_73
  clear b_73
  obtain ⟨b_74, r_75⟩ := He.ba (show (decide (PySem.W.isFn K (.ref (He.fAd K ("Device", some "may_put"))) = true) && re_75 K) = true from r_74)
  clear r_74
  have i_dmayp : PySem.W.isFn K (.ref (He.fAd K ("Device", some "may_put"))) = true := of_decide_eq_true b_74
  clear b_74
  obtain ⟨b_75, r_76⟩ := He.ba (show (decide (PySem.W.findIn K (.ref (He.ga K "Device")) "may_cut" = some (some (.ref (He.fAd K ("Device", some "may_cut"))))) && re_76 K) = true from r_75)
  clear r_75
  have a_dmayc : PySem.W.findIn K (.ref (He.ga K "Device")) "may_cut" = some (some (.ref (He.fAd K ("Device", some "may_cut")))) := of_decide_eq_true b_75
  clear b_75
  obtain ⟨b_76, r_77⟩ := He.ba (show (decide (PySem.W.isFn K (.ref (He.fAd K ("Device", some "may_cut"))) = true) && re_77 K) = true from r_76)
  clear r_76
  have i_dmayc : PySem.W.isFn K (.ref (He.fAd K ("Device", some "may_cut"))) = true := of_decide_eq_true b_76
  clear b_76
  obtain ⟨b_77, r_78⟩ := He.ba (show (decide (PySem.W.findIn K (.ref (He.ga K "Device")) "log" = some (some (.ref (He.fAd K ("Device", some "log"))))) && re_78 K) = true from r_77)
  clear r_77
  have a_dlog : PySem.W.findIn K (.ref (He.ga K "Device")) "log" = some (some (.ref (He.fAd K ("Device", some "log")))) := of_decide_eq_true b_77
  clear b_77
  obtain ⟨b_78, r_79⟩ := He.ba (show (decide (PySem.W.isFn K (.ref (He.fAd K ("Device", some "log"))) = true) && re_79 K) = true from r_78)
  clear r_78
  have i_dlog : PySem.W.isFn K (.ref (He.fAd K ("Device", some "log"))) = true := of_decide_eq_true b_78
  clear b_78
  obtain ⟨b_79, r_80⟩ := He.ba (show (decide (PySem.W.findIn K (.ref (He.ga K "Device")) "log_behind" = some (some (.ref (He.fAd K ("Device", some "log_behind"))))) && re_80 K) = true from r_79)
  clear r_79
  have a_dlogb : PySem.W.findIn K (.ref (He.ga K "Device")) "log_behind" = some (some (.ref (He.fAd K ("Device", some "log_behind")))) := of_decide_eq_true b_79
  clear b_79
  obtain ⟨b_80, r_81⟩ := He.ba (show (decide (PySem.W.isFn K (.ref (He.fAd K ("Device", some "log_behind"))) = true) && re_81 K) = true from r_80)
  clear r_80
  have i_dlogb : PySem.W.isFn K (.ref (He.fAd K ("Device", some "log_behind"))) = true := of_decide_eq_true b_80
  clear b_80
  obtain ⟨b_81, r_82⟩ := He.ba (show (decide (PySem.W.findIn K (.ref (He.ga K "Device")) "seeks" = some (some (.ref (He.fAd K ("Device", some "seeks"))))) && re_82 K) = true from r_81)
  clear r_81
  have a_dsk : PySem.W.findIn K (.ref (He.ga K "Device")) "seeks" = some (some (.ref (He.fAd K ("Device", some "seeks")))) := of_decide_eq_true b_81
  clear b_81
  obtain ⟨b_82, r_83⟩ := He.ba (show (decide (PySem.W.isFn K (.ref (He.fAd K ("Device", some "seeks"))) = true) && re_83 K) = true from r_82)
  clear r_82
  have i_dsk : PySem.W.isFn K (.ref (He.fAd K ("Device", some "seeks"))) = true := of_decide_eq_true b_82
  clear b_82
  obtain ⟨b_83, r_84⟩ := He.ba (show (decide (PySem.W.findIn K (.ref (He.ga K "Device")) "place" = some (some (.ref (He.fAd K ("Device", some "place"))))) && re_84 K) = true from r_83)
  clear r_83
  have a_dplace : PySem.W.findIn K (.ref (He.ga K "Device")) "place" = some (some (.ref (He.fAd K ("Device", some "place")))) := of_decide_eq_true b_83
  clear b_83
  obtain ⟨b_84, r_85⟩ := He.ba (show (decide (PySem.W.isFn K (.ref (He.fAd K ("Device", some "place"))) = true) && re_85 K) = true from r_84)
  clear r_84
  have i_dplace : PySem.W.isFn K (.ref (He.fAd K ("Device", some "place"))) = true := of_decide_eq_true b_84
  clear b_84
  obtain ⟨b_85, r_86⟩ := He.ba (show (decide (PySem.W.findIn K (.ref (He.ga K "Device")) "__len__" = some (some (.ref (He.fAd K ("Device", some "__len__"))))) && re_86 K) = true from r_85)
  clear r_85
  have a_dlen : PySem.W.findIn K (.ref (He.ga K "Device")) "__len__" = some (some (.ref (He.fAd K ("Device", some "__len__")))) := of_decide_eq_true b_85
  clear b_85
  obtain ⟨b_86, r_87⟩ := He.ba (show (decide (PySem.W.isFn K (.ref (He.fAd K ("Device", some "__len__"))) = true) && re_87 K) = true from r_86)
  clear r_86
  have i_dlen : PySem.W.isFn K (.ref (He.fAd K ("Device", some "__len__"))) = true := of_decide_eq_true b_86
  clear b_86
  obtain ⟨b_87, r_88⟩ := He.ba (show (decide (PySem.W.findIn K (.ref (He.ga K "Device")) "__eq__" = some (some (.ref (He.fAd K ("Device", some "__eq__"))))) && re_88 K) = true from r_87)
  clear r_87
  have a_deq : PySem.W.findIn K (.ref (He.ga K "Device")) "__eq__" = some (some (.ref (He.fAd K ("Device", some "__eq__")))) := of_decide_eq_true b_87
  clear b_87
  obtain ⟨b_88, r_89⟩ := He.ba (show (decide (PySem.W.isFn K (.ref (He.fAd K ("Device", some "__eq__"))) = true) && re_89 K) = true from r_88)
  clear r_88
  have i_deq : PySem.W.isFn K (.ref (He.fAd K ("Device", some "__eq__"))) = true := of_decide_eq_true b_88
  clear b_88
  obtain ⟨b_89, r_90⟩ := He.ba (show (decide (PySem.W.nsIn K mainGlobals "_law_pool" = some (some (.ref (He.fAd K ("_law_pool", none))))) && re_90 K) = true from r_89)
  clear r_89
  have a_pool : PySem.W.nsIn K mainGlobals "_law_pool" = some (some (.ref (He.fAd K ("_law_pool", none)))) := of_decide_eq_true b_89
  clear b_89
  obtain ⟨b_90, r_91⟩ := He.ba (show (decide (PySem.W.nsIn K mainGlobals "_law_take" = some (some (.ref (He.fAd K ("_law_take", none))))) && re_91 K) = true from r_90)
  clear r_90
  have a_take : PySem.W.nsIn K mainGlobals "_law_take" = some (some (.ref (He.fAd K ("_law_take", none)))) := of_decide_eq_true b_90
  clear b_90
  obtain ⟨b_91, r_92⟩ := He.ba (show (decide (PySem.W.nsIn K mainGlobals "_law_row" = some (some (.ref (He.fAd K ("_law_row", none))))) && re_92 K) = true from r_91)
  clear r_91
  have a_lrow : PySem.W.nsIn K mainGlobals "_law_row" = some (some (.ref (He.fAd K ("_law_row", none)))) := of_decide_eq_true b_91
  clear b_91
  obtain ⟨b_92, r_93⟩ := He.ba (show (decide (PySem.W.nsIn K mainGlobals "_law_plan" = some (some (.ref (He.fAd K ("_law_plan", none))))) && re_93 K) = true from r_92)
  clear r_92
  have a_lplan : PySem.W.nsIn K mainGlobals "_law_plan" = some (some (.ref (He.fAd K ("_law_plan", none)))) := of_decide_eq_true b_92
  clear b_92
  obtain ⟨b_93, r_94⟩ := He.ba (show (decide (PySem.W.nsIn K mainGlobals "_law_laid" = some (some (.ref (He.fAd K ("_law_laid", none))))) && re_94 K) = true from r_93)
  clear r_93
  have a_llaid : PySem.W.nsIn K mainGlobals "_law_laid" = some (some (.ref (He.fAd K ("_law_laid", none)))) := of_decide_eq_true b_93
  clear b_93
  obtain ⟨b_94, r_95⟩ := He.ba (show (decide (PySem.W.nsIn K mainGlobals "_law_device" = some (some (.ref (He.fAd K ("_law_device", none))))) && re_95 K) = true from r_94)
  clear r_94
  have a_ldevice : PySem.W.nsIn K mainGlobals "_law_device" = some (some (.ref (He.fAd K ("_law_device", none)))) := of_decide_eq_true b_94
  clear b_94
  obtain ⟨b_95, r_96⟩ := He.ba (show (decide (PySem.W.nsIn K mainGlobals "_law_asked" = some (some (.ref (He.fAd K ("_law_asked", none))))) && re_96 K) = true from r_95)
  clear r_95
  have a_lasked : PySem.W.nsIn K mainGlobals "_law_asked" = some (some (.ref (He.fAd K ("_law_asked", none)))) := of_decide_eq_true b_95
  clear b_95
  obtain ⟨b_96, r_97⟩ := He.ba (show (decide (PySem.W.nsIn K mainGlobals "_law_told" = some (some (.ref (He.fAd K ("_law_told", none))))) && re_97 K) = true from r_96)
  clear r_96
  have a_ltold : PySem.W.nsIn K mainGlobals "_law_told" = some (some (.ref (He.fAd K ("_law_told", none)))) := of_decide_eq_true b_96
  clear b_96
  obtain ⟨b_97, r_98⟩ := He.ba (show (decide (PySem.W.nsIn K mainGlobals "_law_house" = some (some (.ref (He.fAd K ("_law_house", none))))) && re_98 K) = true from r_97)
  clear r_97
  have a_lhouse : PySem.W.nsIn K mainGlobals "_law_house" = some (some (.ref (He.fAd K ("_law_house", none)))) := of_decide_eq_true b_97
  clear b_97
  obtain ⟨b_98, r_99⟩ := He.ba (show (decide (PySem.W.nsIn K mainGlobals "_law_walked" = some (some (.ref (He.fAd K ("_law_walked", none))))) && re_99 K) = true from r_98)
  clear r_98
  have a_lwalked : PySem.W.nsIn K mainGlobals "_law_walked" = some (some (.ref (He.fAd K ("_law_walked", none)))) := of_decide_eq_true b_98
  clear b_98
  obtain ⟨b_99, r_100⟩ := He.ba (show (decide (PySem.W.nsIn K mainGlobals "_law_again" = some (some (.ref (He.fAd K ("_law_again", none))))) && re_100 K) = true from r_99)
  clear r_99
  have a_lagain : PySem.W.nsIn K mainGlobals "_law_again" = some (some (.ref (He.fAd K ("_law_again", none)))) := of_decide_eq_true b_99
  clear b_99
  obtain ⟨b_100, r_101⟩ := He.ba (show (decide (PySem.W.nsIn K mainGlobals "law" = some (some (.ref (He.fAd K ("law", none))))) && re_101 K) = true from r_100)
  clear r_100
  have a_law : PySem.W.nsIn K mainGlobals "law" = some (some (.ref (He.fAd K ("law", none)))) := of_decide_eq_true b_100
  clear b_100
  obtain ⟨b_101, r_102⟩ := He.ba (show (decide (PySem.W.nsIn K mainGlobals "_law_deed" = some (some (.ref (He.fAd K ("_law_deed", none))))) && re_102 K) = true from r_101)
  clear r_101
  have a_ldeed : PySem.W.nsIn K mainGlobals "_law_deed" = some (some (.ref (He.fAd K ("_law_deed", none)))) := of_decide_eq_true b_101
  clear b_101
  obtain ⟨b_102, r_103⟩ := He.ba (show (decide (PySem.W.plainGet K (He.ga K "Device") Str.empty = true) && re_103 K) = true from r_102)
  clear r_102
  have pg_Device : PySem.W.plainGet K (He.ga K "Device") Str.empty = true := of_decide_eq_true b_102
  clear b_102
  obtain ⟨b_103, r_104⟩ := He.ba (show (decide (PySem.W.hasDictIn K (He.ga K "Device") = true) && re_104 K) = true from r_103)
  clear r_103
  have hd_Device : PySem.W.hasDictIn K (He.ga K "Device") = true := of_decide_eq_true b_103
  clear b_103
  obtain ⟨b_104, r_105⟩ := He.ba (show (decide (PySem.W.plainOver K (He.ga K "Device") = true) && re_105 K) = true from r_104)
  clear r_104
  have po_Device : PySem.W.plainOver K (He.ga K "Device") = true := of_decide_eq_true b_104
  clear b_104
  obtain ⟨b_105, r_106⟩ := He.ba (show (decide (PySem.W.findIn K (.ref (He.ga K "Device")) "__setattr__" = some (some (.builtin "object.__setattr__"))) && re_106 K) = true from r_105)
  clear r_105
  have sa_Device : PySem.W.findIn K (.ref (He.ga K "Device")) "__setattr__" = some (some (.builtin "object.__setattr__")) := of_decide_eq_true b_105
  clear b_105
  obtain ⟨b_106, r_107⟩ := He.ba (show (decide (PySem.W.makesIn K (He.ga K "Device") = true) && re_107 K) = true from r_106)
  clear r_106
  have mk_Device : PySem.W.makesIn K (He.ga K "Device") = true := of_decide_eq_true b_106
  clear b_106
  obtain ⟨b_107, r_108⟩ := He.ba (show (decide (PySem.W.keepIn K (.ref (He.ga K "Device")) = true) && re_108 K) = true from r_107)
  clear r_107
  have kc_Device : PySem.W.keepIn K (.ref (He.ga K "Device")) = true := of_decide_eq_true b_107
  clear b_107
  obtain ⟨b_108, r_109⟩ := He.ba (show (decide (PySem.W.findIn K (.ref (He.ga K "Device")) "can_seek" = some none) && re_109 K) = true from r_108)
  clear r_108
  have n_Device_can_seek : PySem.W.findIn K (.ref (He.ga K "Device")) "can_seek" = some none := of_decide_eq_true b_108
  clear b_108
  obtain ⟨b_109, r_110⟩ := He.ba (show (decide (PySem.W.findIn K (.ref (He.ga K "Device")) "spot" = some none) && re_110 K) = true from r_109)
  clear r_109
  have n_Device_spot : PySem.W.findIn K (.ref (He.ga K "Device")) "spot" = some none := of_decide_eq_true b_109
  clear b_109
  obtain ⟨b_110, r_111⟩ := He.ba (show (decide (PySem.W.findIn K (.ref (He.ga K "Device")) "barred" = some none) && re_111 K) = true from r_110)
  clear r_110
  have n_Device_barred : PySem.W.findIn K (.ref (He.ga K "Device")) "barred" = some none := of_decide_eq_true b_110
  clear b_110
  obtain ⟨b_111, r_112⟩ := He.ba (show (decide (PySem.W.findIn K (.ref (He.ga K "Device")) "notes" = some none) && re_112 K) = true from r_111)
  clear r_111
  have n_Device_notes : PySem.W.findIn K (.ref (He.ga K "Device")) "notes" = some none := of_decide_eq_true b_111
  clear b_111
  obtain ⟨b_112, r_113⟩ := He.ba (show (decide (PySem.W.findIn K (.ref (He.ga K "Device")) "cells" = some none) && re_113 K) = true from r_112)
  clear r_112
  have n_Device_cells : PySem.W.findIn K (.ref (He.ga K "Device")) "cells" = some none := of_decide_eq_true b_112
  clear b_112
  obtain ⟨b_113, r_114⟩ := He.ba (show (decide (PySem.W.findIn K (.ref (He.ga K "Device")) "plan" = some none) && re_114 K) = true from r_113)
  clear r_113
  have n_Device_plan : PySem.W.findIn K (.ref (He.ga K "Device")) "plan" = some none := of_decide_eq_true b_113
  clear b_113
  obtain ⟨b_114, r_115⟩ := He.ba (show (decide (PySem.W.findIn K (.ref (He.ga K "Device")) "used" = some none) && re_115 K) = true from r_114)
  clear r_114
  have n_Device_used : PySem.W.findIn K (.ref (He.ga K "Device")) "used" = some none := of_decide_eq_true b_114
  clear b_114
  obtain ⟨b_115, r_116⟩ := He.ba (show (decide (PySem.W.findIn K (.ref (He.ga K "Device")) "__ne__" = some (some (.builtin "object.__ne__"))) && re_116 K) = true from r_115)
  clear r_115
  have v1_Device : PySem.W.findIn K (.ref (He.ga K "Device")) "__ne__" = some (some (.builtin "object.__ne__")) := of_decide_eq_true b_115
  clear b_115
  obtain ⟨b_116, r_117⟩ := He.ba (show (decide (PySem.W.findIn K (.ref (He.ga K "Device")) "__class__" = some (some (.builtin "object.__class__"))) && re_117 K) = true from r_116)
  clear r_116
  have v2_Device : PySem.W.findIn K (.ref (He.ga K "Device")) "__class__" = some (some (.builtin "object.__class__")) := of_decide_eq_true b_116
  clear b_116
  obtain ⟨b_117, r_118⟩ := He.ba (show (decide (PySem.W.specialIn K (.builtin "object.__class__") "__get__" = some (some (.builtin "getset_descriptor.__get__"))) && re_118 K) = true from r_117)
  clear r_117
  have v3_Device : PySem.W.specialIn K (.builtin "object.__class__") "__get__" = some (some (.builtin "getset_descriptor.__get__")) := of_decide_eq_true b_117
  clear b_117
  obtain ⟨b_118, r_119⟩ := He.ba (show (decide (PySem.W.takesIn K (.builtin "object.__class__") = some true) && re_119 K) = true from r_118)
  clear r_118
  have v4_Device : PySem.W.takesIn K (.builtin "object.__class__") = some true := of_decide_eq_true b_118
  clear b_118
  obtain ⟨b_119, r_120⟩ := He.ba (show (decide (PySem.W.mroIn K (He.ga K "Device") (.type "object") = some true) && re_120 K) = true from r_119)
  clear r_119
  have v5_Device : PySem.W.mroIn K (He.ga K "Device") (.type "object") = some true := of_decide_eq_true b_119
  clear b_119
  obtain ⟨b_120, r_121⟩ := He.ba (show (Sip.conB K "LONGEST" (.int 4000) && re_121 K) = true from r_120)
  clear r_120
  have cq_LONGEST : ∃ u, PySem.W.nsIn K mainGlobals "LONGEST" = some (some u) ∧ RelV (.int 4000) u := Sip.conB_ok b_120
  clear b_120
  obtain ⟨b_121, r_122⟩ := He.ba (show (decide (PySem.W.nsIn K mainGlobals "list" = some none) && re_122 K) = true from r_121)
  clear r_121
  have z_list : PySem.W.nsIn K mainGlobals "list" = some none := of_decide_eq_true b_121
  clear b_121
  obtain ⟨b_122, r_123⟩ := He.ba (show (decide (PySem.W.nsIn K mainGlobals "len" = some none) && re_123 K) = true from r_122)
  clear r_122
  have z_len : PySem.W.nsIn K mainGlobals "len" = some none := of_decide_eq_true b_122
  clear b_122
  obtain ⟨b_123, r_124⟩ := He.ba (show (decide (PySem.W.nsIn K mainGlobals "range" = some none) && re_124 K) = true from r_123)
  clear r_123
  have z_range : PySem.W.nsIn K mainGlobals "range" = some none := of_decide_eq_true b_123
  clear b_123
  obtain ⟨b_124, r_125⟩ := He.ba (show (decide (PySem.W.nsIn K mainGlobals "max" = some none) && re_125 K) = true from r_124)
  clear r_124
  have z_max : PySem.W.nsIn K mainGlobals "max" = some none := of_decide_eq_true b_124
  clear b_124
  obtain ⟨b_125, r_126⟩ := He.ba (show (decide (PySem.W.nsIn K mainGlobals "min" = some none) && re_126 K) = true from r_125)
  clear r_125
  have z_min : PySem.W.nsIn K mainGlobals "min" = some none := of_decide_eq_true b_125
  clear b_125
  obtain ⟨b_126, r_127⟩ := He.ba (show (decide (PySem.W.nsIn K mainGlobals "isinstance" = some none) && re_127 K) = true from r_126)
  clear r_126
  have z_isinstance : PySem.W.nsIn K mainGlobals "isinstance" = some none := of_decide_eq_true b_126
  clear b_126
  obtain ⟨b_127, r_128⟩ := He.ba (show (decide (PySem.W.nsIn K mainGlobals "int" = some none) && re_128 K) = true from r_127)
  clear r_127
  have z_int : PySem.W.nsIn K mainGlobals "int" = some none := of_decide_eq_true b_127
  clear b_127
  obtain ⟨b_128, r_129⟩ := He.ba (show (decide (PySem.W.nsIn K mainGlobals "bool" = some none) && re_129 K) = true from r_128)
  clear r_128
  have z_bool : PySem.W.nsIn K mainGlobals "bool" = some none := of_decide_eq_true b_128
  clear b_128
  have FX_iFault : ∃ fd, FunD K "__init__" "Fault.__init__" (defArgs s_iFault) (defBody s_iFault) (defScope s_iFault) ([] : List V) ([("taken", .int 0)] : List (Str × V)) (He.fAd K ("Fault", some "__init__")) fd := c.def_ 0 (d := dd_iFault)
  have FX_clen : ∃ fd, FunD K "check_length" "check_length" (defArgs s_clen) (defBody s_clen) (defScope s_clen) ([] : List V) ([] : List (Str × V)) (He.fAd K ("check_length", none)) fd := c.def_ 1 (d := dd_clen)
  have FX_ocopy : ∃ fd, FunD K "own_copy" "own_copy" (defArgs s_ocopy) (defBody s_ocopy) (defScope s_ocopy) ([] : List V) ([] : List (Str × V)) (He.fAd K ("own_copy", none)) fd := c.def_ 2 (d := dd_ocopy)
  have FX_laid : ∃ fd, FunD K "laid" "laid" (defArgs s_laid) (defBody s_laid) (defScope s_laid) ([] : List V) ([] : List (Str × V)) (He.fAd K ("laid", none)) fd := c.def_ 3 (d := dd_laid)
  have FX_rinit : ∃ fd, FunD K "__init__" "Raw.__init__" (defArgs s_rinit) (defBody s_rinit) (defScope s_rinit) ([] : List V) ([] : List (Str × V)) (He.fAd K ("Raw", some "__init__")) fd := c.def_ 4 (d := dd_rinit)
  have FX_dinit : ∃ fd, FunD K "__init__" "Device.__init__" (defArgs s_dinit) (defBody s_dinit) (defScope s_dinit) ([] : List V) ([("seeks", .bl true)] : List (Str × V)) (He.fAd K ("Device", some "__init__")) fd := c.def_ 5 (d := dd_dinit)
  have FX_dgrow : ∃ fd, FunD K "grow" "Device.grow" (defArgs s_dgrow) (defBody s_dgrow) (defScope s_dgrow) ([] : List V) ([] : List (Str × V)) (He.fAd K ("Device", some "grow")) fd := c.def_ 6 (d := dd_dgrow)
  have FX_dcontent : ∃ fd, FunD K "content" "Device.content" (defArgs s_dcontent) (defBody s_dcontent) (defScope s_dcontent) ([] : List V) ([] : List (Str × V)) (He.fAd K ("Device", some "content")) fd := c.def_ 7 (d := dd_dcontent)
  have FX_dleft : ∃ fd, FunD K "left" "Device.left" (defArgs s_dleft) (defBody s_dleft) (defScope s_dleft) ([] : List V) ([] : List (Str × V)) (He.fAd K ("Device", some "left")) fd := c.def_ 8 (d := dd_dleft)
  have FX_dgive : ∃ fd, FunD K "give" "Device.give" (defArgs s_dgive) (defBody s_dgive) (defScope s_dgive) ([] : List V) ([] : List (Str × V)) (He.fAd K ("Device", some "give")) fd := c.def_ 9 (d := dd_dgive)
  have FX_daccept : ∃ fd, FunD K "accept" "Device.accept" (defArgs s_daccept) (defBody s_daccept) (defScope s_daccept) ([] : List V) ([] : List (Str × V)) (He.fAd K ("Device", some "accept")) fd := c.def_ 10 (d := dd_daccept)
  have FX_dmove : ∃ fd, FunD K "move" "Device.move" (defArgs s_dmove) (defBody s_dmove) (defScope s_dmove) ([] : List V) ([] : List (Str × V)) (He.fAd K ("Device", some "move")) fd := c.def_ 11 (d := dd_dmove)
  have FX_dtrim : ∃ fd, FunD K "trim" "Device.trim" (defArgs s_dtrim) (defBody s_dtrim) (defScope s_dtrim) ([] : List V) ([] : List (Str × V)) (He.fAd K ("Device", some "trim")) fd := c.def_ 12 (d := dd_dtrim)
  have FX_dextent : ∃ fd, FunD K "extent" "Device.extent" (defArgs s_dextent) (defBody s_dextent) (defScope s_dextent) ([] : List V) ([] : List (Str × V)) (He.fAd K ("Device", some "extent")) fd := c.def_ 13 (d := dd_dextent)
  have FX_dallowed : ∃ fd, FunD K "allowed" "Device.allowed" (defArgs s_dallowed) (defBody s_dallowed) (defScope s_dallowed) ([] : List V) ([] : List (Str × V)) (He.fAd K ("Device", some "allowed")) fd := c.def_ 14 (d := dd_dallowed)
  have FX_dtake : ∃ fd, FunD K "take" "Raw.take" (defArgs s_dtake) (defBody s_dtake) (defScope s_dtake) ([] : List V) ([] : List (Str × V)) (He.fAd K ("Device", some "take")) fd := c.def_ 15 (d := dd_dtake)
  have FX_dput : ∃ fd, FunD K "put" "Raw.put" (defArgs s_dput) (defBody s_dput) (defScope s_dput) ([] : List V) ([] : List (Str × V)) (He.fAd K ("Device", some "put")) fd := c.def_ 16 (d := dd_dput)
  have FX_dgo : ∃ fd, FunD K "go" "Raw.go" (defArgs s_dgo) (defBody s_dgo) (defScope s_dgo) ([] : List V) ([] : List (Str × V)) (He.fAd K ("Device", some "go")) fd := c.def_ 17 (d := dd_dgo)
  have FX_dcut : ∃ fd, FunD K "cut" "Raw.cut" (defArgs s_dcut) (defBody s_dcut) (defScope s_dcut) ([] : List V) ([] : List (Str × V)) (He.fAd K ("Device", some "cut")) fd := c.def_ 18 (d := dd_dcut)
  have FX_dnote : ∃ fd, FunD K "note" "Raw.note" (defArgs s_dnote) (defBody s_dnote) (defScope s_dnote) ([] : List V) ([] : List (Str × V)) (He.fAd K ("Device", some "note")) fd := c.def_ 19 (d := dd_dnote)
  have FX_dopen : ∃ fd, FunD K "check_open" "Raw.check_open" (defArgs s_dopen) (defBody s_dopen) (defScope s_dopen) ([] : List V) ([] : List (Str × V)) (He.fAd K ("Device", some "check_open")) fd := c.def_ 20 (d := dd_dopen)
  have FX_dseeks : ∃ fd, FunD K "check_seeks" "Raw.check_seeks" (defArgs s_dseeks) (defBody s_dseeks) (defScope s_dseeks) ([] : List V) ([] : List (Str × V)) (He.fAd K ("Device", some "check_seeks")) fd := c.def_ 21 (d := dd_dseeks)
  have FX_dmayt : ∃ fd, FunD K "may_take" "Raw.may_take" (defArgs s_dmayt) (defBody s_dmayt) (defScope s_dmayt) ([] : List V) ([] : List (Str × V)) (He.fAd K ("Device", some "may_take")) fd := c.def_ 22 (d := dd_dmayt)
  have FX_dmayp : ∃ fd, FunD K "may_put" "Raw.may_put" (defArgs s_dmayp) (defBody s_dmayp) (defScope s_dmayp) ([] : List V) ([] : List (Str × V)) (He.fAd K ("Device", some "may_put")) fd := c.def_ 23 (d := dd_dmayp)
  have FX_dmayc : ∃ fd, FunD K "may_cut" "Raw.may_cut" (defArgs s_dmayc) (defBody s_dmayc) (defScope s_dmayc) ([] : List V) ([] : List (Str × V)) (He.fAd K ("Device", some "may_cut")) fd := c.def_ 24 (d := dd_dmayc)
  have FX_dlog : ∃ fd, FunD K "log" "Raw.log" (defArgs s_dlog) (defBody s_dlog) (defScope s_dlog) ([] : List V) ([] : List (Str × V)) (He.fAd K ("Device", some "log")) fd := c.def_ 25 (d := dd_dlog)
  have FX_dlogb : ∃ fd, FunD K "log_behind" "Raw.log_behind" (defArgs s_dlogb) (defBody s_dlogb) (defScope s_dlogb) ([] : List V) ([] : List (Str × V)) (He.fAd K ("Device", some "log_behind")) fd := c.def_ 26 (d := dd_dlogb)
  have FX_dsk : ∃ fd, FunD K "seeks" "Raw.seeks" (defArgs s_dsk) (defBody s_dsk) (defScope s_dsk) ([] : List V) ([] : List (Str × V)) (He.fAd K ("Device", some "seeks")) fd := c.def_ 27 (d := dd_dsk)
  have FX_dplace : ∃ fd, FunD K "place" "Raw.place" (defArgs s_dplace) (defBody s_dplace) (defScope s_dplace) ([] : List V) ([] : List (Str × V)) (He.fAd K ("Device", some "place")) fd := c.def_ 28 (d := dd_dplace)
  have FX_dlen : ∃ fd, FunD K "__len__" "Device.__len__" (defArgs s_dlen) (defBody s_dlen) (defScope s_dlen) ([] : List V) ([] : List (Str × V)) (He.fAd K ("Device", some "__len__")) fd := c.def_ 29 (d := dd_dlen)
  have FX_deq : ∃ fd, FunD K "__eq__" "Device.__eq__" (defArgs s_deq) (defBody s_deq) (defScope s_deq) ([] : List V) ([] : List (Str × V)) (He.fAd K ("Device", some "__eq__")) fd := c.def_ 30 (d := dd_deq)
  have FX_pool : ∃ fd, FunD K "_law_pool" "_law_pool" (defArgs s_pool) (defBody s_pool) (defScope s_pool) ([] : List V) ([] : List (Str × V)) (He.fAd K ("_law_pool", none)) fd := c.def_ 31 (d := dd_pool)
  have FX_take : ∃ fd, FunD K "_law_take" "_law_take" (defArgs s_take) (defBody s_take) (defScope s_take) ([] : List V) ([] : List (Str × V)) (He.fAd K ("_law_take", none)) fd := c.def_ 32 (d := dd_take)
  have FX_lrow : ∃ fd, FunD K "_law_row" "_law_row" (defArgs s_lrow) (defBody s_lrow) (defScope s_lrow) ([] : List V) ([] : List (Str × V)) (He.fAd K ("_law_row", none)) fd := c.def_ 33 (d := dd_lrow)
  have FX_lplan : ∃ fd, FunD K "_law_plan" "_law_plan" (defArgs s_lplan) (defBody s_lplan) (defScope s_lplan) ([] : List V) ([] : List (Str × V)) (He.fAd K ("_law_plan", none)) fd := c.def_ 34 (d := dd_lplan)
  have FX_llaid : ∃ fd, FunD K "_law_laid" "_law_laid" (defArgs s_llaid) (defBody s_llaid) (defScope s_llaid) ([] : List V) ([] : List (Str × V)) (He.fAd K ("_law_laid", none)) fd := c.def_ 35 (d := dd_llaid)
  have FX_ldevice : ∃ fd, FunD K "_law_device" "_law_device" (defArgs s_ldevice) (defBody s_ldevice) (defScope s_ldevice) ([] : List V) ([] : List (Str × V)) (He.fAd K ("_law_device", none)) fd := c.def_ 36 (d := dd_ldevice)
  have FX_lasked : ∃ fd, FunD K "_law_asked" "_law_asked" (defArgs s_lasked) (defBody s_lasked) (defScope s_lasked) ([] : List V) ([] : List (Str × V)) (He.fAd K ("_law_asked", none)) fd := c.def_ 37 (d := dd_lasked)
  have FX_ltold : ∃ fd, FunD K "_law_told" "_law_told" (defArgs s_ltold) (defBody s_ltold) (defScope s_ltold) ([] : List V) ([] : List (Str × V)) (He.fAd K ("_law_told", none)) fd := c.def_ 38 (d := dd_ltold)
  have FX_lhouse : ∃ fd, FunD K "_law_house" "_law_house" (defArgs s_lhouse) (defBody s_lhouse) (defScope s_lhouse) ([] : List V) ([] : List (Str × V)) (He.fAd K ("_law_house", none)) fd := c.def_ 39 (d := dd_lhouse)
  have FX_lwalked : ∃ fd, FunD K "_law_walked" "_law_walked" (defArgs s_lwalked) (defBody s_lwalked) (defScope s_lwalked) ([] : List V) ([] : List (Str × V)) (He.fAd K ("_law_walked", none)) fd := c.def_ 40 (d := dd_lwalked)
  have FX_lagain : ∃ fd, FunD K "_law_again" "_law_again" (defArgs s_lagain) (defBody s_lagain) (defScope s_lagain) ([] : List V) ([] : List (Str × V)) (He.fAd K ("_law_again", none)) fd := c.def_ 41 (d := dd_lagain)
  have FX_law : ∃ fd, FunD K "law" "law" (defArgs s_law) (defBody s_law) (defScope s_law) ([] : List V) ([] : List (Str × V)) (He.fAd K ("law", none)) fd := c.def_ 42 (d := dd_law)
  have FX_ldeed : ∃ fd, FunD K "_law_deed" "_law_deed" (defArgs s_ldeed) (defBody s_ldeed) (defScope s_ldeed) ([] : List V) ([] : List (Str × V)) (He.fAd K ("_law_deed", none)) fd := c.def_ 43 (d := dd_ldeed)
  exact all_mk X G hfa qa_Device qa_Raw rd_Raw ga_Raw qa_SipError qa_Fault sb_SipError sh_SipError st_SipError hb_Fault hh_Fault hy_Fault hs_Fault_Fault xo_Fault sa_Fault ex_Fault ty_Fault kx_Fault hg_Fault hk_Fault hd_Fault ha_Fault hn_Fault ht_Fault hm_Fault no_Fault ss_Fault se_Fault no2_Fault a_iFault i_iFault FX_iFault a_clen FX_clen a_ocopy FX_ocopy a_laid FX_laid a_rinit i_rinit cv_rinit FX_rinit a_dinit i_dinit FX_dinit a_dgrow i_dgrow FX_dgrow a_dcontent i_dcontent FX_dcontent a_dleft i_dleft FX_dleft a_dgive i_dgive FX_dgive a_daccept i_daccept FX_daccept a_dmove i_dmove FX_dmove a_dtrim i_dtrim FX_dtrim a_dextent i_dextent FX_dextent a_dallowed i_dallowed FX_dallowed a_dtake i_dtake FX_dtake a_dput i_dput FX_dput a_dgo i_dgo FX_dgo a_dcut i_dcut FX_dcut a_dnote i_dnote FX_dnote a_dopen i_dopen FX_dopen a_dseeks i_dseeks FX_dseeks a_dmayt i_dmayt FX_dmayt a_dmayp i_dmayp FX_dmayp a_dmayc i_dmayc FX_dmayc a_dlog i_dlog FX_dlog a_dlogb i_dlogb FX_dlogb a_dsk i_dsk FX_dsk a_dplace i_dplace FX_dplace a_dlen i_dlen FX_dlen a_deq i_deq FX_deq a_pool FX_pool a_take FX_take a_lrow FX_lrow a_lplan FX_lplan a_llaid FX_llaid a_ldevice FX_ldevice a_lasked FX_lasked a_ltold FX_ltold a_lhouse FX_lhouse a_lwalked FX_lwalked a_lagain FX_lagain a_law FX_law a_ldeed FX_ldeed pg_Device hd_Device po_Device sa_Device mk_Device kc_Device n_Device_can_seek n_Device_spot n_Device_barred n_Device_notes n_Device_cells n_Device_plan n_Device_used v1_Device v2_Device v3_Device v4_Device v5_Device cq_LONGEST z_list z_len z_range z_max z_min z_isinstance z_int z_bool
end Sip
open PySem PySem.W PySem.Calls PyProof.Rows
set_option maxHeartbeats 0 in
theorem PySem.Challenge.cw_sipstack_k11_whole_device_log_walks_holds : PySem.Challenge.rw_sipstack_k11_whole_device_log_walks.Holds := by
  w_on; o_law
  refine HandSHeadRun.head_any (r := OpenLaw.row PySem.Challenge.rw_sipstack_k11_whole_device_log_walks) (q := view (OpenLaw.row PySem.Challenge.rw_sipstack_k11_whole_device_log_walks).prog [31]) (H := Sip.hdK) (ob := Sip.hdO) (M := 60000) (loose := Sip.hdN) (d := HandSHeadRun.topDef (OpenLaw.row PySem.Challenge.rw_sipstack_k11_whole_device_log_walks).prog 31) (kwd := []) Sip.hdO_eq
    (by kernel_rfl) (fun s => by kernel_rfl) Sip.hdRun (by kernel_rfl) (by kernel_rfl) (by kernel_rfl) (by rfl) (by first | assumption | decide +kernel) (by decide +kernel) ⟨rfl, rfl, rfl, rfl, rfl, by decide +kernel⟩ ?hw ?hc
  case hw => w_witness2
  case hc =>
    refine L2.walk_ofE (l := PySem.Challenge.rw_sipstack_k11_whole_device_log_walks) (n := 63) (k := 10) (x := "_law_script") (CX := L2.CX0) rfl (by decide) (by kernel_rfl) ⟨rfl, by decide, by decide⟩ ?F (fun _ _ _ _ z => z)
    intro w mg fa h Y G hmg0
    obtain ⟨K, KX, c⟩ := Y
    have hmg : mg ("law" : PySem.Str) = some (.ref fa) := by
      have e : (HandSHeadRun.topDef (OpenLaw.row PySem.Challenge.rw_sipstack_k11_whole_device_log_walks).prog 31).name = ("law" : PySem.Str) := by kernel_rfl
      rw [← e]
      exact hmg0
    obtain ⟨fd, hb, hF⟩ := Sip.all_of (l := PySem.Challenge.rw_sipstack_k11_whole_device_log_walks) (w := w) KX G hmg c
    exact ⟨K, fd, Sip.spLaw K, KX, hb, fun H a ns hl _ hS => ⟨a, ns, rfl, hS, hl, fun _ => rfl⟩, hF⟩
