import PyProof.Rows.All
import Wide.All
import OpenK.AllK
import Wide.FinOn
import HandS.Small
import HandS.List
import HandS.Codes
import HandS.Comp
import HandS.Iter
import HandS.Ends
import HandS.Text
import HandS.Words
import HandS.WordsList
import HandS.Wide
import HandS.IsInst
import HandS.FStr
import PyProof.FString3
import PyProof.Rows.StrIntSpec
import HandS.Walk
import HandS.Exc
import HandS.ExcOwn
import HandS.ExcIs
import HandS.WordsExc
import HandS.StrMore
import HandS.Defaults
import HandS.MakeKwOnly
import HandS.Flow
import HandS.ExcInit
import KE.KExcIs
import HandS.Head0
import HandS.Head1
import HandS.Head2
import HandS.HeadEnd
import HandS.HeadHook1
import HandS.HeadHook2
import OpenK.KCell
import HandS.Star
import HandS.Conv
import HandS.Deep
import HandS.TryMany
import HandS.ClsMeth
import HandS.HotCalls
import HandS.SuiteRaise
import KE.KExcRaise
import HandS.CallSlots
import HandS.ExcInitHot
import KE.KSuper
import HandS.More
import HandS.NestedK
import PySem.Challenge.RW_sipstack_k13_pipe_room_and_ends
set_option Elab.async false
set_option linter.all false
set_option maxRecDepth 100000
namespace Sip
open PySem PySem.Spec PyProof.Rows L2

/-! a slice of step one in a list, laid over by another list; its end may lie behind the list's end -/
theorem clamp {a c n : Nat} (h1 : a ≤ c) (h2 : a ≤ n) :
    sliceBounds (some (a : Int)) (some (c : Int)) none n = ((a : Int), ((min c n : Nat) : Int), 1) := by
  have n1 : ¬ ((a : Int) < 0) := by omega
  have n2 : ¬ ((c : Int) < 0) := by omega
  simp only [sliceBounds, Option.getD_none, n1, n2, if_false, show (1 : Int) > 0 from by decide, if_true]
  refine Prod.ext ?_ (Prod.ext ?_ rfl)
  · show max 0 (min (a : Int) (n : Int)) = (a : Int)
    omega
  · show max 0 (min (c : Int) (n : Int)) = ((min c n : Nat) : Int)
    omega

section
variable {pr : Program} {wd : World} {ar : Around} {er : Value → Shared → Prop} {s : Shared}
set_option maxHeartbeats 4000000 in
theorem put_slice {l b z : Addr} {old new : Array Value} {m m2 a c : Nat} {vl vu : Value} {Q : Unit → Shared → Prop}
    (eo : s.heap.get? l = some { cls := .type "list", data := .seq old m })
    (en : s.heap.get? b = some { cls := .type "list", data := .seq new m2 }) (ne : l ≠ b)
    (hz : s.heap.IsSliceOf z vl vu .none) (pl : IsPart vl (some (a : Int))) (pu : IsPart vu (some (c : Int)))
    (ac : a ≤ c) (an : a ≤ old.size) (fit : old.size + new.size ≤ sizeLine)
    (k : Q () { s with heap := s.heap.update l (Obj.mapSeq fun t => t.extract 0 a ++ new ++ t.extract (min c old.size) t.size) }) :
    wpAny (model pr wd) ar (setItem (.ref l) (.ref z) (.ref b)) Q er s := by
  by_cases hc : c ≤ old.size
  · rw [Nat.min_eq_left hc] at k
    exact setItem_slice eo en ne hz pl pu ac hc fit k
  · have lo : s.heap.IsList l old := PySem.IsL.isList eo
    have ln : s.heap.IsList b new := PySem.IsL.isList en
    obtain ⟨oz, gz, cz, dz⟩ := id hz
    have tz : s.TypeIs (.ref z) "slice" := ⟨oz, gz, cz⟩
    have apart : Builtin.List.listSameRef (.ref l) (.ref b) = false := by
      unfold Builtin.List.listSameRef; exact beq_eq_false_iff_ne.mpr ne
    have zz : ((fun t : Array Value => t.extract 0 a ++ new ++ t.extract (min c old.size) t.size) old).size ≤ sizeLine + 1 := by
      simp only [Array.size_append, Array.size_extract]; omega
    have bd := clamp ac an
    have mx : (max (a : Int) ((min c old.size : Nat) : Int)).toNat = min c old.size := by omega
    unfold setItem
    try (with_reducible refine wpAny_holding ?_)
    try refine wpAny_bind (wpAny_pure ?_)
    refine wpAny_bind (wpAny_sequenceKey lo.typeIs (by decide) (wpAny_bind ?_))
    refine wpAny_callSpecial?_slot (name := Str.ofString "__setitem__") lo.typeIs slot_list_setitem ?_
    refine wpAny_call_entry slot_list_setitem lo.typeIs entry_list_setitem ?_ (args_list_setitem _ _ _)
    show wpAny _ _ (Builtin.List.listSubscript? (.ref z) >>= _) _ _ s
    refine wpAny_bind ?_
    unfold Builtin.List.listSubscript?
    refine wpAny_bind (wpAny_specialOf tz slice_no_index ?_)
    simp only [Option.isNone_none, if_true]
    refine wpAny_pure ?_
    show wpAny _ _ (typeOf (.ref z) >>= _) _ _ s
    refine wpAny_bind (wpAny_typeOf tz ?_)
    first
      | rw [if_neg (by decide)]
      | refine PySem.W.KFB.if_not (by decide) ?_
    rw [listSliceParts_eq]
    refine wpAny_bind (wpAny_bind (wpAny_field gz dz (x := .none) rfl (wpAny_bind (wpAny_listPart .none ?_))))
    rw [if_neg (show ¬ ((rawPart none == rawInt 0) = true) from Bool.false_ne_true)]
    refine wpAny_bind (wpAny_field gz dz (x := vl) rfl (wpAny_bind (wpAny_listPart pl ?_)))
    refine wpAny_bind (wpAny_field gz dz (x := vu) rfl (wpAny_bind (wpAny_listPart pu (wpAny_pure ?_))))
    first
      | simp only [apart, Bool.false_eq_true, if_false]
      | refine PySem.W.KFB.if_not apart ?_
    refine wpAny_bind ?_
    unfold Builtin.List.listAllItems
    refine wpAny_bind (wpAny_typeOf ln.typeIs ?_)
    first
      | refine PySem.W.KFB.if_so (by decide) ?_
      | rw [if_pos (by decide)]
    unfold Builtin.List.listItems
    refine wpAny_bind (wpAny_seqItems en rfl (wpAny_pure (wpAny_bind (wpAny_bind (wpAny_seqItems eo rfl (wpAny_pure ?_))))))
    have si := (sliceIndices_raw (some (a : Int)) (some (c : Int)) none old.size (by simp)).trans (congrArg (pure : Int × Int × Int → Sem (Int × Int × Int)) bd)
    refine wpAny_bind (wpAny_of_eq si ?_)
    show wpAny _ _ (if ((1 : Int) == 1) = true then _ else _) _ _ s
    rw [if_pos (by decide)]
    refine wpAny_bind (wpAny_rule ?_)
    first
      | simp only [notLongL fit, Bool.false_eq_true, if_false]
      | refine PySem.W.KFB.if_not (notLongL fit) ?_
    try refine wpAny_bind (wpAny_pure ?_)
    show wpAny _ _ (updateSeq l (fun t => t.extract 0 ((a : Int)).toNat ++ new ++ t.extract (max (a : Int) ((min c old.size : Nat) : Int)).toNat t.size) >>= _) _ _ s
    rw [mx, Int.toNat_natCast]
    refine wpAny_bind (wpAny_updateSeq (hz := Nat.le_trans (Nat.le_add_right _ _) fit) (_hz' := zz) eo rfl (wpAny_bind (wpAny_letGo ?_)))
    first
      | exact wpAny_bind (wpAny_pure (wpAny_pure ⟨.none, rfl, wpAny_pure k⟩))
      | exact wpAny_pure ⟨.none, rfl, wpAny_pure k⟩
end

section
variable {X : Cx}
theorem splice (xs ys : List Value) (a c : Nat) : xs.toArray.extract 0 a ++ ys.toArray ++ xs.toArray.extract (min c xs.toArray.size) xs.toArray.size = (xs.take a ++ ys ++ xs.drop c).toArray := by
  rw [splice_eq]
  congr 1
  by_cases h : c ≤ xs.length
  · rw [List.size_toArray, Nat.min_eq_left h]
  · rw [List.size_toArray, Nat.min_eq_right (by omega), List.drop_length, List.drop_of_length_le (by omega)]

/-- o[lo:hi] = v, both given, v another list -/
def gCut (to : TE) (tl th : TO) : TG := fun v σ H Q => to σ H fun o H1 => tl σ H1 fun lo H2 => th σ H2 fun hi H3 =>
  ∃ p q xs ys a c, o = .ref p ∧ v = .ref q ∧ lo = some a ∧ hi = some c ∧ H3 p = some (.lst xs) ∧ H3 q = some (.lst ys) ∧ p ≠ q ∧
    0 ≤ a ∧ a ≤ c ∧ a ≤ xs.length ∧ xs.length + ys.length ≤ sizeLine ∧ Q σ (upd H3 p (.lst (xs.take a.toNat ++ ys ++ xs.drop c.toNat)))

theorem pg_cut {o : Expr} {lo hi : Option Expr} {to : TE} {tl th : TO} {p2 pos : Pos} (ho : PE X o to) (hl : PO X lo tl) (hh : PO X hi th)
    (ha : ∀ v, assign (.Subscript o (.Slice lo hi none p2) pos) X.env v = (do
      let ov ← holding [v] (eval o X.env)
      let iv ← holding [v, ov] (eval (.Slice lo hi none p2) X.env)
      standAt pos
      holding [v, ov, iv] (setItem ov iv v)
      release [iv, v, ov] []) := by intro _; rfl) : PG X (.Subscript o (.Slice lo hi none p2) pos) (gCut to tl th) := by
  refine ⟨fun pins s σ H v u Q I r h => ?_⟩
  rw [ha]
  refine wpAny_bind (wpAny_holding (thn (ho.run pins s σ H _ I h) fun ov s1 ⟨x, H1, I1, r1, q1⟩ => wpAny_bind (wpAny_holding ?_)))
  refine wpAny_Slice (thn (hl.run pins s1 σ H1 _ I1 q1) fun wl s2 ⟨l, H2, I2, pl, q2⟩ => ?_)
  refine thn (hh.run pins s2 σ H2 _ I2 q2) fun wu s3 ⟨uu, H3, I3, pu, q3⟩ => ?_
  rw [evalPart_none]
  refine wpAny_pure ?_
  obtain ⟨p, q, xs, ys, a, c, rfl, rfl, rfl, rfl, hp, hq, pq, a0, ac, ax, fit, fin⟩ := q3
  cases r1
  cases r
  have I4 : Inv X pins σ H3 { s3 with heap := s3.heap.push { cls := .type "slice", data := .fields #[wl, wu, .none] } } := I3.kept (t' := s3.toks) fun b ob e => Heap.get?_push_of_some _ e
  refine wpAny_bind (wpAny_standAt (wpAny_bind (wpAny_holding ?_)))
  obtain ⟨z1, us1, n1, rv1, _, e1⟩ := I4.lstM hp
  obtain ⟨z2, us2, n2, rv2, _, e2⟩ := I4.lstM hq
  obtain ⟨a', rfl⟩ := Int.eq_ofNat_of_zero_le a0
  obtain ⟨c', rfl⟩ := Int.eq_ofNat_of_zero_le (Int.le_trans a0 ac)
  simp only [Int.toNat_natCast] at fin
  have L1 := rv1.length
  have L2' := rv2.length
  refine put_slice (a := a') (c := c') e1 e2 pq (Heap.IsSliceOf.new ..) pl pu (by omega) (by rw [List.size_toArray]; omega) (by rw [List.size_toArray, List.size_toArray]; omega) ?_
  refine wpAny_release ⟨σ, _, ?_, fin⟩
  refine I4.lset (its' := us1.take a' ++ us2 ++ us1.drop c') (t' := s3.toks) hp e1 (splice us1 us2 a' c') (Vals.append (Vals.append (rv1.take _) rv2) (rv1.drop _)) ?_
  rw [List.length_append, List.length_append, List.length_take, List.length_drop]
  omega
end
end Sip
namespace Sip
open PySem PySem.Spec PyProof.Rows L2

/-- a def of the text: where it stands, how it is called -/
structure Df (K : PySem.W.Frag) (mg : Str → Option Value) (x : Str) (st : Stmt) (ps : List Str) (f : Addr) (fd : FuncData) : Prop where
  F : Fun K x x st f fd
  b : Binds K fd ps []
  g : mg x = some (.ref f)

/-! heaps: all that was tracked stands, but at the places ps -/
def Kp (ps : List Addr) (H H' : Hp) : Prop := ∀ b o, b ∉ ps → H b = some o → H' b = some o
theorem Kp.refl (ps : List Addr) (H : Hp) : Kp ps H H := fun _ _ _ h => h
theorem Kp.trans {ps : List Addr} {H H1 H2 : Hp} (a : Kp ps H H1) (b : Kp ps H1 H2) : Kp ps H H2 := fun c o n h => b c o n (a c o n h)
theorem Kp.wide {ps qs : List Addr} {H H1 : Hp} (a : Kp ps H H1) (h : ∀ x ∈ ps, x ∈ qs) : Kp qs H H1 := fun c o n e => a c o (fun z => n (h c z)) e
theorem Kp.same {H H1 : Hp} (a : Kp [] H H1) : Same H H1 := fun c o e => a c o (fun h => nomatch h) e
theorem Kp.of {ps : List Addr} {H H1 : Hp} (a : Same H H1) : Kp ps H H1 := fun c o _ e => a c o e
theorem Kp.at {ps : List Addr} {H : Hp} {p : Addr} {o : HO} (h : p ∈ ps) : Kp ps H (upd H p o) := fun b x n e => by
  have hb : b ≠ p := fun z => n (by rw [z]; exact h)
  rw [upd_ne hb]; exact e
theorem Kp.new {ps : List Addr} {H : Hp} {p : Addr} {o : HO} (h : H p = none) : Kp ps H (upd H p o) := fun b x n e => by
  rw [upd_ne (ne_of_none e h)]; exact e
/-- a place that was new at H is written later -/
theorem Kp.put {ps : List Addr} {H H1 : Hp} {p : Addr} {o : HO} (k : Kp ps H H1) (h : H p = none) : Kp ps H (upd H1 p o) := fun b x n e => by
  rw [upd_ne (ne_of_none e h)]; exact k b x n e
theorem Kp.seq {ps : List Addr} {K : PySem.W.Frag} {H H1 : Hp} {a : Addr} {xs : List V} (k : Kp ps H H1) (n : a ∉ ps) (h : SqL K H a xs) : SqL K H1 a xs := by
  rcases h with (h | ⟨o, h⟩) | h
  · exact .inl (.inl (k _ _ n h))
  · exact .inl (.inr ⟨o, k _ _ n h⟩)
  · exact .inr h
theorem Kp.free {H H1 : Hp} {ps : List Addr} (k : Kp ps H H1) {q : Addr} (n : q ∉ ps) (h : H1 q = none) : H q = none := by
  cases e : H q with
  | none => rfl
  | some o => rw [k q o n e] at h; cases h
theorem sq_new {K : PySem.W.Frag} {H : Hp} {p : Addr} {xs : List V} : SqL K (upd H p (.lst xs)) p xs := .inl (.inl upd_same)
theorem sq_at {K : PySem.W.Frag} {H : Hp} {p : Addr} {xs : List V} (h : H p = some (.lst xs)) : SqL K H p xs := .inl (.inl h)
theorem upd_upd {H : Hp} {p : Addr} {a b : HO} : upd (upd H p a) p b = upd H p b := by
  funext x
  by_cases h : x = p
  · subst h; rw [upd_same, upd_same]
  · rw [upd_ne h, upd_ne h, upd_ne h]

/-! the law's own draws: a pool is a list of three ints -/
def PoolO (n : Int) (o : HO) : Prop := ∃ d c x : Int, o = .lst [.int d, .int c, .int x] ∧ 0 ≤ d ∧ 0 ≤ c ∧ c ≤ n
theorem PoolO.up {n m : Int} {o : HO} (h : PoolO n o) (l : n ≤ m) : PoolO m o := by
  obtain ⟨d, c, x, e, h1, h2, h3⟩ := h
  exact ⟨d, c, x, e, h1, h2, by omega⟩
def spTake : Sp := fun vs H Q _ => ∃ (p : Addr) (n wide : Int) (o : HO), vs = [.ref p, .int wide] ∧ H p = some o ∧ PoolO n o ∧ n ≤ 1000000000 ∧ 0 < wide ∧ wide < 1073741824 ∧
  ∀ (r : Int) (o' : HO), 0 ≤ r → r < wide → PoolO (n + 1) o' → Q (.int r) (upd H p o')
def spPool (K : PySem.W.Frag) : Sp := fun vs H Q _ => ∃ (a : Addr) (ns : List Int) (i : Int), vs = [.ref a, .int i] ∧ SqL K H a (ns.map V.int) ∧ ns.length ≤ 63 ∧ 0 ≤ i ∧ i ≤ 1000 ∧
  ∀ (p : Addr) (o : HO), H p = none → PoolO (1000 * i) o → Q (.ref p) (upd H p o)

/-! lists of ints -/
theorem atI_int {ms : List Int} {i : Int} (h0 : 0 ≤ i) (h1 : i < ms.length) : ∃ m, m ∈ ms ∧ atI (ms.map V.int) i = some (.int m) ∧ ms[i.toNat]? = some m := by
  obtain ⟨j, rfl⟩ := Int.eq_ofNat_of_zero_le h0
  have hj : j < ms.length := by omega
  refine ⟨ms[j], List.getElem_mem hj, atI_nat ?_, by rw [Int.toNat_natCast, List.getElem?_eq_getElem hj]⟩
  rw [List.getElem?_map, List.getElem?_eq_getElem hj]; rfl
theorem atI_intV {ms : List Int} {i : Int} (h0 : 0 ≤ i) (h1 : i < ms.length) : atI (ms.map V.int) i = some (.int (ms.getD i.toNat 0)) := by
  obtain ⟨m, _, e, g⟩ := atI_int h0 h1
  rw [e, List.getD_eq_getElem?_getD, g]; rfl
theorem dp_ints {K : PySem.W.Frag} {H : Hp} : ∀ ns : List Int, DpAll K H (ns.map V.int) (ns.map PyData.int)
  | [] => .nil
  | n :: r => .cons (.int n) (dp_ints r)
theorem dp_lst {K : PySem.W.Frag} {H : Hp} {a : Addr} {ns : List Int} (h : SqL K H a (ns.map V.int)) : Dp K H (.ref a) (.list (ns.map PyData.int)) := .lst h (dp_ints ns)
section
variable {X : Cx}
/-- == and != of two lists of ints -/
def rEqI (K : PySem.W.Frag) : R2 := fun x y H Q => ∃ (a b : Addr) (ns ms : List Int), x = .ref a ∧ y = .ref b ∧ SqL K H a (ns.map V.int) ∧ SqL K H b (ms.map V.int) ∧ Q (.bl (decide (ns = ms))) H
def rNeI (K : PySem.W.Frag) : R2 := fun x y H Q => ∃ (a b : Addr) (ns ms : List Int), x = .ref a ∧ y = .ref b ∧ SqL K H a (ns.map V.int) ∧ SqL K H b (ms.map V.int) ∧ Q (.bl (!decide (ns = ms))) H
theorem op_eqI (hu : X.A.units + 64 < cLine) : OpR X (compareOp .Eq) (rEqI X.K) := by
  intro pins s σ H x y v u Q I rx ry h
  obtain ⟨a, b, ns, ms, rfl, rfl, ha, hb, q⟩ := h
  cases rx; cases ry
  obtain ⟨us, rv, hl, _⟩ := I.list ha
  obtain ⟨ws, rw', hl', _⟩ := I.list hb
  exact PySem.W.eq_intsK hl.isList rv.ints hl'.isList rw'.ints hu ⟨.bl (decide (ns = ms)), H, I, rfl, q⟩
theorem op_neI (hu : X.A.units + 64 < cLine) : OpR X (compareOp .NotEq) (rNeI X.K) := by
  intro pins s σ H x y v u Q I rx ry h
  obtain ⟨a, b, ns, ms, rfl, rfl, ha, hb, q⟩ := h
  cases rx; cases ry
  obtain ⟨us, rv, hl, _⟩ := I.list ha
  obtain ⟨ws, rw', hl', _⟩ := I.list hb
  exact PySem.W.ne_intsK hl.isList rv.ints hl'.isList rw'.ints hu ⟨.bl (!decide (ns = ms)), H, I, rfl, q⟩
end
/-! a row laid over another one -/
def laidF (r : List Int) (n : Nat) (d : List Int) : List Int :=
  if d = [] then r else (r ++ List.replicate (n - r.length) 0).take n ++ d ++ (r ++ List.replicate (n - r.length) 0).drop (n + d.length)
theorem laidF_nil (r : List Int) (n : Nat) : laidF r n [] = r := if_pos rfl
theorem laidF_cons {r : List Int} {n : Nat} {d : List Int} (h : d ≠ []) : laidF r n d = (r ++ List.replicate (n - r.length) 0).take n ++ d ++ (r ++ List.replicate (n - r.length) 0).drop (n + d.length) := if_neg h
theorem laidF_length {r : List Int} {n : Nat} {d : List Int} (h : d ≠ []) : (laidF r n d).length = max r.length (n + d.length) := by
  rw [laidF_cons h, List.length_append, List.length_append, List.length_take, List.length_drop, List.length_append, List.length_replicate]
  omega
theorem pad_get (r : List Int) (m i : Nat) : (r ++ List.replicate m 0)[i]?.getD 0 = r.getD i 0 := by
  rw [List.getD_eq_getElem?_getD]
  by_cases h : i < r.length
  · rw [List.getElem?_append_left h]
  · rw [List.getElem?_append_right (by omega), List.getElem?_eq_none (l := r) (by omega)]
    by_cases h2 : i - r.length < m
    · rw [List.getElem?_replicate, if_pos h2]; rfl
    · rw [List.getElem?_eq_none (by rw [List.length_replicate]; omega)]
theorem laidF_getD {r : List Int} {n : Nat} {d : List Int} (h : d ≠ []) (i : Nat) : (laidF r n d)[i]?.getD 0 = if n ≤ i ∧ i < n + d.length then d.getD (i - n) 0 else r.getD i 0 := by
  have lt : ((r ++ List.replicate (n - r.length) 0).take n).length = n := by
    rw [List.length_take, List.length_append, List.length_replicate]; omega
  rw [laidF_cons h, List.append_assoc]
  by_cases h1 : i < n
  · rw [if_neg (by omega), List.getElem?_append_left (by rw [lt]; exact h1), List.getElem?_take_of_lt h1]
    exact pad_get r _ i
  · rw [List.getElem?_append_right (by rw [lt]; omega), lt]
    by_cases h2 : i < n + d.length
    · rw [if_pos ⟨by omega, h2⟩, List.getElem?_append_left (by omega), List.getD_eq_getElem?_getD]
    · rw [if_neg (by omega), List.getElem?_append_right (by omega), List.getElem?_drop, ← pad_get r (n - r.length) i]
      congr 2
      omega
theorem laidF_get {r : List Int} {n : Nat} {d : List Int} {i : Nat} (h : d ≠ []) (hi : i < (laidF r n d).length) : (laidF r n d)[i]? = some (if n ≤ i ∧ i < n + d.length then d.getD (i - n) 0 else r.getD i 0) := by
  rw [← laidF_getD h i, List.getElem?_eq_getElem hi]; rfl
theorem ext_getD {xs ys : List Int} (hl : xs.length = ys.length) (h : ∀ i, i < xs.length → xs[i]?.getD 0 = ys[i]?.getD 0) : xs = ys := by
  apply List.ext_getElem hl
  intro i h1 h2
  have := h i h1
  rw [List.getElem?_eq_getElem h1, List.getElem?_eq_getElem h2] at this
  exact this
/-- laid over once more: the same -/
theorem laidF_twice (r : List Int) (n : Nat) (d : List Int) : laidF (laidF r n d) n d = laidF r n d := by
  by_cases h : d = []
  · subst h; rw [laidF_nil, laidF_nil]
  · have l1 := laidF_length (r := r) (n := n) h
    have l2 := laidF_length (r := laidF r n d) (n := n) h
    refine ext_getD (by omega) fun i hi => ?_
    rw [laidF_getD h, laidF_getD h]
    split
    · rfl
    · next c => rw [List.getD_eq_getElem?_getD, laidF_getD h, if_neg c]
theorem flat_rep (m : Nat) (v : V) : (List.replicate m [v]).flatten = List.replicate m v := by
  induction m with
  | zero => rfl
  | succ m ih => rw [List.replicate_succ, List.flatten_cons, ih, List.replicate_succ]; rfl
theorem all_true (n : Nat) : (List.replicate n true).all id = true := by
  rw [List.all_eq_true]
  intro x hx
  exact (List.mem_replicate.mp hx).2
def spBytes : Sp := fun vs H Q _ => ∃ (p : Addr) (n : Int) (o : HO), vs = [.ref p] ∧ H p = some o ∧ PoolO n o ∧ n ≤ 900000000 ∧
  ∀ (H' : Hp) (q : Addr) (bs : List Int) (o' : HO), H q = none → H' q = some (.lst (bs.map V.int)) → H' p = some o' → PoolO (n + 1000) o' → Kp [p] H H' → bs.length ≤ 400 → (∀ b ∈ bs, 0 ≤ b ∧ b ≤ 255) → Q (.ref q) H'
def spLaid (K : PySem.W.Frag) : Sp := fun vs H Q _ => ∃ (a b : Addr) (r : List Int) (n : Nat) (d : List Int), vs = [.ref a, .int n, .ref b] ∧ SqL K H a (r.map V.int) ∧ H b = some (.lst (d.map V.int)) ∧ r.length ≤ 10000 ∧ n ≤ 4400 ∧ d.length ≤ 4400 ∧
  ∀ (H' : Hp) (q : Addr), H q = none → H' q = some (.lst ((laidF r n d).map V.int)) → Same H H' → Q (.ref q) H'
def spDue (K : PySem.W.Frag) : Sp := fun vs H Q _ => ∃ (a b : Addr) (r : List Int) (n : Nat) (d : List Int), vs = [.ref a, .int n, .ref b] ∧ SqL K H a (r.map V.int) ∧ SqL K H b (d.map V.int) ∧ r.length ≤ 10000 ∧ n ≤ 4400 ∧ d.length ≤ 4400 ∧
  ∀ (H' : Hp) (q : Addr), H q = none → H' q = some (.lst ((laidF r n d).map V.int)) → Same H H' → Q (.ref q) H'
def spFits (K : PySem.W.Frag) : Sp := fun vs H Q _ => ∃ (a b : Addr) (xs ys : List Int), vs = [.ref a, .ref b] ∧ H a = some (.lst (xs.map V.int)) ∧ SqL K H b (ys.map V.int) ∧ xs.length ≤ 100000 ∧
  ∀ H' : Hp, Same H H' → Q (.bl (decide (xs = ys))) H'
def spLaw (K : PySem.W.Frag) : Sp := fun vs H Q _ => ∃ (a : Addr) (ns : List Int), vs = [.ref a] ∧ SqL K H a (ns.map V.int) ∧ ns.length ≤ 63 ∧ ∀ H' : Hp, Q (.bl true) H'
theorem step_same {H H1 H2 : Hp} {p : Addr} (s : Same H H1) (n : H p = none) (k : Kp [p] H1 H2) : Same H H2 := fun b o e =>
  k b o (fun z => ne_of_none e n (List.mem_singleton.mp z)) (s b o e)
theorem put_same {H H1 : Hp} {p : Addr} {o : HO} (s : Same H H1) (n : H p = none) : Same H (upd H1 p o) := fun b x e => by
  rw [upd_ne (ne_of_none e n)]; exact s b x e
theorem ixN_zero {n : Nat} (h : 0 < n) : ixN n 0 = some 0 := by
  unfold ixN
  rw [if_pos (by decide), if_pos (by omega)]; rfl
theorem laidF_le {r d : List Int} {n m : Nat} (h : r.length ≤ m ∧ n + d.length ≤ m) : (laidF r n d).length ≤ m := by
  by_cases e : d = []
  · subst e; rw [laidF_nil]; exact h.1
  · rw [laidF_length e]; omega
end Sip
namespace Sip
open PySem PySem.Spec PyProof.Rows L2 PySem.Builtin PySem.Builtin.Str PySem.Builtin.Int PySem.Builtin.Float

def figs : List Nat := [48, 49, 50, 51, 52, 53, 54, 55, 56, 57, 97, 98, 99, 100, 101, 102]
/-- two figures of sixteen -/
def two (n : Nat) : Str := ⟨#[figs.getD (n / 16) 0, figs.getD (n % 16) 0]⟩
def hexSpec : FormatSpec := { fill := 48, align := 61, width := some 2, type := some 120 }
theorem hex_parse : parseFormatSpec (Str.ofString "02x").cps.toList "int" 62 = .ok hexSpec := by kernel_rfl
theorem hex_ascii : (((Str.ofString "02x").cps.toList.drop 1).any (· ≥ 128) || ((Str.ofString "02x").cps.getD 0 0 ≥ 128 && !([60, 62, 61, 94] : List Nat).contains ((Str.ofString "02x").cps.getD 1 0))) = false := by decide +kernel
theorem hex_some : ((Str.ofString "02x").length == 0) = false := by decide +kernel
theorem hex_ex : ∃ F : Int → Str, (∀ (a : Int) (t u : Tok), Gives («int.__format__» ⟨[.int a t, .str (Str.ofString "02x") u], []⟩) (.str (F a))) ∧ ∀ b : Fin 256, F (b.val : Int) = two b.val := by
  apply Exists.intro
  apply And.intro
  · intro a t u prog w A R s hq
    unfold «int.__format__»
    simp only [selfAndOne, noKeywords, Int.intOfSelf, asInt?, asStr?, List.isEmpty_nil, if_true, pure_bind, bind_pure, bind_assoc, hex_some, hex_ascii, Bool.false_eq_true, if_false,
      show (Value.str (Str.ofString "02x") u == Value.none) = false from rfl]
    refine wpAny_bind (wpAny_typeNameOf (T := "str") (typeIs_str _ _ _) (by decide) fun _ => wpAny_bind (wpAny_typeNameOfCut_int ?_))
    simp only [hex_parse]
    refine PySem.W.KFB.if_so (by decide +kernel) ?_
    show wpAny _ _ (retStr _) _ _ _
    unfold retStr
    exact wpAny_bind (wpAny_mkStr (wpAny_pure hq.2) hq.1)
  · decide +kernel
end Sip
namespace Sip
open PySem PySem.Spec PyProof.Rows L2 TL

section
variable {X : Cx}
/-- f'{b:02x}' of a byte -/
def tHex (te : TE) : TE := fun σ H Q => te σ H fun x H1 => ∃ b : Nat, b < 256 ∧ x = .int b ∧ Q (.str (two b)) H1
theorem pe_hex {e : Expr} {te : TE} {k : Nat} {p1 p2 p3 p4 : Pos} (he : PE X e te) :
    PE X (.JoinedStr [.FormattedValue e (-1) (some (.JoinedStr [.Constant (.str (Str.ofString "02x")) k p1] p2)) p3] p4) (tHex te) := by
  have hs : PE X (.JoinedStr [.Constant (.str (Str.ofString "02x")) k p1] p2) (tC (.str (Str.ofString "02x"))) := pe_joined1 pe_str
  obtain ⟨F, g1, g2⟩ := hex_ex
  refine ⟨fun pins s σ H Q I h => wpAny_JoinedStr_one (wpAny_FormattedValue_spec (thn (he.run pins s σ H _ I h) fun v s1 ⟨x, H1, I1, r1, q1⟩ => ?_))⟩
  obtain ⟨b, hb, rfl, q⟩ := q1
  obtain ⟨t, rfl⟩ := r1
  refine thn (hs.run pins s1 σ H1 (fun y H2 => y = .str (Str.ofString "02x") ∧ H2 = H1) I1 ⟨rfl, rfl⟩) fun u s2 ⟨y, H2, I2, r2, ey, eH⟩ => ?_
  subst ey eH
  obtain ⟨t2, rfl⟩ := r2
  have e2 : F (b : Int) = two b := g2 ⟨b, hb⟩
  refine ⟨_, _, rfl, wpAny_formatField_spec (x := F (b : Int)) hex_some (fun s' => typeIs_int s' _ _) PySem.F.slot_int_format PySem.F.entry_int_format PySem.F.args_int_format_2 (fun u => g1 b t u) ?_ (by rw [sizeLine_eq]; decide +kernel) (by rw [e2, sizeLine_eq]; show (2 : Nat) ≤ _; decide)⟩
  rw [e2]
  exact ⟨.str (two b), H2, (I2.tok _).tok _, ⟨_, rfl⟩, q⟩
end

/-! the text of a row, as codes -/
def twoL (b : Int) : List Nat := [figs.getD (b.toNat / 16) 0, figs.getD (b.toNat % 16) 0]
def txL (bs : List Int) : List Nat := bs.flatMap twoL
def tx (bs : List Int) : Str := ⟨(txL bs).toArray⟩
def Bytes (bs : List Int) : Prop := ∀ b ∈ bs, 0 ≤ b ∧ b ≤ 255
theorem txL_length : ∀ bs : List Int, (txL bs).length = 2 * bs.length
  | [] => rfl
  | b :: r => by
    show (twoL b ++ txL r).length = 2 * (r.length + 1)
    rw [List.length_append, txL_length r]
    show 2 + 2 * r.length = _
    omega
theorem tx_length (bs : List Int) : (tx bs).length = 2 * bs.length := by
  show (txL bs).toArray.size = _
  rw [List.size_toArray, txL_length]
theorem txL_append (a b : List Int) : txL (a ++ b) = txL a ++ txL b := List.flatMap_append
theorem tx_append (a b : List Int) : tx (a ++ b) = tx a ++ tx b := ext_toList (by
  show (txL (a ++ b)).toArray.toList = ((txL a).toArray ++ (txL b).toArray).toList
  rw [Array.toList_append, txL_append])
/-- a figure's worth -/
def wor (c : Nat) : Nat := figs.idxOf c
theorem wor_figs : ∀ j : Fin 16, wor (figs.getD j.val 0) = j.val := by decide
theorem twoL_back {b : Int} (h : 0 ≤ b ∧ b ≤ 255) : ∃ i j : Nat, i < 16 ∧ j < 16 ∧ twoL b = [figs.getD i 0, figs.getD j 0] ∧ b = 16 * (i : Int) + j :=
  ⟨b.toNat / 16, b.toNat % 16, by omega, by omega, rfl, by omega⟩
theorem figs_inj {i j : Nat} (hi : i < 16) (hj : j < 16) (e : figs.getD i 0 = figs.getD j 0) : i = j := by
  have a : wor (figs.getD i 0) = i := wor_figs ⟨i, hi⟩
  have b : wor (figs.getD j 0) = j := wor_figs ⟨j, hj⟩
  exact a.symm.trans ((congrArg wor e).trans b)
theorem txL_inj : ∀ {a b : List Int}, Bytes a → Bytes b → txL a = txL b → a = b
  | [], [], _, _, _ => rfl
  | [], y :: r, _, _, e => by cases e
  | x :: r, [], _, _, e => by cases e
  | x :: r, y :: q, ha, hb, e => by
    obtain ⟨i, j, hi, hj, e1, e2⟩ := twoL_back (ha x (List.mem_cons_self ..))
    obtain ⟨m, n, hm, hn, e3, e4⟩ := twoL_back (hb y (List.mem_cons_self ..))
    have e5 : twoL x ++ txL r = twoL y ++ txL q := e
    rw [e1, e3] at e5
    have e6 := List.cons.inj e5
    have e7 := List.cons.inj e6.2
    have k1 := figs_inj hi hm e6.1
    have k2 := figs_inj hj hn e7.1
    have k3 := txL_inj (fun z hz => ha z (List.mem_cons_of_mem _ hz)) (fun z hz => hb z (List.mem_cons_of_mem _ hz)) e7.2
    rw [e2, e4, k1, k2, k3]
theorem tx_inj {a b : List Int} (ha : Bytes a) (hb : Bytes b) (e : tx a = tx b) : a = b := txL_inj ha hb (by
  have := congrArg (fun s : Str => s.cps.toList) e
  exact this)
theorem tx_eq {a b : List Int} (ha : Bytes a) (hb : Bytes b) : decide (V.str (tx a) = V.str (tx b)) = decide (a = b) := by
  by_cases h : a = b
  · subst h; rw [decide_eq_true rfl, decide_eq_true rfl]
  · rw [decide_eq_false h, decide_eq_false]
    intro z
    exact h (tx_inj ha hb (V.str.inj z))
/-- joined from its parts -/
theorem join_two : ∀ bs : List Int, Str.join (Str.ofString "") (bs.map fun b => two b.toNat) = tx bs := fun bs => ext_toList (by
  show tl (Str.join (Str.ofString "") _) = txL bs
  rw [tl_join]
  have e0 : tl (Str.ofString "") = [] := by decide +kernel
  rw [e0, List.map_map]
  induction bs with
  | nil => rfl
  | cons b r ih =>
    cases r with
    | nil => show twoL b = twoL b ++ []; rw [List.append_nil]
    | cons c q =>
      show twoL b ++ ([] ++ joinL [] ((c :: q).map _)) = twoL b ++ txL (c :: q)
      rw [List.nil_append, ih])
/-- its signs by place -/
theorem txL_get : ∀ {bs : List Int} {i : Nat} {b : Int}, bs[i]? = some b → (txL bs)[2 * i]? = some (figs.getD (b.toNat / 16) 0) ∧ (txL bs)[2 * i + 1]? = some (figs.getD (b.toNat % 16) 0)
  | [], _, _, h => by simp at h
  | x :: r, 0, b, h => by
    have e : x = b := Option.some.inj h
    subst e
    exact ⟨rfl, rfl⟩
  | x :: r, i + 1, b, h => txL_get (bs := r) (i := i) (b := b) h
theorem tx_at {bs : List Int} {i : Nat} {b : Int} (h : bs[i]? = some b) : atI (tx bs).cps.toList ((2 * i : Nat) : Int) = some (figs.getD (b.toNat / 16) 0) ∧ atI (tx bs).cps.toList ((2 * i + 1 : Nat) : Int) = some (figs.getD (b.toNat % 16) 0) :=
  ⟨atI_nat (txL_get h).1, atI_nat (txL_get h).2⟩
def FIG : Str := Str.ofString "0123456789abcdef"
theorem fig_find : ∀ j : Fin 16, Txt.find FIG ⟨#[figs.getD j.val 0]⟩ = (j.val : Int) := by decide +kernel
theorem fig_at {j : Nat} (h : j < 16) : atI FIG.cps.toList (j : Int) = some (figs.getD j 0) := by
  have e : FIG.cps.toList = figs := by decide +kernel
  rw [e]
  refine atI_nat ?_
  rw [List.getD_eq_getElem?_getD, List.getElem?_eq_getElem (show j < figs.length from h)]; rfl
/-! slices of lists of ints -/
theorem cut_map (bs : List Int) (lo hi : Option Int) : ∃ cs : List Int, cutV (bs.map V.int) lo hi = cs.map V.int ∧ cs.length ≤ bs.length ∧ ∀ x ∈ cs, x ∈ bs := by
  refine ⟨(bs.drop (HT.sIx bs.length 0 lo)).take (HT.sIx bs.length bs.length hi - HT.sIx bs.length 0 lo), ?_, ?_, ?_⟩
  · unfold cutV
    rw [List.length_map, List.map_take, List.map_drop]
  · rw [List.length_take, List.length_drop]; omega
  · intro x hx
    exact List.mem_of_mem_drop (List.mem_of_mem_take hx)
theorem size_two (n : Nat) : Builtin.Range.rangeSize 0 ((2 * n : Nat) : Int) 2 = (n : Int) := by
  unfold Builtin.Range.rangeSize
  rw [if_pos (by decide)]
  split <;> omega
theorem range_two (n : Nat) (h : n ≤ 1000000) : RgC 0 ((2 * n : Nat) : Int) 2 n := by
  refine ⟨by decide, by decide, ?_, size_two n⟩
  have f : ∀ x : Int, 0 ≤ x → x ≤ 3000000 → Builtin.Range.rangeFitsLong x = true := fun x h0 h1 => by
    unfold Builtin.Range.rangeFitsLong
    rw [Bool.and_eq_true, decide_eq_true_eq, decide_eq_true_eq]
    omega
  unfold Builtin.Range.small
  rw [size_two, f 0 (by decide) (by decide), f ((2 * n : Nat) : Int) (by omega) (by omega), f 2 (by decide) (by decide), f (n : Int) (by omega) (by omega)]
  simp only [Bool.true_and, show (2 : Int) > 0 from by decide, if_true, Bool.or_eq_true, beq_iff_eq]
  exact .inr (f _ (by omega) (by omega))
end Sip
namespace Sip
open PySem PySem.Spec PyProof.Rows L2 TL
def spWorth : Sp := fun vs H Q _ => ∃ j : Nat, j < 16 ∧ vs = [.str ⟨#[figs.getD j 0]⟩] ∧ Q (.int j) H
def spRead : Sp := fun vs H Q _ => ∃ bs : List Int, vs = [.str (tx bs)] ∧ Bytes bs ∧ bs.length ≤ 8000 ∧ ∀ (H' : Hp) (p : Addr), H p = none → H' p = some (.lst (bs.map V.int)) → Same H H' → Q (.ref p) H'
def spTxt (K : PySem.W.Frag) : Sp := fun vs H Q _ => ∃ (a : Addr) (bs : List Int), vs = [.ref a] ∧ SqL K H a (bs.map V.int) ∧ Bytes bs ∧ bs.length ≤ 8000 ∧ ∀ H' : Hp, Same H H' → Q (.str (tx bs)) H'
theorem get_int {xs : List Int} {i : Nat} {x : V} (h : (xs.map V.int)[i]? = some x) : ∃ hi : i < xs.length, x = .int xs[i] := by
  have hi : i < xs.length := by
    have := (List.getElem?_eq_some_iff.mp h).1
    rwa [List.length_map] at this
  refine ⟨hi, ?_⟩
  rw [List.getElem?_map, List.getElem?_eq_getElem hi] at h
  exact (Option.some.inj h).symm
theorem sum_two : ∀ bs : List Int, ((bs.map fun b => two b.toNat).map (·.length)).sum = 2 * bs.length
  | [] => rfl
  | b :: r => by
    show 2 + ((r.map fun b => two b.toNat).map (·.length)).sum = 2 * (r.length + 1)
    rw [sum_two r]; omega
theorem fit_two (bs : List Int) (h : bs.length ≤ 8000) : ((bs.map fun b => two b.toNat).map (·.length)).sum + (bs.map fun b => two b.toNat).length * (Str.ofString "").length ≤ 16777216 := by
  rw [sum_two, show (Str.ofString "").length = 0 by decide +kernel]; omega
end Sip
namespace Sip
open PySem PySem.Spec PyProof.Rows L2 TL
def spAsked : Sp := fun vs H Q _ => ∃ (a : Addr) (bs : List Int), vs = [.ref a] ∧ H a = some (.lst (bs.map V.int)) ∧ Bytes bs ∧ bs.length ≤ 4000 ∧ ∀ H' : Hp, Same H H' → Q (.bl true) H'
end Sip
/-! a list comprehension whose element may raise: what is raised leaves the comprehension -/
namespace Sip
open PySem PySem.Spec PyProof.Rows L2

theorem note_same {e : Value} {a b : Env} (h : a.frame = b.frame) : noteFrame e a = noteFrame e b := by
  unfold noteFrame PySem.frameOf
  rw [h]

/-- a comprehension's end, either way -/
def endX (M : Model) (A : Around) (E : Value → Shared → Prop) (Q : Value → Shared → Prop) (acc : Value) (ce : Env) (r : Result) (s' : Shared) : Prop :=
  ∃ m, s'.heap.Ns ce.locals m ∧ ∀ h', Heap.SameBut ce.locals s'.heap h' → match r with
    | .ok _ => Q acc { s' with heap := h' }
    | .error x => wpAny M A (passOn "comprehension.variables-let-go" x ce : Sem Value) (fun _ _ => False) E { s' with heap := h' }

theorem comp_run {M : Model} {A : Around} {E : Value → Shared → Prop} {s : Shared} {env : Env} {e : Expr} {scope : Scope} {pos : Pos} {na fi : Sem Value} {g : Comprehension} {gs : List Comprehension} {cl : List (Str × Addr)} {Q : Value → Shared → Prop}
    (hg : clausesOf e = g :: gs) (hs : ∀ x, foldedSetIterable g.iter env x = pure x) (hcl : closureFor scope env = pure cl) (hk : scope.kind = .function)
    (hn : ∀ x ∈ scope.names, x.2 = .local → scope.names.lookup x.1 = some .local)
    (h : wpAny M A fi (fun x s1 => wpAny M A (pyIter x) (fun it s2 => wpAny M A na (fun acc s3 => wpAny M A (newFunctionEnv scope env.globals cl [] env.qual none .none (some env)) (fun ce s4 =>
      codeAny M A (.compStart e 0 it acc { ce with scope := relabel scope env }) (endX M A E Q acc { ce with scope := relabel scope env }) s4) E s3) E s2) E s1) E s) :
    wpAny M A (comprehension e scope env pos na false fi none) Q E s := by
  unfold comprehension
  rw [hcl, hg]
  refine wpAny_bind (wpAny_mono h (fun x s1 h1 => ?_) fun _ _ z => z)
  refine wpAny_bind (wpAny_standAt (wpAny_bind (wpAny_of_eq (hs x) ?_)))
  refine wpAny_bind (wpAny_holding (wpAny_mono h1 (fun it s2 h2 => ?_) fun _ _ z => z))
  refine wpAny_standIf (wpAny_bind (wpAny_mono h2 (fun acc s3 h3 => ?_) fun _ _ z => z))
  refine wpAny_bind (wpAny_pure (wpAny_bind (wpAny_mono h3 (fun ce s4 h4 => ?_) fun _ _ z => z)))
  dsimp only
  have vs : ∀ x ∈ (scope.names.filter fun x => (x.2 == .local || x.2 == .cell) && x.1 != (".0" : Str)).reverse, x.2 = .local → Env.kindOf { ce with scope := relabel scope env } x.1 = some .local :=
    fun x hx hl => lookup_relabel_local (hn x (List.mem_filter.mp (List.mem_reverse.mp hx)).1 hl)
  refine wpAny_holding (wpAny_bind (wpAny_attempt (wpAny_holding (wpAny_run (codeAny_mono h4 fun r s' hr => ?_)))))
  obtain ⟨m, nm, hr⟩ := hr
  cases r with
  | ok f => exact wpAny_bind (wpAny_holding (wpAny_comp_letGo (cenv := { ce with scope := relabel scope env }) hk _ s' m vs nm fun h' _ _ sb => wpAny_pure (hr h' sb)))
  | error x => exact wpAny_bind (wpAny_holding (wpAny_comp_letGo (cenv := { ce with scope := relabel scope env }) hk _ s' m vs nm fun h' _ _ sb => wpAny_mono (hr h' sb) (fun _ _ f => f.elim) fun _ _ z => z))

theorem frames_to {h h' B B' : Heap} : ∀ {l : List Env}, h.FunFrames B l → (∀ b ∈ frs l, ∀ o, h.get? b = some o → h'.get? b = some o) → (∀ b ∈ frs l, B'.get? b = none) → h'.FunFrames B' l
  | [], _, _, _ => trivial
  | v :: l, f, k, n => by
    obtain ⟨f1, ⟨L, o, f2, f3, f4, f5⟩, f6⟩ := f
    have up : ∀ b ∈ frs l, b ∈ frs (v :: l) := fun b hb => by
      obtain ⟨x, hx, q⟩ := List.mem_filterMap.mp hb
      exact List.mem_filterMap.mpr ⟨x, List.mem_cons_of_mem _ hx, q⟩
    have hL : L ∈ frs (v :: l) := List.mem_filterMap.mpr ⟨v, List.mem_cons_self, f2⟩
    exact ⟨f1, ⟨L, o, f2, n L hL, k L hL o f4, f5⟩, frames_to f6 (fun b hb => k b (up b hb)) fun b hb => n b (up b hb)⟩

section
variable {X : Cx} {pins : List (Addr × Obj)} {σ : L2.St} {H3 : Hp} {s3 : Shared}
set_option maxHeartbeats 1000000 in
theorem comp_out {scope : Scope} {ce : Env} {fp : List Addr} {W : WX} {E : XK} {pb : List (Addr × Obj)} {σb : L2.St} {Hb : Hp} {sb s' : Shared} {u acc : Value} {Q : Value → Shared → Prop}
    (I3 : Inv X pins σ H3 s3) (hst : X.stack = X.env :: X.outer) (hfr : X.env.frame = some X.env.locals) (tk : Takes X W) (hfp : ∀ b ∈ fp, FpOk X pins H3 b)
    (cf : ce.frame = X.env.frame) (cL : ce.locals = s3.heap.objs.size) (Ib : Inv (X.blk s3 H3 scope ce fp) pb σb Hb sb) (hE : ∀ cls d H', E cls d H' → W cls d σ H')
    (c : CX X.prog X.w X.stack Hb sb E u s') :
    notedBy (model X.prog X.w) X.A ce (fun e s'' => endX (model X.prog X.w) X.A X.xe Q acc ce (.error e) s'') u s' := by
  obtain ⟨a, B, H', cls, d, rfl, fl, hok, ub, na, os, ag, hw⟩ := c
  have hA : X.A.frames = some (X.env :: X.outer) := by rw [I3.ok.frames, hst]
  have Bu : Un (frs X.stack) fp H3 Hb s3.heap sb.heap := Ib.base
  have HbC : Hb ce.locals = none := Ib.free
  obtain ⟨m, ⟨oC, es, ep, eC, dC, rC⟩, _⟩ := Ib.loc
  have eC : sb.heap.get? ce.locals = some oC := eC
  have nC : ce.locals ∉ frs X.stack := fun z => by
    rcases List.mem_cons.mp (I3.stkSub _ z) with z | z
    · have := I3.lt
      rw [← z, cL] at this
      exact absurd this (Nat.lt_irrefl _)
    · exact I3.nofs (Nat.le_of_eq cL.symm) z
  have BC : B.get? ce.locals = some oC := ub.keep _ _ eC HbC nC
  have H'C : H' ce.locals = none := ub.free _ _ eC HbC
  have ffl : ∀ b ∈ frs X.stack, ∃ o, s'.heap.get? b = some o ∧ ∀ vs, o.data ≠ .fields vs := fun b hb => (fl.2.2.1.mem hb).2
  show wpAny _ _ (noteFrame (.ref a) ce) _ _ s'
  rw [note_same cf]
  have fl2 := fl
  rw [hst] at fl2
  refine HandSPX.looks_onZ Zc.steady hA hfr fl2 fun h1 hh up1 => ?_
  obtain ⟨st1, en1, ff1, tr1⟩ := hh
  refine ⟨m, ⟨oC, es, ep, st1 _ _ BC, dC, rC⟩, fun h' sbut => ?_⟩
  -- the ground without the comprehension's own names
  obtain ⟨B', b1, b2⟩ := restrict B fun b => !decide (b = ce.locals)
  have Bto : ∀ b o, B.get? b = some o → b ≠ ce.locals → B'.get? b = some o := fun b o e n => by
    rw [b1 b (by simp [n])]; exact e
  have Bof : ∀ b o, B'.get? b = some o → B.get? b = some o ∧ b ≠ ce.locals := fun b o e => by
    by_cases n : b = ce.locals
    · rw [b2 b (by simp [n])] at e; cases e
    · rw [b1 b (by simp [n])] at e; exact ⟨e, n⟩
  have Bno : ∀ b, B.get? b = none → B'.get? b = none ∧ b ≠ ce.locals := fun b e => by
    have n : b ≠ ce.locals := fun z => by rw [z, BC] at e; cases e
    exact ⟨by rw [b1 b (by simp [n])]; exact e, n⟩
  have st2 : B'.StaysIn h' := fun b o e => by
    obtain ⟨e1, n⟩ := Bof b o e
    rw [sbut.2 b n]; exact st1 b o e1
  have ff2 : h'.FunFrames B' (X.env :: X.outer) := frames_to ff1 (fun b hb o e => by
    rw [sbut.2 b (Bno b (ff1.mem hb).1).2]; exact e) fun b hb => (Bno b (ff1.mem hb).1).1
  have tr2 : HandSPX.TracedZ h' B' a (Zc cls d) (rawInt X.env.locals) := by
    obtain ⟨oe, vs, T, oT, ts, t1, t2, t3, t4, t5, t6, t7, t8, t9⟩ := tr1
    exact ⟨oe, vs, T, oT, ts, by rw [sbut.2 a (Bno a en1).2]; exact t1, t2, t3, t4, (Bno T t5).1, t6, by rw [sbut.2 T (Bno T t5).2]; exact t7, t8, t9⟩
  show wpAny _ _ (passOn "comprehension.variables-let-go" (.ref a) ce : Sem Value) _ _ _
  obtain ⟨oe, vs, T, oT, ts, t1, t2, t3, t4, t5, t6, t7, t8, t9⟩ := id tr2
  unfold PySem.passOn
  refine wpAny_bind (wpAny_field t1 t3 t4 ?_)
  rw [if_neg (show ¬ ((Value.ref T == Value.none) = true) from by simp)]
  try refine wpAny_bind (wpAny_pure ?_)
  refine wpAny_bind (HandSPX.setFlight_anyZ (s := { s' with heap := h' }) st2 ff2 tr2 fun h2 k1 k2 k3 k4 => wpAny_throw (tk _ _ ?_))
  rw [cf, hfr] at k3
  -- the state without it
  obtain ⟨G, g1, g2⟩ := restrict h2 fun b => (B'.get? b).isSome || decide (b ∈ frs X.stack)
  have gB : ∀ b o, B'.get? b = some o → G.get? b = some o := fun b o e => by
    rw [g1 b (by simp [e])]; exact k1 b o e
  have gF : ∀ b ∈ frs X.stack, G.get? b = h2.get? b := fun b hb => g1 b (by simp [hb])
  have og : ∀ b o, G.get? b = some o → h2.get? b = some o ∧ ((B'.get? b).isSome = true ∨ b ∈ frs X.stack) := fun b o e => by
    cases q : ((B'.get? b).isSome || decide (b ∈ frs X.stack)) with
    | false => rw [g2 b q] at e; cases e
    | true => rw [g1 b q] at e; exact ⟨e, by simpa [Bool.or_eq_true] using q⟩
  -- a frame's object through all of it
  have fr : ∀ b ∈ frs X.stack, ∀ o, s'.heap.get? b = some o → ∃ sl, h2.get? b = some { o with slots := sl } := fun b hb o e => by
    obtain ⟨o2, e2, nf⟩ := ffl b hb
    rw [e] at e2; cases e2
    obtain ⟨sl1, e3⟩ := up1 b o e nf
    have nb : b ≠ ce.locals := fun z => nC (z ▸ hb)
    rw [← sbut.2 b nb] at e3
    obtain ⟨sl2, e4⟩ := k4 b _ e3 nf
    exact ⟨sl2, e4⟩
  have lt3 : ∀ b o, s3.heap.get? b = some o → b ≠ ce.locals := fun b o e z => by
    have := Heap.lt_size e
    rw [z, cL] at this
    exact absurd this (Nat.lt_irrefl _)
  have U : Un (frs X.stack) fp H3 H' s3.heap G := by
    refine ⟨fun b o e n hb hx => ?_, fun b o e n hb hx => ?_, fun b o e n hx => ?_, fun b o e hx => ?_, fun b xs e => ub.tups b xs (Bu.tups b xs e), fun b o v e => ub.frzs b o v (Bu.frzs b o v e), fun b ps e => ?_⟩
    · exact gB b o (Bto b o (ub.keep b o (Bu.keep b o e n hb hx) (Bu.free b o e n hx) hb) (lt3 b o e))
    · obtain ⟨sl, e1⟩ := Bu.slot b o e n hb hx
      obtain ⟨sl1, e2⟩ := ub.slot b _ e1 hb
      obtain ⟨sl2, e3⟩ := fr b hb _ e2
      exact ⟨sl2, by rw [gF b hb]; exact e3⟩
    · obtain ⟨o1, e1⟩ := Bu.there b o e hx
      exact ub.free b o1 e1 (Bu.free b o e n hx)
    · obtain ⟨o1, e1⟩ := Bu.there b o e hx
      by_cases hb : b ∈ frs X.stack
      · obtain ⟨sl1, e2⟩ := ub.slot b _ e1 hb
        obtain ⟨sl2, e3⟩ := fr b hb _ e2
        exact ⟨_, by rw [gF b hb]; exact e3⟩
      · obtain ⟨o2, e2⟩ := ub.there b o1 e1 hb
        exact ⟨o2, gB b o2 (Bto b o2 e2 (lt3 b o e))⟩
    · obtain ⟨m1, e1⟩ := Bu.tbls b ps e
      obtain ⟨m2, e2⟩ := ub.tbls b _ e1
      exact ⟨m1 ++ m2, by rw [e2]; simp⟩
  have hokG : HOk X.prog X.w H' G := fun b o q => (hok b o q).stay (fun c v hc r => gB c v (Bto c v r fun z => by
    rcases hc with hc | hc
    · rw [← hc, z, H'C] at q; cases q
    · rw [z, H'C] at hc; cases hc)) (fun _ r => r) fun _ _ r => r
  have IX : Inv X pins σ H' { s3 with heap := G, gens := s'.gens, drawn := s'.drawn, toks := s'.toks } :=
    I3.call (ch := fp) U hokG ag fun b hb => ⟨(hfp b hb).2.2.2.1, (hfp b hb).2.1, (hfp b hb).2.2.2.2.1, (hfp b hb).2.2.2.2.2⟩
  refine ⟨a, B', _, pins, σ, H', cls, d, rfl, IX, fun b o e hb => ?_, Heap.UpToSlots.of_keeps fun b o e => (og b o e).1, .inr (.inr ⟨k1, (Bno a en1).1, by rw [hst]; exact k2, k3⟩), na, os.trans Ib.os, ag, hE _ _ _ hw⟩
  obtain ⟨e1, w1⟩ := og b o e
  rcases w1 with w1 | w1
  · obtain ⟨o2, q2⟩ := Option.isSome_iff_exists.mp w1
    have := k1 b o2 q2
    rw [e1] at this; cases this
    exact q2
  · exact absurd w1 hb
end

/-- another wish about what is raised -/
abbrev withX (X : Cx) (xe : Value → Shared → Prop) : Cx := { X with xe := xe }
theorem swapX {X : Cx} {pins : List (Addr × Obj)} {σ : L2.St} {H : Hp} {s : Shared} (xe : Value → Shared → Prop) (I : Inv X pins σ H s) : Inv (withX X xe) pins σ H s :=
  ⟨⟨I.ok.mod, I.ok.kind, I.ok.glob, I.ok.blt, I.ok.above, I.ok.inj, I.ok.has, I.ok.cab, I.ok.hd, I.ok.frames, I.ok.stk, I.ok.exf, I.ok.bs, I.ok.bsz, I.ok.noex, I.ok.exfs, I.ok.funs, I.ok.frf⟩,
    I.os, I.bare, I.base, I.loc, I.cell, I.free, I.freeC, I.pin, I.hok, I.len⟩
theorem unswapX {X : Cx} {pins : List (Addr × Obj)} {σ : L2.St} {H : Hp} {s : Shared} {xe : Value → Shared → Prop} (I : Inv (withX X xe) pins σ H s) : Inv X pins σ H s :=
  ⟨⟨I.ok.mod, I.ok.kind, I.ok.glob, I.ok.blt, I.ok.above, I.ok.inj, I.ok.has, I.ok.cab, I.ok.hd, I.ok.frames, I.ok.stk, I.ok.exf, I.ok.bs, I.ok.bsz, I.ok.noex, I.ok.exfs, I.ok.funs, I.ok.frf⟩,
    I.os, I.bare, I.base, I.loc, I.cell, I.free, I.freeC, I.pin, I.hok, I.len⟩
section
variable {X : Cx}
/-- [elt for target in iter], where elt may raise: W tells what is then wanted -/
def tLcX (wi : TI) (g : TG) (te : XK → TE) (vs : List Nat) (W : WX) : TE := fun σ H Q => tLc wi g tYes (te fun cls d H' => W cls d σ H') vs σ H Q
set_option maxHeartbeats 2000000 in
theorem pe_lcX {elt tg iter : Expr} {scope : Scope} {own : List (Str × Nat)} {pos : Pos} {wi : TI} {g : TG} {te : XK → TE} {W : WX} (hc : X.calm = true) (hst : X.stack = X.env :: X.outer) (hfr : X.env.frame = some X.env.locals) (tk : Takes X W) (hN : X.N.Nodup)
    (hi : PI X tg iter wi) (ok : BlkOk X.N X.env.scope scope own)
    (hg : ∀ (s : Shared) (H : Hp) (C : Addr) (cl : List (Str × Addr)) (fp : List Addr), PG (X.blk s H scope (compEnvC scope cl C X.env) fp) tg g)
    (he : ∀ (s : Shared) (H : Hp) (C : Addr) (cl : List (Str × Addr)) (fp : List Addr) (xe : Value → Shared → Prop) (E : XK), Passes (CX X.prog X.w) (withX (X.blk s H scope (compEnvC scope cl C X.env) fp) xe) E →
      PE (withX (X.blk s H scope (compEnvC scope cl C X.env) fp) xe) elt (te E))
    (hs : ∀ x, foldedSetIterable iter X.env x = pure x := by intro _; rfl) : PE X (.ListComp elt [⟨tg, iter, [], 0⟩] scope pos) (tLcX wi g te (own.map (·.2)) W) := by
  refine ⟨fun pins s σ H Q I h => ?_⟩
  have h : tLc wi g tYes (te fun cls d H' => W cls d σ H') (own.map (·.2)) σ H Q := h
  generalize hE : (fun cls d H' => W cls d σ H' : XK) = E at h
  have hEW : ∀ cls d H', E cls d H' → W cls d σ H' := fun cls d H' q => by rw [← hE] at q; exact q
  rw [eval_ListComp]
  have cells : ∀ y ∈ scope.names, y.2 = .free → ∃ c, X.env.cells.lookup y.1 = some c := fun y hy e => (ok.free y hy e).elim (fun k => I.ok.has _ (.inl k)) fun k => I.ok.has _ (.inr k)
  refine comp_run rfl hs (closure_ok cells) ok.kind (fun y hy e => by rw [ok.uniq y hy, e]) (thn (hi.run pins s σ H _ I h) fun xv s1 hx => ?_)
  refine thn hx fun itv s2 h2 => ?_
  obtain ⟨it, fp, tn, J, H2, rfl, I2, T, st2, f2, q⟩ := h2
  refine wpAny_newObj_type (newEnv_comp ?_) (by show 0 ≤ sizeLine; decide)
  generalize eD : s2.heap.objs.size = D
  have nD : H2 D = none := I2.hok.fresh (Nat.le_of_eq eD)
  obtain ⟨Wi, ⟨m0, w0⟩, turn⟩ := q D nD
  generalize es3 : ({ s2 with heap := s2.heap.push { cls := .type "list", data := .seq ([] : List Value).toArray } } : Shared) = s3
  have p3 : s3.heap = s2.heap.push { cls := .type "list", data := .seq ([] : List Value).toArray } := by rw [← es3]
  have I3 : Inv X pins σ (upd H2 D (.lst [])) s3 := by
    subst es3
    refine I2.laid (t' := s2.toks) (fun b o e => Heap.get?_push_of_some _ e) (Nat.le_of_eq eD) ⟨Nat.zero_le _, [], 0, .nil, ?_⟩
    subst eD
    exact Heap.get?_push_size _ rfl
  have f3 : ∀ b ∈ fp, FpOk X pins (upd H2 D (.lst [])) b ∧ b < s3.heap.objs.size := fun b hb => by
    obtain ⟨o, e, _⟩ := T.obj _ _ st2 b hb
    have lt := Heap.lt_size e
    refine ⟨⟨?_, (f2 b hb).2⟩, by rw [p3, Heap.size_push]; exact Nat.lt_succ_of_lt lt⟩
    rw [upd_ne (by rw [← eD]; exact Nat.ne_of_lt lt)]
    exact (f2 b hb).1
  have st3 : tn 0 s3.heap := T.keep _ _ _ st2 fun b _ o e => by rw [p3]; exact Heap.get?_push_of_some _ e
  have I4 := block_start I3 ok hN f3
  generalize ecl : cellsFrom (s3.heap.objs.size + 1) scope.names (cloFrom X.env.cells scope.names []) = cl at I4 ⊢
  have pg := hg s3 (upd H2 D (.lst [])) s3.heap.objs.size cl fp
  have pe := he s3 (upd H2 D (.lst [])) s3.heap.objs.size cl fp
  have nf : ∀ b ∈ fp, (upd H2 D (.lst [])) b = none := fun b hb => (f3 b hb).1.1
  show codeAny _ _ (.compStart (.ListComp elt [⟨tg, iter, [], 0⟩] scope pos) 0 (.ref it) (.ref D) (compEnvC scope cl s3.heap.objs.size X.env)) (endX (model X.prog X.w) X.A X.xe (EP X pins σ Q) (.ref D) (compEnvC scope cl s3.heap.objs.size X.env)) { s3 with heap := pushCells (s3.heap.push { cls := .type "dict", data := .dict #[] }) scope.names }
  generalize ece : compEnvC scope cl s3.heap.objs.size X.env = ce at I4 pg pe ⊢
  have cL : ce.locals = s3.heap.objs.size := by subst ece; rfl
  have cF : ce.frame = X.env.frame := by subst ece; rfl
  generalize eH3 : upd H2 D (.lst []) = H3 at I3 I4 pg pe w0 nf f3
  generalize es4 : ({ s3 with heap := pushCells (s3.heap.push { cls := .type "dict", data := .dict #[] }) scope.names } : Shared) = s4 at I4 ⊢
  have st4 : tn 0 s4.heap := T.keep _ _ _ st3 fun b _ o e => by rw [← es4]; exact pushCells_keeps _ _ _ _ (Heap.get?_push_of_some _ e)
  generalize eY : X.blk s3 H3 scope ce fp = Y at I4 pg pe
  have Yi : ∀ {σ' : L2.St} {H' : Hp} {s' : Shared}, Inv Y [] σ' H' s' → (∀ b ∈ fp, H' b = none) → ∀ b ∈ fp, FpOk Y [] H' b := fun {σ' H' s'} I' hn b hb => by
    subst eY
    exact ⟨hn b hb, (I'.ok.exf b hb).1, I'.ok.exfs b hb, .inl hb, fun x c e => (I'.ok.exf b hb).2 x c e, fun p hp => absurd (show p ∈ ([] : List (Addr × Obj)) ++ [] from hp) (by simp)⟩
  -- what is raised in the block
  have out : ∀ {pb : List (Addr × Obj)} {σb : L2.St} {Hb : Hp} {sb s' : Shared} {u : Value}, Inv Y pb σb Hb sb → CX X.prog X.w X.stack Hb sb E u s' →
      notedBy (model X.prog X.w) X.A ce (fun e s'' => endX (model X.prog X.w) X.A X.xe (EP X pins σ Q) (.ref D) ce (.error e) s'') u s' := fun {pb σb Hb sb s' u} Ib c => by
    subst eY
    exact comp_out I3 hst hfr tk (fun b hb => (f3 b hb).1) cF cL Ib hEW c
  have Yp : Y.prog = X.prog ∧ Y.w = X.w ∧ Y.K = X.K ∧ Y.A = X.A ∧ Y.env = ce ∧ Y.stack = X.stack ∧ Y.xe = (fun _ _ => False) := by subst eY; exact ⟨rfl, rfl, rfl, rfl, rfl, rfl, rfl⟩
  have back : ∀ {H5 : Hp} {s6 : Shared}, Inv Y [] (wipe σ (own.map (·.2))) H5 s6 → Inv X pins σ H5 s6 ∧ H5 s3.heap.objs.size = none ∧ ∃ m, s6.heap.Ns ce.locals m := fun {H5 s6} I6 => by
    subst eY
    refine ⟨I3.call' (ch := fp) I6.os I6.base I6.hok I6.bare fun b hb => ?_, ?_, ?_⟩
    · obtain ⟨⟨_, z1, _, z3, z4, z5⟩, _⟩ := f3 b hb
      exact ⟨z3, z1, z4, z5⟩
    · have z : H5 ce.locals = none := I6.free
      rw [cL] at z; exact z
    · obtain ⟨m, hn, _⟩ := I6.loc
      exact ⟨m, hn⟩
  subst eY
  have loop : codeAny (model X.prog X.w) X.A (.compLoop (.ListComp elt [⟨tg, iter, [], 0⟩] scope pos) 0 (.ref it) (.ref D) ce) (endX (model X.prog X.w) X.A X.xe (EP X pins σ Q) (.ref D) ce) s4 := by
    refine compLoop_any (fun n s' => ∃ i H', Inv (X.blk s3 H3 scope ce fp) [] (wipe σ (own.map (·.2))) H' s' ∧ tn i s'.heap ∧ (∀ b ∈ fp, H' b = none) ∧ Wi i n H') (fun n s5 hI => ?_) m0 ⟨0, H3, I4, st4, nf, w0⟩
    obtain ⟨i, H5, I5, st5, n5, w5⟩ := hI
    rcases turn i n H5 w5 with ⟨stop, qq⟩ | ⟨go, Nx, hNx, step⟩
    · refine thnF (T.done (X.blk s3 H3 scope ce fp) rfl rfl rfl hc i [] s5 _ H5 (fun _ _ => False) I5 (Yi I5 n5) st5 stop) fun r s6 ⟨hr, I6⟩ => ?_
      subst hr
      obtain ⟨I7, nC, m, hn⟩ := back I6
      refine ⟨m, hn, fun h' sb => ?_⟩
      obtain ⟨c0, c1, c2, c3, c4, c5⟩ := I3.fpOk (Nat.le_refl _) nC
      rw [cL] at sb
      exact ⟨.ref D, H5, I7.turned (t' := s6.toks) (fun b o hb e => (sb.2 b hb).trans e) c0 c1 c3 c4 c5, rfl, qq⟩
    · refine thnF (T.item (X.blk s3 H3 scope ce fp) rfl rfl rfl hc i [] s5 _ H5 (fun _ _ => False) I5 (Yi I5 n5) st5 go) fun r s6 ⟨u, hr, h6⟩ => ?_
      subst hr
      refine thnF h6 fun _ s7 ⟨x, H7, I7, r7, y7, st7, n7⟩ => ?_
      have I7p := I7.pinned (Yi I7 n7) (T.obj _ _ st7)
      refine thnF (pg.run _ s7 _ H7 x u _ I7p r7 (step x H7 y7)) fun _ s8 ⟨σ8, H8, I8, w8, q8⟩ => wpAny_tests_nil ?_
      have q9 : te E σ8 H8 fun y H4 => ∃ acc, H4 D = some (.lst acc) ∧ acc.length < sizeLine ∧ Nx (upd H4 D (.lst (acc ++ [y]))) := q8
      rw [if_pos rfl]
      have pe1 := pe (fun u s' => ∃ pb σb Hb sb, Inv (X.blk s3 H3 scope ce fp) pb σb Hb sb ∧ CX X.prog X.w X.stack Hb sb E u s') E (fun pb σb Hb sb e s' Ib c => ⟨pb, σb, Hb, sb, unswapX Ib, c⟩)
      refine wpAny_mono (pe1.run _ s8 σ8 H8 _ (swapX _ I8) q9) (fun z s10 hz => ?_) (fun e s' hx => ?_)
      · obtain ⟨yv, H10, I10, r10, acc, d10, z10, nx⟩ := hz
        refine app_ok (X := X.blk s3 H3 scope ce fp) (unswapX I10) d10 z10 r10 fun s11 I11 => ?_
        obtain ⟨m', hm, w'⟩ := hNx _ nx
        have pin : ∀ b ∈ fp, ∀ o, s7.heap.get? b = some o → s11.heap.get? b = some o ∧ (upd H10 D (.lst (acc ++ [yv]))) b = none := fun b hb o e => by
          have z := I11.pin (b, o) (List.mem_append_right _ (List.mem_append_right _ (mem_pinsAt hb e)))
          exact ⟨z.1, z.2.1⟩
        refine ⟨m', hm, i + 1, _, (I11.unpinned (pins := [])).weak (by rw [← w8, wipe_length]) (fun j v e => ?_), T.keep _ _ _ st7 fun b hb o e => (pin b hb o e).1, fun b hb => ?_, w'⟩
        · rw [← w8] at e
          exact (wipe_some e).1
        · obtain ⟨o, e, _⟩ := T.obj _ _ st7 b hb
          exact (pin b hb o e).2
      · obtain ⟨pb, σb, Hb, sb, Ib, c⟩ := hx
        exact out Ib c
  exact codeAny_compStart_list loop (T.self X.A 0 _ _ _ st4 loop)
end
end Sip
namespace Sip
open PySem PySem.Spec PyProof.Rows L2 TL

section
variable {X : Cx}
/-- X(), X an own error class without an __init__ of its own -/
theorem pmk_own0 {C : Addr} {bmB : List Value} {B newId initId : String} {x : Str} {p pos : Pos} (F : ExcBaseFacts B newId initId bmB) (q : PySem.W.excIn X.K C bmB newId = true) (gC : X.mg x = some (.ref C)) (kC : PySem.W.keepIn X.K (.ref C) = true)
    (r : Raises X (.ref C)) (hg : Gl X x) (hdb : (x == ("__debug__" : Str)) = false := by decide) : PMk X (.Call (.Name x p) [] [] pos) (fun _ H Q => Q (.ref C) none H) := by
  intro pins s σ H Q I h
  refine wpAny_Call_Name_kw (ld_glob I hg gC (PySem.W.callWith_K0 I.kIn kC ?_) hdb)
  obtain ⟨bm, N, nm, qn, bs, hdct, sn, sub, ab, col, dd, k0, k1, k2, k3, k5, mN, hC, hN, hni, T⟩ := exc_obj I.kIn q
  exact wpAny_call_exc_subT (rest := []) F T hC hN hni (fun h' e hm => mk_of I hm r h (I.hok.gone hm.new)) (Nat.zero_le _)
/-- isinstance(e, c), e the caught error, whose class is to be shown -/
def rIsX (K : PySem.W.Frag) (D : Addr) (cls : Value) (d : Option Addr) (a : Addr) : List V → Hp → VK → Prop := fun xs H Q => cls = .ref D ∧ d = none ∧ rIsE K D a xs H Q
theorem call_isX {a D : Addr} {oe : Obj} {cls : Value} {d : Option Addr} {pn : List (Addr × Obj)} (C : ExcC X.K D) (hz : Zc cls d oe) (hf : ∃ vs, oe.data = .fields vs) : CallR (X.suite a ((a, oe) :: pn)) (.builtin "isinstance") (rIsX X.K D cls d a) := by
  intro pins s σ H xs us Q I r h
  obtain ⟨rfl, rfl, h⟩ := h
  exact call_isE C hz hf pins s σ H xs us Q I r h
end
/-- what the text's error classes are: C the one that is raised, S the one above it -/
structure Errs (K : PySem.W.Frag) (mg : Str → Option Value) (C S : Addr) : Prop where
  gP : mg "NoRow" = some (.ref C)
  gS : mg "SipError" = some (.ref S)
  xP : PySem.W.excIn K C [.type "ValueError", .type "Exception", .type "BaseException", .type "object"] "ValueError.__new__" = true
  kP : PySem.W.keepIn K (.ref C) = true
  bP : PySem.W.subIn K (.ref C) (.type "BaseException") = some true
  tP : PySem.W.typeIn K (.ref C) = some (.type "type")
  te : PySem.W.exmOne K (.ref C) (.ref C) = some true
  i1 : PySem.W.kitOne K (.ref C) (.ref S) = some true
  i2 : PySem.W.kitOne K (.ref C) (.type "ValueError") = some true
  ec : ExcC K C

/-! texts of plain signs -/
def Asc (z : Str) : Prop := ∀ c ∈ z.cps.toList, c < 128
theorem asc_append {a b : Str} (ha : Asc a) (hb : Asc b) : Asc (a ++ b) := fun c hc => by
  have e : (a ++ b).cps.toList = a.cps.toList ++ b.cps.toList := tl_append a b
  rw [e] at hc
  exact (List.mem_append.mp hc).elim (ha c) (hb c)
theorem asc_cut {z : Str} (h : Asc z) (lo hi : Option Int) : Asc (cutS z lo hi) := fun c hc => by
  have e : (cutS z lo hi).cps.toList = (z.cps.toList.drop (HT.sIx z.length 0 lo)).take (HT.sIx z.length z.length hi - HT.sIx z.length 0 lo) := rfl
  rw [e] at hc
  exact h c (List.mem_of_mem_drop (List.mem_of_mem_take hc))
theorem up_small : ∀ c : Fin 128, up1 c.val < 128 := by decide +kernel
theorem asc_upper {z : Str} (h : Asc z) : Asc (Txt.upper z) ∧ (Txt.upper z).length = z.length := by
  rw [upper_ascii h]
  refine ⟨fun c hc => ?_, ?_⟩
  · have e : (z.cps.map up1).toList = z.cps.toList.map up1 := Array.toList_map ..
    have hc : c ∈ (z.cps.map up1).toList := hc
    rw [e] at hc
    obtain ⟨b, hb, rfl⟩ := List.mem_map.mp hc
    exact up_small ⟨b, h b hb⟩
  · show (z.cps.map up1).size = z.cps.size
    exact Array.size_map ..
theorem len_append (a b : Str) : (a ++ b).length = a.length + b.length := strLen_append ..
theorem asc_one {c : Nat} (h : c < 128) : Asc ⟨#[c]⟩ := fun x hx => by
  have : x ∈ [c] := hx
  rw [List.mem_singleton.mp this]; exact h

/-! which texts are read, and to what -/
theorem find_fig : ∀ c : Fin 128, Txt.find FIG ⟨#[c.val]⟩ = if c.val ∈ figs then (wor c.val : Int) else -1 := by decide +kernel
theorem index_fig : ∀ c : Fin 128, c.val ∈ figs → Txt.index0 FIG ⟨#[c.val]⟩ = some (wor c.val) := by decide +kernel
def okT (cs : List Nat) : Prop := cs.length % 2 = 0 ∧ ∀ c ∈ cs, c ∈ figs
def rd (cs : List Nat) (i : Nat) : Int := 16 * (wor (cs.getD (2 * i) 0) : Int) + (wor (cs.getD (2 * i + 1) 0) : Int)
def rdL (cs : List Nat) : List Int := (List.range (cs.length / 2)).map (rd cs)
theorem rdL_length (cs : List Nat) : (rdL cs).length = cs.length / 2 := by
  unfold rdL; rw [List.length_map, List.length_range]
theorem rdL_get {cs : List Nat} {i : Nat} (h : i < cs.length / 2) : (rdL cs)[i]? = some (rd cs i) := by
  unfold rdL; rw [List.getElem?_map, List.getElem?_range h]; rfl
theorem get_at {cs : List Nat} {i : Nat} (h : i < cs.length) : atI cs (i : Int) = some (cs.getD i 0) ∧ cs.getD i 0 ∈ cs := by
  have e : cs.getD i 0 = cs[i] := by rw [List.getD_eq_getElem?_getD, List.getElem?_eq_getElem h]; rfl
  rw [e]
  exact ⟨atI_nat (List.getElem?_eq_getElem h), List.getElem_mem h⟩
theorem len_codes (z : Str) : z.length = z.cps.toList.length := by
  show z.cps.size = _
  exact (Array.length_toList ..).symm
def spWorthX (C : Addr) : Sp := fun vs H Q E => ∃ c : Nat, c < 128 ∧ vs = [.str ⟨#[c]⟩] ∧ (c ∈ figs → Q (.int (wor c : Nat)) H) ∧ (c ∉ figs → E (.ref C) none H)
def spReadX (C : Addr) : Sp := fun vs H Q E => ∃ z : Str, vs = [.str z] ∧ Asc z ∧ z.length ≤ 1000 ∧
  (okT z.cps.toList → ∀ (H' : Hp) (p : Addr), H p = none → H' p = some (.lst ((rdL z.cps.toList).map V.int)) → Same H H' → Q (.ref p) H') ∧ (¬ okT z.cps.toList → ∀ H' : Hp, Same H H' → E (.ref C) none H')
def spDueT : Sp := fun vs H Q _ => ∃ z : Str, vs = [.str z] ∧ Asc z ∧ z.length ≤ 1000 ∧
  (okT z.cps.toList → ∀ (H' : Hp) (p : Addr), H p = none → H' p = some (.lst ((rdL z.cps.toList).map V.int)) → Same H H' → Q (.ref p) H') ∧ (¬ okT z.cps.toList → ∀ H' : Hp, Same H H' → Q .non H')
/-- a text drawn from a pool -/
def spDraw : Sp := fun vs H Q _ => ∃ (p : Addr) (n : Int) (o : HO), vs = [.ref p] ∧ H p = some o ∧ PoolO n o ∧ n ≤ 900000000 ∧
  ∀ (H' : Hp) (z : Str) (o' : HO), H' p = some o' → PoolO (n + 100) o' → Kp [p] H H' → Asc z → z.length ≤ 60 → Q (.str z) H'
def spSign : Sp := fun vs H Q _ => ∃ (p : Addr) (n : Int) (o : HO), vs = [.ref p] ∧ H p = some o ∧ PoolO n o ∧ n ≤ 999999000 ∧
  ∀ (c : Nat) (o' : HO), c < 128 → PoolO (n + 1) o' → Q (.str ⟨#[c]⟩) (upd H p o')
def spSpoilt : Sp := fun vs H Q _ => ∃ (p : Addr) (n : Int) (o : HO) (z : Str), vs = [.ref p, .str z] ∧ H p = some o ∧ PoolO n o ∧ n ≤ 999990000 ∧ Asc z ∧ z.length ≤ 100 ∧
  ∀ (y : Str) (o' : HO), Asc y → y.length ≤ z.length + 1 → PoolO (n + 3) o' → Q (.str y) (upd H p o')
def spAskedT : Sp := fun vs H Q _ => ∃ z : Str, vs = [.str z] ∧ Asc z ∧ z.length ≤ 1000 ∧ ∀ H' : Hp, Same H H' → Q (.bl true) H'
def SIGNS : Str := Str.ofString " !\"#$&'()*+,-./0123456789:;<=>?@ABCDEFGHIJKLMNOPQRSTUVWXYZ[\\]^_`abcdefghijklmnopqrstuvwxyz{|}~"
theorem signs_asc : SIGNS.cps.toList.length = 94 ∧ ∀ c ∈ SIGNS.cps.toList, c < 128 := by decide +kernel
def GIF : Str := Str.ofString "fedcba9876543210"
theorem gif_asc : GIF.cps.toList.length = 16 ∧ ∀ c ∈ GIF.cps.toList, c < 128 := by decide +kernel
theorem fig_asc : FIG.cps.toList.length = 16 ∧ ∀ c ∈ FIG.cps.toList, c < 128 := by decide +kernel
theorem str_at {z : Str} {n : Nat} (hz : z.cps.toList.length = n ∧ ∀ c ∈ z.cps.toList, c < 128) {r : Int} (r0 : 0 ≤ r) (r1 : r < n) : ∃ c, c < 128 ∧ atI z.cps.toList r = some c := by
  obtain ⟨j, rfl⟩ := Int.eq_ofNat_of_zero_le r0
  obtain ⟨e, m⟩ := get_at (cs := z.cps.toList) (i := j) (by rw [hz.1]; omega)
  exact ⟨_, hz.2 _ m, e⟩
end Sip
namespace Sip
open PySem PySem.Spec PyProof.Rows L2 TL
theorem cut_codes (z : Str) (lo hi : Option Int) : (cutS z lo hi).length = ((z.cps.toList.drop (HT.sIx z.length 0 lo)).take (HT.sIx z.length z.length hi - HT.sIx z.length 0 lo)).length := by
  rw [len_codes]; rfl
theorem cut_len1 (z : Str) {k : Nat} (h : k ≤ z.length) : (cutS z none (some (k : Int))).length = k := by
  have lc := len_codes z
  rw [cut_codes, HT.sIx_none, HT.sIx_nat, List.length_take, List.length_drop]; omega
theorem cut_len2 (z : Str) {k : Nat} (h : k ≤ z.length) : (cutS z (some (k : Int)) none).length = z.length - k := by
  have lc := len_codes z
  rw [cut_codes, HT.sIx_none, HT.sIx_nat, List.length_take, List.length_drop]; omega
theorem cut_len3 (z : Str) {k : Nat} (h : k ≤ z.length) : (cutS z (some ((k : Nat) + 1 : Int)) none).length ≤ z.length - k := by
  have lc := len_codes z
  rw [show ((k : Nat) + 1 : Int) = ((k + 1 : Nat) : Int) by omega, cut_codes, HT.sIx_none, HT.sIx_nat, List.length_take, List.length_drop]; omega
end Sip
namespace Sip
open PySem PySem.Spec PyProof.Rows L2 TL
theorem all_figs {cs : List Nat} : ((cs.map fun c => decide (c ∈ figs)).all id) = true ↔ ∀ c ∈ cs, c ∈ figs := by
  rw [List.all_eq_true]
  constructor
  · intro h c hc
    exact of_decide_eq_true (h _ (List.mem_map.mpr ⟨c, hc, rfl⟩))
  · intro h x hx
    obtain ⟨c, hc, rfl⟩ := List.mem_map.mp hx
    exact decide_eq_true (h c hc)
end Sip
namespace Sip
open PySem PySem.Spec PyProof.Rows L2 TL
theorem asc_nil : Asc (Str.ofString "") := fun c hc => by
  have e : (Str.ofString "").cps.toList = [] := by decide +kernel
  rw [e] at hc; cases hc
end Sip
namespace Sip
open PySem PySem.Spec PyProof.Rows L2 TL
theorem kit_own {K : PySem.W.Frag} {C S : Addr} (h1 : PySem.W.isClsIn K S = true) (h2 : PySem.W.typeIn K (.ref S) = some (.type "type")) (h3 : PySem.W.subIn K (.ref C) (.ref S) = some true) : PySem.W.kitOne K (.ref C) (.ref S) = some true := by
  have a : ((PySem.W.clsIn K S).isSome && PySem.W.typeIn K (.ref S) == some (.type "type")) = true := by
    have h1' : (PySem.W.clsIn K S).isSome = true := h1
    rw [h1', h2]; rfl
  unfold PySem.W.kitOne PySem.W.kitCls
  split
  · rfl
  · exact (if_pos a).trans h3
theorem kit_bltn {K : PySem.W.Frag} {C : Addr} {T : String} (h1 : PySem.W.kitMeta T = true) (h3 : PySem.W.subIn K (.ref C) (.type T) = some true) : PySem.W.kitOne K (.ref C) (.type T) = some true := by
  unfold PySem.W.kitOne PySem.W.kitCls
  split
  · rfl
  · exact (if_pos h1).trans h3
end Sip
namespace Sip
open PySem PySem.Spec PyProof.Rows L2 TL

/-- a def of the text, whatever its defaults -/
structure FunA (K : PySem.W.Frag) (x qual : Str) (st : Stmt) (f : Addr) (fd : FuncData) : Prop where
  ex : ∃ (oc : Value) (od : Option Addr) (dV kV doc pm : Value) (an : Option Addr) (cdv ct : Value) (osl : Array (Option Value)),
    fd = PySem.W.fnOf x qual (defArgs st) (defBody st) (defScope st) dV kV doc pm an cdv ct ∧ K.lookup f = some ⟨oc, od, .func fd, osl⟩ ∧ PySem.W.codeIn K cdv qual = true
  kp : PySem.W.keepIn K (.ref f) = true
section
variable {P : Program} {w : World} {K : PySem.W.Frag} {mg : Str → Option Value} {base : Heap} {x qual : Str} {st : Stmt} {f : Addr} {fd : FuncData} {N ps : List Str} {k : Nat} {sp : Sp}
theorem FunA.ok (F : FunA K x qual st f fd) (S : FnScope N ps (defScope st)) (len : ∀ vs H Q E, sp vs H Q E → vs.length = ps.length)
    (hb : ∀ (cdv : Value) (A : Around) (outer : List Env) (s : Shared) (H : Hp) (vs : List V) (Q : VK) (E : XK), Room k (A.deeper (envOfC qual (defScope st) s.heap.objs.size f cdv)) → sp vs H Q E →
      ∃ t, PSs (cxOf CX0 P w K mg base N qual (defScope st) f cdv A outer s H E).nox (defBody st) t ∧ t { nx := fun _ H' => Q .non H', rt := Q } (start N vs) H) : FnOk P w K mg base CX0 (k + 1) f fd ps sp := by
  obtain ⟨oc, od, dV, kV, doc, pm, an, cdv, ct, osl, rfl, lk, hcd⟩ := F.ex
  refine fn_of lk hcd S len fun A outer s H vs Q E hr hsp => ?_
  obtain ⟨t, h, q⟩ := hb cdv A outer s H vs Q E hr hsp
  exact ⟨t, h.nox, q⟩
theorem FunA.okX (F : FunA K x qual st f fd) (S : FnScope N ps (defScope st)) (len : ∀ vs H Q E, sp vs H Q E → vs.length = ps.length)
    (hb : ∀ (cdv : Value) (A : Around) (outer : List Env) (s : Shared) (H : Hp) (vs : List V) (Q : VK) (E : XK), Room k (A.deeper (envOfC qual (defScope st) s.heap.objs.size f cdv)) → sp vs H Q E →
      ∃ t, PSs (cxOf (L2.CX P w) P w K mg base N qual (defScope st) f cdv A outer s H E) (defBody st) t ∧ t { nx := fun _ H' => Q .non H', rt := Q } (start N vs) H) : FnOk P w K mg base (L2.CX P w) (k + 1) f fd ps sp := by
  obtain ⟨oc, od, dV, kV, doc, pm, an, cdv, ct, osl, rfl, lk, hcd⟩ := F.ex
  exact fn_of lk hcd S len fun A outer s H vs Q E hr hsp => hb cdv A outer s H vs Q E hr hsp
end
/-- o.m(e, .., k = v, ..) -/
def tMethN (C : Addr) (m : Str) (n j : Nat) (sp : Sp) (gV : List V → List V → List V) (E : XK) (ta : TE) (t tk : TA) : TE := fun σ H Q => ta σ H fun x H1 =>
  ∃ a dx fs, x = .ref a ∧ H1 a = some (.ins C dx fs) ∧ fs.lookup m = none ∧ t σ H1 fun vs H2 => tk σ H2 fun zs H3 => vs.length = n ∧ zs.length = j ∧ sp (gV (x :: vs) zs) H3 Q E
section
variable {X : Cx} {CX : CXT} {k n : Nat} {f C : Addr} {fd : FuncData} {ps ks : List Str} {sp : Sp} {E : XK} {m : Str} {apos pos : Pos} {o e : Expr} {es : List Expr} {kws : List Keyword} {ta : TE} {t tk : TA} {g : List Value → List Value → List Value} {gV : List V → List V → List V}
theorem pe_methN {pl : Sem Bool} (he : PE X o ta) (c : Cls X.K C) (hm : Meth X.K C m f) (F : FnOk X.prog X.w X.K X.mg X.base CX k f fd ps sp) (hr : Room k X.A) (hb : KBn X.K fd ps (n + 1) ks g gV) (hx : Passes CX X E) (ha : PA X (e :: es) t) (hkw : PK X kws tk)
    (hall : (backToKw pos (keywordEach kws X.env)).all (·.1.isSome) = true := by rfl) (hks : (backToKw pos (keywordEach kws X.env)).filterMap (·.1) = ks := by rfl) (hst : starEach (e :: es) X.env = (false, eval e X.env) :: starEach es X.env := by rfl)
    (hpl : ((backTo pos (starEach (e :: es) X.env)).any (·.1) || (backToKw pos (keywordEach kws X.env)).any (·.1.isNone)) = false := by rfl)
    (ht : eval (.Call (.Attribute o m apos) (e :: es) kws pos) X.env = (do
      let ov ← eval o X.env
      standAt apos.atName
      let (f, first) ← holding [ov] (getMethod ov m pl)
      callWith pos f first (backTo pos (starEach (e :: es) X.env)) (backToKw pos (keywordEach kws X.env))) := by rfl) :
    PE X (.Call (.Attribute o m apos) (e :: es) kws pos) (tMethN C m n ks.length sp gV E ta t tk) := by
  refine ⟨fun pins s σ H Q I h => ?_⟩
  refine PySem.W.methodCall_KW (pl := pl) (thn (he.run pins s σ H _ I h) fun u s1 ⟨x, H1, I1, rx, a, dx, fs, ex, ea, l, q⟩ => ?_) ht
  subst ex
  obtain rfl : u = Value.ref a := rx
  refine getmeth_ok I1 ea c hm l ?_
  refine PySem.W.callWith_KW (first := [.ref a]) (h₀ := X.base) I.ok.mod.kin hm.kp hall (thn (ha.run pos pins s1 σ H1 _ I1 q) fun us s2 ⟨vs, H2, I2, r, q2⟩ => ?_) hpl hst
  refine thn (hkw.run pos pins s2 σ H2 _ I2 q2) fun ws s3 ⟨zs, H3, I3, rz, l1, l2, q3⟩ => ⟨I3.kIn, ?_⟩
  rw [hks]
  exact run_fnN (us := .ref a :: us) (vs := .ref a :: vs) F hr hb hx I3 (.cons rfl r) rz (by rw [List.length_cons, l1]) l2 q3
end
/-- fields by name -/
abbrev Fs := List (Str × V)
example (h c d : V) : putF ("cursor" : Str) d ([("held", h), ("cursor", c)] : Fs) = ([("held", h), ("cursor", d)] : Fs) := by kernel_rfl
example (h c d : V) : putF ("cursor" : Str) d ([("held", h)] : Fs) = ([("held", h), ("cursor", d)] : Fs) := by kernel_rfl
end Sip
namespace Sip
open PySem PySem.Spec PyProof.Rows L2 TL
/-- a def of the top, a method of a class -/
structure Dg (K : PySem.W.Frag) (mg : Str → Option Value) (x : Str) (st : Stmt) (f : Addr) (fd : FuncData) : Prop where
  F : FunA K x x st f fd
  g : mg x = some (.ref f)
structure Mf (K : PySem.W.Frag) (C : Addr) (x qual : Str) (st : Stmt) (f : Addr) (fd : FuncData) : Prop where
  F : FunA K x qual st f fd
  m : Meth K C x f
theorem funA_mk {K : PySem.W.Frag} {x qual : Str} {st : Stmt} {f : Addr} {oc : Value} {od an : Option Addr} {osl : Array (Option Value)} {dV kV doc pm cdv ct : Value} (l : K.lookup f = some ⟨oc, od, .func (PySem.W.fnOf x qual (defArgs st) (defBody st) (defScope st) dV kV doc pm an cdv ct), osl⟩)
    (c : PySem.W.codeIn K cdv qual = true) (k : PySem.W.keepIn K (.ref f) = true) : FunA K x qual st f (PySem.W.fnOf x qual (defArgs st) (defBody st) (defScope st) dV kV doc pm an cdv ct) := ⟨⟨oc, od, dV, kV, doc, pm, an, cdv, ct, osl, rfl, l, c⟩, k⟩
end Sip
namespace Sip
open PySem PySem.Spec PyProof.Rows L2 TL

abbrev Piece := Nat × List Int
/-! all pieces laid one behind another -/
def allF (r : List Int) (ps : List Piece) : List Int := ps.foldl (fun acc p => laidF acc p.1 p.2) r
def mostF (m : Nat) (ps : List Piece) : Nat := ps.foldl (fun m p => if 0 < p.2.length then max m (p.1 + p.2.length) else m) m
def stepB (k : Nat) (b : Int) (p : Piece) : Int := if p.1 ≤ k ∧ k < p.1 + p.2.length then p.2.getD (k - p.1) 0 else b
def byteF (b : Int) (k : Nat) (ps : List Piece) : Int := ps.foldl (stepB k) b
theorem laidF_len (r : List Int) (p : Piece) : (laidF r p.1 p.2).length = if 0 < p.2.length then max r.length (p.1 + p.2.length) else r.length := by
  by_cases h : p.2 = []
  · rw [h, laidF_nil]; rfl
  · rw [laidF_length h, if_pos (List.length_pos_iff.mpr h)]
theorem laidF_byte (r : List Int) (p : Piece) (k : Nat) : (laidF r p.1 p.2)[k]?.getD 0 = stepB k (r[k]?.getD 0) p := by
  unfold stepB
  by_cases h : p.2 = []
  · rw [h, laidF_nil, if_neg (by simp)]
  · rw [laidF_getD h, List.getD_eq_getElem?_getD, List.getD_eq_getElem?_getD]
theorem allF_len : ∀ (ps : List Piece) (r : List Int), (allF r ps).length = mostF r.length ps
  | [], _ => rfl
  | p :: q, r => by
    show (allF (laidF r p.1 p.2) q).length = mostF (if 0 < p.2.length then max r.length (p.1 + p.2.length) else r.length) q
    rw [allF_len q, laidF_len]
theorem allF_byte : ∀ (ps : List Piece) (r : List Int) (k : Nat), (allF r ps)[k]?.getD 0 = byteF (r[k]?.getD 0) k ps
  | [], _, _ => rfl
  | p :: q, r, k => by
    show (allF (laidF r p.1 p.2) q)[k]?.getD 0 = byteF (stepB k (r[k]?.getD 0) p) k q
    rw [allF_byte q, laidF_byte]
theorem allF_append (r : List Int) (a b : List Piece) : allF r (a ++ b) = allF (allF r a) b := List.foldl_append
/-- a piece in two parts -/
theorem laidF_parts (r : List Int) (n c : Nat) (d : List Int) (h : c ≤ d.length) : laidF (laidF r n (d.take c)) (n + c) (d.drop c) = laidF r n d := by
  have l1 := laidF_len r (n, d.take c)
  have l2 := laidF_len (laidF r n (d.take c)) (n + c, d.drop c)
  have l3 := laidF_len r (n, d)
  simp only [List.length_take, List.length_drop] at l1 l2 l3
  refine ext_getD ?_ fun k hk => ?_
  · rw [l2, l3, l1]
    split <;> split <;> split <;> omega
  · rw [laidF_byte _ (n + c, d.drop c), laidF_byte r (n, d.take c), laidF_byte r (n, d)]
    unfold stepB
    simp only [List.length_take, List.length_drop, List.getD_eq_getElem?_getD, List.getElem?_drop]
    by_cases h1 : n + c ≤ k ∧ k < n + c + (d.length - c)
    · rw [if_pos h1, if_pos (by omega)]
      congr 2
      omega
    · rw [if_neg h1]
      by_cases h2 : n ≤ k ∧ k < n + min c d.length
      · rw [if_pos h2, if_pos (by omega), List.getElem?_take_of_lt (by omega)]
      · rw [if_neg h2, if_neg (by omega)]
theorem allF_parts (r : List Int) (a b : List Piece) (n c : Nat) (d : List Int) (h : c ≤ d.length) :
    allF r (a ++ [(n, d.take c), (n + c, d.drop c)] ++ b) = allF r (a ++ [(n, d)] ++ b) := by
  rw [allF_append, allF_append, allF_append, allF_append]
  show allF (laidF (laidF (allF r a) n (d.take c)) (n + c) (d.drop c)) b = allF (laidF (allF r a) n d) b
  rw [laidF_parts _ _ _ _ h]
def Small (p : Piece) : Prop := p.1 ≤ 340 ∧ p.2.length ≤ 400 ∧ Bytes p.2
theorem bytes_getD {bs : List Int} (h : Bytes bs) (k : Nat) : 0 ≤ bs[k]?.getD 0 ∧ bs[k]?.getD 0 ≤ 255 := by
  cases e : bs[k]? with
  | none => exact ⟨by decide, by decide⟩
  | some b =>
    obtain ⟨hk, rfl⟩ := List.getElem?_eq_some_iff.mp e
    exact h _ (List.getElem_mem hk)
theorem bytes_of {bs : List Int} (h : ∀ k, k < bs.length → 0 ≤ bs[k]?.getD 0 ∧ bs[k]?.getD 0 ≤ 255) : Bytes bs := fun b hb => by
  obtain ⟨k, hk, rfl⟩ := List.getElem_of_mem hb
  have := h k hk
  rw [List.getElem?_eq_getElem hk] at this
  exact this
theorem laid_bytes {r : List Int} {p : Piece} (hr : Bytes r) (hp : Bytes p.2) : Bytes (laidF r p.1 p.2) := bytes_of fun k _ => by
  rw [laidF_byte]
  unfold stepB
  split
  · rw [List.getD_eq_getElem?_getD]; exact bytes_getD hp _
  · exact bytes_getD hr k
theorem allF_good : ∀ (ps : List Piece) (r : List Int), Bytes r → r.length ≤ 740 → (∀ p ∈ ps, Small p) → Bytes (allF r ps) ∧ (allF r ps).length ≤ 740
  | [], r, hb, hl, _ => ⟨hb, hl⟩
  | p :: q, r, hb, hl, hp => by
    have h1 := hp p (List.mem_cons_self ..)
    refine allF_good q (laidF r p.1 p.2) (laid_bytes hb h1.2.2) ?_ (fun z hz => hp z (List.mem_cons_of_mem _ hz))
    exact laidF_le ⟨hl, by have := h1.1; have := h1.2.1; omega⟩

/-! pieces in the heap -/
def PieceAt (H : Hp) (v : V) (p : Piece) : Prop := ∃ T D : Addr, v = .ref T ∧ H T = some (.tup [.int (p.1 : Nat), .ref D]) ∧ H D = some (.lst (p.2.map V.int))
def Pieces (H : Hp) (vs : List V) (ps : List Piece) : Prop := vs.length = ps.length ∧ ∀ (i : Nat) (v : V) (p : Piece), vs[i]? = some v → ps[i]? = some p → PieceAt H v p
theorem PieceAt.mono {H H' : Hp} {v : V} {p : Piece} (s : Same H H') (h : PieceAt H v p) : PieceAt H' v p := by
  obtain ⟨T, D, e, h1, h2⟩ := h
  exact ⟨T, D, e, s _ _ h1, s _ _ h2⟩
theorem Pieces.mono {H H' : Hp} {vs : List V} {ps : List Piece} (s : Same H H') (h : Pieces H vs ps) : Pieces H' vs ps :=
  ⟨h.1, fun i v p a b => (h.2 i v p a b).mono s⟩
theorem Pieces.at {H : Hp} {vs : List V} {ps : List Piece} {i : Nat} {v : V} (h : Pieces H vs ps) (e : vs[i]? = some v) : ∃ hi : i < ps.length, PieceAt H v ps[i] := by
  have hi : i < ps.length := by
    have := (List.getElem?_eq_some_iff.mp e).1
    rw [h.1] at this; exact this
  exact ⟨hi, h.2 i v _ e (List.getElem?_eq_getElem hi)⟩
theorem Pieces.nil {H : Hp} : Pieces H [] [] := ⟨rfl, fun i v p a => by simp at a⟩
theorem Pieces.append {H : Hp} {vs us : List V} {ps qs : List Piece} (h : Pieces H vs ps) (k : Pieces H us qs) : Pieces H (vs ++ us) (ps ++ qs) := by
  refine ⟨by rw [List.length_append, List.length_append, h.1, k.1], fun i v p a b => ?_⟩
  by_cases hi : i < vs.length
  · rw [List.getElem?_append_left hi] at a
    rw [List.getElem?_append_left (by rw [← h.1]; exact hi)] at b
    exact h.2 i v p a b
  · rw [List.getElem?_append_right (by omega)] at a
    rw [List.getElem?_append_right (by rw [← h.1]; omega), ← h.1] at b
    exact k.2 _ v p a b
theorem Pieces.one {H : Hp} {v : V} {p : Piece} (h : PieceAt H v p) : Pieces H [v] [p] := ⟨rfl, fun i w q a b => by
  cases i with
  | zero =>
    have e1 : v = w := Option.some.inj a
    have e2 : p = q := Option.some.inj b
    rw [← e1, ← e2]; exact h
  | succ i => simp at a⟩
theorem Pieces.take {H : Hp} {vs : List V} {ps : List Piece} (h : Pieces H vs ps) (n : Nat) : Pieces H (vs.take n) (ps.take n) := by
  refine ⟨by rw [List.length_take, List.length_take, h.1], fun i v p a b => ?_⟩
  have hi : i < n := by
    have := (List.getElem?_eq_some_iff.mp a).1
    rw [List.length_take] at this; omega
  rw [List.getElem?_take_of_lt hi] at a b
  exact h.2 i v p a b
theorem Pieces.drop {H : Hp} {vs : List V} {ps : List Piece} (h : Pieces H vs ps) (n : Nat) : Pieces H (vs.drop n) (ps.drop n) := by
  refine ⟨by rw [List.length_drop, List.length_drop, h.1], fun i v p a b => ?_⟩
  rw [List.getElem?_drop] at a b
  exact h.2 _ v p a b
theorem cut_to (xs : List V) (n : Nat) (h : n ≤ xs.length) : cutV xs none (some (n : Int)) = xs.take n := by
  unfold cutV
  rw [HT.sIx_none, HT.sIx_nat, Nat.min_eq_left h]; rfl
theorem cut_from (xs : List V) (n : Nat) (h : n ≤ xs.length) : cutV xs (some (n : Int)) none = xs.drop n := by
  unfold cutV
  rw [HT.sIx_none, HT.sIx_nat, Nat.min_eq_left h]
  exact List.take_of_length_le (by rw [List.length_drop]; omega)
theorem split_at {α : Type} {ps : List α} {i : Nat} (hi : i < ps.length) : ps.take i ++ [ps[i]] ++ ps.drop (i + 1) = ps := by
  rw [List.append_assoc]
  show ps.take i ++ (ps[i] :: ps.drop (i + 1)) = ps
  rw [List.getElem_cons_drop, List.take_append_drop]
theorem foldl_next {α β : Type} (f : β → α → β) (b : β) (xs : List α) (i : Nat) (hi : i < xs.length) : (xs.take (i + 1)).foldl f b = f ((xs.take i).foldl f b) xs[i] := by
  rw [List.take_add_one, List.getElem?_eq_getElem hi, List.foldl_append]; rfl

def spBytesM (K : PySem.W.Frag) : Sp := fun vs H Q _ => ∃ (p m : Addr) (n : Int) (o : HO) (ms : List Int), vs = [.ref p, .ref m] ∧ H p = some o ∧ PoolO n o ∧ n ≤ 900000000 ∧ SqL K H m (ms.map V.int) ∧ p ≠ m ∧ ms ≠ [] ∧ ms.length ≤ 100 ∧ (∀ z ∈ ms, 0 ≤ z ∧ z ≤ 400) ∧
  ∀ (H' : Hp) (q : Addr) (bs : List Int) (o' : HO), H q = none → H' q = some (.lst (bs.map V.int)) → H' p = some o' → PoolO (n + 1000) o' → Kp [p] H H' → (∃ z ∈ ms, (bs.length : Int) = z) → Bytes bs → Q (.ref q) H'
def spDueP (K : PySem.W.Frag) : Sp := fun vs H Q _ => ∃ (a b : Addr) (r : List Int) (us : List V) (ps : List Piece), vs = [.ref a, .ref b] ∧ SqL K H a (r.map V.int) ∧ SqL K H b us ∧ Pieces H us ps ∧ r.length ≤ 740 ∧ Bytes r ∧ (∀ p ∈ ps, Small p) ∧ ps.length ≤ 100 ∧
  ∀ (H' : Hp) (q : Addr), H q = none → H' q = some (.lst ((allF r ps).map V.int)) → Same H H' → Q (.ref q) H'
/-! what stands apart from some places -/
def mask (qs : List Addr) (H : Hp) : Hp := fun b => if b ∈ qs then none else H b
theorem mask_le (qs : List Addr) (H : Hp) : Same (mask qs H) H := fun b o e => by
  unfold mask at e
  split at e
  · cases e
  · exact e
theorem mask_upd {qs : List Addr} {H : Hp} {q : Addr} {o : HO} (h : q ∈ qs) : mask qs (upd H q o) = mask qs H := by
  funext b
  unfold mask
  split
  · rfl
  · next n =>
    have : b ≠ q := fun z => n (by rw [z]; exact h)
    rw [upd_ne this]
theorem mask_kp {qs : List Addr} {H H' : Hp} (k : Kp qs H H') : Same (mask qs H) (mask qs H') := fun b o e => by
  unfold mask at e ⊢
  split at e
  · cases e
  · next n => rw [if_neg n]; exact k b o n e
theorem mask_at {qs : List Addr} {H : Hp} {b : Addr} (h : b ∉ qs) : mask qs H b = H b := if_neg h
theorem Kp.sub {ps qs : List Addr} {H H' : Hp} (k : Kp ps H H') (h : ∀ x ∈ ps, x ∈ qs ∨ H x = none) : Kp qs H H' := fun b o n e => by
  refine k b o (fun z => ?_) e
  rcases h b z with h | h
  · exact n h
  · rw [h] at e; cases e
def Tiny (p : Piece) : Prop := p.1 ≤ 299 ∧ p.2.length ≤ 40 ∧ Bytes p.2
theorem Tiny.small {p : Piece} (h : Tiny p) : Small p := ⟨by have := h.1; omega, by have := h.2.1; omega, h.2.2⟩
end Sip
namespace Sip
open PySem PySem.Spec PyProof.Rows L2 TL

/-! an object with all that is its own (F): what a call may change -/
def Step (F : Addr → Prop) (H : Hp) (F' : Addr → Prop) (H' : Hp) : Prop := (∀ b o, ¬ F b → H b = some o → H' b = some o) ∧ ∀ b, F' b → F b ∨ H b = none
theorem Step.keep {F F' : Addr → Prop} {H H' : Hp} {b : Addr} {o : HO} (s : Step F H F' H') (n : ¬ F b) (e : H b = some o) : H' b = some o ∧ ¬ F' b :=
  ⟨s.1 b o n e, fun z => (s.2 b z).elim n fun q => by rw [q] at e; cases e⟩
/-- own objects made since H0 alone -/
theorem Step.since {F F' : Addr → Prop} {H0 H H' : Hp} (s : Step F H F' H') (a : Same H0 H) (n : ∀ b, F b → H0 b = none) : Same H0 H' ∧ ∀ b, F' b → H0 b = none := by
  refine ⟨fun b o e => s.1 b o (fun z => by rw [n b z] at e; cases e) (a b o e), fun b z => ?_⟩
  rcases s.2 b z with q | q
  · exact n b q
  · exact a.free q
theorem Step.of {F : Addr → Prop} {H H' : Hp} (s : Same H H') : Step F H F H' := ⟨fun b o _ e => s b o e, fun b z => .inl z⟩
theorem Step.trans {F F' F2 : Addr → Prop} {H H' H2 : Hp} (a : Step F H F' H') (b : Step F' H' F2 H2) : Step F H F2 H2 := by
  refine ⟨fun x o n e => b.1 x o (a.keep n e).2 (a.keep n e).1, fun x z => ?_⟩
  rcases b.2 x z with q | q
  · exact a.2 x q
  · by_cases f : F x
    · exact .inl f
    · cases e : H x with
      | none => exact .inr rfl
      | some o => rw [a.1 x o f e] at q; cases q

/-- a plain file in the heap, however it keeps its row: heap, address, what is its own, row, cursor -/
abbrev PP := Hp → Addr → (Addr → Prop) → List Int → Nat → Prop
structure IsPlain (C : Addr) (PA : PP) : Prop where
  loc : ∀ {H H' : Hp} {p : Addr} {F : Addr → Prop} {r : List Int} {c : Nat}, PA H p F r c → (∀ b o, F b → H b = some o → H' b = some o) → PA H' p F r c
  own : ∀ {H : Hp} {p : Addr} {F : Addr → Prop} {r : List Int} {c : Nat}, PA H p F r c → ∀ b, F b → ∃ o, H b = some o
  ins : ∀ {H : Hp} {p : Addr} {F : Addr → Prop} {r : List Int} {c : Nat}, PA H p F r c → ∃ dx fs, H p = some (.ins C dx fs) ∧ ∀ m ∈ (["read", "read_some", "peek", "readline", "write", "seek", "tell", "size", "row", "cut"] : List Str), fs.lookup m = none
theorem IsPlain.same {C : Addr} {PA : PP} (I : IsPlain C PA) {H H' : Hp} {p : Addr} {F : Addr → Prop} {r : List Int} {c : Nat} (h : PA H p F r c) (s : Same H H') : PA H' p F r c := I.loc h fun b o _ e => s b o e
theorem IsPlain.kp {C : Addr} {PA : PP} (I : IsPlain C PA) {H H' : Hp} {qs : List Addr} {p : Addr} {F : Addr → Prop} {r : List Int} {c : Nat} (h : PA H p F r c) (k : Kp qs H H') (n : ∀ q ∈ qs, ¬ F q) : PA H' p F r c :=
  I.loc h fun b o f e => k b o (fun z => n b z f) e
theorem IsPlain.new {C : Addr} {PA : PP} (I : IsPlain C PA) {H : Hp} {q p : Addr} {F : Addr → Prop} {r : List Int} {c : Nat} (h : PA H p F r c) (n : H q = none) : ¬ F q := fun f => by
  obtain ⟨o, e⟩ := I.own h q f
  rw [n] at e; cases e

def spPInit (K : PySem.W.Frag) (C : Addr) (PA : PP) : Sp := fun vs H Q _ => ∃ (p a dx : Addr) (r : List Int) (c : Nat), vs = [.ref p, .ref a, .int c] ∧ H p = some (.ins C dx []) ∧ H dx = some (.own p) ∧ SqL K H a (r.map V.int) ∧ p ≠ a ∧ r.length ≤ 400 ∧ c ≤ 4000 ∧
  ∀ (H' : Hp) (F' : Addr → Prop), PA H' p F' r c → Step (fun b => b = p ∨ b = dx) H F' H' → Q .non H'
def spPTell (PA : PP) : Sp := fun vs H Q _ => ∃ (p : Addr) (F : Addr → Prop) (r : List Int) (c : Nat), vs = [.ref p] ∧ PA H p F r c ∧ Q (.int c) H
def spPSize (PA : PP) : Sp := fun vs H Q _ => ∃ (p : Addr) (F : Addr → Prop) (r : List Int) (c : Nat), vs = [.ref p] ∧ PA H p F r c ∧ Q (.int r.length) H
def spPRow (PA : PP) : Sp := fun vs H Q _ => ∃ (p : Addr) (F : Addr → Prop) (r : List Int) (c : Nat), vs = [.ref p] ∧ PA H p F r c ∧ ∀ (H' : Hp) (q : Addr), H q = none → H' q = some (.lst (r.map V.int)) → Same H H' → Q (.ref q) H'
def spPSeek (PA : PP) : Sp := fun vs H Q _ => ∃ (p : Addr) (F : Addr → Prop) (r : List Int) (c g : Nat) (pl : Int) (st : Str), vs = [.ref p, .int pl, .str st] ∧ PA H p F r c ∧
  ((st = Str.ofString "head" ∧ (g : Int) = pl) ∨ (st = Str.ofString "here" ∧ (g : Int) = c + pl) ∨ (st = Str.ofString "tail" ∧ (g : Int) = r.length + pl)) ∧ g ≤ 4000 ∧ ∀ (H' : Hp) (F' : Addr → Prop), PA H' p F' r g → Step F H F' H' → Q (.int g) H'
def spPCut (PA : PP) : Sp := fun vs H Q _ => ∃ (p : Addr) (F : Addr → Prop) (r : List Int) (c g : Nat) (v : V), vs = [.ref p, v] ∧ PA H p F r c ∧ ((v = .non ∧ g = c) ∨ v = .int g) ∧ g ≤ 4000 ∧ ∀ (H' : Hp) (F' : Addr → Prop), PA H' p F' (r.take g) c → Step F H F' H' → Q .non H'
def spPWrite (PA : PP) : Sp := fun vs H Q _ => ∃ (p b : Addr) (F : Addr → Prop) (r : List Int) (c : Nat) (d : List Int), vs = [.ref p, .ref b] ∧ PA H p F r c ∧ ¬ F b ∧ H b = some (.lst (d.map V.int)) ∧ Bytes d ∧ r.length ≤ 4000 ∧ c ≤ 4000 ∧ d.length ≤ 400 ∧ (laidF r c d).length ≤ 4000 ∧
  ∀ (H' : Hp) (F' : Addr → Prop), PA H' p F' (laidF r c d) (c + d.length) → Step F H F' H' → Q (.int d.length) H'
/-- a place drawn for a row of n bytes -/
def spGoal (K : PySem.W.Frag) : Sp := fun vs H Q _ => ∃ (p x : Addr) (n : Int) (o : HO) (r : List Int), vs = [.ref p, .ref x] ∧ H p = some o ∧ PoolO n o ∧ n ≤ 900000000 ∧ SqL K H x (r.map V.int) ∧ p ≠ x ∧ r.length ≤ 5000 ∧
  ∀ (H' : Hp) (g : Nat) (o' : HO), g ≤ max (r.length + 20) 4000 → H' p = some o' → PoolO (n + 4) o' → Kp [p] H H' → Q (.int g) H'
def spSought (K : PySem.W.Frag) (PA : PP) : Sp := fun vs H Q _ => ∃ (p x : Addr) (F : Addr → Prop) (r : List Int) (c g : Nat) (way : Int), vs = [.ref p, .int way, .int g, .ref x, .int c] ∧ 0 ≤ way ∧ way ≤ 3 ∧ PA H p F r c ∧ SqL K H x (r.map V.int) ∧ g ≤ 4000 ∧
  ∀ (H' : Hp) (F' : Addr → Prop), PA H' p F' r g → Step F H F' H' → Q (.int g) H'
def spCutL (PA : PP) : Sp := fun vs H Q _ => ∃ (p : Addr) (F : Addr → Prop) (r : List Int) (c g : Nat) (way : Int), vs = [.ref p, .int way, .int g] ∧ 0 ≤ way ∧ way ≤ 2 ∧ (way < 2 → g = c) ∧ PA H p F r c ∧ g ≤ 4000 ∧
  ∀ (H' : Hp) (F' : Addr → Prop), PA H' p F' (r.take g) c → Step F H F' H' → Q .non H'
theorem take_cut (r : List Int) (g : Nat) : cutV (r.map V.int) none (some (g : Int)) = (r.take g).map V.int := by
  unfold cutV
  rw [HT.sIx_none, HT.sIx_nat, List.length_map, List.map_take]
  show (r.map V.int).take (min g r.length - 0) = _
  by_cases h : g ≤ r.length
  · rw [Nat.min_eq_left h]; rfl
  · rw [Nat.min_eq_right (by omega), List.take_of_length_le (by rw [List.length_map]; omega), List.take_of_length_le (by rw [List.length_map]; omega)]
theorem drop_cut (r : List Int) (g : Nat) : cutV (r.map V.int) (some (g : Int)) none = (r.drop g).map V.int := by
  unfold cutV
  rw [HT.sIx_none, HT.sIx_nat, List.length_map, List.map_drop]
  by_cases h : g ≤ r.length
  · rw [Nat.min_eq_left h]
    exact List.take_of_length_le (by rw [List.length_drop, List.length_map]; omega)
  · rw [Nat.min_eq_right (by omega), List.drop_of_length_le (by rw [List.length_map]; omega), List.drop_of_length_le (l := r.map V.int) (by rw [List.length_map]; omega)]
    simp
/-- one byte laid over by hand -/
theorem laid_one (r : List Int) (c : Nat) (v : Int) : (r ++ List.replicate (c - r.length) 0).take c ++ [v] ++ r.drop (c + 1) = laidF r c [v] := by
  rw [laidF_cons (by simp)]
  congr 1
  by_cases h : c + 1 ≤ r.length
  · rw [show c - r.length = 0 by omega]; simp
  · rw [List.drop_of_length_le (l := r) (by omega), List.drop_of_length_le]
    rw [List.length_append, List.length_replicate]
    show _ ≤ c + 1
    omega
end Sip
namespace Sip
open PySem PySem.Spec PyProof.Rows L2 TL
/-! a heap by name: what was made, what was written -/
theorem updG {H H' : Hp} {q : Addr} {o : HO} (g : upd H q o = H') (n : H q = none) : H' q = some o ∧ Same H H' := by
  subst g; exact ⟨upd_same, (Kp.new (ps := []) n).same⟩
theorem updK {H H' : Hp} {q : Addr} {o : HO} (g : upd H q o = H') : H' q = some o ∧ Kp [q] H H' := by
  subst g; exact ⟨upd_same, Kp.at (by simp)⟩
theorem neN {H : Hp} {p x : Addr} {o : HO} (n : H p = none) (e : H x = some o) : x ≠ p := ne_of_none e n
theorem neM {H : Hp} {p x : Addr} {o : HO} (n : H x = none) (e : H p = some o) : x ≠ p := (ne_of_none e n).symm
theorem kp1 {H H' : Hp} {p x : Addr} {o : HO} (k : Kp [p] H H') (n : x ≠ p) (e : H x = some o) : H' x = some o := k x o (by simpa using n) e
theorem sm1 {H H' : Hp} {x : Addr} {o : HO} (k : Same H H') (e : H x = some o) : H' x = some o := k x o e
theorem sqS {K : PySem.W.Frag} {H H' : Hp} {a : Addr} {l : List V} (s : Same H H') (h : SqL K H a l) : SqL K H' a l := s.seq h
theorem sqK {K : PySem.W.Frag} {H H' : Hp} {p a : Addr} {l : List V} (s : Kp [p] H H') (n : a ≠ p) (h : SqL K H a l) : SqL K H' a l := s.seq (by simpa using n) h
end Sip
namespace Sip
open PySem PySem.Spec PyProof.Rows L2 TL
theorem mapI_nil : ([] : List V) = List.map V.int [] := rfl
theorem mapI_cons {a : Int} {l : List V} {ms : List Int} (h : l = List.map V.int ms) : V.int a :: l = List.map V.int (a :: ms) := by rw [h]; rfl
theorem sq_lit {K : PySem.W.Frag} {H : Hp} {m : Addr} {l : List V} {ms : List Int} (h : H m = some (.lst l)) (e : l = ms.map V.int) : SqL K H m (ms.map V.int) := by rw [← e]; exact sq_at h
theorem hp_lit {H : Hp} {m : Addr} {l : List V} {ms : List Int} (h : H m = some (.lst l)) (e : l = ms.map V.int) : H m = some (.lst (ms.map V.int)) := by rw [← e]; exact h
end Sip
namespace Sip
open PySem PySem.Spec PyProof.Rows L2 TL
theorem iteFc {b : Bool} {A B : Prop} (e : b = false) (h : B) : if b = true then A else B := by subst e; exact iteF h
theorem iteTc {b : Bool} {A B : Prop} (e : b = true) (h : A) : if b = true then A else B := by subst e; exact iteT h
theorem free1 {H H' : Hp} {l : Addr} (h : H' l = none) (e : Same H H') : H l = none := e.free h
theorem same_tr {H H1 H2 : Hp} (b : Same H1 H2) (a : Same H H1) : Same H H2 := a.trans b
theorem step_sm {H H1 H2 : Hp} {p : Addr} (k : Kp [p] H1 H2) (n : H p = none) (s : Same H H1) : Same H H2 := step_same s n k
end Sip
namespace Sip
open PySem PySem.Spec PyProof.Rows L2 TL
theorem upd_get {H : Hp} {a b : Addr} {o u : HO} (n : b ≠ a) (e : H b = some u) : upd H a o b = some u := by rw [upd_ne n]; exact e
end Sip
namespace Sip
open PySem PySem.Spec PyProof.Rows L2 TL
/-- an object made: the older ones stay, and are not its own -/
theorem made_new {H H5 : Hp} {f dx : Addr} {o1 o2 : HO} {F : Addr → Prop} (st : Step (fun b => b = f ∨ b = dx) (upd (upd H dx o2) f o1) F H5) (nf : H f = none) (nd : H dx = none) : Same H H5 ∧ ∀ b o, H b = some o → ¬ F b := by
  have k : ∀ b o, H b = some o → H5 b = some o ∧ ¬ F b := fun b o e => by
    have bf : b ≠ f := ne_of_none e nf
    have bd : b ≠ dx := ne_of_none e nd
    exact st.keep (fun z => z.elim bf bd) (by rw [upd_ne bf, upd_ne bd]; exact e)
  exact ⟨fun b o e => (k b o e).1, fun b o e => (k b o e).2⟩
end Sip
namespace Sip
open PySem PySem.Spec PyProof.Rows L2 TL
theorem sqA {K : PySem.W.Frag} {H H' : Hp} {a : Addr} {l : List V} (h : SqL K H a l) (s : Same H H') : SqL K H' a l := s.seq h
end Sip
namespace Sip
open PySem PySem.Spec PyProof.Rows L2 TL
theorem sqB {K K' : PySem.W.Frag} {H H' : Hp} {a : Addr} {l : List V} (h : SqL K H a l) (s : Same H H') (e : K = K') : SqL K' H' a l := e ▸ s.seq h
end Sip
namespace Sip
open PySem PySem.Spec PyProof.Rows L2 TL
/-- what may be found by the way (no word over a frame) -/
class Wit (α : Type) : Prop where
  ok : True
instance : Wit V := ⟨trivial⟩
instance : Wit Int := ⟨trivial⟩
instance : Wit Nat := ⟨trivial⟩
instance : Wit Bool := ⟨trivial⟩
instance : Wit HO := ⟨trivial⟩
instance : Wit Str := ⟨trivial⟩
instance : Wit Value := ⟨trivial⟩
instance : Wit (Addr → Prop) := ⟨trivial⟩
instance {α β : Type} [Wit α] [Wit β] : Wit (α × β) := ⟨trivial⟩
instance {α : Type} [Wit α] : Wit (Option α) := ⟨trivial⟩
instance {α : Type} [Wit α] : Wit (List α) := ⟨trivial⟩
theorem exI {α : Type} [Wit α] {p : α → Prop} (a : α) (h : p a) : ∃ x, p x := ⟨a, h⟩
end Sip
namespace Sip
open PySem PySem.Spec PyProof.Rows L2 TL
theorem isi_ii {K : PySem.W.Frag} {v : Int} {H : Hp} {Q : VK} (h : Q (.bl true) H) : rIsi K [.int v, .ty "int"] H Q := ⟨.int v, .ty "int", _, _, true, rfl, .ty "int", .base (.int v), kit_ty (by decide +kernel), h⟩
theorem isi_ib {K : PySem.W.Frag} {v : Int} {H : Hp} {Q : VK} (h : Q (.bl false) H) : rIsi K [.int v, .ty "bool"] H Q := ⟨.int v, .ty "bool", _, _, false, rfl, .ty "bool", .base (.int v), kit_ty (by decide +kernel), h⟩
end Sip
namespace Sip
open PySem PySem.Spec PyProof.Rows L2

/-! del xs[lo:hi] -/
def delL {α : Type} (xs : List α) (a c : Nat) : List α := xs.take a ++ xs.drop (max a c)
theorem sel_filter {α : Type} (sel : Nat → Bool) (a c : Nat) (h : ∀ k, sel k = (decide (a ≤ k) && decide (k < c))) (xs : List α) :
    ∀ j, (xs.zipIdx j).filterMap (fun p => if sel p.2 = true then none else some p.1) = xs.take (a - j) ++ xs.drop (max (a - j) (c - j)) := by
  induction xs with
  | nil => intro j; simp
  | cons x r ih =>
    intro j
    rw [List.zipIdx_cons, List.filterMap_cons]
    have e := h j
    by_cases h1 : a ≤ j
    · by_cases h2 : j < c
      · rw [decide_eq_true h1, decide_eq_true h2] at e
        have e' : sel j = true := e
        simp only [e', if_true]
        rw [ih (j + 1)]
        have : a - j = 0 := by omega
        have : a - (j + 1) = 0 := by omega
        have : c - j = (c - (j + 1)) + 1 := by omega
        simp [*]
      · rw [decide_eq_true h1, decide_eq_false h2] at e
        have e' : ¬ (sel j = true) := by rw [e]; decide
        simp only [if_neg e']
        rw [ih (j + 1)]
        have : a - j = 0 := by omega
        have : a - (j + 1) = 0 := by omega
        have : c - j = 0 := by omega
        have : c - (j + 1) = 0 := by omega
        simp [*]
    · rw [decide_eq_false h1] at e
      have e' : ¬ (sel j = true) := by rw [e]; simp
      simp only [if_neg e']
      rw [ih (j + 1)]
      have e1 : a - j = (a - (j + 1)) + 1 := by omega
      have e2 : max (a - j) (c - j) = max (a - (j + 1)) (c - (j + 1)) + 1 := by omega
      rw [e2, e1, List.take_succ_cons, List.drop_succ_cons]
      rfl
def selF (a c : Nat) (i : Nat) : Bool :=
  if (1 : Int) > 0 then (a : Int) ≤ i && i < (c : Int) && (i - (a : Int)) % 1 == 0
  else (c : Int) < i && i ≤ (a : Int) && ((a : Int) - i) % (-1) == 0
theorem selF_eq (a c k : Nat) : selF a c k = (decide (a ≤ k) && decide (k < c)) := by
  unfold selF
  rw [if_pos (by decide)]
  have : ((k : Int) - (a : Int)) % 1 = 0 := by omega
  rw [this]
  simp
theorem selF_fun (a c : Nat) : (fun xs : Array Value => (List.filterMap (fun x => if selF a c x.snd = true then none else some x.fst) xs.toList.zipIdx).toArray) = fun t => (delL t.toList a c).toArray := by
  funext t
  have := sel_filter (selF a c) a c (selF_eq a c) t.toList 0
  rw [Nat.sub_zero, Nat.sub_zero] at this
  exact congrArg _ this
theorem sel_fun {sel : Nat → Bool} {a c : Nat} (h : ∀ k, sel k = selF a c k) : (fun xs : Array Value => (List.filterMap (fun x => if sel x.snd = true then none else some x.fst) xs.toList.zipIdx).toArray) = fun t => (delL t.toList a c).toArray := by
  have e : sel = selF a c := funext h
  subst e
  exact selF_fun a c
section
variable {pr : Program} {wd : World} {ar : Around} {er : Value → Shared → Prop} {s : Shared}
set_option maxHeartbeats 4000000 in
theorem del_slice {l z : Addr} {old : Array Value} {m a c : Nat} {lo hi : Option Int} {vl vu : Value} {Q : Unit → Shared → Prop}
    (eo : s.heap.get? l = some { cls := .type "list", data := .seq old m })
    (hz : s.heap.IsSliceOf z vl vu .none) (pl : IsPart vl lo) (pu : IsPart vu hi)
    (bd : sliceBounds lo hi none old.size = ((a : Int), (c : Int), 1)) (fit : old.size ≤ sizeLine)
    (k : Q () { s with heap := s.heap.update l (Obj.mapSeq fun t => (delL t.toList a c).toArray) }) :
    wpAny (model pr wd) ar (delItem (.ref l) (.ref z)) Q er s := by
  have lo' : s.heap.IsList l old := PySem.IsL.isList eo
  obtain ⟨oz, gz, cz, dz⟩ := id hz
  have tz : s.TypeIs (.ref z) "slice" := ⟨oz, gz, cz⟩
  refine wpAny_delItem_slot lo'.typeIs (by decide) PySem.F.slot_list_delitem ?_
  refine wpAny_call_entry PySem.F.slot_list_delitem lo'.typeIs PySem.F.entry_list_delitem ?_ (PySem.F.args_list_delitem_2 _ _)
  show wpAny _ _ (Builtin.List.listSubscript? (.ref z) >>= _) _ _ s
  refine wpAny_bind ?_
  unfold Builtin.List.listSubscript?
  refine wpAny_bind (wpAny_specialOf tz slice_no_index ?_)
  simp only [Option.isNone_none, if_true]
  refine wpAny_pure ?_
  show wpAny _ _ (typeOf (.ref z) >>= _) _ _ s
  refine wpAny_bind (wpAny_typeOf tz ?_)
  first
    | rw [if_neg (by decide)]
    | refine PySem.W.KFB.if_not (by decide) ?_
  rw [listSliceParts_eq]
  refine wpAny_bind (wpAny_bind (wpAny_field gz dz (x := .none) rfl (wpAny_bind (wpAny_listPart .none ?_))))
  rw [if_neg (show ¬ ((rawPart none == rawInt 0) = true) from Bool.false_ne_true)]
  refine wpAny_bind (wpAny_field gz dz (x := vl) rfl (wpAny_bind (wpAny_listPart pl ?_)))
  refine wpAny_bind (wpAny_field gz dz (x := vu) rfl (wpAny_bind (wpAny_listPart pu (wpAny_pure ?_))))
  unfold Builtin.List.listItems
  refine wpAny_bind (wpAny_bind (wpAny_seqItems eo rfl (wpAny_pure ?_)))
  have si := (sliceIndices_raw lo hi none old.size (by simp)).trans (congrArg (pure : Int × Int × Int → Sem (Int × Int × Int)) bd)
  refine wpAny_bind (wpAny_of_eq si ?_)
  refine wpAny_bind (wpAny_rule ?_)
  refine wpAny_bind ?_
  unfold Builtin.List.listUpdate
  simp only []
  rw [sel_fun (a := a) (c := c) (fun k => by with_unfolding_all rfl)]
  have zz : ((fun t : Array Value => (delL t.toList a c).toArray) old).size ≤ sizeLine + 1 := by
    show (delL old.toList a c).toArray.size ≤ _
    rw [List.size_toArray]
    unfold delL
    rw [List.length_append, List.length_take, List.length_drop, Array.length_toList]; omega
  refine wpAny_updateSeq (hz := fit) (_hz' := zz) eo rfl (wpAny_bind (wpAny_letGo ?_))
  first
    | with_reducible exact wpAny_pure ⟨.none, rfl, k⟩
    | exact wpAny_bind (wpAny_pure (wpAny_pure ⟨.none, rfl, k⟩))
    | exact wpAny_pure ⟨.none, rfl, k⟩
end
/-- what is left of a list whose part from lo to hi is deleted -/
def delV (xs : List V) (lo hi : Option Int) : List V := delL xs (HT.sIx xs.length 0 lo) (HT.sIx xs.length xs.length hi)
theorem bounds_sIx (lo hi : Option Int) (n : Nat) : sliceBounds lo hi none n = ((HT.sIx n 0 lo : Int), (HT.sIx n n hi : Int), 1) := by
  have f : ∀ (v : Option Int) (d : Nat), d ≤ n → (match v with | none => (d : Int) | some i => max 0 (min (if i < 0 then i + (n : Int) else i) (n : Int))) = (HT.sIx n d v : Int) ∨ (∃ i, v = some i ∧ i < 0 ∧ i + (n : Int) > n) := by
    intro v d hd
    cases v with
    | none => exact .inl rfl
    | some i =>
      left
      show max 0 (min (if i < 0 then i + (n : Int) else i) (n : Int)) = ((if i < 0 then (i + (n : Int)).toNat else min i.toNat n : Nat) : Int)
      split <;> omega
  have f1 := (f lo 0 (by omega)).resolve_right (by rintro ⟨i, _, h1, h2⟩; omega)
  have f2 := (f hi n (by omega)).resolve_right (by rintro ⟨i, _, h1, h2⟩; omega)
  rw [← f1, ← f2]
  unfold sliceBounds
  cases lo <;> cases hi <;> rfl
section
variable {X : Cx} {pos : Pos}
def tDelS (to : TE) (tl th : TO) : TS := fun D σ H => to σ H fun o H1 => tl σ H1 fun lo H2 => th σ H2 fun hi H3 => ∃ (l : Addr) (xs : List V), o = .ref l ∧ H3 l = some (.lst xs) ∧ D.nx σ (upd H3 l (.lst (delV xs lo hi)))
theorem ps_delS {o : Expr} {lo hi : Option Expr} {to : TE} {tl th : TO} {p2 tpos : Pos} (ho : PE X o to) (hl : PO X lo tl) (hh : PO X hi th) : PS X (.Delete [.Subscript o (.Slice lo hi none p2) tpos] pos) (tDelS to tl th) := by
  refine ⟨fun pins s σ H D I h => ?_⟩
  refine wpAny_Delete (wpAny_deleteEach_cons (wpAny_delete_Subscript (thn (ho.run pins s σ H _ I h) fun ov s1 ⟨x, H1, I1, r1, q1⟩ => ?_)))
  refine wpAny_Slice (thn (hl.run pins s1 σ H1 _ I1 q1) fun wl s2 ⟨l, H2, I2, pl, q2⟩ => ?_)
  refine thn (hh.run pins s2 σ H2 _ I2 q2) fun wu s3 ⟨uu, H3, I3, pu, q3⟩ => ?_
  rw [evalPart_none]
  refine wpAny_pure ?_
  obtain ⟨p, xs, rfl, hp, fin⟩ := q3
  cases r1
  have I4 : Inv X pins σ H3 { s3 with heap := s3.heap.push { cls := .type "slice", data := .fields #[wl, wu, .none] } } := I3.kept (t' := s3.toks) fun b ob e => Heap.get?_push_of_some _ e
  obtain ⟨z1, us1, n1, rv1, hz1, e1⟩ := I4.lstM hp
  have L1 := rv1.length
  refine del_slice (a := HT.sIx xs.length 0 l) (c := HT.sIx xs.length xs.length uu) e1 (Heap.IsSliceOf.new ..) pl pu (by rw [List.size_toArray, ← L1]; exact bounds_sIx _ _ _) (by rw [List.size_toArray]; omega) ?_
  refine wpAny_deleteEach_nil ⟨σ, _, ?_, fin⟩
  refine I4.lset (its' := delL us1 (HT.sIx xs.length 0 l) (HT.sIx xs.length xs.length uu)) (t' := s3.toks) hp e1 rfl (Vals.append (rv1.take _) (rv1.drop _)) ?_
  show (delL _ _ _).length ≤ _
  unfold delL
  rw [List.length_append, List.length_take, List.length_drop]
  omega
end
end Sip
namespace Sip
open PySem PySem.Spec PyProof.Rows L2 TL
/-- for i, x in enumerate(xs), the list standing -/
theorem for_enum {K : PySem.W.Frag} {a : Addr} {xs : List V} {g : TG} {tb : TS} {D : Ends} {σ : L2.St} {H : Hp} (Pv : Nat → L2.St → Hp → Prop) (h0 : Pv 0 σ H) (hl : ∀ i σ H, i ≤ xs.length → Pv i σ H → SqL K H a xs)
    (hs : ∀ i x σ H T, xs[i]? = some x → Pv i σ H → H T = none → g (.ref T) σ (upd H T (.tup [.int (i : Nat), x])) fun σ2 H2 => tb { D with nx := Pv (i + 1), ct := Pv (i + 1), bk := D.nx } σ2 H2) (hd : ∀ σ H, Pv xs.length σ H → D.nx σ H) :
    ∃ W : Nat → Nat → L2.St → Hp → Prop, (∃ m, W 0 m σ H) ∧ ∀ i m σ H, W i m σ H →
      ((Ite K a).stop i H ∧ D.nx σ H) ∨ ((Ite K a).go i H ∧ ∃ N : L2.St → Hp → Prop, (∀ σ' H', N σ' H' → ∃ m', m' < m ∧ W (i + 1) m' σ' H') ∧ ∀ x H', (Ite K a).yld i H x H' → g x σ H' fun σ2 H2 => tb { D with nx := N, ct := N, bk := D.nx } σ2 H2) := by
  refine ⟨fun i m σ H => m = xs.length - i ∧ i ≤ xs.length ∧ Pv i σ H, ⟨xs.length, by simp, Nat.zero_le _, h0⟩, ?_⟩
  rintro i m σ H ⟨rfl, hi, p⟩
  have q := hl i σ H hi p
  by_cases hlt : i < xs.length
  · refine .inr ⟨⟨xs, xs[i], q, by simp [hlt]⟩, Pv (i + 1), fun σ' H' p' => ⟨xs.length - (i + 1), by omega, rfl, hlt, p'⟩, fun x H' y => ?_⟩
    obtain ⟨T, y, rfl, nT, rfl, hy⟩ := y
    exact hs i y σ _ T (hy xs q) p nT
  · have e : i = xs.length := by omega
    subst e
    exact .inl ⟨⟨xs, q, Nat.le_refl _⟩, hd σ H p⟩
end Sip
namespace Sip
open PySem PySem.Spec PyProof.Rows L2 TL
/-! ### own errors that keep a value -/
/-- __init__(self, f): self.f = f -/
def spErr1 (C : Addr) (f : Str) : Sp := fun vs H Q _ => ∃ (a : Addr) (v : V), vs = [.ref a, v] ∧ H a = some (exo a C none) ∧ ∀ dx, H dx = none → dx ≠ a → Q .non (upd (upd H dx (exd dx [(f, v)])) a (exo a C (some dx)))
/-- what a raise of it asks, once its value stands -/
theorem mk1_fin {C : Addr} {f : Str} {H1 : Hp} {v : V} {Q : XK} (h : ∀ d, H1 d = none → Q (.ref C) (some d) (upd H1 d (.xd [(f, v)]))) :
    [v].length ≤ 1000 ∧ ∀ a, H1 a = none → spErr1 C f (.ref a :: ([v] ++ [])) (upd H1 a (exo a C none))
      (fun v H2 => v = .non ∧ ∃ (d : Addr) (fs : List (Str × V)), H2 a = some (exo a C (some d)) ∧ H2 d = some (exd d fs) ∧ H1 d = none ∧ Q (.ref C) (some d) (upd (del H2 a) d (.xd fs))) (fun _ _ _ => False) := by
  refine ⟨by show 1 ≤ 1000; decide, fun a na => ⟨a, v, rfl, upd_same, fun dx nd ne => ⟨rfl, dx, [(f, v)], upd_same, ?_, ?_, ?_⟩⟩⟩
  · rw [upd_ne ne]; exact upd_same
  · rw [upd_ne ne] at nd; exact nd
  · have nd' : H1 dx = none := by rw [upd_ne ne] at nd; exact nd
    have e : upd (del (upd (upd (upd H1 a (exo a C none)) dx (exd dx [(f, v)])) a (exo a C (some dx))) a) dx (.xd [(f, v)]) = upd H1 dx (.xd [(f, v)]) := by
      funext b
      by_cases hb : b = dx
      · subst hb; rw [upd_same, upd_same]
      · rw [upd_ne hb, upd_ne hb]
        by_cases ha : b = a
        · subst ha; rw [del_same, na]
        · rw [del_ne ha, upd_ne ha, upd_ne hb, upd_ne ha]
    rw [e]
    exact h dx nd'
section
variable {X : Cx}
/-- isinstance(e, c): e is the error that the suite holds, whatever it keeps -/
def rIsO (K : PySem.W.Frag) (cls : Value) (d : Option Addr) (a : Addr) : List V → Hp → VK → Prop := fun xs H Q => ∃ D : Addr, cls = .ref D ∧ ExcC K D ∧ (d = none ∨ ∃ dd fs, d = some dd ∧ H dd = some (.xd fs)) ∧ rIsE K D a xs H Q
theorem inst_of {a D : Addr} {oe : Obj} {d : Option Addr} {H : Hp} {s : Shared} {pins : List (Addr × Obj)} {σ : L2.St} {Y : Cx} (I : Inv Y pins σ H s) (ha : s.heap.get? a = some oe) (hz : Zc (.ref D) d oe) (hf : ∃ vs, oe.data = .fields vs)
    (hd : d = none ∨ ∃ dd fs, d = some dd ∧ H dd = some (.xd fs)) : ∃ od, PySem.W.InstAt s.heap a oe D od := by
  obtain ⟨vs, hv⟩ := hf
  obtain ⟨z1, z2⟩ := hz
  have nc : PySem.W.notCls oe = true := by unfold PySem.W.notCls; rw [hv]
  rcases hd with rfl | ⟨dd, fs, rfl, ed⟩
  · refine ⟨none, ha, z1, nc, ?_⟩
    rw [z2]; trivial
  · have ob : ObjOk Y.prog Y.w H s.heap dd (.xd fs) := I.hok dd _ ed
    obtain ⟨mA, hns, _⟩ := ob
    obtain ⟨od, ho, _⟩ := lookIn_ns hns
    refine ⟨some od, ha, z1, nc, ?_⟩
    rw [z2]; exact ho
theorem call_isO {a : Addr} {oe : Obj} {cls : Value} {d : Option Addr} {pn : List (Addr × Obj)} (hz : Zc cls d oe) (hf : ∃ vs, oe.data = .fields vs) : CallR (X.suite a ((a, oe) :: pn)) (.builtin "isinstance") (rIsO X.K cls d a) := by
  intro pins s σ H xs us Q I r h
  obtain ⟨D, rfl, C, hd, c, cv, b, rfl, hcv, e, q⟩ := h
  obtain ⟨u1, u2, rfl, r1, r2⟩ := vals2 r
  obtain rfl : u1 = Value.ref a := r1
  obtain rfl := hcv _ r2
  obtain ⟨ha, _⟩ := I.pin (a, oe) (List.mem_append_left _ List.mem_cons_self)
  obtain ⟨od, J⟩ := inst_of I ha hz hf hd
  have hcl : (PySem.W.clsIn X.K D).isSome = true := by
    obtain ⟨cd, h1, _⟩ := PySem.W.any_some C.hd
    rw [h1]; rfl
  exact PySem.W.kia_one (PySem.W.kitx_exc hcl C.hg C.hk C.hs C.ha C.hn C.ht C.hm) I.kIn J e (fun z => nomatch z) fun tk => ⟨.bl b, H, I.kept (t' := tk) fun _ _ z => z, rfl, q⟩
/-- e.f of that error -/
def tXf (K : PySem.W.Frag) (f : Str) (a : Addr) (cls : Value) (d : Option Addr) (te : TE) : TE := fun σ H Q => te σ H fun x H1 => ∃ (D dd : Addr) (fs : List (Str × V)) (v : V), x = .ref a ∧ cls = .ref D ∧ ExcC K D ∧ PySem.W.findIn K (.ref D) f = some none ∧ d = some dd ∧ H1 dd = some (.xd fs) ∧ fs.lookup f = some v ∧ Q v H1
theorem pe_xf {f : Str} {a : Addr} {oe : Obj} {cls : Value} {d : Option Addr} {pn : List (Addr × Obj)} {e : Expr} {te : TE} {pos : Pos} (hz : Zc cls d oe) (hf : ∃ vs, oe.data = .fields vs) (he : PE (X.suite a ((a, oe) :: pn)) e te)
    (hb : attributeBase e f X.env (eval e X.env) = eval e X.env := by rfl) : PE (X.suite a ((a, oe) :: pn)) (.Attribute e f pos) (tXf X.K f a cls d te) := by
  refine ⟨fun pins s σ H Q I h => attr_of hb (thn (he.run pins s σ H _ I h) fun u s1 hh => ?_)⟩
  obtain ⟨x, H1, I1, rx, D, dd, fs, v, rfl, rfl, C, no, rfl, ed, lk, q⟩ := hh
  obtain rfl : u = Value.ref a := rx
  obtain ⟨ha, _⟩ := I1.pin (a, oe) (List.mem_append_left _ List.mem_cons_self)
  have ob : ObjOk X.prog X.w H1 s1.heap dd (.xd fs) := I1.hok dd _ ed
  obtain ⟨mA, hns, hr⟩ := ob
  obtain ⟨od, ho, hl⟩ := lookIn_ns hns
  obtain ⟨v', hv', rv⟩ := RelO.some_of (v := v) (o := mA f) (by rw [← lk]; exact hr f)
  obtain ⟨vs, hd⟩ := hf
  have J : PySem.W.InstAt s1.heap a oe D (some od) := by
    refine ⟨ha, hz.1, ?_, ?_⟩
    · unfold PySem.W.notCls; rw [hd]
    · rw [hz.2]; exact ho
  exact HandSPX.exc_get I1.kIn J C.hg C.hk C.hs (PySem.W.findObj_own C.hd no rfl (by rw [hl, hv'])) (handed_of rv) ⟨v, H1, I1.tok _, rv, q⟩
end
/-! ### calls within a try -/
section
variable {X : Cx} {CX : CXT} {k n : Nat} {f : Addr} {fd : FuncData} {ps ks : List Str} {sp : Sp} {E : L2.St → XK} {x : Str} {p pos : Pos} {e : Expr} {es : List Expr} {kws : List Keyword} {t tk : TA} {g : List Value → List Value → List Value} {gV : List V → List V → List V}
def tCallNS (n m : Nat) (sp : Sp) (gV : List V → List V → List V) (E : L2.St → XK) (t tk : TA) : TE := fun σ H Q => t σ H fun vs H1 => tk σ H1 fun zs H2 => vs.length = n ∧ zs.length = m ∧ sp (gV vs zs) H2 Q (E σ)
theorem pe_callNS (F : FnOk X.prog X.w X.K X.mg X.base CX k f fd ps sp) (hr : Room k X.A) (hg : Gl X x) (hm : X.mg x = some (.ref f)) (hk : PySem.W.keepIn X.K (.ref f) = true) (hb : KBn X.K fd ps n ks g gV) (hx : ∀ σ, PassesAt CX X σ (E σ))
    (ha : PA X (e :: es) t) (hkw : PK X kws tk) (hall : (backToKw pos (keywordEach kws X.env)).all (·.1.isSome) = true := by rfl) (hks : (backToKw pos (keywordEach kws X.env)).filterMap (·.1) = ks := by rfl)
    (hdb : (x == ("__debug__" : Str)) = false := by decide) (he : starEach (e :: es) X.env = (false, eval e X.env) :: starEach es X.env := by rfl)
    (hpl : ((backTo pos (starEach (e :: es) X.env)).any (·.1) || (backToKw pos (keywordEach kws X.env)).any (·.1.isNone)) = false := by rfl) :
    PE X (.Call (.Name x p) (e :: es) kws pos) (tCallNS n ks.length sp gV E t tk) := by
  refine ⟨fun pins s σ H Q I h => wpAny_Call_Name_kw (ld_glob I hg hm ?_ hdb)⟩
  refine PySem.W.callWith_KW (h₀ := X.base) I.ok.mod.kin hk hall (thn (ha.run pos pins s σ H _ I h) fun us s1 ⟨vs, H1, I1, r, q⟩ => ?_) hpl he
  refine thn (hkw.run pos pins s1 σ H1 _ I1 q) fun ws s2 w2 => ?_
  obtain ⟨zs, H2, I2, rz, l1, l2, q2⟩ := w2
  refine ⟨I2.kIn, ?_⟩
  rw [hks]
  have bt := hb.to s2 us ws I2.kIn (r.length.symm.trans l1) (rz.length.symm.trans l2)
  refine wpAny_call (codeAny_mono (F.run X.A X.stack s2 H2 ⟨us, ks.zip ws⟩ (g us ws) (gV vs zs) Q (E σ) hr I2.env0 bt (hb.rel r rz) q2) fun out s' hq => ?_)
  match out, hq with
  | .error e, hq => exact hx σ pins H2 s2 e s' I2 hq
  | .ok (.ret u), hq => exact I2.after hq
  | .ok .next, hq => exact hq.elim
  | .ok .brk, hq => exact hq.elim
  | .ok .cont, hq => exact hq.elim
end
/-- a raising callee within a def that lets the error out -/
theorem passX {X : Cx} {E : XK} (tk : Takes X (fun cls d _ H => E cls d H)) : Passes (L2.CX X.prog X.w) X E := fun pins σ H s e s' I c => passes_call tk (fun _ _ _ _ h => h) pins σ H s e s' I c
end Sip
namespace Sip
open PySem PySem.Spec PyProof.Rows L2 TL
theorem kit_ownF {K : PySem.W.Frag} {C S : Addr} (h1 : PySem.W.isClsIn K S = true) (h2 : PySem.W.typeIn K (.ref S) = some (.type "type")) (h0 : PySem.W.subIn K (.ref C) (.ref C) = some true) (h3 : PySem.W.subIn K (.ref C) (.ref S) = some false) : PySem.W.kitOne K (.ref C) (.ref S) = some false := by
  have ne : C ≠ S := fun z => by
    rw [z] at h0 h3
    rw [h0] at h3
    cases h3
  have a : ((PySem.W.clsIn K S).isSome && PySem.W.typeIn K (.ref S) == some (.type "type")) = true := by
    have h1' : (PySem.W.clsIn K S).isSome = true := h1
    rw [h1', h2]; rfl
  unfold PySem.W.kitOne PySem.W.kitCls
  split
  · next h =>
    exfalso
    exact ne (by simpa using h)
  · exact (if_pos a).trans h3
/-- the written class of an own error straight beneath S -/
def IsExcObj (K : PySem.W.Frag) (C S : Addr) : Prop := ∃ nm q N bs bm sn sub ab col dd k0 k1 k2 k3 k5, K.lookup C = some (excClassObj nm q C N bs bm true sn sub ab col dd k0 k1 k2 k3 k5 "ValueError.__new__") ∧ PySem.HandSPX.refsVE bm = true
end Sip
/-! SipHead: the facts of a text read off the heap behind the top, by one run in the kernel (own hook over the kit's). -/
namespace Sip
open PySem PySem.Spec PyProof.Rows L2
/-- the class of an own error, by sight -/
def excObjB (K : PySem.W.Frag) (C : Addr) : Bool := match K.lookup C with
  | some ⟨.type c, _, .cls cd, sl⟩ => decide (c = "type") && (cd.hasDict && (!cd.hasDel && (match cd.mro, sl.toList with
    | .ref C' :: bm, [_, _, _, _, some (.builtin n), _] => decide (C' = C) && (decide (n = "ValueError.__new__") && PySem.HandSPX.refsVE bm)
    | _, _ => false)))
  | _ => false
theorem excObjB_ok {K : PySem.W.Frag} {C S : Addr} (h : excObjB K C = true) : IsExcObj K C S := by
  unfold excObjB at h
  split at h
  · rename_i c dd cd sl q
    obtain ⟨h1, h⟩ := He.ba h
    obtain ⟨h2, h⟩ := He.ba h
    obtain ⟨h3, h⟩ := He.ba h
    split at h
    · rename_i C' bm k0 k1 k2 k3 n k5 hm hs
      obtain ⟨h4, h⟩ := He.ba h
      obtain ⟨h5, h6⟩ := He.ba h
      obtain ⟨nm, bs, mro, ns, qn, hd, sn, sub, ab, col, del⟩ := cd
      have e1 := of_decide_eq_true h1
      have e4 := of_decide_eq_true h4
      have e5 := of_decide_eq_true h5
      have e3 : del = false := by simpa using h3
      have e2 : hd = true := h2
      have hm' : mro = .ref C' :: bm := hm
      have hsl : sl = #[k0, k1, k2, k3, some (.builtin n), k5] := by
        obtain ⟨l⟩ := sl
        simp only at hs
        rw [hs]
      subst e1 e2 e3 e4 e5 hm' hsl
      exact ⟨nm, qn, ns, bs, bm, sn, sub, ab, col, dd, k0, k1, k2, k3, k5, q, h6⟩
    · cases h
  · cases h
/-- a constant of the module -/
def conB (K : PySem.W.Frag) (x : Str) (v : V) : Bool := match PySem.W.nsIn K mainGlobals x with
  | some (some u) => He.relB v u
  | _ => false
theorem conB_ok {K : PySem.W.Frag} {x : Str} {v : V} (h : conB K x v = true) : ∃ u, PySem.W.nsIn K mainGlobals x = some (some u) ∧ RelV v u := by
  unfold conB at h
  split at h
  · exact ⟨_, by assumption, He.relB_ok h⟩
  · cases h
/-- a class's own def, read from the class -/
def clsB (K : PySem.W.Frag) (c mc : Value) (x : Str) (v : Value) : Bool := match PySem.W.findCls K c mc x with
  | some (.val u) => decide (u = v)
  | _ => false
theorem clsB_ok {K : PySem.W.Frag} {c mc v : Value} {x : Str} (h : clsB K c mc x v = true) : PySem.W.findCls K c mc x = some (.val v) := by
  unfold clsB at h
  split at h
  · rename_i u e
    rw [e, of_decide_eq_true h]
  · cases h
/-- where the default of a keyword-only parameter lies -/
def kwAd (K : PySem.W.Frag) (at_ : Str × Option Str) (x : Str) : Addr := match K.lookup (He.fAd K at_) with
  | some ⟨_, _, .func fd, _⟩ => (match fd.kwdefaults with
    | .ref D => (match PySem.W.nsIn K D x with
      | some (some (.ref a)) => a
      | _ => 0)
    | _ => 0)
  | _ => 0
/-- an empty tuple -/
def tupA (K : PySem.W.Frag) (a : Addr) : Bool := match K.lookup a with
  | some ⟨.type c, _, .seq its _, _⟩ => decide (c = "tuple") && its.toList.isEmpty
  | _ => false
theorem tupA_ok {K : PySem.W.Frag} {a : Addr} (h : tupA K a = true) (H : Hp) : SqT K H a [] := by
  unfold tupA at h
  split at h
  · rename_i c dd its n sl q
    obtain ⟨h1, h2⟩ := He.ba h
    have e1 := of_decide_eq_true h1
    subst e1
    have e2 : its.toList = [] := List.isEmpty_iff.mp h2
    obtain ⟨l⟩ := its
    have e2 : l = [] := e2
    subst e2
    exact .inr ⟨_, _, _, q, rfl, rfl, Nat.zero_le _, .nil⟩
  · cases h
/-! ### the hook -/
def obsS (fa : PySem.W.Frag → Bool) (fn : List He.DefD) (K : PySem.W.Frag) : He.AlD := (fa K && fn.all fun d => d.ok K, fn.map fun d => He.fnW K d.at_)
def SaysS (fa : PySem.W.Frag → Bool) (fn : List He.DefD) (K : PySem.W.Frag) : Prop := obsS fa fn K = He.valD fn
def obsSG (as : List Addr) (fa : PySem.W.Frag → Bool) (fn : List He.DefD) (g : Addr → Option Obj) : He.AlD := obsS fa fn (He.frG g as)
def hookS (as : List Addr) (fa : PySem.W.Frag → Bool) (fn : List He.DefD) : PySem.W.Hook where
  α := He.AlD
  obs := fun s => obsSG as fa fn s.heap.get?
  val := fun _ => He.valD fn
  says := fun _ h => ∃ K : PySem.W.Frag, K.In h ∧ SaysS fa fn K
  of := fun _ _ e => ⟨_, He.frG_in, e⟩
  keeps := fun _ _ _ ⟨K, hK, c⟩ k => ⟨K, PySem.W.Frag.In.keeps hK k, c⟩
theorem obsSG_eq {as : List Addr} {fa : PySem.W.Frag → Bool} {fn : List He.DefD} {g : Addr → Option Obj} {s : Shared} (h : ∀ a, g a = s.heap.get? a) : obsSG as fa fn g = (hookS as fa fn).obs s := by
  have e : g = s.heap.get? := funext h
  rw [e] <;> rfl
section
variable {fa : PySem.W.Frag → Bool} {fn : List He.DefD} {K : PySem.W.Frag}
theorem SaysS.facts (c : SaysS fa fn K) : fa K = true := (He.ba (show (fa K && fn.all fun d => d.ok K) = true from congrArg (fun z : He.AlD => z.1) c)).1
theorem SaysS.def_ (c : SaysS fa fn K) (i : Nat) {d : He.DefD} (h : fn[i]? = some d := by rfl) : ∃ fd, FunD K d.name d.qual d.params d.body d.scope (d.dvs K) (d.kws K) (He.fAd K d.at_) fd := by
  have c2 := (He.ba (show (fa K && fn.all fun d => d.ok K) = true from congrArg (fun z : He.AlD => z.1) c)).2
  have e : fn.map (fun d => He.fnW K d.at_) = fn.map He.DefD.val := congrArg (fun z : He.AlD => z.2) c
  have e2 : (fn.map fun d => He.fnW K d.at_)[i]? = (fn.map He.DefD.val)[i]? := by rw [e]
  rw [List.getElem?_map, List.getElem?_map, h] at e2
  exact He.DefD.funD (Option.some.inj e2) (List.all_eq_true.mp c2 d (List.mem_of_getElem? h))
end
theorem dfl_none {K : PySem.W.Frag} {dV : Value} (h : DflV K dV []) : dV = .none := by
  rcases h with h | h
  · exact h.2
  · exact absurd rfl h.1
end Sip
/-! the facts of a def that says super(): it closes over __class__ -/
namespace Sip
open PySem PySem.Spec PyProof.Rows L2
abbrev SupW : Type := Option (Str × Str × Arguments × FuncBody × Scope × Addr × List Str × Addr)
def supW (K : PySem.W.Frag) (p : Str × Option Str) : SupW := match K.lookup (He.fAd K p) with
  | some ⟨_, _, .func fd, _⟩ => some (fd.name, fd.qualname, fd.params, fd.body, fd.scope, fd.globals, fd.closure.map (·.1), fd.builtins)
  | _ => none
def supV (d : He.DefD) : SupW := some (d.name, d.qual, d.params, .stmts d.body, d.scope, mainGlobals, [("__class__" : Str)], builtinsNs)
/-- the cell, the code object -/
def supC (K : PySem.W.Frag) (p : Str × Option Str) : Addr := match K.lookup (He.fAd K p) with
  | some ⟨_, _, .func fd, _⟩ => (match fd.closure with | (_, c) :: _ => c | [] => 0)
  | _ => 0
def supK (K : PySem.W.Frag) (p : Str × Option Str) : Addr := match K.lookup (He.fAd K p) with
  | some ⟨_, _, .func fd, _⟩ => (match fd.code with | .ref c => c | _ => 0)
  | _ => 0
def cellB (K : PySem.W.Frag) (c D : Addr) : Bool := match K.lookup c with
  | some ⟨_, _, .cell (some (.ref E)), _⟩ => decide (E = D)
  | _ => false
def fileB (K : PySem.W.Frag) (c : Addr) (fl : Str) : Bool := match K.lookup c with
  | some ⟨_, _, .fields vs, _⟩ => (match (vs[2]? : Option Value) with | some (Value.str z _) => decide (z = fl) | _ => false)
  | _ => false
def refV (v : Value) : Bool := match v with | .ref _ => true | _ => false
def noneV (v : Value) : Bool := match v with | .none => true | _ => false
def supB (K : PySem.W.Frag) (p : Str × Option Str) (qual : Str) (D : Addr) (fl : Str) : Bool := PySem.W.keepIn K (.ref (He.fAd K p)) && (cellB K (supC K p) D && (fileB K (supK K p) fl && match K.lookup (He.fAd K p) with
  | some ⟨_, _, .func fd, _⟩ => noneV fd.defaults && (noneV fd.kwdefaults && (fd.annotations.isNone && (refV fd.code && PySem.W.codeIn K fd.code qual)))
  | _ => false))
theorem cellB_ok {K : PySem.W.Frag} {c D : Addr} (h : cellB K c D = true) : ∃ cls d sl, K.lookup c = some ⟨cls, d, .cell (some (.ref D)), sl⟩ := by
  unfold cellB at h
  split at h
  · rename_i oc od E sl q
    have e := of_decide_eq_true h
    subst e
    exact ⟨_, _, _, q⟩
  · cases h
theorem fileB_ok {K : PySem.W.Frag} {c : Addr} {fl : Str} (h : fileB K c fl = true) : ∃ (cls : Value) (d : Option Addr) (vs : Array Value) (sl : Array (Option Value)) (tf : Tok), K.lookup c = some ⟨cls, d, .fields vs, sl⟩ ∧ vs[2]? = some (.str fl tf) := by
  unfold fileB at h
  split at h
  · rename_i oc od vs sl q
    split at h
    · rename_i z t e
      have e1 := of_decide_eq_true h
      subst e1
      exact ⟨_, _, _, _, _, q, e⟩
    · cases h
  · cases h
theorem noneV_ok {v : Value} (h : noneV v = true) : v = .none := by
  unfold noneV at h
  split at h
  · rfl
  · cases h
/-- a def that closes over __class__ alone -/
structure SupF (K : PySem.W.Frag) (D : Addr) (x qual : Str) (params : Arguments) (body : List Stmt) (scope : Scope) (f : Addr) (fd : FuncData) (cc cda : Addr) (fl : Str) : Prop where
  ex : ∃ (doc pm ctv oc : Value) (od : Option Addr) (sl : Array (Option Value)), fd = PySem.W.fnX x qual params body scope [(("__class__" : Str), cc)] .none .none doc pm none (.ref cda) ctv ∧ K.lookup f = some ⟨oc, od, .func fd, sl⟩
  cd : PySem.W.codeIn K (.ref cda) qual = true
  ce : ∃ cls d sl, K.lookup cc = some ⟨cls, d, .cell (some (.ref D)), sl⟩
  fi : ∃ (cls : Value) (d : Option Addr) (vs : Array Value) (sl : Array (Option Value)) (tf : Tok), K.lookup cda = some ⟨cls, d, .fields vs, sl⟩ ∧ vs[2]? = some (.str fl tf)
  kp : PySem.W.keepIn K (.ref f) = true
theorem supF_of {K : PySem.W.Frag} {d : He.DefD} {D : Addr} {fl : Str} (e : supW K d.at_ = supV d) (c : supB K d.at_ d.qual D fl = true) : ∃ fd, SupF K D d.name d.qual d.params d.body d.scope (He.fAd K d.at_) fd (supC K d.at_) (supK K d.at_) fl := by
  obtain ⟨kp, c2⟩ := He.ba c
  obtain ⟨c3, c4⟩ := He.ba c2
  obtain ⟨c5, c6⟩ := He.ba c4
  have ce := cellB_ok c3
  have fi := fileB_ok c5
  have eC : supC K d.at_ = supC K d.at_ := rfl
  have eK : supK K d.at_ = supK K d.at_ := rfl
  unfold supW at e
  conv at eC => rhs; unfold supC
  conv at eK => rhs; unfold supK
  cases q : K.lookup (He.fAd K d.at_) with
  | none => rw [q] at c6; cases c6
  | some o =>
    obtain ⟨oc, od, dt, osl⟩ := o
    rw [q] at c6 e eC eK
    cases dt with
    | func fd =>
      obtain ⟨n1, n2, n3, n4, n5, n6, n7, n8, n9, n10, n11, n12, n13, n14, n15⟩ := fd
      have e2 : (some (n1, n2, n3, n4, n5, n6, n7.map (·.1), n15) : SupW) = some (d.name, d.qual, d.params, .stmts d.body, d.scope, mainGlobals, [("__class__" : Str)], builtinsNs) := e
      simp only [Option.some.injEq, Prod.mk.injEq] at e2
      obtain ⟨h1, h2, h3, h4, h5, h6, h7, h8⟩ := e2
      have c7 : (noneV n8 && (noneV n9 && (n12.isNone && (refV n13 && PySem.W.codeIn K n13 d.qual)))) = true := c6
      obtain ⟨k1, c8⟩ := He.ba c7
      obtain ⟨k2, c9⟩ := He.ba c8
      obtain ⟨k3, c10⟩ := He.ba c9
      obtain ⟨k4, k5⟩ := He.ba c10
      have g8 := noneV_ok k1
      have g9 := noneV_ok k2
      have g12 : n12 = none := Option.isNone_iff_eq_none.mp k3
      cases n7 with
      | nil => cases h7
      | cons y ys =>
        obtain ⟨yn, yc⟩ := y
        cases ys with
        | cons z zs => simp at h7
        | nil =>
          have hy : yn = ("__class__" : Str) := by simpa using h7
          have eC : supC K d.at_ = yc := eC
          cases n13 with
          | ref cda =>
            have eK : supK K d.at_ = cda := eK
            subst h1 h2 h3 h4 h5 h6 h8 g8 g9 g12 hy
            rw [eC] at ce ⊢
            rw [eK] at fi ⊢
            exact ⟨_, ⟨_, _, _, _, _, _, rfl, q⟩, k5, ce, fi, kp⟩
          | _ => cases k4
    | _ => cases c6
/-! ### the hook -/
abbrev AlU : Type := He.AlD × List SupW
def obsU (fa : PySem.W.Frag → Bool) (fn gn : List He.DefD) (K : PySem.W.Frag) : AlU := (obsS fa fn K, gn.map fun d => supW K d.at_)
def valU (fn gn : List He.DefD) : AlU := (He.valD fn, gn.map supV)
def SaysU (fa : PySem.W.Frag → Bool) (fn gn : List He.DefD) (K : PySem.W.Frag) : Prop := obsU fa fn gn K = valU fn gn
def obsUG (as : List Addr) (fa : PySem.W.Frag → Bool) (fn gn : List He.DefD) (g : Addr → Option Obj) : AlU := obsU fa fn gn (He.frG g as)
def hookU (as : List Addr) (fa : PySem.W.Frag → Bool) (fn gn : List He.DefD) : PySem.W.Hook where
  α := AlU
  obs := fun s => obsUG as fa fn gn s.heap.get?
  val := fun _ => valU fn gn
  says := fun _ h => ∃ K : PySem.W.Frag, K.In h ∧ SaysU fa fn gn K
  of := fun _ _ e => ⟨_, He.frG_in, e⟩
  keeps := fun _ _ _ ⟨K, hK, c⟩ k => ⟨K, PySem.W.Frag.In.keeps hK k, c⟩
theorem obsUG_eq {as : List Addr} {fa : PySem.W.Frag → Bool} {fn gn : List He.DefD} {g : Addr → Option Obj} {s : Shared} (h : ∀ a, g a = s.heap.get? a) : obsUG as fa fn gn g = (hookU as fa fn gn).obs s := by
  have e : g = s.heap.get? := funext h
  rw [e] <;> rfl
theorem SaysU.toS {fa : PySem.W.Frag → Bool} {fn gn : List He.DefD} {K : PySem.W.Frag} (c : SaysU fa fn gn K) : SaysS fa fn K := congrArg (fun z : AlU => z.1) c
theorem SaysU.sup {fa : PySem.W.Frag → Bool} {fn gn : List He.DefD} {K : PySem.W.Frag} (c : SaysU fa fn gn K) (i : Nat) {d : He.DefD} (h : gn[i]? = some d := by rfl) : supW K d.at_ = supV d := by
  have e : gn.map (fun d => supW K d.at_) = gn.map supV := congrArg (fun z : AlU => z.2) c
  have e2 : (gn.map fun d => supW K d.at_)[i]? = (gn.map supV)[i]? := by rw [e]
  rw [List.getElem?_map, List.getElem?_map, h] at e2
  exact Option.some.inj e2
end Sip
namespace Sip
open PySem PySem.Spec PyProof.Rows L2 TL
def topS (i : Nat) : Stmt := PySem.Challenge.pw_sipstack_k13_pipe_room_and_ends.main.body.getD i (.Pass ⟨0, 0, 0, 0⟩)
abbrev s_whole : Stmt := topS 14
abbrev N_whole : List Str := ["thing"]
abbrev P_whole : List Str := ["thing"]
theorem sc_whole : FnScope N_whole P_whole (defScope s_whole) := ⟨rfl, rfl, rfl, by decide +kernel, rfl, by decide +kernel, by decide +kernel⟩
abbrev s_croom : Stmt := topS 15
abbrev N_croom : List Str := ["room"]
abbrev P_croom : List Str := ["room"]
theorem sc_croom : FnScope N_croom P_croom (defScope s_croom) := ⟨rfl, rfl, rfl, by decide +kernel, rfl, by decide +kernel, by decide +kernel⟩
abbrev s_ocopy : Stmt := topS 19
abbrev N_ocopy : List Str := ["thing"]
abbrev P_ocopy : List Str := ["thing"]
theorem sc_ocopy : FnScope N_ocopy P_ocopy (defScope s_ocopy) := ⟨rfl, rfl, rfl, by decide +kernel, rfl, by decide +kernel, by decide +kernel⟩
abbrev s_rinit : Stmt := inClass (topS 18) 0
abbrev N_rinit : List Str := ["self", "can_seek"]
abbrev P_rinit : List Str := ["self", "can_seek"]
theorem sc_rinit : FnScope N_rinit P_rinit (defScope s_rinit) := ⟨rfl, rfl, rfl, by decide +kernel, rfl, by decide +kernel, by decide +kernel⟩
abbrev s_iinit : Stmt := inClass (topS 21) 0
abbrev N_iinit : List Str := ["self", "pipe"]
abbrev P_iinit : List Str := ["self", "pipe"]
theorem sc_iinit : FnScope N_iinit P_iinit (defScope s_iinit) := ⟨rfl, rfl, rfl, by decide +kernel, rfl, by decide +kernel, by decide +kernel⟩
abbrev s_oinit : Stmt := inClass (topS 22) 0
abbrev N_oinit : List Str := ["self", "pipe"]
abbrev P_oinit : List Str := ["self", "pipe"]
theorem sc_oinit : FnScope N_oinit P_oinit (defScope s_oinit) := ⟨rfl, rfl, rfl, by decide +kernel, rfl, by decide +kernel, by decide +kernel⟩
abbrev s_pinit : Stmt := inClass (topS 23) 0
abbrev N_pinit : List Str := ["self", "room"]
abbrev P_pinit : List Str := ["self", "room"]
theorem sc_pinit : FnScope N_pinit P_pinit (defScope s_pinit) := ⟨rfl, rfl, rfl, by decide +kernel, rfl, by decide +kernel, by decide +kernel⟩
abbrev s_pinto : Stmt := inClass (topS 23) 1
abbrev N_pinto : List Str := ["self"]
abbrev P_pinto : List Str := ["self"]
theorem sc_pinto : FnScope N_pinto P_pinto (defScope s_pinto) := ⟨rfl, rfl, rfl, by decide +kernel, rfl, by decide +kernel, by decide +kernel⟩
abbrev s_pout : Stmt := inClass (topS 23) 2
abbrev N_pout : List Str := ["self"]
abbrev P_pout : List Str := ["self"]
theorem sc_pout : FnScope N_pout P_pout (defScope s_pout) := ⟨rfl, rfl, rfl, by decide +kernel, rfl, by decide +kernel, by decide +kernel⟩
abbrev s_pheld : Stmt := inClass (topS 23) 3
abbrev N_pheld : List Str := ["self"]
abbrev P_pheld : List Str := ["self"]
theorem sc_pheld : FnScope N_pheld P_pheld (defScope s_pheld) := ⟨rfl, rfl, rfl, by decide +kernel, rfl, by decide +kernel, by decide +kernel⟩
abbrev s_play : Stmt := inClass (topS 23) 4
abbrev N_play : List Str := ["self", "data", "fitting"]
abbrev P_play : List Str := ["self", "data"]
theorem sc_play : FnScope N_play P_play (defScope s_play) := ⟨rfl, rfl, rfl, by decide +kernel, rfl, by decide +kernel, by decide +kernel⟩
abbrev s_plift : Stmt := inClass (topS 23) 5
abbrev N_plift : List Str := ["self", "many", "told"]
abbrev P_plift : List Str := ["self", "many"]
theorem sc_plift : FnScope N_plift P_plift (defScope s_plift) := ⟨rfl, rfl, rfl, by decide +kernel, rfl, by decide +kernel, by decide +kernel⟩
abbrev s_iaccept : Stmt := inClass (topS 21) 2
abbrev N_iaccept : List Str := ["self", "data"]
abbrev P_iaccept : List Str := ["self", "data"]
theorem sc_iaccept : FnScope N_iaccept P_iaccept (defScope s_iaccept) := ⟨rfl, rfl, rfl, by decide +kernel, rfl, by decide +kernel, by decide +kernel⟩
abbrev s_ogive : Stmt := inClass (topS 22) 2
abbrev N_ogive : List Str := ["self", "many"]
abbrev P_ogive : List Str := ["self", "many"]
theorem sc_ogive : FnScope N_ogive P_ogive (defScope s_ogive) := ⟨rfl, rfl, rfl, by decide +kernel, rfl, by decide +kernel, by decide +kernel⟩
abbrev s_iput : Stmt := inClass (topS 18) 2
abbrev N_iput : List Str := ["self", "data", "handed", "took"]
abbrev P_iput : List Str := ["self", "data"]
theorem sc_iput : FnScope N_iput P_iput (defScope s_iput) := ⟨rfl, rfl, rfl, by decide +kernel, rfl, by decide +kernel, by decide +kernel⟩
abbrev s_iopen : Stmt := inClass (topS 18) 13
abbrev N_iopen : List Str := ["self"]
abbrev P_iopen : List Str := ["self"]
theorem sc_iopen : FnScope N_iopen P_iopen (defScope s_iopen) := ⟨rfl, rfl, rfl, by decide +kernel, rfl, by decide +kernel, by decide +kernel⟩
abbrev s_imay : Stmt := inClass (topS 18) 16
abbrev N_imay : List Str := ["self", "data"]
abbrev P_imay : List Str := ["self", "data"]
theorem sc_imay : FnScope N_imay P_imay (defScope s_imay) := ⟨rfl, rfl, rfl, by decide +kernel, rfl, by decide +kernel, by decide +kernel⟩
abbrev s_inote : Stmt := inClass (topS 18) 12
abbrev N_inote : List Str := ["self", "word", "handed", "came"]
abbrev P_inote : List Str := ["self", "word", "handed", "came"]
theorem sc_inote : FnScope N_inote P_inote (defScope s_inote) := ⟨rfl, rfl, rfl, by decide +kernel, rfl, by decide +kernel, by decide +kernel⟩
abbrev s_ishut : Stmt := inClass (topS 18) 9
abbrev N_ishut : List Str := ["self"]
abbrev P_ishut : List Str := ["self"]
theorem sc_ishut : FnScope N_ishut P_ishut (defScope s_ishut) := ⟨rfl, rfl, rfl, by decide +kernel, rfl, by decide +kernel, by decide +kernel⟩
abbrev s_ilog : Stmt := inClass (topS 18) 10
abbrev N_ilog : List Str := ["self"]
abbrev P_ilog : List Str := ["self"]
theorem sc_ilog : FnScope N_ilog P_ilog (defScope s_ilog) := ⟨rfl, rfl, rfl, by decide +kernel, rfl, by decide +kernel, by decide +kernel⟩
abbrev s_ilogb : Stmt := inClass (topS 18) 11
abbrev N_ilogb : List Str := ["self", "many", "word", "place", "handed", "came"]
abbrev P_ilogb : List Str := ["self", "many"]
theorem sc_ilogb : FnScope N_ilogb P_ilogb (defScope s_ilogb) := ⟨rfl, rfl, rfl, by decide +kernel, rfl, by decide +kernel, by decide +kernel⟩
abbrev s_otake : Stmt := inClass (topS 18) 1
abbrev N_otake : List Str := ["self", "many", "came"]
abbrev P_otake : List Str := ["self", "many"]
theorem sc_otake : FnScope N_otake P_otake (defScope s_otake) := ⟨rfl, rfl, rfl, by decide +kernel, rfl, by decide +kernel, by decide +kernel⟩
abbrev s_oopen : Stmt := inClass (topS 18) 13
abbrev N_oopen : List Str := ["self"]
abbrev P_oopen : List Str := ["self"]
theorem sc_oopen : FnScope N_oopen P_oopen (defScope s_oopen) := ⟨rfl, rfl, rfl, by decide +kernel, rfl, by decide +kernel, by decide +kernel⟩
abbrev s_omay : Stmt := inClass (topS 18) 15
abbrev N_omay : List Str := ["self"]
abbrev P_omay : List Str := ["self"]
theorem sc_omay : FnScope N_omay P_omay (defScope s_omay) := ⟨rfl, rfl, rfl, by decide +kernel, rfl, by decide +kernel, by decide +kernel⟩
abbrev s_onote : Stmt := inClass (topS 18) 12
abbrev N_onote : List Str := ["self", "word", "handed", "came"]
abbrev P_onote : List Str := ["self", "word", "handed", "came"]
theorem sc_onote : FnScope N_onote P_onote (defScope s_onote) := ⟨rfl, rfl, rfl, by decide +kernel, rfl, by decide +kernel, by decide +kernel⟩
abbrev s_oshut : Stmt := inClass (topS 18) 9
abbrev N_oshut : List Str := ["self"]
abbrev P_oshut : List Str := ["self"]
theorem sc_oshut : FnScope N_oshut P_oshut (defScope s_oshut) := ⟨rfl, rfl, rfl, by decide +kernel, rfl, by decide +kernel, by decide +kernel⟩
abbrev s_olog : Stmt := inClass (topS 18) 10
abbrev N_olog : List Str := ["self"]
abbrev P_olog : List Str := ["self"]
theorem sc_olog : FnScope N_olog P_olog (defScope s_olog) := ⟨rfl, rfl, rfl, by decide +kernel, rfl, by decide +kernel, by decide +kernel⟩
abbrev s_ologb : Stmt := inClass (topS 18) 11
abbrev N_ologb : List Str := ["self", "many", "word", "place", "handed", "came"]
abbrev P_ologb : List Str := ["self", "many"]
theorem sc_ologb : FnScope N_ologb P_ologb (defScope s_ologb) := ⟨rfl, rfl, rfl, by decide +kernel, rfl, by decide +kernel, by decide +kernel⟩
abbrev s_iFault : Stmt := inClass (topS 7) 0
abbrev N_iFault : List Str := ["self", "number", "taken"]
abbrev P_iFault : List Str := ["self", "number", "taken"]
theorem sc_iFault : FnScope N_iFault P_iFault (defScope s_iFault) := ⟨rfl, rfl, rfl, by decide +kernel, rfl, by decide +kernel, by decide +kernel⟩
abbrev s_rshut : Stmt := inClass (topS 18) 5
abbrev N_rshut : List Str := ["self"]
abbrev P_rshut : List Str := ["self"]
theorem sc_rshut : FnScope N_rshut P_rshut (defScope s_rshut) := ⟨rfl, rfl, rfl, by decide +kernel, rfl, by decide +kernel, by decide +kernel⟩
abbrev s_pdrop : Stmt := inClass (topS 23) 6
abbrev N_pdrop : List Str := ["self"]
abbrev P_pdrop : List Str := ["self"]
theorem sc_pdrop : FnScope N_pdrop P_pdrop (defScope s_pdrop) := ⟨rfl, rfl, rfl, by decide +kernel, rfl, by decide +kernel, by decide +kernel⟩
abbrev s_osup : Stmt := inClass (topS 22) 3
abbrev N_osup : List Str := ["self", "__class__"]
abbrev P_osup : List Str := ["self"]
theorem sc_osup : NdefX.NScope N_osup P_osup ["__class__"] (defScope s_osup) := NdefX.nscope_by (by decide +kernel)
abbrev s_ibar : Stmt := inClass (topS 18) 5
abbrev N_ibar : List Str := ["self"]
abbrev P_ibar : List Str := ["self"]
theorem sc_ibar : FnScope N_ibar P_ibar (defScope s_ibar) := ⟨rfl, rfl, rfl, by decide +kernel, rfl, by decide +kernel, by decide +kernel⟩
abbrev s_itake : Stmt := inClass (topS 18) 1
abbrev N_itake : List Str := ["self", "many", "came"]
abbrev P_itake : List Str := ["self", "many"]
theorem sc_itake : FnScope N_itake P_itake (defScope s_itake) := ⟨rfl, rfl, rfl, by decide +kernel, rfl, by decide +kernel, by decide +kernel⟩
abbrev s_imayT : Stmt := inClass (topS 21) 1
abbrev N_imayT : List Str := ["self"]
abbrev P_imayT : List Str := ["self"]
theorem sc_imayT : FnScope N_imayT P_imayT (defScope s_imayT) := ⟨rfl, rfl, rfl, by decide +kernel, rfl, by decide +kernel, by decide +kernel⟩
abbrev s_igo : Stmt := inClass (topS 18) 3
abbrev N_igo : List Str := ["self", "place"]
abbrev P_igo : List Str := ["self", "place"]
theorem sc_igo : FnScope N_igo P_igo (defScope s_igo) := ⟨rfl, rfl, rfl, by decide +kernel, rfl, by decide +kernel, by decide +kernel⟩
abbrev s_icut : Stmt := inClass (topS 18) 4
abbrev N_icut : List Str := ["self", "size"]
abbrev P_icut : List Str := ["self", "size"]
theorem sc_icut : FnScope N_icut P_icut (defScope s_icut) := ⟨rfl, rfl, rfl, by decide +kernel, rfl, by decide +kernel, by decide +kernel⟩
abbrev s_iplace : Stmt := inClass (topS 18) 6
abbrev N_iplace : List Str := ["self"]
abbrev P_iplace : List Str := ["self"]
theorem sc_iplace : FnScope N_iplace P_iplace (defScope s_iplace) := ⟨rfl, rfl, rfl, by decide +kernel, rfl, by decide +kernel, by decide +kernel⟩
abbrev s_isize : Stmt := inClass (topS 18) 7
abbrev N_isize : List Str := ["self"]
abbrev P_isize : List Str := ["self"]
theorem sc_isize : FnScope N_isize P_isize (defScope s_isize) := ⟨rfl, rfl, rfl, by decide +kernel, rfl, by decide +kernel, by decide +kernel⟩
abbrev s_iseek : Stmt := inClass (topS 18) 14
abbrev N_iseek : List Str := ["self"]
abbrev P_iseek : List Str := ["self"]
theorem sc_iseek : FnScope N_iseek P_iseek (defScope s_iseek) := ⟨rfl, rfl, rfl, by decide +kernel, rfl, by decide +kernel, by decide +kernel⟩
abbrev s_imayC : Stmt := inClass (topS 18) 17
abbrev N_imayC : List Str := ["self"]
abbrev P_imayC : List Str := ["self"]
theorem sc_imayC : FnScope N_imayC P_imayC (defScope s_imayC) := ⟨rfl, rfl, rfl, by decide +kernel, rfl, by decide +kernel, by decide +kernel⟩
abbrev s_isk : Stmt := inClass (topS 18) 8
abbrev N_isk : List Str := ["self"]
abbrev P_isk : List Str := ["self"]
theorem sc_isk : FnScope N_isk P_isk (defScope s_isk) := ⟨rfl, rfl, rfl, by decide +kernel, rfl, by decide +kernel, by decide +kernel⟩
abbrev s_oput : Stmt := inClass (topS 18) 2
abbrev N_oput : List Str := ["self", "data", "handed", "took"]
abbrev P_oput : List Str := ["self", "data"]
theorem sc_oput : FnScope N_oput P_oput (defScope s_oput) := ⟨rfl, rfl, rfl, by decide +kernel, rfl, by decide +kernel, by decide +kernel⟩
abbrev s_omayP : Stmt := inClass (topS 22) 1
abbrev N_omayP : List Str := ["self", "data"]
abbrev P_omayP : List Str := ["self", "data"]
theorem sc_omayP : FnScope N_omayP P_omayP (defScope s_omayP) := ⟨rfl, rfl, rfl, by decide +kernel, rfl, by decide +kernel, by decide +kernel⟩
abbrev s_ogo : Stmt := inClass (topS 18) 3
abbrev N_ogo : List Str := ["self", "place"]
abbrev P_ogo : List Str := ["self", "place"]
theorem sc_ogo : FnScope N_ogo P_ogo (defScope s_ogo) := ⟨rfl, rfl, rfl, by decide +kernel, rfl, by decide +kernel, by decide +kernel⟩
abbrev s_ocut : Stmt := inClass (topS 18) 4
abbrev N_ocut : List Str := ["self", "size"]
abbrev P_ocut : List Str := ["self", "size"]
theorem sc_ocut : FnScope N_ocut P_ocut (defScope s_ocut) := ⟨rfl, rfl, rfl, by decide +kernel, rfl, by decide +kernel, by decide +kernel⟩
abbrev s_oplace : Stmt := inClass (topS 18) 6
abbrev N_oplace : List Str := ["self"]
abbrev P_oplace : List Str := ["self"]
theorem sc_oplace : FnScope N_oplace P_oplace (defScope s_oplace) := ⟨rfl, rfl, rfl, by decide +kernel, rfl, by decide +kernel, by decide +kernel⟩
abbrev s_osize : Stmt := inClass (topS 18) 7
abbrev N_osize : List Str := ["self"]
abbrev P_osize : List Str := ["self"]
theorem sc_osize : FnScope N_osize P_osize (defScope s_osize) := ⟨rfl, rfl, rfl, by decide +kernel, rfl, by decide +kernel, by decide +kernel⟩
abbrev s_oseek : Stmt := inClass (topS 18) 14
abbrev N_oseek : List Str := ["self"]
abbrev P_oseek : List Str := ["self"]
theorem sc_oseek : FnScope N_oseek P_oseek (defScope s_oseek) := ⟨rfl, rfl, rfl, by decide +kernel, rfl, by decide +kernel, by decide +kernel⟩
abbrev s_omayC : Stmt := inClass (topS 18) 17
abbrev N_omayC : List Str := ["self"]
abbrev P_omayC : List Str := ["self"]
theorem sc_omayC : FnScope N_omayC P_omayC (defScope s_omayC) := ⟨rfl, rfl, rfl, by decide +kernel, rfl, by decide +kernel, by decide +kernel⟩
abbrev s_osk : Stmt := inClass (topS 18) 8
abbrev N_osk : List Str := ["self"]
abbrev P_osk : List Str := ["self"]
theorem sc_osk : FnScope N_osk P_osk (defScope s_osk) := ⟨rfl, rfl, rfl, by decide +kernel, rfl, by decide +kernel, by decide +kernel⟩
abbrev s_pool : Stmt := topS 25
abbrev N_pool : List Str := ["_law_script", "_law_at", "_law_cell", "_law_digits"]
abbrev P_pool : List Str := ["_law_script", "_law_at"]
theorem sc_pool : FnScope N_pool P_pool (defScope s_pool) := ⟨rfl, rfl, rfl, by decide +kernel, rfl, by decide +kernel, by decide +kernel⟩
abbrev s_take : Stmt := topS 26
abbrev N_take : List Str := ["_law_pool_here", "_law_wide", "_law_found", "_law_seed"]
abbrev P_take : List Str := ["_law_pool_here", "_law_wide"]
theorem sc_take : FnScope N_take P_take (defScope s_take) := ⟨rfl, rfl, rfl, by decide +kernel, rfl, by decide +kernel, by decide +kernel⟩
abbrev s_lrow : Stmt := topS 27
abbrev N_lrow : List Str := ["_law_pool_here", "_law_long", "_law_row_here", "_law_k", "_law_way"]
abbrev P_lrow : List Str := ["_law_pool_here", "_law_long"]
theorem sc_lrow : FnScope N_lrow P_lrow (defScope s_lrow) := ⟨rfl, rfl, rfl, by decide +kernel, rfl, by decide +kernel, by decide +kernel⟩
abbrev s_lrefusal : Stmt := topS 28
abbrev N_lrefusal : List Str := ["_law_e", "_law_kinds"]
abbrev P_lrefusal : List Str := ["_law_e"]
theorem sc_lrefusal : FnScope N_lrefusal P_lrefusal (defScope s_lrefusal) := ⟨rfl, rfl, rfl, by decide +kernel, rfl, by decide +kernel, by decide +kernel⟩
abbrev s_ltried : Stmt := topS 29
abbrev N_ltried : List Str := ["_law_raw", "_law_word", "_law_thing", "_law_found", "_law_e"]
abbrev P_ltried : List Str := ["_law_raw", "_law_word", "_law_thing"]
theorem sc_ltried : FnScope N_ltried P_ltried (defScope s_ltried) := ⟨rfl, rfl, rfl, by decide +kernel, rfl, by decide +kernel, by decide +kernel⟩
abbrev s_lbad : Stmt := topS 30
abbrev N_lbad : List Str := ["_law_number", "_law_found", "_law_e"]
abbrev P_lbad : List Str := ["_law_number"]
theorem sc_lbad : FnScope N_lbad P_lbad (defScope s_lbad) := ⟨rfl, rfl, rfl, by decide +kernel, rfl, by decide +kernel, by decide +kernel⟩
abbrev s_ldue : Stmt := topS 31
abbrev N_ldue : List Str := ["_law_high", "_law_live", "_law_word"]
abbrev P_ldue : List Str := ["_law_high", "_law_live", "_law_word"]
theorem sc_ldue : FnScope N_ldue P_ldue (defScope s_ldue) := ⟨rfl, rfl, rfl, by decide +kernel, rfl, by decide +kernel, by decide +kernel⟩
abbrev s_lasked : Stmt := topS 32
abbrev N_lasked : List Str := ["_law_pool_here", "_law_pipe", "_law_live", "_law_notes", "_law_lies", "_law_k", "_law_high", "_law_end", "_law_word"]
abbrev P_lasked : List Str := ["_law_pool_here", "_law_pipe", "_law_live", "_law_notes", "_law_lies"]
theorem sc_lasked : FnScope N_lasked P_lasked (defScope s_lasked) := ⟨rfl, rfl, rfl, by decide +kernel, rfl, by decide +kernel, by decide +kernel⟩
abbrev s_law : Stmt := topS 33
abbrev N_law : List Str := ["_law_script", "_law_pool_here", "_law_number", "_law_row_here", "_law_bad", "_law_pipe", "_law_size", "_law_notes", "_law_lies", "_law_at", "_law_live", "_law_end"]
abbrev P_law : List Str := ["_law_script"]
theorem sc_law : FnScope N_law P_law (defScope s_law) := ⟨rfl, rfl, rfl, by decide +kernel, rfl, by decide +kernel, by decide +kernel⟩
def supFl : Str := Str.ofString "/claim/cut.py"
noncomputable section
def re_334 (_ : PySem.W.Frag) : Bool := true
def re_333 (K : PySem.W.Frag) : Bool := decide (PySem.W.nsIn K mainGlobals "ValueError" = some none) && re_334 K
def re_332 (K : PySem.W.Frag) : Bool := decide (PySem.W.nsIn K mainGlobals "super" = some none) && re_333 K
def re_331 (K : PySem.W.Frag) : Bool := decide (PySem.W.nsIn K mainGlobals "bool" = some none) && re_332 K
def re_330 (K : PySem.W.Frag) : Bool := decide (PySem.W.nsIn K mainGlobals "int" = some none) && re_331 K
def re_329 (K : PySem.W.Frag) : Bool := decide (PySem.W.nsIn K mainGlobals "isinstance" = some none) && re_330 K
def re_328 (K : PySem.W.Frag) : Bool := decide (PySem.W.nsIn K mainGlobals "min" = some none) && re_329 K
def re_327 (K : PySem.W.Frag) : Bool := decide (PySem.W.nsIn K mainGlobals "max" = some none) && re_328 K
def re_326 (K : PySem.W.Frag) : Bool := decide (PySem.W.nsIn K mainGlobals "range" = some none) && re_327 K
def re_325 (K : PySem.W.Frag) : Bool := decide (PySem.W.nsIn K mainGlobals "len" = some none) && re_326 K
def re_324 (K : PySem.W.Frag) : Bool := decide (PySem.W.nsIn K mainGlobals "list" = some none) && re_325 K
def re_323 (K : PySem.W.Frag) : Bool := Sip.conB K "BROKEN" (.int 99) && re_324 K
def re_322 (K : PySem.W.Frag) : Bool := Sip.conB K "GREATEST_ROOM" (.int 64) && re_323 K
def re_321 (K : PySem.W.Frag) : Bool := Sip.conB K "ROOM" (.int 8) && re_322 K
def re_320 (K : PySem.W.Frag) : Bool := decide (PySem.W.findIn K (.ref (He.ga K "Pipe")) "out_end" = some none) && re_321 K
def re_319 (K : PySem.W.Frag) : Bool := decide (PySem.W.findIn K (.ref (He.ga K "Pipe")) "into_end" = some none) && re_320 K
def re_318 (K : PySem.W.Frag) : Bool := decide (PySem.W.findIn K (.ref (He.ga K "Pipe")) "within" = some none) && re_319 K
def re_317 (K : PySem.W.Frag) : Bool := decide (PySem.W.findIn K (.ref (He.ga K "Pipe")) "room" = some none) && re_318 K
def re_316 (K : PySem.W.Frag) : Bool := decide (PySem.W.keepIn K (.ref (He.ga K "Pipe")) = true) && re_317 K
def re_315 (K : PySem.W.Frag) : Bool := decide (PySem.W.makesIn K (He.ga K "Pipe") = true) && re_316 K
def re_314 (K : PySem.W.Frag) : Bool := decide (PySem.W.findIn K (.ref (He.ga K "Pipe")) "__setattr__" = some (some (.builtin "object.__setattr__"))) && re_315 K
def re_313 (K : PySem.W.Frag) : Bool := decide (PySem.W.plainOver K (He.ga K "Pipe") = true) && re_314 K
def re_312 (K : PySem.W.Frag) : Bool := decide (PySem.W.hasDictIn K (He.ga K "Pipe") = true) && re_313 K
def re_311 (K : PySem.W.Frag) : Bool := decide (PySem.W.plainGet K (He.ga K "Pipe") Str.empty = true) && re_312 K
def re_310 (K : PySem.W.Frag) : Bool := decide (PySem.W.findIn K (.ref (He.ga K "OutEnd")) "pipe" = some none) && re_311 K
def re_309 (K : PySem.W.Frag) : Bool := decide (PySem.W.findIn K (.ref (He.ga K "OutEnd")) "notes" = some none) && re_310 K
def re_308 (K : PySem.W.Frag) : Bool := decide (PySem.W.findIn K (.ref (He.ga K "OutEnd")) "barred" = some none) && re_309 K
def re_307 (K : PySem.W.Frag) : Bool := decide (PySem.W.findIn K (.ref (He.ga K "OutEnd")) "spot" = some none) && re_308 K
def re_306 (K : PySem.W.Frag) : Bool := decide (PySem.W.findIn K (.ref (He.ga K "OutEnd")) "can_seek" = some none) && re_307 K
def re_305 (K : PySem.W.Frag) : Bool := decide (PySem.W.keepIn K (.ref (He.ga K "OutEnd")) = true) && re_306 K
def re_304 (K : PySem.W.Frag) : Bool := decide (PySem.W.makesIn K (He.ga K "OutEnd") = true) && re_305 K
def re_303 (K : PySem.W.Frag) : Bool := decide (PySem.W.findIn K (.ref (He.ga K "OutEnd")) "__setattr__" = some (some (.builtin "object.__setattr__"))) && re_304 K
def re_302 (K : PySem.W.Frag) : Bool := decide (PySem.W.plainOver K (He.ga K "OutEnd") = true) && re_303 K
def re_301 (K : PySem.W.Frag) : Bool := decide (PySem.W.hasDictIn K (He.ga K "OutEnd") = true) && re_302 K
def re_300 (K : PySem.W.Frag) : Bool := decide (PySem.W.plainGet K (He.ga K "OutEnd") Str.empty = true) && re_301 K
def re_299 (K : PySem.W.Frag) : Bool := decide (PySem.W.findIn K (.ref (He.ga K "IntoEnd")) "pipe" = some none) && re_300 K
def re_298 (K : PySem.W.Frag) : Bool := decide (PySem.W.findIn K (.ref (He.ga K "IntoEnd")) "notes" = some none) && re_299 K
def re_297 (K : PySem.W.Frag) : Bool := decide (PySem.W.findIn K (.ref (He.ga K "IntoEnd")) "barred" = some none) && re_298 K
def re_296 (K : PySem.W.Frag) : Bool := decide (PySem.W.findIn K (.ref (He.ga K "IntoEnd")) "spot" = some none) && re_297 K
def re_295 (K : PySem.W.Frag) : Bool := decide (PySem.W.findIn K (.ref (He.ga K "IntoEnd")) "can_seek" = some none) && re_296 K
def re_294 (K : PySem.W.Frag) : Bool := decide (PySem.W.keepIn K (.ref (He.ga K "IntoEnd")) = true) && re_295 K
def re_293 (K : PySem.W.Frag) : Bool := decide (PySem.W.makesIn K (He.ga K "IntoEnd") = true) && re_294 K
def re_292 (K : PySem.W.Frag) : Bool := decide (PySem.W.findIn K (.ref (He.ga K "IntoEnd")) "__setattr__" = some (some (.builtin "object.__setattr__"))) && re_293 K
def re_291 (K : PySem.W.Frag) : Bool := decide (PySem.W.plainOver K (He.ga K "IntoEnd") = true) && re_292 K
def re_290 (K : PySem.W.Frag) : Bool := decide (PySem.W.hasDictIn K (He.ga K "IntoEnd") = true) && re_291 K
def re_289 (K : PySem.W.Frag) : Bool := decide (PySem.W.plainGet K (He.ga K "IntoEnd") Str.empty = true) && re_290 K
def re_288 (K : PySem.W.Frag) : Bool := decide (PySem.W.nsIn K mainGlobals "law" = some (some (.ref (He.fAd K ("law", none))))) && re_289 K
def re_287 (K : PySem.W.Frag) : Bool := decide (PySem.W.nsIn K mainGlobals "_law_asked" = some (some (.ref (He.fAd K ("_law_asked", none))))) && re_288 K
def re_286 (K : PySem.W.Frag) : Bool := decide (PySem.W.nsIn K mainGlobals "_law_due" = some (some (.ref (He.fAd K ("_law_due", none))))) && re_287 K
def re_285 (K : PySem.W.Frag) : Bool := decide (PySem.W.nsIn K mainGlobals "_law_bad_room" = some (some (.ref (He.fAd K ("_law_bad_room", none))))) && re_286 K
def re_284 (K : PySem.W.Frag) : Bool := decide (PySem.W.nsIn K mainGlobals "_law_tried" = some (some (.ref (He.fAd K ("_law_tried", none))))) && re_285 K
def re_283 (K : PySem.W.Frag) : Bool := decide (PySem.W.nsIn K mainGlobals "_law_refusal" = some (some (.ref (He.fAd K ("_law_refusal", none))))) && re_284 K
def re_282 (K : PySem.W.Frag) : Bool := decide (PySem.W.nsIn K mainGlobals "_law_row" = some (some (.ref (He.fAd K ("_law_row", none))))) && re_283 K
def re_281 (K : PySem.W.Frag) : Bool := decide (PySem.W.nsIn K mainGlobals "_law_take" = some (some (.ref (He.fAd K ("_law_take", none))))) && re_282 K
def re_280 (K : PySem.W.Frag) : Bool := decide (PySem.W.nsIn K mainGlobals "_law_pool" = some (some (.ref (He.fAd K ("_law_pool", none))))) && re_281 K
def re_279 (K : PySem.W.Frag) : Bool := decide (PySem.W.isFn K (.ref (He.fAd K ("OutEnd", some "seeks"))) = true) && re_280 K
def re_278 (K : PySem.W.Frag) : Bool := decide (PySem.W.findIn K (.ref (He.ga K "OutEnd")) "seeks" = some (some (.ref (He.fAd K ("OutEnd", some "seeks"))))) && re_279 K
def re_277 (K : PySem.W.Frag) : Bool := decide (PySem.W.isFn K (.ref (He.fAd K ("OutEnd", some "may_cut"))) = true) && re_278 K
def re_276 (K : PySem.W.Frag) : Bool := decide (PySem.W.findIn K (.ref (He.ga K "OutEnd")) "may_cut" = some (some (.ref (He.fAd K ("OutEnd", some "may_cut"))))) && re_277 K
def re_275 (K : PySem.W.Frag) : Bool := decide (PySem.W.isFn K (.ref (He.fAd K ("OutEnd", some "check_seeks"))) = true) && re_276 K
def re_274 (K : PySem.W.Frag) : Bool := decide (PySem.W.findIn K (.ref (He.ga K "OutEnd")) "check_seeks" = some (some (.ref (He.fAd K ("OutEnd", some "check_seeks"))))) && re_275 K
def re_273 (K : PySem.W.Frag) : Bool := decide (PySem.W.isFn K (.ref (He.fAd K ("OutEnd", some "size"))) = true) && re_274 K
def re_272 (K : PySem.W.Frag) : Bool := decide (PySem.W.findIn K (.ref (He.ga K "OutEnd")) "size" = some (some (.ref (He.fAd K ("OutEnd", some "size"))))) && re_273 K
def re_271 (K : PySem.W.Frag) : Bool := decide (PySem.W.isFn K (.ref (He.fAd K ("OutEnd", some "place"))) = true) && re_272 K
def re_270 (K : PySem.W.Frag) : Bool := decide (PySem.W.findIn K (.ref (He.ga K "OutEnd")) "place" = some (some (.ref (He.fAd K ("OutEnd", some "place"))))) && re_271 K
def re_269 (K : PySem.W.Frag) : Bool := decide (PySem.W.isFn K (.ref (He.fAd K ("OutEnd", some "cut"))) = true) && re_270 K
def re_268 (K : PySem.W.Frag) : Bool := decide (PySem.W.findIn K (.ref (He.ga K "OutEnd")) "cut" = some (some (.ref (He.fAd K ("OutEnd", some "cut"))))) && re_269 K
def re_267 (K : PySem.W.Frag) : Bool := decide (PySem.W.isFn K (.ref (He.fAd K ("OutEnd", some "go"))) = true) && re_268 K
def re_266 (K : PySem.W.Frag) : Bool := decide (PySem.W.findIn K (.ref (He.ga K "OutEnd")) "go" = some (some (.ref (He.fAd K ("OutEnd", some "go"))))) && re_267 K
def re_265 (K : PySem.W.Frag) : Bool := decide (PySem.W.isFn K (.ref (He.fAd K ("OutEnd", some "may_put"))) = true) && re_266 K
def re_264 (K : PySem.W.Frag) : Bool := decide (PySem.W.findIn K (.ref (He.ga K "OutEnd")) "may_put" = some (some (.ref (He.fAd K ("OutEnd", some "may_put"))))) && re_265 K
def re_263 (K : PySem.W.Frag) : Bool := decide (PySem.W.isFn K (.ref (He.fAd K ("OutEnd", some "put"))) = true) && re_264 K
def re_262 (K : PySem.W.Frag) : Bool := decide (PySem.W.findIn K (.ref (He.ga K "OutEnd")) "put" = some (some (.ref (He.fAd K ("OutEnd", some "put"))))) && re_263 K
def re_261 (K : PySem.W.Frag) : Bool := decide (PySem.W.isFn K (.ref (He.fAd K ("IntoEnd", some "seeks"))) = true) && re_262 K
def re_260 (K : PySem.W.Frag) : Bool := decide (PySem.W.findIn K (.ref (He.ga K "IntoEnd")) "seeks" = some (some (.ref (He.fAd K ("IntoEnd", some "seeks"))))) && re_261 K
def re_259 (K : PySem.W.Frag) : Bool := decide (PySem.W.isFn K (.ref (He.fAd K ("IntoEnd", some "may_cut"))) = true) && re_260 K
def re_258 (K : PySem.W.Frag) : Bool := decide (PySem.W.findIn K (.ref (He.ga K "IntoEnd")) "may_cut" = some (some (.ref (He.fAd K ("IntoEnd", some "may_cut"))))) && re_259 K
def re_257 (K : PySem.W.Frag) : Bool := decide (PySem.W.isFn K (.ref (He.fAd K ("IntoEnd", some "check_seeks"))) = true) && re_258 K
def re_256 (K : PySem.W.Frag) : Bool := decide (PySem.W.findIn K (.ref (He.ga K "IntoEnd")) "check_seeks" = some (some (.ref (He.fAd K ("IntoEnd", some "check_seeks"))))) && re_257 K
def re_255 (K : PySem.W.Frag) : Bool := decide (PySem.W.isFn K (.ref (He.fAd K ("IntoEnd", some "size"))) = true) && re_256 K
def re_254 (K : PySem.W.Frag) : Bool := decide (PySem.W.findIn K (.ref (He.ga K "IntoEnd")) "size" = some (some (.ref (He.fAd K ("IntoEnd", some "size"))))) && re_255 K
def re_253 (K : PySem.W.Frag) : Bool := decide (PySem.W.isFn K (.ref (He.fAd K ("IntoEnd", some "place"))) = true) && re_254 K
def re_252 (K : PySem.W.Frag) : Bool := decide (PySem.W.findIn K (.ref (He.ga K "IntoEnd")) "place" = some (some (.ref (He.fAd K ("IntoEnd", some "place"))))) && re_253 K
def re_251 (K : PySem.W.Frag) : Bool := decide (PySem.W.isFn K (.ref (He.fAd K ("IntoEnd", some "cut"))) = true) && re_252 K
def re_250 (K : PySem.W.Frag) : Bool := decide (PySem.W.findIn K (.ref (He.ga K "IntoEnd")) "cut" = some (some (.ref (He.fAd K ("IntoEnd", some "cut"))))) && re_251 K
def re_249 (K : PySem.W.Frag) : Bool := decide (PySem.W.isFn K (.ref (He.fAd K ("IntoEnd", some "go"))) = true) && re_250 K
def re_248 (K : PySem.W.Frag) : Bool := decide (PySem.W.findIn K (.ref (He.ga K "IntoEnd")) "go" = some (some (.ref (He.fAd K ("IntoEnd", some "go"))))) && re_249 K
def re_247 (K : PySem.W.Frag) : Bool := decide (PySem.W.isFn K (.ref (He.fAd K ("IntoEnd", some "may_take"))) = true) && re_248 K
def re_246 (K : PySem.W.Frag) : Bool := decide (PySem.W.findIn K (.ref (He.ga K "IntoEnd")) "may_take" = some (some (.ref (He.fAd K ("IntoEnd", some "may_take"))))) && re_247 K
def re_245 (K : PySem.W.Frag) : Bool := decide (PySem.W.isFn K (.ref (He.fAd K ("IntoEnd", some "take"))) = true) && re_246 K
def re_244 (K : PySem.W.Frag) : Bool := decide (PySem.W.findIn K (.ref (He.ga K "IntoEnd")) "take" = some (some (.ref (He.fAd K ("IntoEnd", some "take"))))) && re_245 K
def re_243 (K : PySem.W.Frag) : Bool := decide (PySem.W.isFn K (.ref (He.fAd K ("IntoEnd", some "shut"))) = true) && re_244 K
def re_242 (K : PySem.W.Frag) : Bool := decide (PySem.W.findIn K (.ref (He.ga K "IntoEnd")) "shut" = some (some (.ref (He.fAd K ("IntoEnd", some "shut"))))) && re_243 K
def re_241 (K : PySem.W.Frag) : Bool := decide (PySem.W.nsIn K PySem.cStatics "thirdparty.any" = some none) && re_242 K
def re_240 (K : PySem.W.Frag) : Bool := decide (PySem.W.fnIn K (He.fAd K ("Raw", some "shut")) = true) && re_241 K
def re_239 (K : PySem.W.Frag) : Bool := decide (PySem.W.typeIn K (.ref (He.fAd K ("Raw", some "shut"))) = some (.type "function")) && re_240 K
def re_238 (K : PySem.W.Frag) : Bool := decide (PySem.W.ks_superIn K (He.ga K "OutEnd") (He.ga K "OutEnd") "shut" = some (some (.ref (He.fAd K ("Raw", some "shut"))))) && re_239 K
def re_237 (K : PySem.W.Frag) : Bool := decide (PySem.W.mroIn K (He.ga K "OutEnd") (.ref (He.ga K "OutEnd")) = some true) && re_238 K
def re_236 (K : PySem.W.Frag) : Bool := decide ((PySem.W.clsIn K (He.ga K "OutEnd")).isSome = true) && re_237 K
def re_235 (K : PySem.W.Frag) : Bool := decide (Sip.supB K ("OutEnd", some "shut") "OutEnd.shut" (He.ga K "OutEnd") supFl = true) && re_236 K
def re_234 (K : PySem.W.Frag) : Bool := decide (PySem.W.isFn K (.ref (He.fAd K ("OutEnd", some "shut"))) = true) && re_235 K
def re_233 (K : PySem.W.Frag) : Bool := decide (PySem.W.findIn K (.ref (He.ga K "OutEnd")) "shut" = some (some (.ref (He.fAd K ("OutEnd", some "shut"))))) && re_234 K
def re_232 (K : PySem.W.Frag) : Bool := decide (PySem.W.isFn K (.ref (He.fAd K ("Pipe", some "drop"))) = true) && re_233 K
def re_231 (K : PySem.W.Frag) : Bool := decide (PySem.W.findIn K (.ref (He.ga K "Pipe")) "drop" = some (some (.ref (He.fAd K ("Pipe", some "drop"))))) && re_232 K
def re_230 (K : PySem.W.Frag) : Bool := Sip.clsB K (.ref (He.ga K "Raw")) (.type "type") "shut" (.ref (He.fAd K ("Raw", some "shut"))) && re_231 K
def re_229 (K : PySem.W.Frag) : Bool := decide (PySem.W.isFn K (.ref (He.fAd K ("Raw", some "shut"))) = true) && re_230 K
def re_228 (K : PySem.W.Frag) : Bool := decide (PySem.W.findIn K (.ref (He.ga K "Raw")) "shut" = some (some (.ref (He.fAd K ("Raw", some "shut"))))) && re_229 K
def re_227 (K : PySem.W.Frag) : Bool := decide (PySem.W.typeIn K (.ref (He.fAd K ("Fault", some "__init__"))) = some (.type "function")) && re_228 K
def re_226 (K : PySem.W.Frag) : Bool := decide (PySem.W.findIn K (.ref (He.ga K "Fault")) "__init__" = some (some (.ref (He.fAd K ("Fault", some "__init__"))))) && re_227 K
def re_225 (K : PySem.W.Frag) : Bool := decide (PySem.W.isFn K (.ref (He.fAd K ("OutEnd", some "log_behind"))) = true) && re_226 K
def re_224 (K : PySem.W.Frag) : Bool := decide (PySem.W.findIn K (.ref (He.ga K "OutEnd")) "log_behind" = some (some (.ref (He.fAd K ("OutEnd", some "log_behind"))))) && re_225 K
def re_223 (K : PySem.W.Frag) : Bool := decide (PySem.W.isFn K (.ref (He.fAd K ("OutEnd", some "log"))) = true) && re_224 K
def re_222 (K : PySem.W.Frag) : Bool := decide (PySem.W.findIn K (.ref (He.ga K "OutEnd")) "log" = some (some (.ref (He.fAd K ("OutEnd", some "log"))))) && re_223 K
def re_221 (K : PySem.W.Frag) : Bool := decide (PySem.W.isFn K (.ref (He.fAd K ("OutEnd", some "is_shut"))) = true) && re_222 K
def re_220 (K : PySem.W.Frag) : Bool := decide (PySem.W.findIn K (.ref (He.ga K "OutEnd")) "is_shut" = some (some (.ref (He.fAd K ("OutEnd", some "is_shut"))))) && re_221 K
def re_219 (K : PySem.W.Frag) : Bool := decide (PySem.W.isFn K (.ref (He.fAd K ("OutEnd", some "note"))) = true) && re_220 K
def re_218 (K : PySem.W.Frag) : Bool := decide (PySem.W.findIn K (.ref (He.ga K "OutEnd")) "note" = some (some (.ref (He.fAd K ("OutEnd", some "note"))))) && re_219 K
def re_217 (K : PySem.W.Frag) : Bool := decide (PySem.W.isFn K (.ref (He.fAd K ("OutEnd", some "may_take"))) = true) && re_218 K
def re_216 (K : PySem.W.Frag) : Bool := decide (PySem.W.findIn K (.ref (He.ga K "OutEnd")) "may_take" = some (some (.ref (He.fAd K ("OutEnd", some "may_take"))))) && re_217 K
def re_215 (K : PySem.W.Frag) : Bool := decide (PySem.W.isFn K (.ref (He.fAd K ("OutEnd", some "check_open"))) = true) && re_216 K
def re_214 (K : PySem.W.Frag) : Bool := decide (PySem.W.findIn K (.ref (He.ga K "OutEnd")) "check_open" = some (some (.ref (He.fAd K ("OutEnd", some "check_open"))))) && re_215 K
def re_213 (K : PySem.W.Frag) : Bool := decide (PySem.W.isFn K (.ref (He.fAd K ("OutEnd", some "take"))) = true) && re_214 K
def re_212 (K : PySem.W.Frag) : Bool := decide (PySem.W.findIn K (.ref (He.ga K "OutEnd")) "take" = some (some (.ref (He.fAd K ("OutEnd", some "take"))))) && re_213 K
def re_211 (K : PySem.W.Frag) : Bool := decide (PySem.W.isFn K (.ref (He.fAd K ("IntoEnd", some "log_behind"))) = true) && re_212 K
def re_210 (K : PySem.W.Frag) : Bool := decide (PySem.W.findIn K (.ref (He.ga K "IntoEnd")) "log_behind" = some (some (.ref (He.fAd K ("IntoEnd", some "log_behind"))))) && re_211 K
def re_209 (K : PySem.W.Frag) : Bool := decide (PySem.W.isFn K (.ref (He.fAd K ("IntoEnd", some "log"))) = true) && re_210 K
def re_208 (K : PySem.W.Frag) : Bool := decide (PySem.W.findIn K (.ref (He.ga K "IntoEnd")) "log" = some (some (.ref (He.fAd K ("IntoEnd", some "log"))))) && re_209 K
def re_207 (K : PySem.W.Frag) : Bool := decide (PySem.W.isFn K (.ref (He.fAd K ("IntoEnd", some "is_shut"))) = true) && re_208 K
def re_206 (K : PySem.W.Frag) : Bool := decide (PySem.W.findIn K (.ref (He.ga K "IntoEnd")) "is_shut" = some (some (.ref (He.fAd K ("IntoEnd", some "is_shut"))))) && re_207 K
def re_205 (K : PySem.W.Frag) : Bool := decide (PySem.W.isFn K (.ref (He.fAd K ("IntoEnd", some "note"))) = true) && re_206 K
def re_204 (K : PySem.W.Frag) : Bool := decide (PySem.W.findIn K (.ref (He.ga K "IntoEnd")) "note" = some (some (.ref (He.fAd K ("IntoEnd", some "note"))))) && re_205 K
def re_203 (K : PySem.W.Frag) : Bool := decide (PySem.W.isFn K (.ref (He.fAd K ("IntoEnd", some "may_put"))) = true) && re_204 K
def re_202 (K : PySem.W.Frag) : Bool := decide (PySem.W.findIn K (.ref (He.ga K "IntoEnd")) "may_put" = some (some (.ref (He.fAd K ("IntoEnd", some "may_put"))))) && re_203 K
def re_201 (K : PySem.W.Frag) : Bool := decide (PySem.W.isFn K (.ref (He.fAd K ("IntoEnd", some "check_open"))) = true) && re_202 K
def re_200 (K : PySem.W.Frag) : Bool := decide (PySem.W.findIn K (.ref (He.ga K "IntoEnd")) "check_open" = some (some (.ref (He.fAd K ("IntoEnd", some "check_open"))))) && re_201 K
def re_199 (K : PySem.W.Frag) : Bool := decide (PySem.W.isFn K (.ref (He.fAd K ("IntoEnd", some "put"))) = true) && re_200 K
def re_198 (K : PySem.W.Frag) : Bool := decide (PySem.W.findIn K (.ref (He.ga K "IntoEnd")) "put" = some (some (.ref (He.fAd K ("IntoEnd", some "put"))))) && re_199 K
def re_197 (K : PySem.W.Frag) : Bool := decide (PySem.W.isFn K (.ref (He.fAd K ("OutEnd", some "give"))) = true) && re_198 K
def re_196 (K : PySem.W.Frag) : Bool := decide (PySem.W.findIn K (.ref (He.ga K "OutEnd")) "give" = some (some (.ref (He.fAd K ("OutEnd", some "give"))))) && re_197 K
def re_195 (K : PySem.W.Frag) : Bool := decide (PySem.W.isFn K (.ref (He.fAd K ("IntoEnd", some "accept"))) = true) && re_196 K
def re_194 (K : PySem.W.Frag) : Bool := decide (PySem.W.findIn K (.ref (He.ga K "IntoEnd")) "accept" = some (some (.ref (He.fAd K ("IntoEnd", some "accept"))))) && re_195 K
def re_193 (K : PySem.W.Frag) : Bool := decide (PySem.W.isFn K (.ref (He.fAd K ("Pipe", some "lift"))) = true) && re_194 K
def re_192 (K : PySem.W.Frag) : Bool := decide (PySem.W.findIn K (.ref (He.ga K "Pipe")) "lift" = some (some (.ref (He.fAd K ("Pipe", some "lift"))))) && re_193 K
def re_191 (K : PySem.W.Frag) : Bool := decide (PySem.W.isFn K (.ref (He.fAd K ("Pipe", some "lay"))) = true) && re_192 K
def re_190 (K : PySem.W.Frag) : Bool := decide (PySem.W.findIn K (.ref (He.ga K "Pipe")) "lay" = some (some (.ref (He.fAd K ("Pipe", some "lay"))))) && re_191 K
def re_189 (K : PySem.W.Frag) : Bool := decide (PySem.W.isFn K (.ref (He.fAd K ("Pipe", some "held"))) = true) && re_190 K
def re_188 (K : PySem.W.Frag) : Bool := decide (PySem.W.findIn K (.ref (He.ga K "Pipe")) "held" = some (some (.ref (He.fAd K ("Pipe", some "held"))))) && re_189 K
def re_187 (K : PySem.W.Frag) : Bool := decide (PySem.W.isFn K (.ref (He.fAd K ("Pipe", some "out"))) = true) && re_188 K
def re_186 (K : PySem.W.Frag) : Bool := decide (PySem.W.findIn K (.ref (He.ga K "Pipe")) "out" = some (some (.ref (He.fAd K ("Pipe", some "out"))))) && re_187 K
def re_185 (K : PySem.W.Frag) : Bool := decide (PySem.W.isFn K (.ref (He.fAd K ("Pipe", some "into"))) = true) && re_186 K
def re_184 (K : PySem.W.Frag) : Bool := decide (PySem.W.findIn K (.ref (He.ga K "Pipe")) "into" = some (some (.ref (He.fAd K ("Pipe", some "into"))))) && re_185 K
def re_183 (K : PySem.W.Frag) : Bool := decide (PySem.W.isFn K (.ref (He.fAd K ("Pipe", some "__init__"))) = true) && re_184 K
def re_182 (K : PySem.W.Frag) : Bool := decide (PySem.W.findIn K (.ref (He.ga K "Pipe")) "__init__" = some (some (.ref (He.fAd K ("Pipe", some "__init__"))))) && re_183 K
def re_181 (K : PySem.W.Frag) : Bool := decide (PySem.W.isFn K (.ref (He.fAd K ("OutEnd", some "__init__"))) = true) && re_182 K
def re_180 (K : PySem.W.Frag) : Bool := decide (PySem.W.findIn K (.ref (He.ga K "OutEnd")) "__init__" = some (some (.ref (He.fAd K ("OutEnd", some "__init__"))))) && re_181 K
def re_179 (K : PySem.W.Frag) : Bool := decide (PySem.W.isFn K (.ref (He.fAd K ("IntoEnd", some "__init__"))) = true) && re_180 K
def re_178 (K : PySem.W.Frag) : Bool := decide (PySem.W.findIn K (.ref (He.ga K "IntoEnd")) "__init__" = some (some (.ref (He.fAd K ("IntoEnd", some "__init__"))))) && re_179 K
def re_177 (K : PySem.W.Frag) : Bool := Sip.clsB K (.ref (He.ga K "Raw")) (.type "type") "__init__" (.ref (He.fAd K ("Raw", some "__init__"))) && re_178 K
def re_176 (K : PySem.W.Frag) : Bool := decide (PySem.W.isFn K (.ref (He.fAd K ("Raw", some "__init__"))) = true) && re_177 K
def re_175 (K : PySem.W.Frag) : Bool := decide (PySem.W.findIn K (.ref (He.ga K "Raw")) "__init__" = some (some (.ref (He.fAd K ("Raw", some "__init__"))))) && re_176 K
def re_174 (K : PySem.W.Frag) : Bool := decide (PySem.W.nsIn K mainGlobals "own_copy" = some (some (.ref (He.fAd K ("own_copy", none))))) && re_175 K
def re_173 (K : PySem.W.Frag) : Bool := decide (PySem.W.nsIn K mainGlobals "check_room" = some (some (.ref (He.fAd K ("check_room", none))))) && re_174 K
def re_172 (K : PySem.W.Frag) : Bool := decide (PySem.W.nsIn K mainGlobals "is_whole" = some (some (.ref (He.fAd K ("is_whole", none))))) && re_173 K
def re_171 (K : PySem.W.Frag) : Bool := decide (PySem.W.subIn K (.ref (He.ga K "Fault")) (.ref (He.ga K "NoWrites")) = some false) && re_172 K
def re_170 (K : PySem.W.Frag) : Bool := decide (PySem.W.subIn K (.ref (He.ga K "Fault")) (.ref (He.ga K "NoReads")) = some false) && re_171 K
def re_169 (K : PySem.W.Frag) : Bool := decide (PySem.W.subIn K (.ref (He.ga K "Fault")) (.ref (He.ga K "NoSeek")) = some false) && re_170 K
def re_168 (K : PySem.W.Frag) : Bool := decide (PySem.W.subIn K (.ref (He.ga K "Fault")) (.ref (He.ga K "Closed")) = some false) && re_169 K
def re_167 (K : PySem.W.Frag) : Bool := decide (PySem.W.subIn K (.ref (He.ga K "Fault")) (.type "ValueError") = some true) && re_168 K
def re_166 (K : PySem.W.Frag) : Bool := decide (PySem.W.findIn K (.ref (He.ga K "Fault")) "taken" = some none) && re_167 K
def re_165 (K : PySem.W.Frag) : Bool := decide (PySem.W.subIn K (.ref (He.ga K "Fault")) (.ref (He.ga K "Fault")) = some true) && re_166 K
def re_164 (K : PySem.W.Frag) : Bool := decide (PySem.W.subIn K (.ref (He.ga K "Fault")) (.ref (He.ga K "SipError")) = some true) && re_165 K
def re_163 (K : PySem.W.Frag) : Bool := decide (PySem.W.findIn K (.ref (He.ga K "Fault")) "number" = some none) && re_164 K
def re_162 (K : PySem.W.Frag) : Bool := decide (PySem.W.mroIn K (He.ga K "Fault") (.type "object") = some true) && re_163 K
def re_161 (K : PySem.W.Frag) : Bool := decide (PySem.W.takesIn K (.builtin "object.__class__") = some true) && re_162 K
def re_160 (K : PySem.W.Frag) : Bool := decide (PySem.W.specialIn K (.builtin "object.__class__") "__get__" = some (some (.builtin "getset_descriptor.__get__"))) && re_161 K
def re_159 (K : PySem.W.Frag) : Bool := decide (PySem.W.findIn K (.ref (He.ga K "Fault")) "__class__" = some (some (.builtin "object.__class__"))) && re_160 K
def re_158 (K : PySem.W.Frag) : Bool := decide (PySem.W.hasDictIn K (He.ga K "Fault") = true) && re_159 K
def re_157 (K : PySem.W.Frag) : Bool := decide (PySem.W.findIn K (.ref (He.ga K "Fault")) "__getattr__" = some none) && re_158 K
def re_156 (K : PySem.W.Frag) : Bool := decide (PySem.W.findIn K (.ref (He.ga K "Fault")) "__getattribute__" = some (some (.builtin "BaseException.__getattribute__"))) && re_157 K
def re_155 (K : PySem.W.Frag) : Bool := decide (PySem.W.keepIn K (.ref (He.ga K "Fault")) = true) && re_156 K
def re_154 (K : PySem.W.Frag) : Bool := decide (PySem.W.typeIn K (.ref (He.ga K "Fault")) = some (.type "type")) && re_155 K
def re_153 (K : PySem.W.Frag) : Bool := decide (PySem.W.subIn K (.ref (He.ga K "Fault")) (.type "BaseException") = some true) && re_154 K
def re_152 (K : PySem.W.Frag) : Bool := decide (PySem.W.findIn K (.ref (He.ga K "Fault")) "__setattr__" = some (some (.builtin "object.__setattr__"))) && re_153 K
def re_151 (K : PySem.W.Frag) : Bool := Sip.excObjB K (He.ga K "Fault") && re_152 K
def re_150 (K : PySem.W.Frag) : Bool := decide (PySem.W.subIn K (.ref (He.ga K "BadRoom")) (.ref (He.ga K "Fault")) = some false) && re_151 K
def re_149 (K : PySem.W.Frag) : Bool := decide (PySem.W.subIn K (.ref (He.ga K "BadRoom")) (.ref (He.ga K "NoWrites")) = some false) && re_150 K
def re_148 (K : PySem.W.Frag) : Bool := decide (PySem.W.subIn K (.ref (He.ga K "BadRoom")) (.ref (He.ga K "NoReads")) = some false) && re_149 K
def re_147 (K : PySem.W.Frag) : Bool := decide (PySem.W.subIn K (.ref (He.ga K "BadRoom")) (.ref (He.ga K "NoSeek")) = some false) && re_148 K
def re_146 (K : PySem.W.Frag) : Bool := decide (PySem.W.subIn K (.ref (He.ga K "BadRoom")) (.ref (He.ga K "Closed")) = some false) && re_147 K
def re_145 (K : PySem.W.Frag) : Bool := decide (PySem.W.subIn K (.ref (He.ga K "BadRoom")) (.ref (He.ga K "SipError")) = some true) && re_146 K
def re_144 (K : PySem.W.Frag) : Bool := decide (PySem.W.subIn K (.ref (He.ga K "BadRoom")) (.ref (He.ga K "BadRoom")) = some true) && re_145 K
def re_143 (K : PySem.W.Frag) : Bool := decide (PySem.W.subIn K (.ref (He.ga K "BadRoom")) (.type "ValueError") = some true) && re_144 K
def re_142 (K : PySem.W.Frag) : Bool := decide (PySem.W.mroIn K (He.ga K "BadRoom") (.type "object") = some true) && re_143 K
def re_141 (K : PySem.W.Frag) : Bool := decide (PySem.W.takesIn K (.builtin "object.__class__") = some true) && re_142 K
def re_140 (K : PySem.W.Frag) : Bool := decide (PySem.W.specialIn K (.builtin "object.__class__") "__get__" = some (some (.builtin "getset_descriptor.__get__"))) && re_141 K
def re_139 (K : PySem.W.Frag) : Bool := decide (PySem.W.findIn K (.ref (He.ga K "BadRoom")) "__class__" = some (some (.builtin "object.__class__"))) && re_140 K
def re_138 (K : PySem.W.Frag) : Bool := decide (PySem.W.hasDictIn K (He.ga K "BadRoom") = true) && re_139 K
def re_137 (K : PySem.W.Frag) : Bool := decide (PySem.W.findIn K (.ref (He.ga K "BadRoom")) "__getattr__" = some none) && re_138 K
def re_136 (K : PySem.W.Frag) : Bool := decide (PySem.W.findIn K (.ref (He.ga K "BadRoom")) "__getattribute__" = some (some (.builtin "BaseException.__getattribute__"))) && re_137 K
def re_135 (K : PySem.W.Frag) : Bool := decide (PySem.W.subIn K (.ref (He.ga K "BadRoom")) (.type "BaseException") = some true) && re_136 K
def re_134 (K : PySem.W.Frag) : Bool := decide (PySem.W.subIn K (.ref (He.ga K "NoWrites")) (.ref (He.ga K "Fault")) = some false) && re_135 K
def re_133 (K : PySem.W.Frag) : Bool := decide (PySem.W.subIn K (.ref (He.ga K "NoWrites")) (.ref (He.ga K "NoReads")) = some false) && re_134 K
def re_132 (K : PySem.W.Frag) : Bool := decide (PySem.W.subIn K (.ref (He.ga K "NoWrites")) (.ref (He.ga K "NoSeek")) = some false) && re_133 K
def re_131 (K : PySem.W.Frag) : Bool := decide (PySem.W.subIn K (.ref (He.ga K "NoWrites")) (.ref (He.ga K "Closed")) = some false) && re_132 K
def re_130 (K : PySem.W.Frag) : Bool := decide (PySem.W.subIn K (.ref (He.ga K "NoWrites")) (.ref (He.ga K "SipError")) = some true) && re_131 K
def re_129 (K : PySem.W.Frag) : Bool := decide (PySem.W.subIn K (.ref (He.ga K "NoWrites")) (.ref (He.ga K "NoWrites")) = some true) && re_130 K
def re_128 (K : PySem.W.Frag) : Bool := decide (PySem.W.subIn K (.ref (He.ga K "NoWrites")) (.type "ValueError") = some true) && re_129 K
def re_127 (K : PySem.W.Frag) : Bool := decide (PySem.W.mroIn K (He.ga K "NoWrites") (.type "object") = some true) && re_128 K
def re_126 (K : PySem.W.Frag) : Bool := decide (PySem.W.takesIn K (.builtin "object.__class__") = some true) && re_127 K
def re_125 (K : PySem.W.Frag) : Bool := decide (PySem.W.specialIn K (.builtin "object.__class__") "__get__" = some (some (.builtin "getset_descriptor.__get__"))) && re_126 K
def re_124 (K : PySem.W.Frag) : Bool := decide (PySem.W.findIn K (.ref (He.ga K "NoWrites")) "__class__" = some (some (.builtin "object.__class__"))) && re_125 K
def re_123 (K : PySem.W.Frag) : Bool := decide (PySem.W.hasDictIn K (He.ga K "NoWrites") = true) && re_124 K
def re_122 (K : PySem.W.Frag) : Bool := decide (PySem.W.findIn K (.ref (He.ga K "NoWrites")) "__getattr__" = some none) && re_123 K
def re_121 (K : PySem.W.Frag) : Bool := decide (PySem.W.findIn K (.ref (He.ga K "NoWrites")) "__getattribute__" = some (some (.builtin "BaseException.__getattribute__"))) && re_122 K
def re_120 (K : PySem.W.Frag) : Bool := decide (PySem.W.subIn K (.ref (He.ga K "NoWrites")) (.type "BaseException") = some true) && re_121 K
def re_119 (K : PySem.W.Frag) : Bool := decide (PySem.W.subIn K (.ref (He.ga K "NoReads")) (.ref (He.ga K "Fault")) = some false) && re_120 K
def re_118 (K : PySem.W.Frag) : Bool := decide (PySem.W.subIn K (.ref (He.ga K "NoReads")) (.ref (He.ga K "NoWrites")) = some false) && re_119 K
def re_117 (K : PySem.W.Frag) : Bool := decide (PySem.W.subIn K (.ref (He.ga K "NoReads")) (.ref (He.ga K "NoSeek")) = some false) && re_118 K
def re_116 (K : PySem.W.Frag) : Bool := decide (PySem.W.subIn K (.ref (He.ga K "NoReads")) (.ref (He.ga K "Closed")) = some false) && re_117 K
def re_115 (K : PySem.W.Frag) : Bool := decide (PySem.W.subIn K (.ref (He.ga K "NoReads")) (.ref (He.ga K "SipError")) = some true) && re_116 K
def re_114 (K : PySem.W.Frag) : Bool := decide (PySem.W.subIn K (.ref (He.ga K "NoReads")) (.ref (He.ga K "NoReads")) = some true) && re_115 K
def re_113 (K : PySem.W.Frag) : Bool := decide (PySem.W.subIn K (.ref (He.ga K "NoReads")) (.type "ValueError") = some true) && re_114 K
def re_112 (K : PySem.W.Frag) : Bool := decide (PySem.W.mroIn K (He.ga K "NoReads") (.type "object") = some true) && re_113 K
def re_111 (K : PySem.W.Frag) : Bool := decide (PySem.W.takesIn K (.builtin "object.__class__") = some true) && re_112 K
def re_110 (K : PySem.W.Frag) : Bool := decide (PySem.W.specialIn K (.builtin "object.__class__") "__get__" = some (some (.builtin "getset_descriptor.__get__"))) && re_111 K
def re_109 (K : PySem.W.Frag) : Bool := decide (PySem.W.findIn K (.ref (He.ga K "NoReads")) "__class__" = some (some (.builtin "object.__class__"))) && re_110 K
def re_108 (K : PySem.W.Frag) : Bool := decide (PySem.W.hasDictIn K (He.ga K "NoReads") = true) && re_109 K
def re_107 (K : PySem.W.Frag) : Bool := decide (PySem.W.findIn K (.ref (He.ga K "NoReads")) "__getattr__" = some none) && re_108 K
def re_106 (K : PySem.W.Frag) : Bool := decide (PySem.W.findIn K (.ref (He.ga K "NoReads")) "__getattribute__" = some (some (.builtin "BaseException.__getattribute__"))) && re_107 K
def re_105 (K : PySem.W.Frag) : Bool := decide (PySem.W.subIn K (.ref (He.ga K "NoReads")) (.type "BaseException") = some true) && re_106 K
def re_104 (K : PySem.W.Frag) : Bool := decide (PySem.W.subIn K (.ref (He.ga K "NoSeek")) (.ref (He.ga K "Fault")) = some false) && re_105 K
def re_103 (K : PySem.W.Frag) : Bool := decide (PySem.W.subIn K (.ref (He.ga K "NoSeek")) (.ref (He.ga K "NoWrites")) = some false) && re_104 K
def re_102 (K : PySem.W.Frag) : Bool := decide (PySem.W.subIn K (.ref (He.ga K "NoSeek")) (.ref (He.ga K "NoReads")) = some false) && re_103 K
def re_101 (K : PySem.W.Frag) : Bool := decide (PySem.W.subIn K (.ref (He.ga K "NoSeek")) (.ref (He.ga K "Closed")) = some false) && re_102 K
def re_100 (K : PySem.W.Frag) : Bool := decide (PySem.W.subIn K (.ref (He.ga K "NoSeek")) (.ref (He.ga K "SipError")) = some true) && re_101 K
def re_99 (K : PySem.W.Frag) : Bool := decide (PySem.W.subIn K (.ref (He.ga K "NoSeek")) (.ref (He.ga K "NoSeek")) = some true) && re_100 K
def re_98 (K : PySem.W.Frag) : Bool := decide (PySem.W.subIn K (.ref (He.ga K "NoSeek")) (.type "ValueError") = some true) && re_99 K
def re_97 (K : PySem.W.Frag) : Bool := decide (PySem.W.mroIn K (He.ga K "NoSeek") (.type "object") = some true) && re_98 K
def re_96 (K : PySem.W.Frag) : Bool := decide (PySem.W.takesIn K (.builtin "object.__class__") = some true) && re_97 K
def re_95 (K : PySem.W.Frag) : Bool := decide (PySem.W.specialIn K (.builtin "object.__class__") "__get__" = some (some (.builtin "getset_descriptor.__get__"))) && re_96 K
def re_94 (K : PySem.W.Frag) : Bool := decide (PySem.W.findIn K (.ref (He.ga K "NoSeek")) "__class__" = some (some (.builtin "object.__class__"))) && re_95 K
def re_93 (K : PySem.W.Frag) : Bool := decide (PySem.W.hasDictIn K (He.ga K "NoSeek") = true) && re_94 K
def re_92 (K : PySem.W.Frag) : Bool := decide (PySem.W.findIn K (.ref (He.ga K "NoSeek")) "__getattr__" = some none) && re_93 K
def re_91 (K : PySem.W.Frag) : Bool := decide (PySem.W.findIn K (.ref (He.ga K "NoSeek")) "__getattribute__" = some (some (.builtin "BaseException.__getattribute__"))) && re_92 K
def re_90 (K : PySem.W.Frag) : Bool := decide (PySem.W.subIn K (.ref (He.ga K "NoSeek")) (.type "BaseException") = some true) && re_91 K
def re_89 (K : PySem.W.Frag) : Bool := decide (PySem.W.subIn K (.ref (He.ga K "Closed")) (.ref (He.ga K "Fault")) = some false) && re_90 K
def re_88 (K : PySem.W.Frag) : Bool := decide (PySem.W.subIn K (.ref (He.ga K "Closed")) (.ref (He.ga K "NoWrites")) = some false) && re_89 K
def re_87 (K : PySem.W.Frag) : Bool := decide (PySem.W.subIn K (.ref (He.ga K "Closed")) (.ref (He.ga K "NoReads")) = some false) && re_88 K
def re_86 (K : PySem.W.Frag) : Bool := decide (PySem.W.subIn K (.ref (He.ga K "Closed")) (.ref (He.ga K "NoSeek")) = some false) && re_87 K
def re_85 (K : PySem.W.Frag) : Bool := decide (PySem.W.subIn K (.ref (He.ga K "Closed")) (.ref (He.ga K "SipError")) = some true) && re_86 K
def re_84 (K : PySem.W.Frag) : Bool := decide (PySem.W.subIn K (.ref (He.ga K "Closed")) (.ref (He.ga K "Closed")) = some true) && re_85 K
def re_83 (K : PySem.W.Frag) : Bool := decide (PySem.W.subIn K (.ref (He.ga K "Closed")) (.type "ValueError") = some true) && re_84 K
def re_82 (K : PySem.W.Frag) : Bool := decide (PySem.W.mroIn K (He.ga K "Closed") (.type "object") = some true) && re_83 K
def re_81 (K : PySem.W.Frag) : Bool := decide (PySem.W.takesIn K (.builtin "object.__class__") = some true) && re_82 K
def re_80 (K : PySem.W.Frag) : Bool := decide (PySem.W.specialIn K (.builtin "object.__class__") "__get__" = some (some (.builtin "getset_descriptor.__get__"))) && re_81 K
def re_79 (K : PySem.W.Frag) : Bool := decide (PySem.W.findIn K (.ref (He.ga K "Closed")) "__class__" = some (some (.builtin "object.__class__"))) && re_80 K
def re_78 (K : PySem.W.Frag) : Bool := decide (PySem.W.hasDictIn K (He.ga K "Closed") = true) && re_79 K
def re_77 (K : PySem.W.Frag) : Bool := decide (PySem.W.findIn K (.ref (He.ga K "Closed")) "__getattr__" = some none) && re_78 K
def re_76 (K : PySem.W.Frag) : Bool := decide (PySem.W.findIn K (.ref (He.ga K "Closed")) "__getattribute__" = some (some (.builtin "BaseException.__getattribute__"))) && re_77 K
def re_75 (K : PySem.W.Frag) : Bool := decide (PySem.W.subIn K (.ref (He.ga K "Closed")) (.type "BaseException") = some true) && re_76 K
def re_74 (K : PySem.W.Frag) : Bool := decide (PySem.W.subIn K (.ref (He.ga K "BadRoom")) (.ref (He.ga K "BadRoom")) = some true) && re_75 K
def re_73 (K : PySem.W.Frag) : Bool := decide (PySem.W.subIn K (.ref (He.ga K "NoWrites")) (.ref (He.ga K "BadRoom")) = some false) && re_74 K
def re_72 (K : PySem.W.Frag) : Bool := decide (PySem.W.subIn K (.ref (He.ga K "NoReads")) (.ref (He.ga K "BadRoom")) = some false) && re_73 K
def re_71 (K : PySem.W.Frag) : Bool := decide (PySem.W.subIn K (.ref (He.ga K "NoSeek")) (.ref (He.ga K "BadRoom")) = some false) && re_72 K
def re_70 (K : PySem.W.Frag) : Bool := decide (PySem.W.subIn K (.ref (He.ga K "Closed")) (.ref (He.ga K "BadRoom")) = some false) && re_71 K
def re_69 (K : PySem.W.Frag) : Bool := decide (PySem.W.subIn K (.ref (He.ga K "Fault")) (.ref (He.ga K "BadRoom")) = some false) && re_70 K
def re_68 (K : PySem.W.Frag) : Bool := decide (PySem.W.typeIn K (.ref (He.ga K "BadRoom")) = some (.type "type")) && re_69 K
def re_67 (K : PySem.W.Frag) : Bool := decide (PySem.W.hasDictIn K (He.ga K "BadRoom") = true) && re_68 K
def re_66 (K : PySem.W.Frag) : Bool := decide (PySem.W.subIn K (.ref (He.ga K "BadRoom")) (.type "BaseException") = some true) && re_67 K
def re_65 (K : PySem.W.Frag) : Bool := decide (PySem.W.subIn K (.ref (He.ga K "BadRoom")) (.ref (He.ga K "SipError")) = some true) && re_66 K
def re_64 (K : PySem.W.Frag) : Bool := decide (PySem.W.subIn K (.ref (He.ga K "NoWrites")) (.ref (He.ga K "SipError")) = some true) && re_65 K
def re_63 (K : PySem.W.Frag) : Bool := decide (PySem.W.subIn K (.ref (He.ga K "NoReads")) (.ref (He.ga K "SipError")) = some true) && re_64 K
def re_62 (K : PySem.W.Frag) : Bool := decide (PySem.W.subIn K (.ref (He.ga K "NoSeek")) (.ref (He.ga K "SipError")) = some true) && re_63 K
def re_61 (K : PySem.W.Frag) : Bool := decide (PySem.W.subIn K (.ref (He.ga K "Closed")) (.ref (He.ga K "SipError")) = some true) && re_62 K
def re_60 (K : PySem.W.Frag) : Bool := decide (PySem.W.subIn K (.ref (He.ga K "Fault")) (.ref (He.ga K "SipError")) = some true) && re_61 K
def re_59 (K : PySem.W.Frag) : Bool := decide (PySem.W.typeIn K (.ref (He.ga K "SipError")) = some (.type "type")) && re_60 K
def re_58 (K : PySem.W.Frag) : Bool := decide (PySem.W.hasDictIn K (He.ga K "SipError") = true) && re_59 K
def re_57 (K : PySem.W.Frag) : Bool := decide (PySem.W.subIn K (.ref (He.ga K "SipError")) (.type "BaseException") = some true) && re_58 K
def re_56 (K : PySem.W.Frag) : Bool := decide (PySem.W.subIn K (.ref (He.ga K "BadRoom")) (.ref (He.ga K "Fault")) = some false) && re_57 K
def re_55 (K : PySem.W.Frag) : Bool := decide (PySem.W.subIn K (.ref (He.ga K "NoWrites")) (.ref (He.ga K "Fault")) = some false) && re_56 K
def re_54 (K : PySem.W.Frag) : Bool := decide (PySem.W.subIn K (.ref (He.ga K "NoReads")) (.ref (He.ga K "Fault")) = some false) && re_55 K
def re_53 (K : PySem.W.Frag) : Bool := decide (PySem.W.subIn K (.ref (He.ga K "NoSeek")) (.ref (He.ga K "Fault")) = some false) && re_54 K
def re_52 (K : PySem.W.Frag) : Bool := decide (PySem.W.subIn K (.ref (He.ga K "Closed")) (.ref (He.ga K "Fault")) = some false) && re_53 K
def re_51 (K : PySem.W.Frag) : Bool := decide (PySem.W.subIn K (.ref (He.ga K "Fault")) (.ref (He.ga K "Fault")) = some true) && re_52 K
def re_50 (K : PySem.W.Frag) : Bool := decide (PySem.W.typeIn K (.ref (He.ga K "Fault")) = some (.type "type")) && re_51 K
def re_49 (K : PySem.W.Frag) : Bool := decide (PySem.W.hasDictIn K (He.ga K "Fault") = true) && re_50 K
def re_48 (K : PySem.W.Frag) : Bool := decide (PySem.W.subIn K (.ref (He.ga K "Fault")) (.type "BaseException") = some true) && re_49 K
def re_47 (K : PySem.W.Frag) : Bool := decide (PySem.W.typeIn K (.ref (He.ga K "BadRoom")) = some (.type "type")) && re_48 K
def re_46 (K : PySem.W.Frag) : Bool := decide (PySem.W.subIn K (.ref (He.ga K "BadRoom")) (.type "BaseException") = some true) && re_47 K
def re_45 (K : PySem.W.Frag) : Bool := decide (PySem.W.keepIn K (.ref (He.ga K "BadRoom")) = true) && re_46 K
def re_44 (K : PySem.W.Frag) : Bool := decide (PySem.W.excIn K (He.ga K "BadRoom") [.type "ValueError", .type "Exception", .type "BaseException", .type "object"] "ValueError.__new__" = true) && re_45 K
def re_43 (K : PySem.W.Frag) : Bool := decide (PySem.W.typeIn K (.ref (He.ga K "NoWrites")) = some (.type "type")) && re_44 K
def re_42 (K : PySem.W.Frag) : Bool := decide (PySem.W.subIn K (.ref (He.ga K "NoWrites")) (.type "BaseException") = some true) && re_43 K
def re_41 (K : PySem.W.Frag) : Bool := decide (PySem.W.keepIn K (.ref (He.ga K "NoWrites")) = true) && re_42 K
def re_40 (K : PySem.W.Frag) : Bool := decide (PySem.W.excIn K (He.ga K "NoWrites") [.type "ValueError", .type "Exception", .type "BaseException", .type "object"] "ValueError.__new__" = true) && re_41 K
def re_39 (K : PySem.W.Frag) : Bool := decide (PySem.W.typeIn K (.ref (He.ga K "NoReads")) = some (.type "type")) && re_40 K
def re_38 (K : PySem.W.Frag) : Bool := decide (PySem.W.subIn K (.ref (He.ga K "NoReads")) (.type "BaseException") = some true) && re_39 K
def re_37 (K : PySem.W.Frag) : Bool := decide (PySem.W.keepIn K (.ref (He.ga K "NoReads")) = true) && re_38 K
def re_36 (K : PySem.W.Frag) : Bool := decide (PySem.W.excIn K (He.ga K "NoReads") [.type "ValueError", .type "Exception", .type "BaseException", .type "object"] "ValueError.__new__" = true) && re_37 K
def re_35 (K : PySem.W.Frag) : Bool := decide (PySem.W.typeIn K (.ref (He.ga K "NoSeek")) = some (.type "type")) && re_36 K
def re_34 (K : PySem.W.Frag) : Bool := decide (PySem.W.subIn K (.ref (He.ga K "NoSeek")) (.type "BaseException") = some true) && re_35 K
def re_33 (K : PySem.W.Frag) : Bool := decide (PySem.W.keepIn K (.ref (He.ga K "NoSeek")) = true) && re_34 K
def re_32 (K : PySem.W.Frag) : Bool := decide (PySem.W.excIn K (He.ga K "NoSeek") [.type "ValueError", .type "Exception", .type "BaseException", .type "object"] "ValueError.__new__" = true) && re_33 K
def re_31 (K : PySem.W.Frag) : Bool := decide (PySem.W.typeIn K (.ref (He.ga K "Closed")) = some (.type "type")) && re_32 K
def re_30 (K : PySem.W.Frag) : Bool := decide (PySem.W.subIn K (.ref (He.ga K "Closed")) (.type "BaseException") = some true) && re_31 K
def re_29 (K : PySem.W.Frag) : Bool := decide (PySem.W.keepIn K (.ref (He.ga K "Closed")) = true) && re_30 K
def re_28 (K : PySem.W.Frag) : Bool := decide (PySem.W.excIn K (He.ga K "Closed") [.type "ValueError", .type "Exception", .type "BaseException", .type "object"] "ValueError.__new__" = true) && re_29 K
def re_27 (K : PySem.W.Frag) : Bool := decide (PySem.W.typeIn K (.ref (He.ga K "SipError")) = some (.type "type")) && re_28 K
def re_26 (K : PySem.W.Frag) : Bool := decide (PySem.W.isClsIn K (He.ga K "SipError") = true) && re_27 K
def re_25 (K : PySem.W.Frag) : Bool := decide (PySem.W.typeIn K (.ref (He.ga K "Fault")) = some (.type "type")) && re_26 K
def re_24 (K : PySem.W.Frag) : Bool := decide (PySem.W.isClsIn K (He.ga K "Fault") = true) && re_25 K
def re_23 (K : PySem.W.Frag) : Bool := decide (PySem.W.typeIn K (.ref (He.ga K "NoWrites")) = some (.type "type")) && re_24 K
def re_22 (K : PySem.W.Frag) : Bool := decide (PySem.W.isClsIn K (He.ga K "NoWrites") = true) && re_23 K
def re_21 (K : PySem.W.Frag) : Bool := decide (PySem.W.typeIn K (.ref (He.ga K "NoReads")) = some (.type "type")) && re_22 K
def re_20 (K : PySem.W.Frag) : Bool := decide (PySem.W.isClsIn K (He.ga K "NoReads") = true) && re_21 K
def re_19 (K : PySem.W.Frag) : Bool := decide (PySem.W.typeIn K (.ref (He.ga K "NoSeek")) = some (.type "type")) && re_20 K
def re_18 (K : PySem.W.Frag) : Bool := decide (PySem.W.isClsIn K (He.ga K "NoSeek") = true) && re_19 K
def re_17 (K : PySem.W.Frag) : Bool := decide (PySem.W.typeIn K (.ref (He.ga K "Closed")) = some (.type "type")) && re_18 K
def re_16 (K : PySem.W.Frag) : Bool := decide (PySem.W.isClsIn K (He.ga K "Closed") = true) && re_17 K
def re_15 (K : PySem.W.Frag) : Bool := decide (PySem.W.typeIn K (.ref (He.ga K "SipError")) = some (.type "type")) && re_16 K
def re_14 (K : PySem.W.Frag) : Bool := decide (PySem.W.hasDictIn K (He.ga K "SipError") = true) && re_15 K
def re_13 (K : PySem.W.Frag) : Bool := decide (PySem.W.subIn K (.ref (He.ga K "SipError")) (.type "BaseException") = some true) && re_14 K
def re_12 (K : PySem.W.Frag) : Bool := decide (PySem.W.nsIn K mainGlobals "BadRoom" = some (some (.ref (He.ga K "BadRoom")))) && re_13 K
def re_11 (K : PySem.W.Frag) : Bool := decide (PySem.W.nsIn K mainGlobals "NoWrites" = some (some (.ref (He.ga K "NoWrites")))) && re_12 K
def re_10 (K : PySem.W.Frag) : Bool := decide (PySem.W.nsIn K mainGlobals "NoReads" = some (some (.ref (He.ga K "NoReads")))) && re_11 K
def re_9 (K : PySem.W.Frag) : Bool := decide (PySem.W.nsIn K mainGlobals "NoSeek" = some (some (.ref (He.ga K "NoSeek")))) && re_10 K
def re_8 (K : PySem.W.Frag) : Bool := decide (PySem.W.nsIn K mainGlobals "Closed" = some (some (.ref (He.ga K "Closed")))) && re_9 K
def re_7 (K : PySem.W.Frag) : Bool := decide (PySem.W.nsIn K mainGlobals "Fault" = some (some (.ref (He.ga K "Fault")))) && re_8 K
def re_6 (K : PySem.W.Frag) : Bool := decide (PySem.W.nsIn K mainGlobals "SipError" = some (some (.ref (He.ga K "SipError")))) && re_7 K
def re_5 (K : PySem.W.Frag) : Bool := decide (PySem.W.specialIn K (.ref (He.ga K "Raw")) "__getattribute__" = some (some (.builtin "type.__getattribute__"))) && re_6 K
def re_4 (K : PySem.W.Frag) : Bool := decide (PySem.W.readsIn K (He.ga K "Raw") (.type "type") = true) && re_5 K
def re_3 (K : PySem.W.Frag) : Bool := decide (PySem.W.nsIn K mainGlobals "Raw" = some (some (.ref (He.ga K "Raw")))) && re_4 K
def re_2 (K : PySem.W.Frag) : Bool := decide (PySem.W.nsIn K mainGlobals "Pipe" = some (some (.ref (He.ga K "Pipe")))) && re_3 K
def re_1 (K : PySem.W.Frag) : Bool := decide (PySem.W.nsIn K mainGlobals "OutEnd" = some (some (.ref (He.ga K "OutEnd")))) && re_2 K
def re_0 (K : PySem.W.Frag) : Bool := decide (PySem.W.nsIn K mainGlobals "IntoEnd" = some (some (.ref (He.ga K "IntoEnd")))) && re_1 K
def dd_whole : He.DefD := ⟨("is_whole", none), "is_whole", "is_whole", (defArgs s_whole), (defBody s_whole), (defScope s_whole), [], []⟩
def dd_croom : He.DefD := ⟨("check_room", none), "check_room", "check_room", (defArgs s_croom), (defBody s_croom), (defScope s_croom), [], []⟩
def dd_ocopy : He.DefD := ⟨("own_copy", none), "own_copy", "own_copy", (defArgs s_ocopy), (defBody s_ocopy), (defScope s_ocopy), [], []⟩
def dd_rinit : He.DefD := ⟨("Raw", some "__init__"), "__init__", "Raw.__init__", (defArgs s_rinit), (defBody s_rinit), (defScope s_rinit), [], []⟩
def dd_iinit : He.DefD := ⟨("IntoEnd", some "__init__"), "__init__", "IntoEnd.__init__", (defArgs s_iinit), (defBody s_iinit), (defScope s_iinit), [], []⟩
def dd_oinit : He.DefD := ⟨("OutEnd", some "__init__"), "__init__", "OutEnd.__init__", (defArgs s_oinit), (defBody s_oinit), (defScope s_oinit), [], []⟩
def dd_pinit : He.DefD := ⟨("Pipe", some "__init__"), "__init__", "Pipe.__init__", (defArgs s_pinit), (defBody s_pinit), (defScope s_pinit), [], [("room", .int 8)]⟩
def dd_pinto : He.DefD := ⟨("Pipe", some "into"), "into", "Pipe.into", (defArgs s_pinto), (defBody s_pinto), (defScope s_pinto), [], []⟩
def dd_pout : He.DefD := ⟨("Pipe", some "out"), "out", "Pipe.out", (defArgs s_pout), (defBody s_pout), (defScope s_pout), [], []⟩
def dd_pheld : He.DefD := ⟨("Pipe", some "held"), "held", "Pipe.held", (defArgs s_pheld), (defBody s_pheld), (defScope s_pheld), [], []⟩
def dd_play : He.DefD := ⟨("Pipe", some "lay"), "lay", "Pipe.lay", (defArgs s_play), (defBody s_play), (defScope s_play), [], []⟩
def dd_plift : He.DefD := ⟨("Pipe", some "lift"), "lift", "Pipe.lift", (defArgs s_plift), (defBody s_plift), (defScope s_plift), [], []⟩
def dd_iaccept : He.DefD := ⟨("IntoEnd", some "accept"), "accept", "IntoEnd.accept", (defArgs s_iaccept), (defBody s_iaccept), (defScope s_iaccept), [], []⟩
def dd_ogive : He.DefD := ⟨("OutEnd", some "give"), "give", "OutEnd.give", (defArgs s_ogive), (defBody s_ogive), (defScope s_ogive), [], []⟩
def dd_iput : He.DefD := ⟨("IntoEnd", some "put"), "put", "Raw.put", (defArgs s_iput), (defBody s_iput), (defScope s_iput), [], []⟩
def dd_iopen : He.DefD := ⟨("IntoEnd", some "check_open"), "check_open", "Raw.check_open", (defArgs s_iopen), (defBody s_iopen), (defScope s_iopen), [], []⟩
def dd_imay : He.DefD := ⟨("IntoEnd", some "may_put"), "may_put", "Raw.may_put", (defArgs s_imay), (defBody s_imay), (defScope s_imay), [], []⟩
def dd_inote : He.DefD := ⟨("IntoEnd", some "note"), "note", "Raw.note", (defArgs s_inote), (defBody s_inote), (defScope s_inote), [], []⟩
def dd_ishut : He.DefD := ⟨("IntoEnd", some "is_shut"), "is_shut", "Raw.is_shut", (defArgs s_ishut), (defBody s_ishut), (defScope s_ishut), [], []⟩
def dd_ilog : He.DefD := ⟨("IntoEnd", some "log"), "log", "Raw.log", (defArgs s_ilog), (defBody s_ilog), (defScope s_ilog), [], []⟩
def dd_ilogb : He.DefD := ⟨("IntoEnd", some "log_behind"), "log_behind", "Raw.log_behind", (defArgs s_ilogb), (defBody s_ilogb), (defScope s_ilogb), [], []⟩
def dd_otake : He.DefD := ⟨("OutEnd", some "take"), "take", "Raw.take", (defArgs s_otake), (defBody s_otake), (defScope s_otake), [], []⟩
def dd_oopen : He.DefD := ⟨("OutEnd", some "check_open"), "check_open", "Raw.check_open", (defArgs s_oopen), (defBody s_oopen), (defScope s_oopen), [], []⟩
def dd_omay : He.DefD := ⟨("OutEnd", some "may_take"), "may_take", "Raw.may_take", (defArgs s_omay), (defBody s_omay), (defScope s_omay), [], []⟩
def dd_onote : He.DefD := ⟨("OutEnd", some "note"), "note", "Raw.note", (defArgs s_onote), (defBody s_onote), (defScope s_onote), [], []⟩
def dd_oshut : He.DefD := ⟨("OutEnd", some "is_shut"), "is_shut", "Raw.is_shut", (defArgs s_oshut), (defBody s_oshut), (defScope s_oshut), [], []⟩
def dd_olog : He.DefD := ⟨("OutEnd", some "log"), "log", "Raw.log", (defArgs s_olog), (defBody s_olog), (defScope s_olog), [], []⟩
def dd_ologb : He.DefD := ⟨("OutEnd", some "log_behind"), "log_behind", "Raw.log_behind", (defArgs s_ologb), (defBody s_ologb), (defScope s_ologb), [], []⟩
def dd_iFault : He.DefD := ⟨("Fault", some "__init__"), "__init__", "Fault.__init__", (defArgs s_iFault), (defBody s_iFault), (defScope s_iFault), [], [("taken", .int 0)]⟩
def dd_rshut : He.DefD := ⟨("Raw", some "shut"), "shut", "Raw.shut", (defArgs s_rshut), (defBody s_rshut), (defScope s_rshut), [], []⟩
def dd_pdrop : He.DefD := ⟨("Pipe", some "drop"), "drop", "Pipe.drop", (defArgs s_pdrop), (defBody s_pdrop), (defScope s_pdrop), [], []⟩
def dd_ibar : He.DefD := ⟨("IntoEnd", some "shut"), "shut", "Raw.shut", (defArgs s_ibar), (defBody s_ibar), (defScope s_ibar), [], []⟩
def dd_itake : He.DefD := ⟨("IntoEnd", some "take"), "take", "Raw.take", (defArgs s_itake), (defBody s_itake), (defScope s_itake), [], []⟩
def dd_imayT : He.DefD := ⟨("IntoEnd", some "may_take"), "may_take", "IntoEnd.may_take", (defArgs s_imayT), (defBody s_imayT), (defScope s_imayT), [], []⟩
def dd_igo : He.DefD := ⟨("IntoEnd", some "go"), "go", "Raw.go", (defArgs s_igo), (defBody s_igo), (defScope s_igo), [], []⟩
def dd_icut : He.DefD := ⟨("IntoEnd", some "cut"), "cut", "Raw.cut", (defArgs s_icut), (defBody s_icut), (defScope s_icut), [], []⟩
def dd_iplace : He.DefD := ⟨("IntoEnd", some "place"), "place", "Raw.place", (defArgs s_iplace), (defBody s_iplace), (defScope s_iplace), [], []⟩
def dd_isize : He.DefD := ⟨("IntoEnd", some "size"), "size", "Raw.size", (defArgs s_isize), (defBody s_isize), (defScope s_isize), [], []⟩
def dd_iseek : He.DefD := ⟨("IntoEnd", some "check_seeks"), "check_seeks", "Raw.check_seeks", (defArgs s_iseek), (defBody s_iseek), (defScope s_iseek), [], []⟩
def dd_imayC : He.DefD := ⟨("IntoEnd", some "may_cut"), "may_cut", "Raw.may_cut", (defArgs s_imayC), (defBody s_imayC), (defScope s_imayC), [], []⟩
def dd_isk : He.DefD := ⟨("IntoEnd", some "seeks"), "seeks", "Raw.seeks", (defArgs s_isk), (defBody s_isk), (defScope s_isk), [], []⟩
def dd_oput : He.DefD := ⟨("OutEnd", some "put"), "put", "Raw.put", (defArgs s_oput), (defBody s_oput), (defScope s_oput), [], []⟩
def dd_omayP : He.DefD := ⟨("OutEnd", some "may_put"), "may_put", "OutEnd.may_put", (defArgs s_omayP), (defBody s_omayP), (defScope s_omayP), [], []⟩
def dd_ogo : He.DefD := ⟨("OutEnd", some "go"), "go", "Raw.go", (defArgs s_ogo), (defBody s_ogo), (defScope s_ogo), [], []⟩
def dd_ocut : He.DefD := ⟨("OutEnd", some "cut"), "cut", "Raw.cut", (defArgs s_ocut), (defBody s_ocut), (defScope s_ocut), [], []⟩
def dd_oplace : He.DefD := ⟨("OutEnd", some "place"), "place", "Raw.place", (defArgs s_oplace), (defBody s_oplace), (defScope s_oplace), [], []⟩
def dd_osize : He.DefD := ⟨("OutEnd", some "size"), "size", "Raw.size", (defArgs s_osize), (defBody s_osize), (defScope s_osize), [], []⟩
def dd_oseek : He.DefD := ⟨("OutEnd", some "check_seeks"), "check_seeks", "Raw.check_seeks", (defArgs s_oseek), (defBody s_oseek), (defScope s_oseek), [], []⟩
def dd_omayC : He.DefD := ⟨("OutEnd", some "may_cut"), "may_cut", "Raw.may_cut", (defArgs s_omayC), (defBody s_omayC), (defScope s_omayC), [], []⟩
def dd_osk : He.DefD := ⟨("OutEnd", some "seeks"), "seeks", "Raw.seeks", (defArgs s_osk), (defBody s_osk), (defScope s_osk), [], []⟩
def dd_pool : He.DefD := ⟨("_law_pool", none), "_law_pool", "_law_pool", (defArgs s_pool), (defBody s_pool), (defScope s_pool), [], []⟩
def dd_take : He.DefD := ⟨("_law_take", none), "_law_take", "_law_take", (defArgs s_take), (defBody s_take), (defScope s_take), [], []⟩
def dd_lrow : He.DefD := ⟨("_law_row", none), "_law_row", "_law_row", (defArgs s_lrow), (defBody s_lrow), (defScope s_lrow), [], []⟩
def dd_lrefusal : He.DefD := ⟨("_law_refusal", none), "_law_refusal", "_law_refusal", (defArgs s_lrefusal), (defBody s_lrefusal), (defScope s_lrefusal), [], []⟩
def dd_ltried : He.DefD := ⟨("_law_tried", none), "_law_tried", "_law_tried", (defArgs s_ltried), (defBody s_ltried), (defScope s_ltried), [], []⟩
def dd_lbad : He.DefD := ⟨("_law_bad_room", none), "_law_bad_room", "_law_bad_room", (defArgs s_lbad), (defBody s_lbad), (defScope s_lbad), [], []⟩
def dd_ldue : He.DefD := ⟨("_law_due", none), "_law_due", "_law_due", (defArgs s_ldue), (defBody s_ldue), (defScope s_ldue), [], []⟩
def dd_lasked : He.DefD := ⟨("_law_asked", none), "_law_asked", "_law_asked", (defArgs s_lasked), (defBody s_lasked), (defScope s_lasked), [], []⟩
def dd_law : He.DefD := ⟨("law", none), "law", "law", (defArgs s_law), (defBody s_law), (defScope s_law), [], []⟩
def dd_osup : He.DefD := ⟨("OutEnd", some "shut"), "shut", "OutEnd.shut", (defArgs s_osup), (defBody s_osup), (defScope s_osup), [], []⟩
def hdF_0 : List He.DefD := [dd_whole, dd_croom, dd_ocopy, dd_rinit, dd_iinit, dd_oinit, dd_pinit, dd_pinto, dd_pout, dd_pheld, dd_play, dd_plift, dd_iaccept, dd_ogive, dd_iput, dd_iopen, dd_imay, dd_inote, dd_ishut, dd_ilog, dd_ilogb, dd_otake, dd_oopen, dd_omay, dd_onote, dd_oshut, dd_olog, dd_ologb, dd_iFault, dd_rshut, dd_pdrop, dd_ibar, dd_itake, dd_imayT, dd_igo, dd_icut, dd_iplace, dd_isize, dd_iseek, dd_imayC]
def hdF_1 : List He.DefD := [dd_isk, dd_oput, dd_omayP, dd_ogo, dd_ocut, dd_oplace, dd_osize, dd_oseek, dd_omayC, dd_osk, dd_pool, dd_take, dd_lrow, dd_lrefusal, dd_ltried, dd_lbad, dd_ldue, dd_lasked, dd_law]
def hdF : List He.DefD := hdF_0 ++ hdF_1
def hdU_0 : List He.DefD := [dd_osup]
def hdU : List He.DefD := hdU_0
def hdN_0 : List PySem.Str := [PySem.Str.ofString "__name__", PySem.Str.ofString "SipError", PySem.Str.ofString "Closed", PySem.Str.ofString "NoSeek", PySem.Str.ofString "NoReads", PySem.Str.ofString "NoWrites", PySem.Str.ofString "BadRoom", PySem.Str.ofString "Fault", PySem.Str.ofString "TooLong", PySem.Str.ofString "LONGEST", PySem.Str.ofString "ROOM", PySem.Str.ofString "BROKEN", PySem.Str.ofString "GREATEST_ROOM", PySem.Str.ofString "is_whole", PySem.Str.ofString "check_room", PySem.Str.ofString "check_length", PySem.Str.ofString "Raw", PySem.Str.ofString "own_copy", PySem.Str.ofString "IntoEnd", PySem.Str.ofString "OutEnd", PySem.Str.ofString "Pipe", PySem.Str.ofString "_law_pool", PySem.Str.ofString "_law_take", PySem.Str.ofString "_law_row", PySem.Str.ofString "_law_refusal", PySem.Str.ofString "_law_tried", PySem.Str.ofString "_law_bad_room", PySem.Str.ofString "_law_due", PySem.Str.ofString "_law_asked"]
def hdN : List PySem.Str := hdN_0
def hdA_0 : List Addr := [2, 3, 15, 22, 23, 24, 25, 28, 35, 36, 37, 40, 47, 48, 49, 52, 59, 60, 61, 64, 71, 72, 73, 76, 83, 84, 85, 88, 95, 96, 98, 99, 101, 102, 103, 104, 105, 108, 115, 117]
def hdA_1 : List Addr := [118, 120, 121, 122, 123, 124, 127, 129, 130, 132, 133, 134, 136, 137, 139, 140, 141, 143, 144, 146, 147, 155, 157, 158, 160, 161, 162, 164, 165, 167, 168, 169, 171, 172, 174, 175, 176, 178, 179, 181]
def hdA_2 : List Addr := [182, 183, 185, 186, 188, 189, 190, 192, 193, 195, 196, 197, 199, 200, 202, 203, 204, 206, 207, 209, 210, 211, 213, 214, 216, 217, 218, 220, 221, 223, 224, 225, 227, 228, 230, 231, 232, 235, 236, 237]
def hdA_3 : List Addr := [239, 240, 242, 243, 244, 246, 247, 249, 250, 251, 253, 254, 256, 257, 258, 260, 261, 263, 264, 265, 267, 268, 270, 271, 272, 274, 275, 277, 278, 279, 281, 282, 284, 285, 286, 288, 289, 291, 292, 293]
def hdA_4 : List Addr := [295, 296, 298, 299, 300, 302, 303, 305, 306, 307, 309, 310, 312, 313, 314, 315, 316, 317, 318, 321, 323, 324, 326, 327, 328, 335, 337, 338, 340, 341, 342, 344, 345, 347, 348, 349, 351, 352, 354, 355]
def hdA_5 : List Addr := [356, 357, 358, 361, 364, 369, 371, 372, 374, 375, 376, 378, 379, 381, 382, 383, 385, 386, 388, 389, 390, 391, 393, 394, 396, 397, 398, 399, 400, 410, 411, 413, 414, 416, 417, 418, 420, 421, 423, 424]
def hdA_6 : List Addr := [425, 427, 428, 430, 431, 432, 434, 435, 437, 438, 439, 441, 442, 444, 445, 446, 448, 449, 451, 452, 453, 455, 456, 458, 459, 460, 461, 462, 463, 464, 467, 469, 470, 472, 473, 474, 476, 477, 479, 480]
def hdA_7 : List Addr := [481, 483, 484, 486, 487, 488, 490, 491, 493, 494, 495, 497, 498, 500, 501, 502, 504, 505, 507, 508, 509, 511, 512, 514, 515, 516, 518, 519, 521, 522, 523, 525, 526, 528, 529]
def hdA : List Addr := hdA_0 ++ hdA_1 ++ hdA_2 ++ hdA_3 ++ hdA_4 ++ hdA_5 ++ hdA_6 ++ hdA_7
abbrev hdR : PySem.W.OpenRow := PySem.W.OpenLaw.row PySem.Challenge.rw_sipstack_k13_pipe_room_and_ends
abbrev hdK : PySem.W.Hook := Sip.hookU hdA re_0 hdF hdU
def hdO (s : PySem.W.SharedT) : Sip.AlU := Sip.obsUG hdA re_0 hdF hdU (HandSHeadRun.getT s)
theorem hdO_eq (s : PySem.W.SharedT) : hdO s = hdK.obs s.abs := Sip.obsUG_eq (HandSHeadRun.getT_eq s)
theorem hdRun (w : World) : HandSHeadRun.RunEq hdR (PySem.W.view hdR.prog [33]) hdK hdO 60000 hdN w := by
  intro os
  kernel_rfl
end

end Sip
namespace Sip
open PySem PySem.Spec PyProof.Rows L2 TL
section
variable {X : Cx} {e : Expr} {te : TE}
/-- a bound of a slice that may be None -/
def tPartO (te : TE) : TO := fun σ H Q => te σ H fun x H1 => ∃ k : Option Int, x = (match k with | none => .non | some i => .int i) ∧ Q k H1
theorem po_opt (h : PE X e te) : PO X (some e) (tPartO te) := by
  refine ⟨fun pins s σ H Q I hw => ?_⟩
  rw [evalPart_some]
  refine thn (h.run pins s σ H _ I hw) fun u s1 ⟨x, H1, I1, r1, q1⟩ => ?_
  obtain ⟨k, rfl, q⟩ := q1
  cases k with
  | none =>
    cases (show u = Value.none from r1)
    exact ⟨none, H1, I1, .none, q⟩
  | some i =>
    obtain ⟨t, rfl⟩ := (show ∃ t, u = Value.int i t from r1)
    exact ⟨some i, H1, I1, .int i t, q⟩
end
def cntV : Option Nat → V
  | none => .non
  | some n => .int n
def cntI : Option Nat → Option Int
  | none => none
  | some n => some n
theorem cntV_eq (k : Option Nat) : cntV k = (match cntI k with | none => V.non | some i => .int i) := by cases k <;> rfl
def takeO (k : Option Nat) (xs : List Int) : List Int := match k with
  | none => xs
  | some n => xs.take n
theorem cut_O (r : List Int) (k : Option Nat) : cutV (r.map V.int) none (cntI k) = (takeO k r).map V.int := by
  cases k with
  | none =>
    unfold cutV cntI takeO
    rw [HT.sIx_none, HT.sIx_none, List.length_map]
    show (r.map V.int).take (r.length - 0) = _
    exact List.take_of_length_le (by rw [List.length_map]; omega)
  | some n => exact take_cut r n
theorem takeO_len (k : Option Nat) (xs : List Int) : (takeO k xs).length ≤ xs.length := by
  cases k with
  | none => exact Nat.le_refl _
  | some n => show (xs.take n).length ≤ _; rw [List.length_take]; omega
def lineF (xs : List Int) : List Int := xs.take (xs.idxOf 10 + 1)
theorem lineF_no {xs : List Int} (h : (10 : Int) ∉ xs) : lineF xs = xs := by
  unfold lineF
  exact List.take_of_length_le (by rw [List.idxOf_eq_length h]; omega)
theorem idx_take (xs : List Int) (n : Nat) : (xs.take n).idxOf 10 = min (xs.idxOf 10) (xs.take n).length := by
  induction xs generalizing n with
  | nil => simp
  | cons x r ih =>
    cases n with
    | zero => simp
    | succ n =>
      rw [List.take_succ_cons, List.idxOf_cons, List.idxOf_cons, List.length_cons]
      by_cases h : x = 10
      · subst h; simp
      · have : (x == 10) = false := by simpa using h
        rw [this]
        simp only [cond_false]
        rw [ih n]; omega
theorem lineF_take (xs : List Int) (n : Nat) : lineF (xs.take n) = (lineF xs).take n := by
  unfold lineF
  rw [idx_take, List.take_take, List.take_take]
  rw [List.length_take]
  by_cases h : n ≤ xs.length
  · congr 1; omega
  · rw [List.take_of_length_le (l := xs) (by omega : xs.length ≤ n) |>.symm]
    by_cases g : xs.idxOf 10 < xs.length
    · rw [List.take_of_length_le (l := xs) (by omega : xs.length ≤ n)]; congr 1; omega
    · rw [List.take_of_length_le (l := xs) (by omega : xs.length ≤ n)]
      have : xs.idxOf 10 ≤ xs.length := List.idxOf_le_length
      rw [List.take_of_length_le (by omega), List.take_of_length_le (by omega)]
theorem lineF_O (xs : List Int) (k : Option Nat) : lineF (takeO k xs) = takeO k (lineF xs) := by
  cases k with
  | none => rfl
  | some n => exact lineF_take xs n
theorem inV_ten (xs : List Int) (v : Int) : inV (.int v) (xs.map V.int) = decide (v ∈ xs) := by
  unfold inV
  rw [List.any_map]
  rw [Bool.eq_iff_iff, List.any_eq_true, decide_eq_true_iff]
  constructor
  · rintro ⟨x, hx, e⟩
    have e1 : x = v := by
      have : eqV (.int x) (.int v) = true := e
      simpa [eqV] using this
    rw [← e1]; exact hx
  · intro h
    exact ⟨v, h, by show eqV (.int v) (.int v) = true; simp [eqV]⟩
theorem flat_ints (xs : List Int) : (xs.map V.int).all flatV = true := by
  rw [List.all_map, List.all_eq_true]
  intro x _
  rfl
theorem idx_facts {xs : List Int} {v : Int} (h : v ∈ xs) : (xs.map V.int)[xs.idxOf v]? = some (.int v) ∧ ∀ (m : Nat) (z : V), m < xs.idxOf v → (xs.map V.int)[m]? = some z → eqV z (.int v) = false := by
  have hl : xs.idxOf v < xs.length := List.idxOf_lt_length_of_mem h
  refine ⟨?_, fun m z hm hz => ?_⟩
  · rw [List.getElem?_map, List.getElem?_eq_getElem hl, List.getElem_idxOf hl]; rfl
  · rw [List.getElem?_map] at hz
    obtain ⟨y, hy, rfl⟩ := Option.map_eq_some_iff.mp hz
    have : y ≠ v := by
      intro e
      subst e
      have hm' : m < xs.length := by omega
      rw [List.getElem?_eq_getElem hm'] at hy
      have := List.not_of_lt_findIdx (p := (· == y)) (xs := xs) (i := m) hm
      have e2 : xs[m] = y := Option.some.inj hy
      rw [e2] at this
      simp at this
    show eqV (.int y) (.int v) = false
    simpa [eqV] using this
theorem mid_cut (r : List Int) (c n : Nat) : cutV (r.map V.int) (some (c : Int)) (some ((c + n : Nat) : Int)) = ((r.drop c).take n).map V.int := by
  unfold cutV
  rw [HT.sIx_nat, HT.sIx_nat, List.length_map, ← List.map_drop, ← List.map_take]
  congr 1
  by_cases h : c ≤ r.length
  · rw [Nat.min_eq_left h]
    by_cases g : c + n ≤ r.length
    · rw [Nat.min_eq_left g, Nat.add_sub_cancel_left]
    · rw [Nat.min_eq_right (by omega), List.take_of_length_le (by rw [List.length_drop]; omega), List.take_of_length_le (by rw [List.length_drop]; omega)]
  · rw [Nat.min_eq_right (by omega : r.length ≤ c), Nat.min_eq_right (by omega), List.drop_of_length_le (Nat.le_refl _), List.drop_of_length_le (by omega : r.length ≤ c)]
    simp
theorem past_le (r : List Int) (c n m : Nat) (h1 : r.length ≤ m) (h2 : c ≤ m) : c + ((r.drop c).take n).length ≤ m := by
  rw [List.length_take, List.length_drop]; omega
/-! promises of the reading calls -/
def spPPeek (PA : PP) : Sp := fun vs H Q _ => ∃ (p : Addr) (F : Addr → Prop) (r : List Int) (c : Nat) (k : Option Nat), vs = [.ref p, cntV k] ∧ PA H p F r c ∧
  ∀ (H' : Hp) (q : Addr), H q = none → H' q = some (.lst ((takeO k (r.drop c)).map V.int)) → Same H H' → Q (.ref q) H'
def spPRead (PA : PP) : Sp := fun vs H Q _ => ∃ (p : Addr) (F : Addr → Prop) (r : List Int) (c : Nat) (k : Option Nat), vs = [.ref p, cntV k] ∧ PA H p F r c ∧
  ∀ (H' : Hp) (F' : Addr → Prop) (q : Addr), PA H' p F' r (c + (takeO k (r.drop c)).length) → H q = none → ¬ F' q → H' q = some (.lst ((takeO k (r.drop c)).map V.int)) → Step F H F' H' → Q (.ref q) H'
def spPLine (PA : PP) : Sp := fun vs H Q _ => ∃ (p : Addr) (F : Addr → Prop) (r : List Int) (c : Nat) (k : Option Nat), vs = [.ref p, cntV k] ∧ PA H p F r c ∧ r.length ≤ 10000 ∧
  ∀ (H' : Hp) (F' : Addr → Prop) (q : Addr), PA H' p F' r (c + (takeO k (lineF (r.drop c))).length) → H q = none → ¬ F' q → H' q = some (.lst ((takeO k (lineF (r.drop c))).map V.int)) → Step F H F' H' → Q (.ref q) H'
def spFLine (K : PySem.W.Frag) : Sp := fun vs H Q _ => ∃ (a : Addr) (xs : List Int) (k : Option Nat), vs = [.ref a, cntV k] ∧ SqL K H a (xs.map V.int) ∧ xs.length ≤ 10000 ∧
  ∀ (H' : Hp) (q : Addr), H q = none → H' q = some (.lst ((takeO k (lineF xs)).map V.int)) → Same H H' → Q (.ref q) H'
def spCount : Sp := fun vs H Q _ => ∃ k : Option Nat, vs = [cntV k] ∧ Q .non H
def spAhead (PA : PP) : Sp := fun vs H Q _ => ∃ (p : Addr) (F : Addr → Prop) (r : List Int) (c : Nat), vs = [.ref p] ∧ PA H p F r c ∧
  ∀ (H' : Hp) (q : Addr), H q = none → H' q = some (.lst ((r.drop c).map V.int)) → Same H H' → Q (.ref q) H'
def spPassed (PA : PP) : Sp := fun vs H Q _ => ∃ (p t : Addr) (F : Addr → Prop) (r xs : List Int) (c : Nat), vs = [.ref p, .ref t] ∧ PA H p F r c ∧ ¬ F t ∧ H t = some (.lst (xs.map V.int)) ∧
  ∀ (H' : Hp) (F' : Addr → Prop), PA H' p F' r (c + xs.length) → ¬ F' t → H' t = some (.lst (xs.map V.int)) → Step F H F' H' → Q (.ref t) H'
end Sip
namespace Sip
open PySem PySem.Spec PyProof.Rows L2 TL
/-! ### tuples alike -/
section
variable {X : Cx}
def rEqS (K : PySem.W.Frag) : R2 := fun x y H Q => ∃ d, Dp K H x d ∧ Dp K H y d ∧ SeqAt.shaped d = true ∧ Q (.bl true) H
def rNeS (K : PySem.W.Frag) : R2 := fun x y H Q => ∃ d, Dp K H x d ∧ Dp K H y d ∧ SeqAt.shaped d = true ∧ Q (.bl false) H
theorem eqv_same {d : PyData} (h : SeqAt.shaped d = true) : PyData.eqv d d = true := SeqAt.eqv_refl d (SeqAt.canLay_of_shaped h)
theorem op_eqS (hu : X.A.units + 64 < cLine) : OpR X (compareOp .Eq) (rEqS X.K) := by
  intro pins s σ H x y v u Q I rx ry h
  obtain ⟨d, h1, h2, h3, q⟩ := h
  exact op_eqD hu pins s σ H x y v u Q I rx ry ⟨d, d, h1, h2, h3, h3, by rw [eqv_same h3]; exact q⟩
theorem op_neS (hu : X.A.units + 64 < cLine) : OpR X (compareOp .NotEq) (rNeS X.K) := by
  intro pins s σ H x y v u Q I rx ry h
  obtain ⟨d, h1, h2, h3, q⟩ := h
  exact op_neD hu pins s σ H x y v u Q I rx ry ⟨d, d, h1, h2, h3, h3, by rw [eqv_same h3]; exact q⟩
/-- == of two tuples of ints -/
def rEqTI (K : PySem.W.Frag) : R2 := fun x y H Q => ∃ (a b : Addr) (ns ms : List Int), x = .ref a ∧ y = .ref b ∧ SqT K H a (ns.map V.int) ∧ SqT K H b (ms.map V.int) ∧ Q (.bl (decide (ns = ms))) H
theorem lay_ints : ∀ ns : List Int, PyData.canLayAll0 (ns.map PyData.int) = true
  | [] => rfl
  | n :: r => by
    have := lay_ints r
    simp [PyData.canLayAll0, PyData.canLay0, this]
theorem eqv_ints : ∀ ns ms : List Int, PyData.eqvAll (ns.map PyData.int) (ms.map PyData.int) = decide (ns = ms)
  | [], [] => rfl
  | [], _ :: _ => by simp [PyData.eqvAll]
  | _ :: _, [] => by simp [PyData.eqvAll]
  | n :: r, m :: t => by
    show (PyData.eqv (.int n) (.int m) && PyData.eqvAll (r.map PyData.int) (t.map PyData.int)) = _
    rw [eqv_ints r t]
    show ((n == m) && decide (r = t)) = _
    by_cases h : n = m <;> by_cases g : r = t <;> simp [h, g]
end
theorem shaped_ints (ns : List Int) : SeqAt.shaped (.tuple (ns.map PyData.int)) = true := by
  unfold SeqAt.shaped
  rw [Bool.and_eq_true]
  refine ⟨lay_ints ns, decide_eq_true ?_⟩
  have : ∀ ms : List Int, PyData.depthAll (ms.map PyData.int) ≤ 1 := by
    intro ms
    induction ms with
    | nil => simp [PyData.depthAll]
    | cons m r ih => simp [PyData.depthAll, PyData.depth]; try omega
  have h := this ns
  show PyData.depth (.tuple (ns.map PyData.int)) ≤ 64
  simp [PyData.depth]; try omega
section
variable {X : Cx}
theorem op_eqTI (hu : X.A.units + 64 < cLine) : OpR X (compareOp .Eq) (rEqTI X.K) := by
  intro pins s σ H x y v u Q I rx ry h
  obtain ⟨a, b, ns, ms, rfl, rfl, ha, hb, q⟩ := h
  exact op_eqD hu pins s σ H _ _ v u Q I rx ry ⟨.tuple (ns.map PyData.int), .tuple (ms.map PyData.int), .tup ha (dp_ints ns), .tup hb (dp_ints ms), shaped_ints ns, shaped_ints ms, by
    rw [show PyData.eqv (.tuple (ns.map PyData.int)) (.tuple (ms.map PyData.int)) = decide (ns = ms) from eqv_ints ns ms]; exact q⟩
end
theorem dp4 {K : PySem.W.Frag} {H : Hp} {q : Addr} {w : Str} {a b c : Int} (h : SqT K H q [.str w, .int a, .int b, .int c]) : Dp K H (.ref q) (.tuple [.str w, .int a, .int b, .int c]) :=
  .tup h (.cons (.str _) (.cons (.int _) (.cons (.int _) (.cons (.int _) .nil))))
theorem sh4 {w : Str} (h : PyData.strOk w = true) (a b c : Int) : SeqAt.shaped (.tuple [.str w, .int a, .int b, .int c]) = true := by
  simp [SeqAt.shaped, PyData.canLay0, PyData.canLayAll0, PyData.depth, PyData.depthAll, h]
/-! ### the codes -/
inductive Cd
  | plain | steps | wide | turn
def Cd.w : Cd → Str
  | .plain => Str.ofString "plain"
  | .steps => Str.ofString "steps"
  | .wide => Str.ofString "wide"
  | .turn => Str.ofString "turn"
def skipT : List Int → Nat → Int → Nat × Int
  | [], p, s => (p, s)
  | x :: r, p, s => if 128 ≤ x then skipT r (p + 1) (x - 128) else (p, s)
def markW (row : List Int) (p : Nat) : Nat × Int :=
  if (row.drop p).take 2 = [254, 255] then (p + 2, 2) else if (row.drop p).take 2 = [255, 254] then (p + 2, 1) else (p, 2)
def goneF (c : Cd) (row : List Int) (p : Nat) (s : Int) : Nat × Int := match c with
  | .turn => skipT (row.drop p) p s
  | .wide => if s = 0 then markW row p else (p, s)
  | _ => (p, s)
def leadF (x : Int) : Nat × Int :=
  if x < 128 then (1, 0) else if x < 192 then (0, 0) else if x < 224 then (2, 192) else if x < 240 then (3, 224) else if x < 248 then (4, 240) else (0, 0)
def stepsW (n : Int) : List Int :=
  if n < 128 then [n] else if n < 2048 then [192 + n / 64, 128 + n % 64] else if n < 65536 then [224 + n / 4096, 128 + n / 64 % 64, 128 + n % 64]
  else [240 + n / 262144, 128 + n / 4096 % 64, 128 + n / 64 % 64, 128 + n % 64]
def foldS (s : Int) (xs : List Int) : Int := xs.foldl (fun s b => 64 * s + b - 128) s
def stepsAt (xs : List Int) : Int × Nat :=
  let l := leadF (xs.headD 0)
  let wr := xs.take l.1
  let sg := foldS (xs.headD 0 - l.2) (wr.drop 1)
  if stepsW sg = wr then (sg, l.1) else (0, 0)
def signF (c : Cd) (row : List Int) (b : Nat) (s : Int) : Int × Nat := match c with
  | .steps => stepsAt (row.drop b)
  | .wide => if row.length < b + 2 then (0, 0) else if s = 1 then (row.getD b 0 + 256 * row.getD (b + 1) 0, 2) else (256 * row.getD b 0 + row.getD (b + 1) 0, 2)
  | .turn => (128 * s + row.getD b 0, 1)
  | .plain => (row.getD b 0, 1)
def fourV (w : Str) (a : Int) (p : Nat) (s : Int) : List V := [.str w, .int a, .int p, .int s]
def tellF (row : List Int) (p : Nat) (s : Int) (g : Nat × Int) (t : Int × Nat) : List V :=
  if row.length ≤ g.1 then fourV (Str.ofString "end") 0 p s else if t.2 = 0 then fourV (Str.ofString "wrong") 0 (g.1 + 1) g.2 else fourV (Str.ofString "sign") t.1 (g.1 + t.2) g.2
def readF (c : Cd) (row : List Int) (p : Nat) (s : Int) : List V := tellF row p s (goneF c row p s) (signF c row (goneF c row p s).1 (goneF c row p s).2)
theorem readF_shape (c : Cd) (row : List Int) (p : Nat) (s : Int) : ∃ (w : Str) (a : Int) (p' : Nat) (s' : Int), readF c row p s = fourV w a p' s' ∧ PyData.strOk w = true := by
  unfold readF tellF
  split
  · exact ⟨_, _, _, _, rfl, by decide +kernel⟩
  · split
    · exact ⟨_, _, _, _, rfl, by decide +kernel⟩
    · exact ⟨_, _, _, _, rfl, by decide +kernel⟩
/-- two told tuples alike -/
theorem dp_read {K : PySem.W.Frag} {H : Hp} {a b : Addr} {c : Cd} {row : List Int} {p : Nat} {s : Int} (ha : SqT K H a (readF c row p s)) (hb : SqT K H b (readF c row p s)) : ∃ d, Dp K H (.ref a) d ∧ Dp K H (.ref b) d ∧ SeqAt.shaped d = true := by
  obtain ⟨w, x, p', s', e, h⟩ := readF_shape c row p s
  rw [e] at ha hb
  exact ⟨_, dp4 ha, dp4 hb, sh4 h _ _ _⟩
/-! promises -/
def newT (H : Hp) (vs : List V) (Q : VK) : Prop := ∀ (H' : Hp) (q : Addr), H q = none → H' q = some (.tup vs) → Same H H' → Q (.ref q) H'
def spChk : Sp := fun vs H Q _ => ∃ c : Cd, vs = [.str c.w] ∧ ∀ H', Same H H' → Q .non H'
def spBT (K : PySem.W.Frag) : Sp := fun vs H Q _ => ∃ (a : Addr) (row : List Int) (p : Nat) (s : Int), vs = [.ref a, .int p, .int s] ∧ SqL K H a (row.map V.int) ∧ newT H [.int (skipT (row.drop p) p s).1, .int (skipT (row.drop p) p s).2] Q
def spBM (K : PySem.W.Frag) : Sp := fun vs H Q _ => ∃ (a : Addr) (row : List Int) (p : Nat), vs = [.ref a, .int p] ∧ SqL K H a (row.map V.int) ∧ newT H [.int (markW row p).1, .int (markW row p).2] Q
def spGone (K : PySem.W.Frag) : Sp := fun vs H Q _ => ∃ (a : Addr) (row : List Int) (p : Nat) (s : Int) (c : Cd), vs = [.ref a, .int p, .int s, .str c.w] ∧ SqL K H a (row.map V.int) ∧ newT H [.int (goneF c row p s).1, .int (goneF c row p s).2] Q
def spWideAt (K : PySem.W.Frag) : Sp := fun vs H Q _ => ∃ (a : Addr) (row : List Int) (b : Nat) (s : Int), vs = [.ref a, .int b, .int s] ∧ SqL K H a (row.map V.int) ∧ b < row.length ∧ newT H [.int (signF .wide row b s).1, .int (signF .wide row b s).2] Q
def spStepsAt (K : PySem.W.Frag) : Sp := fun vs H Q _ => ∃ (a : Addr) (row : List Int) (b : Nat), vs = [.ref a, .int b] ∧ SqL K H a (row.map V.int) ∧ b < row.length ∧ newT H [.int (stepsAt (row.drop b)).1, .int (stepsAt (row.drop b)).2] Q
def spLead : Sp := fun vs H Q _ => ∃ x : Int, vs = [.int x] ∧ newT H [.int (leadF x).1, .int (leadF x).2] Q
def spStepsW : Sp := fun vs H Q _ => ∃ n : Int, vs = [.int n] ∧ ∀ (H' : Hp) (q : Addr), H q = none → H' q = some (.lst ((stepsW n).map V.int)) → Same H H' → Q (.ref q) H'
def spSignAt (K : PySem.W.Frag) (ok : Cd → Prop) : Sp := fun vs H Q _ => ∃ (a : Addr) (row : List Int) (b : Nat) (s : Int) (c : Cd), vs = [.ref a, .int b, .int s, .str c.w] ∧ ok c ∧ SqL K H a (row.map V.int) ∧ b < row.length ∧ newT H [.int (signF c row b s).1, .int (signF c row b s).2] Q
def spReadS (K : PySem.W.Frag) (ok : Cd → Prop) : Sp := fun vs H Q _ => ∃ (a : Addr) (row : List Int) (p : Nat) (s : Int) (c : Cd), vs = [.ref a, .int p, .int s, .str c.w] ∧ ok c ∧ SqL K H a (row.map V.int) ∧ newT H (readF c row p s) Q
end Sip
/-! several except clauses, some with a name -/
namespace Sip
open PySem PySem.Spec PyProof.Rows L2 TL
/-- a clause: its class, the slot of its name, its suite -/
abbrev Cl := Value × Option Nat × (Addr → Value → Option Addr → TS)
/-- behind a suite its name is gone -/
def offD (i : Nat) (D : Ends) : Ends where
  nx := fun σ H => D.nx (σ.set i none) H
  rt := D.rt
  bk := fun σ H => D.bk (σ.set i none) H
  ct := fun σ H => D.ct (σ.set i none) H
def suiteW (D : Ends) (ts : Addr → Value → Option Addr → TS) (cls : Value) (d : Option Addr) (σ : L2.St) (H : Hp) (a : Addr) : Option Nat → Prop
  | none => ts a cls d D σ H
  | some i => ts a cls d (offD i D) (σ.set i (some (.ref a))) H
def wMix (K : PySem.W.Frag) (Wo : WX) (D : Ends) : List Cl → WX
  | [] => Wo
  | (c, o, ts) :: r => fun cls d σ H => ∃ b, PySem.W.exmOne K cls c = some b ∧ (b = true → ∀ a, H a = none → suiteW D ts cls d σ H a o) ∧ (b = false → wMix K Wo D r cls d σ H)
/-- the slot of a clause's name -/
def AsOk (X : Cx) : Option Str → Option Nat → Prop
  | none, none => True
  | some n, some i => X.N.Nodup ∧ X.N[i]? = some n ∧ X.env.kindOf n = some .local
  | _, _ => False
abbrev SuiteOk (X : Cx) (su : List Stmt) (ts : Addr → Value → Option Addr → TS) : Prop := ∀ (a : Addr) (oe : Obj) (cls : Value) (d : Option Addr) (pn : List (Addr × Obj)), Zc cls d oe → (∃ vs, oe.data = .fields vs) → PSs (X.suite a ((a, oe) :: pn)) su (ts a cls d)
inductive ClsOk (X : Cx) : List ExceptHandler → List Cl → Prop
  | nil : ClsOk X [] []
  | cons {x : Str} {c : Value} {nm : Option Str} {o : Option Nat} {ts : Addr → Value → Option Addr → TS} {st : Stmt} {su : List Stmt} {q1 q2 : Pos} {hs : List ExceptHandler} {l : List Cl} (hc : Names X x c) (ha : AsOk X nm o) (hsu : SuiteOk X (st :: su) ts) (r : ClsOk X hs l) :
      ClsOk X (.ExceptHandler (some (.Name x q1)) nm (st :: su) q2 :: hs) ((c, o, ts) :: l)
/-- an error that has come to the clauses of a try -/
structure Caught (X : Cx) (pins : List (Addr × Obj)) (a : Addr) (B : Heap) (sI s1 : Shared) (h3 : Heap) (σ : L2.St) (H : Hp) (cls : Value) (d : Option Addr) : Prop where
  ok : X.Ok
  stk : X.stack = X.env :: X.outer
  frm : X.env.frame = some X.env.locals
  inv : Inv X pins σ H sI
  nb : ∀ b o, sI.heap.get? b = some o → b ∉ frs X.stack → B.get? b = some o
  up : sI.heap.UpToSlots h3
  fl : HandSPX.FlyingZ B (X.env :: X.outer) a (Zc cls d) h3
  na : H a = none
  nL : a ≠ X.env.locals
  nF : a ∉ X.fs
  os : s1.os = sI.os
  ag : AllBare s1.gens
section
variable {X : Cx} {pins : List (Addr × Obj)} {a : Addr} {B : Heap} {sI s1 : Shared} {h3 : Heap} {σ : L2.St} {H : Hp} {cls : Value} {d : Option Addr} {D : Ends} {Wo : WX}
theorem Caught.at (C : Caught X pins a B sI s1 h3 σ H cls d) {h4 : Heap} (f : HandSPX.FlyingZ B (X.env :: X.outer) a (Zc cls d) h4) (u : h3.UpToSlots h4) : Inv X pins σ H { s1 with heap := h4 } :=
  C.inv.landed (s' := { s1 with heap := h4 }) (by have := C.nb; exact this) f.1 (C.up.trans u) C.os C.ag
/-- no clause takes it -/
theorem Caught.none (C : Caught X pins a B sI s1 h3 σ H cls d) (tk : Takes X Wo) (w : Wo cls d σ H) : wpAny (model X.prog X.w) X.A (handleBy (.ref a) X.env []) (SP X pins D) X.xe { s1 with heap := h3 } := by
  have C2 := C
  obtain ⟨_, _, _, _, _, T, _, _, he, _, hd, h1, _⟩ := C2.fl
  have go : wpAny (model X.prog X.w) X.A (setFlight (.ref a) X.env.frame) (fun _ s4 => wpAny (model X.prog X.w) X.A (throw (.ref a) : Sem Flow) (SP X pins D) X.xe s4) X.xe { s1 with heap := h3 } := by
    rw [C.frm]
    exact HandSPX.setFlight_upZ C.fl fun h4 held u4 => wpAny_throw (tk _ _ ⟨a, B, sI, pins, σ, H, cls, d, rfl, C.inv, C.nb, C.up.trans u4, .inr (.inr (by rw [C.stk]; exact held)), C.na, C.os, C.ag, w⟩)
  refine wpAny_handleBy_nil ?_
  unfold PySem.passOn
  refine wpAny_bind (wpAny_field he hd h1 ?_)
  have nn : ¬ ((Value.ref T == Value.none) = true) := by simp
  rw [if_neg nn]
  first | exact wpAny_bind (wpAny_pure (wpAny_bind go)) | exact wpAny_bind go
theorem caught_go (C : Caught X pins a B sI s1 h3 σ H cls d) (tk : Takes X Wo) : ∀ {hs : List ExceptHandler} {l : List Cl}, ClsOk X hs l → wMix X.K Wo D l cls d σ H → wpAny (model X.prog X.w) X.A (handleBy (.ref a) X.env hs) (SP X pins D) X.xe { s1 with heap := h3 } := by
  intro hs l hk
  induction hk with
  | nil => exact fun w => C.none tk w
  | @cons x c nm o ts st su q1 q2 hs2 l2 hc ha hsu r ih =>
    rintro ⟨b, hb, yes, no⟩
    have J3 := C.at C.fl (Heap.UpToSlots.refl _)
    obtain ⟨oe, vs, he, hz, hd⟩ := C.fl.there
    have S3 := J3.suite he hd C.na C.nL C.nF
    refine wpAny_handleBy_cons (codeAny_handlers_test ?_) (by intro q; cases q)
    have knows : PySem.W.Looks (model X.prog X.w) h3 (typeOf (.ref a)) cls := fun _ _ _ _ k q => wpAny_typeOf_ref (k _ _ he) (by rw [hz.1]; exact q)
    have look := PySem.W.exm_one (M := model X.prog X.w) J3.kIn knows hb
    have named : ∀ {Q E : Value → Shared → Prop}, Q c { s1 with heap := h3 } → wpAny (model X.prog X.w) (X.A.mark (some (.ref a))) (eval (.Name x q1) X.env) Q E { s1 with heap := h3 } := fun q => by
      rcases hc with ⟨g1, g2, m1 | ⟨m1, m2, m3⟩⟩
      · exact ld_glob (X := X.suite a ((a, oe) :: (X.pn ++ pins))) S3 g1 m1 q g2
      · exact ld_blt (X := X.suite a ((a, oe) :: (X.pn ++ pins))) S3 g1 m1 m2 q m3 g2
    refine named (look.here ?_)
    cases b with
    | false => exact ih (no rfl)
    | true =>
      cases nm with
      | none =>
        cases o with
        | some i => exact ha.elim
        | none =>
          refine codeAny_handlers_suite (HandSPX.lands_againZ C.fl fun h4 f4 u4 => ?_)
          obtain ⟨oe4, _, e4, z4, d4⟩ := f4.there
          have S4 := (C.at f4 u4).suite e4 d4 C.na C.nL C.nF
          refine wpAny_mono ((hsu a oe4 cls d (X.pn ++ pins) z4 ⟨_, d4⟩).run [] _ _ H _ S4 (yes rfl a C.na)) (fun f s6 hp => ?_) fun _ _ z => z.elim
          match f, hp with
          | .next, ⟨_, _, S6, q6⟩ => exact ⟨_, _, S6.unsuite C.ok, q6⟩
          | .brk, ⟨_, _, S6, q6⟩ => exact ⟨_, _, S6.unsuite C.ok, q6⟩
          | .cont, ⟨_, _, S6, q6⟩ => exact ⟨_, _, S6.unsuite C.ok, q6⟩
          | .ret _, ⟨_, _, _, S6, r6, q6⟩ => exact ⟨_, _, _, S6.unsuite C.ok, r6, q6⟩
      | some n =>
        cases o with
        | none => exact ha.elim
        | some i =>
          obtain ⟨hN, hi, hl⟩ := ha
          refine codeAny_handlers_suite_as (HandSPX.lands_againZ C.fl fun h4 f4 u4 => ?_)
          obtain ⟨oe4, _, e4, z4, d4⟩ := f4.there
          have S4 := (C.at f4 u4).suite e4 d4 C.na C.nL C.nF
          refine store_ok (X := X.suite a ((a, oe4) :: (X.pn ++ pins))) (v := .ref a) S4 hN hi (.inl hl) rfl (fun s5 S5 => ?_) (.inr hl)
          refine wpAny_mono ((hsu a oe4 cls d (X.pn ++ pins) z4 ⟨_, d4⟩).run [] s5 _ H _ S5 (yes rfl a C.na)) (fun f s6 hp => ?_) fun _ _ z => z.elim
          have off : ∀ {σ6 : L2.St} {H6 : Hp} {Q : Shared → Prop}, Inv (X.suite a ((a, oe4) :: (X.pn ++ pins))) [] σ6 H6 s6 → (∀ s7, Inv X pins (σ6.set i none) H6 s7 → Q s7) → wpAny (model X.prog X.w) X.A (do bindName X.env n .none; unbindBehindTheSuite X.env n q2) (fun _ s7 => Q s7) X.xe s6 :=
            fun S6 hq => gone_ok (S6.unsuite C.ok) hN hi hl hq
          match f, hp with
          | .next, ⟨_, _, S6, q6⟩ => exact off S6 fun _ J7 => ⟨_, _, J7, q6⟩
          | .brk, ⟨_, _, S6, q6⟩ => exact off S6 fun _ J7 => ⟨_, _, J7, q6⟩
          | .cont, ⟨_, _, S6, q6⟩ => exact off S6 fun _ J7 => ⟨_, _, J7, q6⟩
          | .ret _, ⟨_, _, _, S6, r6, q6⟩ => exact off S6 fun _ J7 => ⟨_, _, _, J7, r6, q6⟩
/-- try: .. except X: .. except Y as n: .. -/
theorem ps_try_mix {body : List Stmt} {h0 : ExceptHandler} {hs : List ExceptHandler} {l : List Cl} {pos : Pos} {tb : WX → TS} (stk : X.stack = X.env :: X.outer) (frm : X.env.frame = some X.env.locals) (tk : Takes X Wo)
    (hb : ∀ (W : WX) (pn : List (Addr × Obj)) (xe : Value → Shared → Prop), Takes (X.tr pn xe) W → PassesOwn (model X.prog X.w) X.A X.env xe → PSs (X.tr pn xe) body (tb W)) (hh : ClsOk X (h0 :: hs) l) :
    PS X (.Try body (h0 :: hs) [] [] pos) (fun D σ H => tb (wMix X.K Wo D l) D σ H) := by
  refine ⟨fun pins s σ H D I h => wpAny_Try_except ?_⟩
  have ok := I.ok
  have fr : X.A.frames = some (X.env :: X.outer) := by rw [ok.frames, stk]
  have run := (hb (wMix X.K Wo D l) (X.pn ++ pins) (fun e t1 => wpAny (model X.prog X.w) X.A (noteFrame e X.env) (fun _ t2 => wpAny (model X.prog X.w) X.A (setFlight e none) (fun _ t3 => wpAny (model X.prog X.w) X.A (handleBy e X.env (h0 :: hs)) (SP X pins D) X.xe t3) X.xe t2) X.xe t1) ?_ PassesOwn.looking).run [] s σ H D (I.toTry _) h
  · refine wpAny_mono run (fun f s1 hp => ?_) fun _ _ he => he
    match f, hp with
    | .next, ⟨_, _, J, q⟩ => exact wpAny_execs_nil ⟨_, _, J.ofTry ok, q⟩
    | .brk, ⟨_, _, J, q⟩ => exact ⟨_, _, J.ofTry ok, q⟩
    | .cont, ⟨_, _, J, q⟩ => exact ⟨_, _, J.ofTry ok, q⟩
    | .ret _, ⟨_, _, _, J, r, q⟩ => exact ⟨_, _, _, J.ofTry ok, r, q⟩
  · rintro u s1 ⟨a, B, sI, pins2, σ2, H2, cls, d, rfl, J2, nb, up, sky, na, os, ag, w⟩
    have sky2 : Sky B (X.env :: X.outer) a (Zc cls d) X.env.locals s1.heap := by rw [← stk]; exact sky
    refine Sky.land Zc.steady fr frm sky2 fun h3 f3 u3 => ?_
    obtain ⟨oe, vs, he, _, hd⟩ := f3.there
    have far : a ∉ frs (X.env :: X.outer) := fun m => by
      obtain ⟨_, o2, e2, nf⟩ := f3.2.2.1.mem m
      rw [he] at e2; cases e2
      exact nf _ hd
    have nL : a ≠ X.env.locals := fun z => far (List.mem_filterMap.mpr ⟨X.env, List.mem_cons_self, by rw [frm, z]⟩)
    have nF : a ∉ X.fs := fun m => by
      obtain ⟨e, h1, h2⟩ := List.mem_filterMap.mp m
      exact far (List.mem_filterMap.mpr ⟨e, List.mem_cons_of_mem _ h1, h2⟩)
    exact caught_go ⟨ok, stk, frm, J2.ofTry ok, nb, up.trans u3, f3, na, nL, nF, os, ag⟩ tk hh w
end
/-- a promise that raises nothing, where one that may raise is asked; two promises of one def -/
theorem FnOk.lift {P : Program} {w : World} {K : PySem.W.Frag} {mg : Str → Option Value} {base : Heap} {CX : CXT} {k : Nat} {f : Addr} {fd : FuncData} {ps : List Str} {sp : Sp} (F : FnOk P w K mg base CX0 k f fd ps sp) : FnOk P w K mg base CX k f fd ps sp :=
  ⟨F.len, fun A outer s H args us vs Q E hr he hb hv h => codeAny_mono (F.run A outer s H args us vs Q E hr he hb hv h) fun r s2 q => match r, q with
    | .ok (.ret _), q => q⟩
theorem FnOk.or {P : Program} {w : World} {K : PySem.W.Frag} {mg : Str → Option Value} {base : Heap} {CX : CXT} {k : Nat} {f : Addr} {fd : FuncData} {ps : List Str} {sp sq : Sp} (F : FnOk P w K mg base CX k f fd ps sp) (G : FnOk P w K mg base CX k f fd ps sq) :
    FnOk P w K mg base CX k f fd ps (fun vs H Q E => sp vs H Q E ∨ sq vs H Q E) :=
  ⟨fun vs H Q E h => h.elim (F.len vs H Q E) (G.len vs H Q E), fun A outer s H args us vs Q E hr he hb hv h => h.elim (F.run A outer s H args us vs Q E hr he hb hv) (G.run A outer s H args us vs Q E hr he hb hv)⟩
end Sip
/-! classes that stand upon another one: a base's def called by its name; a try whose body raises nothing -/
namespace Sip
open PySem PySem.Spec PyProof.Rows L2 TL
/-- C.m(e, ..) where C is a class and m a def of it -/
def tCfn (C : Addr) (sp : Sp) (dvs : List V) (E : XK) (ta : TE) (t : TA) : TE := fun σ H Q => ta σ H fun x H1 => x = .ref C ∧ t σ H1 fun vs H2 => sp (vs ++ dvs) H2 Q E
section
variable {X : Cx} {CX : CXT} {k n : Nat} {f C : Addr} {mc : Value} {fd : FuncData} {ps ks : List Str} {sp : Sp} {E : XK} {m : Str} {apos pos : Pos} {o e : Expr} {es : List Expr} {ta : TE} {t : TA} {dvs : List V} {ds : List Value}
theorem pe_cfn {pl : Sem Bool} (he : PE X o ta) (r : ClX.CRead X.K C mc) (at_ : PySem.W.findCls X.K (.ref C) mc m = some (.val (.ref f))) (hk : PySem.W.keepIn X.K (.ref f) = true) (F : FnOk X.prog X.w X.K X.mg X.base CX k f fd ps sp) (hr : Room k X.A) (hb : Binds X.K fd ps ds) (hd : Vals dvs ds) (hx : Passes CX X E) (ha : PA X (e :: es) t)
    (hst : starEach (e :: es) X.env = (false, eval e X.env) :: starEach es X.env := by rfl) (hpl : ((backTo pos (starEach es X.env)).any (·.1)) = false := by rfl)
    (ht : eval (.Call (.Attribute o m apos) (e :: es) [] pos) X.env = (do
      let ov ← eval o X.env
      standAt apos.atName
      let (f, first) ← holding [ov] (getMethod ov m pl)
      callWith pos f first (backTo pos (starEach (e :: es) X.env)) (backToKw pos (keywordEach [] X.env))) := by rfl) :
    PE X (.Call (.Attribute o m apos) (e :: es) [] pos) (tCfn C sp dvs E ta t) := by
  refine ⟨fun pins s σ H Q I h => ?_⟩
  refine PySem.W.methodCall_KW (pl := pl) (thn (he.run pins s σ H _ I h) fun u s1 ⟨x, H1, I1, rx, ex, q⟩ => ?_) ht
  subst ex
  obtain rfl : u = Value.ref C := rx
  refine PySem.W.method_cls I1.kIn r.ga (PySem.W.cls_value I1.kIn r.rd at_ rfl ?_)
  refine PySem.W.callWith_K (h₀ := X.base) I.ok.mod.kin hk (thn (ha.run pos pins _ σ H1 _ (I1.tok _) q) fun us s2 ⟨vs, H2, I2, rv, q2⟩ => ⟨I2.kIn, ?_⟩) hst hpl
  exact run_fn F hr hb hd hx I2 rv q2
end
section
variable {X : Cx}
/-- try: .. except C: .. where nothing is raised -/
theorem ps_try_calm {body : List Stmt} {h0 : ExceptHandler} {hs : List ExceptHandler} {pos : Pos} {tb : TS}
    (hb : ∀ (pn : List (Addr × Obj)) (xe : Value → Shared → Prop), PassesOwn (model X.prog X.w) X.A X.env xe → PSs (X.tr pn xe) body tb) :
    PS X (.Try body (h0 :: hs) [] [] pos) tb := by
  refine ⟨fun pins s σ H D I h => wpAny_Try_except ?_⟩
  have ok := I.ok
  have run := (hb (X.pn ++ pins) (fun e t1 => wpAny (model X.prog X.w) X.A (noteFrame e X.env) (fun _ t2 => wpAny (model X.prog X.w) X.A (setFlight e none) (fun _ t3 => wpAny (model X.prog X.w) X.A (handleBy e X.env (h0 :: hs)) (SP X pins D) X.xe t3) X.xe t2) X.xe t1) PassesOwn.looking).run [] s σ H D (I.toTry _) h
  refine wpAny_mono run (fun f s1 hp => ?_) fun _ _ he => he
  match f, hp with
  | .next, ⟨_, _, J, q⟩ => exact wpAny_execs_nil ⟨_, _, J.ofTry ok, q⟩
  | .brk, ⟨_, _, J, q⟩ => exact ⟨_, _, J.ofTry ok, q⟩
  | .cont, ⟨_, _, J, q⟩ => exact ⟨_, _, J.ofTry ok, q⟩
  | .ret _, ⟨_, _, _, J, r, q⟩ => exact ⟨_, _, _, J.ofTry ok, r, q⟩
end
end Sip
namespace Sip
open PySem PySem.Spec PyProof.Rows L2 TL
/-- o.m() where o is of one of two classes -/
def tMethOr (C1 C2 : Addr) (m : Str) (sp1 sp2 : Sp) (d1 d2 : List V) (E : XK) (ta : TE) : TE := fun σ H Q => ta σ H fun x H1 =>
  (∃ a dx fs, x = .ref a ∧ H1 a = some (.ins C1 dx fs) ∧ fs.lookup m = none ∧ sp1 (x :: d1) H1 Q E) ∨ ∃ a dx fs, x = .ref a ∧ H1 a = some (.ins C2 dx fs) ∧ fs.lookup m = none ∧ sp2 (x :: d2) H1 Q E
section
variable {X : Cx} {CX : CXT} {k1 k2 : Nat} {f1 f2 C1 C2 : Addr} {fd1 fd2 : FuncData} {ps1 ps2 : List Str} {sp1 sp2 : Sp} {E : XK} {m : Str} {apos pos : Pos} {o : Expr} {ta : TE} {dv1 dv2 : List V} {ds1 ds2 : List Value}
theorem pe_meth0or {pl : Sem Bool} (he : PE X o ta) (c1 : Cls X.K C1) (m1 : Meth X.K C1 m f1) (F1 : FnOk X.prog X.w X.K X.mg X.base CX k1 f1 fd1 ps1 sp1) (r1 : Room k1 X.A) (b1 : Binds X.K fd1 ps1 ds1) (h1 : Vals dv1 ds1)
    (c2 : Cls X.K C2) (m2 : Meth X.K C2 m f2) (F2 : FnOk X.prog X.w X.K X.mg X.base CX k2 f2 fd2 ps2 sp2) (r2 : Room k2 X.A) (b2 : Binds X.K fd2 ps2 ds2) (h2 : Vals dv2 ds2) (hx : Passes CX X E)
    (ht : eval (.Call (.Attribute o m apos) [] [] pos) X.env = (do
      let ov ← eval o X.env
      standAt apos.atName
      let (f, first) ← holding [ov] (getMethod ov m pl)
      callWith pos f first (backTo pos (starEach [] X.env)) (backToKw pos (keywordEach [] X.env))) := by rfl) :
    PE X (.Call (.Attribute o m apos) [] [] pos) (tMethOr C1 C2 m sp1 sp2 dv1 dv2 E ta) := by
  refine ⟨fun pins s σ H Q I h => ?_⟩
  refine PySem.W.methodCall_KW (pl := pl) (thn (he.run pins s σ H _ I h) fun u s1 ⟨x, H1, I1, rx, q⟩ => ?_) ht
  rcases q with ⟨a, dx, fs, ex, ea, l, q⟩ | ⟨a, dx, fs, ex, ea, l, q⟩
  · subst ex
    obtain rfl : u = Value.ref a := rx
    refine getmeth_ok I1 ea c1 m1 l ?_
    refine PySem.W.callWith_K0 (first := [.ref a]) I1.kIn m1.kp ?_
    exact run_fn (us := [.ref a]) (vs := [.ref a]) F1 r1 b1 h1 hx I1 (.cons rfl .nil) q
  · subst ex
    obtain rfl : u = Value.ref a := rx
    refine getmeth_ok I1 ea c2 m2 l ?_
    refine PySem.W.callWith_K0 (first := [.ref a]) I1.kIn m2.kp ?_
    exact run_fn (us := [.ref a]) (vs := [.ref a]) F2 r2 b2 h2 hx I1 (.cons rfl .nil) q
end
end Sip
/-! the notes of a raw; a pipe with its two ends -/
namespace Sip
open PySem PySem.Spec PyProof.Rows L2 TL
/-- a thing that a note holds -/
inductive Tg
  | i (n : Int) | s (w : Str) | l (xs : List Int)
structure Nt where
  w : Str
  p : Nat
  h : Tg
  c : Tg
def tgOk : Tg → Prop
  | .s w => PyData.strOk w = true
  | _ => True
def NtOk (n : Nt) : Prop := PyData.strOk n.w = true ∧ tgOk n.h ∧ tgOk n.c
def TgAt (H : Hp) (G : Addr → Prop) (v : V) : Tg → Prop
  | .i n => v = .int n
  | .s w => v = .str w
  | .l xs => ∃ a, v = .ref a ∧ G a ∧ H a = some (.lst (xs.map V.int))
def NtAt (H : Hp) (G : Addr → Prop) (v : V) (n : Nt) : Prop := ∃ t hv cv, v = .ref t ∧ G t ∧ H t = some (.tup [.str n.w, .int n.p, hv, cv]) ∧ TgAt H G hv n.h ∧ TgAt H G cv n.c ∧ NtOk n
def Nts (H : Hp) (G : Addr → Prop) : List V → List Nt → Prop
  | [], [] => True
  | v :: vs, n :: ns => NtAt H G v n ∧ Nts H G vs ns
  | _, _ => False
theorem TgAt.keep {H H' : Hp} {G G' : Addr → Prop} {v : V} {t : Tg} (h : TgAt H G v t) (k : ∀ b o, G b → H b = some o → H' b = some o) (g : ∀ b, G b → G' b) : TgAt H' G' v t := by
  cases t with
  | i n => exact h
  | s w => exact h
  | l xs => obtain ⟨a, e, ga, ha⟩ := h; exact ⟨a, e, g a ga, k a _ ga ha⟩
theorem NtAt.keep {H H' : Hp} {G G' : Addr → Prop} {v : V} {n : Nt} (h : NtAt H G v n) (k : ∀ b o, G b → H b = some o → H' b = some o) (g : ∀ b, G b → G' b) : NtAt H' G' v n := by
  obtain ⟨t, hv, cv, e, gt, ht, a, b, c⟩ := h
  exact ⟨t, hv, cv, e, g t gt, k t _ gt ht, a.keep k g, b.keep k g, c⟩
theorem Nts.keep {H H' : Hp} {G G' : Addr → Prop} (k : ∀ b o, G b → H b = some o → H' b = some o) (g : ∀ b, G b → G' b) : ∀ {vs : List V} {ns : List Nt}, Nts H G vs ns → Nts H' G' vs ns
  | [], [], _ => trivial
  | v :: vs, n :: ns, ⟨a, b⟩ => ⟨a.keep k g, Nts.keep k g b⟩
theorem Nts.snoc {H : Hp} {G : Addr → Prop} {v : V} {n : Nt} (h : NtAt H G v n) : ∀ {vs : List V} {ns : List Nt}, Nts H G vs ns → Nts H G (vs ++ [v]) (ns ++ [n])
  | [], [], _ => ⟨h, trivial⟩
  | v :: vs, n :: ns, ⟨a, b⟩ => ⟨a, Nts.snoc h b⟩
theorem Nts.len {H : Hp} {G : Addr → Prop} : ∀ {vs : List V} {ns : List Nt}, Nts H G vs ns → vs.length = ns.length
  | [], [], _ => rfl
  | v :: vs, n :: ns, ⟨a, b⟩ => congrArg (· + 1) (Nts.len b)
theorem Nts.at {H : Hp} {G : Addr → Prop} : ∀ {vs : List V} {ns : List Nt} {i : Nat} {v : V}, Nts H G vs ns → vs[i]? = some v → ∃ n, ns[i]? = some n ∧ NtAt H G v n
  | v :: vs, n :: ns, 0, x, ⟨a, b⟩, e => by cases e; exact ⟨n, rfl, a⟩
  | v :: vs, n :: ns, i + 1, x, ⟨a, b⟩, e => by
    obtain ⟨m, h1, h2⟩ := Nts.at b (i := i) (v := x) (by simpa using e)
    exact ⟨m, by simpa using h1, h2⟩
def tgD : Tg → PyData
  | .i n => .int n
  | .s w => .str w
  | .l xs => .list (xs.map .int)
def ntD (n : Nt) : PyData := .tuple [.str n.w, .int n.p, tgD n.h, tgD n.c]
def ntsD (ns : List Nt) : PyData := .list (ns.map ntD)
theorem TgAt.dp {K : PySem.W.Frag} {H : Hp} {G : Addr → Prop} {v : V} {t : Tg} (h : TgAt H G v t) : Dp K H v (tgD t) := by
  cases t with
  | i n => cases (show v = _ from h); exact .int _
  | s w => cases (show v = _ from h); exact .str _
  | l xs => obtain ⟨a, e, ga, ha⟩ := h; subst e; exact dp_lst (sq_at ha)
theorem NtAt.dp {K : PySem.W.Frag} {H : Hp} {G : Addr → Prop} {v : V} {n : Nt} (h : NtAt H G v n) : Dp K H v (ntD n) := by
  obtain ⟨t, hv, cv, e, gt, ht, a, b, c⟩ := h
  subst e
  exact .tup (.inl (.inl ht)) (.cons (.str _) (.cons (.int _) (.cons a.dp (.cons b.dp .nil))))
theorem Nts.dpA {K : PySem.W.Frag} {H : Hp} {G : Addr → Prop} : ∀ {vs : List V} {ns : List Nt}, Nts H G vs ns → DpAll K H vs (ns.map ntD)
  | [], [], _ => .nil
  | v :: vs, n :: ns, ⟨a, b⟩ => .cons a.dp b.dpA
theorem Nts.dp {K : PySem.W.Frag} {H : Hp} {G : Addr → Prop} {vs : List V} {ns : List Nt} {q : Addr} (h : Nts H G vs ns) (e : H q = some (.lst vs)) : Dp K H (.ref q) (ntsD ns) := .lst (sq_at e) h.dpA
theorem tg_lay {t : Tg} (h : tgOk t) : (tgD t).canLay0 = true := by
  cases t with
  | i n => rfl
  | s w => exact h
  | l xs =>
    show PyData.canLayAll0 (xs.map PyData.int) = true
    exact lay_ints xs
theorem ints_depth : ∀ xs : List Int, PyData.depthAll (xs.map PyData.int) = 0
  | [] => rfl
  | x :: xs => by
    show max (PyData.depth (.int x)) (PyData.depthAll (xs.map PyData.int)) = 0
    rw [ints_depth xs]; rfl
theorem tg_depth (t : Tg) : (tgD t).depth ≤ 1 := by
  cases t with
  | i n => exact Nat.zero_le _
  | s w => exact Nat.zero_le _
  | l xs =>
    show PyData.depthAll (xs.map PyData.int) + 1 ≤ 1
    rw [ints_depth]; exact Nat.le_refl _
theorem nt_lay {n : Nt} (h : NtOk n) : (ntD n).canLay0 = true := by
  obtain ⟨a, b, c⟩ := h
  show PyData.canLayAll0 [.str n.w, .int n.p, tgD n.h, tgD n.c] = true
  simp [PyData.canLayAll0, PyData.canLay0, a, tg_lay b, tg_lay c]
theorem nt_depth (n : Nt) : (ntD n).depth ≤ 2 := by
  show PyData.depthAll [.str n.w, .int n.p, tgD n.h, tgD n.c] + 1 ≤ 2
  have h := tg_depth n.h
  have c := tg_depth n.c
  simp [PyData.depthAll, PyData.depth]
  omega
theorem nts_lay : ∀ {ns : List Nt}, (∀ n ∈ ns, NtOk n) → PyData.canLayAll0 (ns.map ntD) = true ∧ PyData.depthAll (ns.map ntD) ≤ 2
  | [], _ => ⟨rfl, Nat.zero_le _⟩
  | n :: ns, h => by
    obtain ⟨a, b⟩ := nts_lay (ns := ns) (fun m hm => h m (List.mem_cons_of_mem _ hm))
    refine ⟨?_, ?_⟩
    · show ((ntD n).canLay0 && PyData.canLayAll0 (ns.map ntD)) = true
      rw [nt_lay (h n List.mem_cons_self), a]; rfl
    · show max (ntD n).depth (PyData.depthAll (ns.map ntD)) ≤ 2
      have := nt_depth n
      omega
theorem Nts.ok {H : Hp} {G : Addr → Prop} : ∀ {vs : List V} {ns : List Nt}, Nts H G vs ns → ∀ n ∈ ns, NtOk n
  | [], [], _, n, h => nomatch h
  | v :: vs, m :: ns, ⟨a, b⟩, n, h => by
    rcases List.mem_cons.mp h with e | e
    · subst e; obtain ⟨_, _, _, _, _, _, _, _, c⟩ := a; exact c
    · exact Nts.ok b n e
theorem two_nts {a b : List Nt} (ha : ∀ n ∈ a, NtOk n) (hb : ∀ n ∈ b, NtOk n) : SeqAt.shaped (.list [ntsD a, ntsD b]) = true := by
  obtain ⟨a1, a2⟩ := nts_lay ha
  obtain ⟨b1, b2⟩ := nts_lay hb
  unfold SeqAt.shaped
  have e1 : (ntsD a).canLay0 = true := a1
  have e2 : (ntsD b).canLay0 = true := b1
  have d1 : (ntsD a).depth ≤ 3 := Nat.succ_le_succ a2
  have d2 : (ntsD b).depth ≤ 3 := Nat.succ_le_succ b2
  simp [PyData.canLay0, PyData.canLayAll0, PyData.depth, PyData.depthAll, e1, e2]
  omega
/-! ### the pipe -/
structure Pst where
  R : Nat
  ws : List Int
  si : Nat
  so : Nat
  bi : Bool
  bo : Bool
  ni : List Nt
  no : List Nt
structure Pad where
  p : Addr
  w : Addr
  ei : Addr
  eo : Addr
  li : Addr
  lo : Addr
def pifs (w ei eo : Addr) (R : Nat) : Fs := [("room", .int R), ("within", .ref w), ("into_end", .ref ei), ("out_end", .ref eo)]
def efs (s : Nat) (b : Bool) (l p : Addr) : Fs := [("can_seek", .bl false), ("spot", .int s), ("barred", .bl b), ("notes", .ref l), ("pipe", .ref p)]
structure PipeIn (CP CI CO : Addr) (H : Hp) (A : Pad) (S : Pst) (dp di dq : Addr) (vi vo : List V) (G : Addr → Prop) : Prop where
  hp : H A.p = some (.ins CP dp (pifs A.w A.ei A.eo S.R))
  hw : H A.w = some (.lst (S.ws.map V.int))
  hi : H A.ei = some (.ins CI di (efs S.si S.bi A.li A.p))
  ho : H A.eo = some (.ins CO dq (efs S.so S.bo A.lo A.p))
  hli : H A.li = some (.lst vi)
  hlo : H A.lo = some (.lst vo)
  ni : Nts H G vi S.ni
  no : Nts H G vo S.no
  al : ∀ b, G b → ∃ o, H b = some o
  ag : ∀ b, G b → b ≠ A.p ∧ b ≠ A.w ∧ b ≠ A.ei ∧ b ≠ A.eo ∧ b ≠ A.li ∧ b ≠ A.lo
  d1 : A.p ≠ A.ei
  d2 : A.p ≠ A.eo
  d3 : A.ei ≠ A.eo
  d4 : A.w ≠ A.li
  d5 : A.w ≠ A.lo
  d6 : A.li ≠ A.lo
def Own6 (A : Pad) (b : Addr) : Prop := b = A.p ∨ b = A.w ∨ b = A.ei ∨ b = A.eo ∨ b = A.li ∨ b = A.lo
def PipeAt (CP CI CO : Addr) (H : Hp) (A : Pad) (F : Addr → Prop) (S : Pst) : Prop := ∃ dp di dq vi vo G, PipeIn CP CI CO H A S dp di dq vi vo G ∧ ∀ b, F b ↔ Own6 A b ∨ G b
section
variable {CP CI CO : Addr} {H H' : Hp} {A : Pad} {S : Pst} {dp di dq : Addr} {vi vo : List V} {G F : Addr → Prop}
theorem lst_ins {C d : Addr} {a b : Addr} {xs : List V} {fs : List (Str × V)} (h1 : H a = some (.lst xs)) (h2 : H b = some (.ins C d fs)) : a ≠ b := ne_of h1 h2 (by intro z; cases z)
theorem PipeIn.nes (h : PipeIn CP CI CO H A S dp di dq vi vo G) : A.w ≠ A.p ∧ A.w ≠ A.ei ∧ A.w ≠ A.eo ∧ A.li ≠ A.p ∧ A.li ≠ A.ei ∧ A.li ≠ A.eo ∧ A.lo ≠ A.p ∧ A.lo ≠ A.ei ∧ A.lo ≠ A.eo :=
  ⟨lst_ins h.hw h.hp, lst_ins h.hw h.hi, lst_ins h.hw h.ho, lst_ins h.hli h.hp, lst_ins h.hli h.hi, lst_ins h.hli h.ho, lst_ins h.hlo h.hp, lst_ins h.hlo h.hi, lst_ins h.hlo h.ho⟩
theorem PipeAt.loc (h : PipeAt CP CI CO H A F S) (k : ∀ b o, F b → H b = some o → H' b = some o) : PipeAt CP CI CO H' A F S := by
  obtain ⟨dp, di, dq, vi, vo, G, I, hF⟩ := h
  have o6 : ∀ {b o}, Own6 A b → H b = some o → H' b = some o := fun {b o} z e => k b o ((hF b).mpr (.inl z)) e
  have kg : ∀ b o, G b → H b = some o → H' b = some o := fun b o z e => k b o ((hF b).mpr (.inr z)) e
  exact ⟨dp, di, dq, vi, vo, G, ⟨o6 (.inl rfl) I.hp, o6 (.inr (.inl rfl)) I.hw, o6 (.inr (.inr (.inl rfl))) I.hi, o6 (.inr (.inr (.inr (.inl rfl)))) I.ho, o6 (.inr (.inr (.inr (.inr (.inl rfl))))) I.hli, o6 (.inr (.inr (.inr (.inr (.inr rfl))))) I.hlo,
    I.ni.keep kg (fun _ z => z), I.no.keep kg (fun _ z => z), fun b z => (I.al b z).elim fun o e => ⟨o, kg b o z e⟩, I.ag, I.d1, I.d2, I.d3, I.d4, I.d5, I.d6⟩, hF⟩
theorem PipeAt.same (h : PipeAt CP CI CO H A F S) (s : Same H H') : PipeAt CP CI CO H' A F S := h.loc fun b o _ e => s b o e
theorem PipeAt.kp {qs : List Addr} (h : PipeAt CP CI CO H A F S) (k : Kp qs H H') (n : ∀ q ∈ qs, ¬ F q) : PipeAt CP CI CO H' A F S := h.loc fun b o f e => k b o (fun z => n b z f) e
theorem PipeAt.own (h : PipeAt CP CI CO H A F S) : ∀ b, F b → ∃ o, H b = some o := by
  obtain ⟨dp, di, dq, vi, vo, G, I, hF⟩ := h
  intro b z
  rcases (hF b).mp z with (rfl | rfl | rfl | rfl | rfl | rfl) | z
  · exact ⟨_, I.hp⟩
  · exact ⟨_, I.hw⟩
  · exact ⟨_, I.hi⟩
  · exact ⟨_, I.ho⟩
  · exact ⟨_, I.hli⟩
  · exact ⟨_, I.hlo⟩
  · exact I.al b z
theorem PipeAt.new {q : Addr} (h : PipeAt CP CI CO H A F S) (n : H q = none) : ¬ F q := fun f => by
  obtain ⟨o, e⟩ := h.own q f
  rw [n] at e; cases e
/-- what lies within is put anew -/
theorem PipeIn.setw (I : PipeIn CP CI CO H A S dp di dq vi vo G) (xs : List Int) : PipeIn CP CI CO (upd H A.w (.lst (xs.map V.int))) A { S with ws := xs } dp di dq vi vo G := by
  obtain ⟨n1, n2, n3, n4, n5, n6, n7, n8, n9⟩ := I.nes
  have kg : ∀ b o, G b → H b = some o → (upd H A.w (.lst (xs.map V.int))) b = some o := fun b o z e => by rw [upd_ne (I.ag b z).2.1]; exact e
  exact ⟨by rw [upd_ne n1.symm]; exact I.hp, upd_same, by rw [upd_ne n2.symm]; exact I.hi, by rw [upd_ne n3.symm]; exact I.ho, by rw [upd_ne I.d4.symm]; exact I.hli, by rw [upd_ne I.d5.symm]; exact I.hlo,
    I.ni.keep kg (fun _ z => z), I.no.keep kg (fun _ z => z), fun b z => (I.al b z).elim fun o e => ⟨o, kg b o z e⟩, I.ag, I.d1, I.d2, I.d3, I.d4, I.d5, I.d6⟩
theorem PipeIn.seti (I : PipeIn CP CI CO H A S dp di dq vi vo G) (s : Nat) (b : Bool) : PipeIn CP CI CO (upd H A.ei (.ins CI di (efs s b A.li A.p))) A { S with si := s, bi := b } dp di dq vi vo G := by
  obtain ⟨n1, n2, n3, n4, n5, n6, n7, n8, n9⟩ := I.nes
  have kg : ∀ x o, G x → H x = some o → (upd H A.ei (.ins CI di (efs s b A.li A.p))) x = some o := fun x o z e => by rw [upd_ne (I.ag x z).2.2.1]; exact e
  exact ⟨by rw [upd_ne I.d1]; exact I.hp, by rw [upd_ne n2]; exact I.hw, upd_same, by rw [upd_ne I.d3.symm]; exact I.ho, by rw [upd_ne n5]; exact I.hli, by rw [upd_ne n8]; exact I.hlo,
    I.ni.keep kg (fun _ z => z), I.no.keep kg (fun _ z => z), fun b z => (I.al b z).elim fun o e => ⟨o, kg b o z e⟩, I.ag, I.d1, I.d2, I.d3, I.d4, I.d5, I.d6⟩
theorem PipeIn.seto (I : PipeIn CP CI CO H A S dp di dq vi vo G) (s : Nat) (b : Bool) : PipeIn CP CI CO (upd H A.eo (.ins CO dq (efs s b A.lo A.p))) A { S with so := s, bo := b } dp di dq vi vo G := by
  obtain ⟨n1, n2, n3, n4, n5, n6, n7, n8, n9⟩ := I.nes
  have kg : ∀ x o, G x → H x = some o → (upd H A.eo (.ins CO dq (efs s b A.lo A.p))) x = some o := fun x o z e => by rw [upd_ne (I.ag x z).2.2.2.1]; exact e
  exact ⟨by rw [upd_ne I.d2]; exact I.hp, by rw [upd_ne n3]; exact I.hw, by rw [upd_ne I.d3]; exact I.hi, upd_same, by rw [upd_ne n6]; exact I.hli, by rw [upd_ne n9]; exact I.hlo,
    I.ni.keep kg (fun _ z => z), I.no.keep kg (fun _ z => z), fun b z => (I.al b z).elim fun o e => ⟨o, kg b o z e⟩, I.ag, I.d1, I.d2, I.d3, I.d4, I.d5, I.d6⟩
/-- a note more: its tuple new, its lists G0 handed over -/
theorem PipeIn.notei (I : PipeIn CP CI CO H A S dp di dq vi vo G) {t : Addr} {n : Nt} {hv cv : V} {G0 : Addr → Prop} (nt : H t = none) (h0 : TgAt H G0 hv n.h) (c0 : TgAt H G0 cv n.c) (ok : NtOk n) (ep : n.p = S.si) (a0 : ∀ b, G0 b → ∃ o, H b = some o) (n0 : ∀ b, G0 b → ¬ Own6 A b) :
    PipeIn CP CI CO (upd (upd H t (.tup [.str n.w, .int S.si, hv, cv])) A.li (.lst (vi ++ [.ref t]))) A { S with ni := S.ni ++ [n] } dp di dq (vi ++ [.ref t]) vo (fun b => G b ∨ b = t ∨ G0 b) := by
  obtain ⟨n1, n2, n3, n4, n5, n6, n7, n8, n9⟩ := I.nes
  have ne : ∀ {b o}, H b = some o → b ≠ t := fun {b o} e => ne_of_none e nt
  have kp : ∀ b o, b ≠ A.li → H b = some o → (upd (upd H t (.tup [.str n.w, .int S.si, hv, cv])) A.li (.lst (vi ++ [.ref t]))) b = some o := fun b o z e => by rw [upd_ne z, upd_ne (ne e)]; exact e
  have kg : ∀ b o, G b → H b = some o → (upd (upd H t (.tup [.str n.w, .int S.si, hv, cv])) A.li (.lst (vi ++ [.ref t]))) b = some o := fun b o z e => kp b o (I.ag b z).2.2.2.2.1 e
  have k0 : ∀ b o, G0 b → H b = some o → (upd (upd H t (.tup [.str n.w, .int S.si, hv, cv])) A.li (.lst (vi ++ [.ref t]))) b = some o := fun b o z e => kp b o (fun y => n0 b z (.inr (.inr (.inr (.inr (.inl y)))))) e
  have tl : t ≠ A.li := (ne I.hli).symm
  refine ⟨kp _ _ n4.symm I.hp, kp _ _ I.d4 I.hw, kp _ _ n5.symm I.hi, kp _ _ n6.symm I.ho, upd_same, kp _ _ I.d6.symm I.hlo, Nts.snoc ⟨t, hv, cv, rfl, .inr (.inl rfl), ?_, h0.keep k0 (fun _ z => .inr (.inr z)), c0.keep k0 (fun _ z => .inr (.inr z)), ok⟩ (I.ni.keep kg (fun _ z => .inl z)), I.no.keep kg (fun _ z => .inl z), ?_, ?_, I.d1, I.d2, I.d3, I.d4, I.d5, I.d6⟩
  · rw [upd_ne tl, upd_same, ep]
  · rintro b (z | rfl | z)
    · exact (I.al b z).elim fun o e => ⟨o, kg b o z e⟩
    · exact ⟨_, by rw [upd_ne tl]; exact upd_same⟩
    · exact (a0 b z).elim fun o e => ⟨o, k0 b o z e⟩
  · rintro b (z | rfl | z)
    · exact I.ag b z
    · exact ⟨(ne I.hp).symm, (ne I.hw).symm, (ne I.hi).symm, (ne I.ho).symm, (ne I.hli).symm, (ne I.hlo).symm⟩
    · have h := n0 b z
      exact ⟨fun y => h (.inl y), fun y => h (.inr (.inl y)), fun y => h (.inr (.inr (.inl y))), fun y => h (.inr (.inr (.inr (.inl y)))), fun y => h (.inr (.inr (.inr (.inr (.inl y))))), fun y => h (.inr (.inr (.inr (.inr (.inr y)))))⟩
theorem PipeIn.noteo (I : PipeIn CP CI CO H A S dp di dq vi vo G) {t : Addr} {n : Nt} {hv cv : V} {G0 : Addr → Prop} (nt : H t = none) (h0 : TgAt H G0 hv n.h) (c0 : TgAt H G0 cv n.c) (ok : NtOk n) (ep : n.p = S.so) (a0 : ∀ b, G0 b → ∃ o, H b = some o) (n0 : ∀ b, G0 b → ¬ Own6 A b) :
    PipeIn CP CI CO (upd (upd H t (.tup [.str n.w, .int S.so, hv, cv])) A.lo (.lst (vo ++ [.ref t]))) A { S with no := S.no ++ [n] } dp di dq vi (vo ++ [.ref t]) (fun b => G b ∨ b = t ∨ G0 b) := by
  obtain ⟨n1, n2, n3, n4, n5, n6, n7, n8, n9⟩ := I.nes
  have ne : ∀ {b o}, H b = some o → b ≠ t := fun {b o} e => ne_of_none e nt
  have kp : ∀ b o, b ≠ A.lo → H b = some o → (upd (upd H t (.tup [.str n.w, .int S.so, hv, cv])) A.lo (.lst (vo ++ [.ref t]))) b = some o := fun b o z e => by rw [upd_ne z, upd_ne (ne e)]; exact e
  have kg : ∀ b o, G b → H b = some o → (upd (upd H t (.tup [.str n.w, .int S.so, hv, cv])) A.lo (.lst (vo ++ [.ref t]))) b = some o := fun b o z e => kp b o (I.ag b z).2.2.2.2.2 e
  have k0 : ∀ b o, G0 b → H b = some o → (upd (upd H t (.tup [.str n.w, .int S.so, hv, cv])) A.lo (.lst (vo ++ [.ref t]))) b = some o := fun b o z e => kp b o (fun y => n0 b z (.inr (.inr (.inr (.inr (.inr y)))))) e
  have tl : t ≠ A.lo := (ne I.hlo).symm
  refine ⟨kp _ _ n7.symm I.hp, kp _ _ I.d5 I.hw, kp _ _ n8.symm I.hi, kp _ _ n9.symm I.ho, kp _ _ I.d6 I.hli, upd_same, I.ni.keep kg (fun _ z => .inl z), Nts.snoc ⟨t, hv, cv, rfl, .inr (.inl rfl), ?_, h0.keep k0 (fun _ z => .inr (.inr z)), c0.keep k0 (fun _ z => .inr (.inr z)), ok⟩ (I.no.keep kg (fun _ z => .inl z)), ?_, ?_, I.d1, I.d2, I.d3, I.d4, I.d5, I.d6⟩
  · rw [upd_ne tl, upd_same, ep]
  · rintro b (z | rfl | z)
    · exact (I.al b z).elim fun o e => ⟨o, kg b o z e⟩
    · exact ⟨_, by rw [upd_ne tl]; exact upd_same⟩
    · exact (a0 b z).elim fun o e => ⟨o, k0 b o z e⟩
  · rintro b (z | rfl | z)
    · exact I.ag b z
    · exact ⟨(ne I.hp).symm, (ne I.hw).symm, (ne I.hi).symm, (ne I.ho).symm, (ne I.hli).symm, (ne I.hlo).symm⟩
    · have h := n0 b z
      exact ⟨fun y => h (.inl y), fun y => h (.inr (.inl y)), fun y => h (.inr (.inr (.inl y))), fun y => h (.inr (.inr (.inr (.inl y)))), fun y => h (.inr (.inr (.inr (.inr (.inl y))))), fun y => h (.inr (.inr (.inr (.inr (.inr y)))))⟩
/-- one of the six is stored to -/
theorem own_one {x : Addr} {o : HO} (hF : ∀ b, F b ↔ Own6 A b ∨ G b) (hx : Own6 A x) : Step F H F (upd H x o) := ⟨fun b o nf e => by
  have n : b ≠ x := fun z => nf ((hF b).mpr (.inl (by rw [z]; exact hx)))
  rw [upd_ne n]; exact e, fun b z => .inl z⟩
end
end Sip
/-! defs that raise nothing, called also where an error is handled -/
theorem L2H.RoomH.units {k : Nat} {A : PySem.Around} (r : L2H.RoomH k A) : A.units + 64 < PySem.cLine := by have := r.un; omega
namespace Sip
open PySem PySem.Spec PyProof.Rows L2 TL L2H
/-- a promise that is kept whatever is handled; nothing is raised -/
structure FnC (P : Program) (w : World) (K : PySem.W.Frag) (mg : Str → Option Value) (base : Heap) (k : Nat) (f : Addr) (fd : FuncData) (ps : List Str) (sp : Sp) : Prop where
  len : ∀ vs H Q E, sp vs H Q E → vs.length = ps.length
  run : ∀ (A : Around) (outer : List Env) (s : Shared) (H : Hp) (args : Args) (us : List Value) (vs : List V) (Q : VK) (E : XK), RoomH k A →
    Env0 P w K mg base A outer s H → BindsTo s fd args (ps.zip us) → Vals vs us → sp vs H Q E → codeAny (model P w) A (.call (.ref f) args) (CR CX0 outer P w H s Q E) s
/-- the context of its body -/
def cxC (P : Program) (w : World) (K : PySem.W.Frag) (mg : Str → Option Value) (base : Heap) (N : List Str) (qual : Str) (scope : Scope) (f : Addr) (cd : Value) (A : Around) (outer : List Env) (s : Shared) (H : Hp) (E : XK) : Cx :=
  { cxOf CX0 P w K mg base N qual scope f cd A outer s H E with calm := false }
section
variable {P : Program} {w : World} {K : PySem.W.Frag} {mg : Str → Option Value} {base : Heap} {x qual : Str} {st : Stmt} {f : Addr} {fd : FuncData} {N ps : List Str} {k : Nat} {sp : Sp}
theorem FnC.ok (F : FnC P w K mg base k f fd ps sp) : FnOk P w K mg base CX0 k f fd ps sp := ⟨F.len, fun A outer s H args us vs Q E hr => F.run A outer s H args us vs Q E (roomH_of hr)⟩
theorem FunA.okC (F : FunA K x qual st f fd) (S : FnScope N ps (defScope st)) (len : ∀ vs H Q E, sp vs H Q E → vs.length = ps.length)
    (hb : ∀ (cdv : Value) (A : Around) (outer : List Env) (s : Shared) (H : Hp) (vs : List V) (Q : VK) (E : XK), RoomH k (A.deeper (envOfC qual (defScope st) s.heap.objs.size f cdv)) → sp vs H Q E →
      ∃ t, PSs (cxC P w K mg base N qual (defScope st) f cdv A outer s H E).nox (defBody st) t ∧ t { nx := fun _ H' => Q .non H', rt := Q } (start N vs) H) : FnC P w K mg base (k + 1) f fd ps sp := by
  obtain ⟨oc, od, dV, kV, doc, pm, an, cdv, ct, osl, rfl, lk, hcd⟩ := F.ex
  refine ⟨len, fun A outer s H args us vs Q E hr e0 hbd r hsp => ?_⟩
  have keep : ∀ b o, base.get? b = some o → s.heap.get? b = some o := fun b o e => (e0.bs b o e).1
  have KX := e0.mod.kin.keeps keep
  refine codeAny_call_function hr.depth (KX _ _ lk) rfl S.co S.gen rfl (PySem.W.codeRec_of KX hcd) (hbd _ _ _ _ (wpAny_newFunctionEnv_cells S.kind (fun y hy => ?_) fun env he s1 z => ?_))
  · rcases S.par y.1 (List.of_mem_zip hy).1 with q | q
    · exact .inl q
    · exact .inr ⟨q, PySem.W.cellsFrom_some _ _ _ (.inl q)⟩
  subst he
  obtain ⟨t, ht, hq⟩ := hb cdv A outer s H vs Q E (hr.deeper _) hsp
  have ht := ht.nox
  have e1 : Env0 P w K mg base { A with handled := none } outer s H := ⟨e0.frames, e0.mod, e0.bs, e0.bsz, e0.funs, e0.frf, e0.hok, e0.bare⟩
  have I0 := inv_start (CX := CX0) (N := N) (E := E) (A := { A with handled := none }) S rfl e1 (len _ _ _ _ hsp) r z
  have o := I0.ok
  have I : Inv (cxC P w K mg base N qual (defScope st) f cdv A outer s H E) [] (start N vs) H s1 :=
    ⟨⟨o.mod, o.kind, o.glob, o.blt, o.above, o.inj, o.has, o.cab, (fun z => Bool.noConfusion (show false = true from z)), Around.frames_deeper e0.frames, .inr ⟨rfl, rfl⟩, o.exf, o.bs, o.bsz, o.noex, o.exfs, o.funs, o.frf⟩, I0.os, I0.bare, I0.base, I0.loc, I0.cell, I0.free, I0.freeC, I0.pin, I0.hok, I0.len⟩
  refine ⟨(e0.mod.nolimit.keeps keep).keeps z.toInCall.keep, codeAny_func (wpAny_mono (ht.run [] s1 _ H _ I hq) (fun fl s' hs => ?_) fun _ _ h => h)⟩
  cases fl with
  | ret u =>
    obtain ⟨v, _, H', J, rv, q⟩ := hs
    exact ⟨v, H', J.os, J.bare, J.base, J.hok, rv, q⟩
  | next =>
    obtain ⟨_, H', J, q⟩ := hs
    exact ⟨.non, H', J.os, J.bare, J.base, J.hok, rfl, q⟩
  | brk => exact (hs.choose_spec.choose_spec.2 : False).elim
  | cont => exact (hs.choose_spec.choose_spec.2 : False).elim
end
section
variable {X : Cx} {k : Nat} {f C : Addr} {fd : FuncData} {ps : List Str} {sp : Sp} {dvs : List V} {ds : List Value} {E : XK} {x m : Str} {p pos apos : Pos} {o e : Expr} {es : List Expr} {ta : TE} {t : TA}
theorem run_fnC {pins : List (Addr × Obj)} {σ : L2.St} {H : Hp} {s : Shared} {Q : VK} {us : List Value} {vs : List V} (F : FnC X.prog X.w X.K X.mg X.base k f fd ps sp) (hr : RoomH k X.A) (hb : Binds X.K fd ps ds) (hd : Vals dvs ds)
    (I : Inv X pins σ H s) (r : Vals vs us) (h : sp (vs ++ dvs) H Q E) : wpAny (model X.prog X.w) X.A (call (.ref f) us) (EP X pins σ Q) X.xe s := by
  have r2 : Vals (vs ++ dvs) (us ++ ds) := r.append hd
  refine wpAny_call (codeAny_mono (F.run X.A X.stack s H ⟨us, []⟩ (us ++ ds) (vs ++ dvs) Q E hr I.env0 (hb s us I.kIn (by rw [← r2.length]; exact F.len _ _ _ _ h)) r2 h) fun r s' hq => ?_)
  match r, hq with
  | .ok (.ret u), hq => exact I.after hq
theorem pe_callC (F : FnC X.prog X.w X.K X.mg X.base k f fd ps sp) (hr : RoomH k X.A) (hg : Gl X x) (hm : X.mg x = some (.ref f)) (hk : PySem.W.keepIn X.K (.ref f) = true) (hb : Binds X.K fd ps ds) (hd : Vals dvs ds)
    (ha : PA X (e :: es) t) (n1 : (x == ("__debug__" : Str)) = false := by decide) (n2 : starEach (e :: es) X.env = (false, eval e X.env) :: starEach es X.env := by rfl) (n3 : (backTo pos (starEach es X.env)).any (·.1) = false := by rfl) :
    PE X (.Call (.Name x p) (e :: es) [] pos) (tCall sp dvs E t) := by
  refine ⟨fun pins s σ H Q I h => wpAny_Call_Name_kw (ld_glob I hg hm (PySem.W.callWith_K (h₀ := X.base) I.ok.mod.kin hk (thn (ha.run pos pins s σ H _ I h) fun us s1 ⟨vs, H1, I1, r, q⟩ => ⟨I1.kIn, ?_⟩) n2 n3) n1)⟩
  exact run_fnC F hr hb hd I1 r q
theorem pe_methC {pl : Sem Bool} (he : PE X o ta) (c : Cls X.K C) (hm : Meth X.K C m f) (F : FnC X.prog X.w X.K X.mg X.base k f fd ps sp) (hr : RoomH k X.A) (hb : Binds X.K fd ps ds) (hd : Vals dvs ds) (ha : PA X (e :: es) t)
    (hst : starEach (e :: es) X.env = (false, eval e X.env) :: starEach es X.env := by rfl) (hpl : (backTo pos (starEach es X.env)).any (·.1) = false := by rfl)
    (ht : eval (.Call (.Attribute o m apos) (e :: es) [] pos) X.env = (do
      let ov ← eval o X.env
      standAt apos.atName
      let (f, first) ← holding [ov] (getMethod ov m pl)
      callWith pos f first (backTo pos (starEach (e :: es) X.env)) (backToKw pos (keywordEach [] X.env))) := by rfl) :
    PE X (.Call (.Attribute o m apos) (e :: es) [] pos) (tMeth C m sp dvs E ta t) := by
  refine ⟨fun pins s σ H Q I h => ?_⟩
  refine PySem.W.methodCall_KW (pl := pl) (thn (he.run pins s σ H _ I h) fun u s1 ⟨x, H1, I1, rx, a, dx, fs, ex, ea, l, q⟩ => ?_) ht
  subst ex
  obtain rfl : u = Value.ref a := rx
  refine getmeth_ok I1 ea c hm l ?_
  refine PySem.W.callWith_K (first := [.ref a]) (h₀ := X.base) I.ok.mod.kin hm.kp (thn (ha.run pos pins s1 σ H1 _ I1 q) fun us s2 ⟨vs, H2, I2, r, q2⟩ => ⟨I2.kIn, ?_⟩) hst hpl
  exact run_fnC (us := .ref a :: us) (vs := .ref a :: vs) F hr hb hd I2 (.cons rfl r) q2
end
end Sip
namespace Sip
open PySem PySem.Spec PyProof.Rows L2 TL L2H
theorem roomM {k : Nat} {A : Around} {v : Value} (r : Room k A) : RoomH k (A.mark (some v)) := ⟨r.dp, r.un⟩
section
variable {X : Cx} {CX : CXT} {k : Nat} {f C : Addr} {fd : FuncData} {ps : List Str} {sp : Sp} {E : L2.St → XK} {m : Str} {pos apos : Pos} {o e : Expr} {es : List Expr} {ta : TE} {t : TA}
/-- o.m(e, ..) within a try -/
theorem pe_methT {pl : Sem Bool} (he : PE X o ta) (c : Cls X.K C) (hm : Meth X.K C m f) (F : FnOk X.prog X.w X.K X.mg X.base CX k f fd ps sp) (hr : Room k X.A) (hb : Binds X.K fd ps []) (hx : ∀ σ, PassesAt CX X σ (E σ)) (ha : PA X (e :: es) t)
    (hst : starEach (e :: es) X.env = (false, eval e X.env) :: starEach es X.env := by rfl) (hpl : (backTo pos (starEach es X.env)).any (·.1) = false := by rfl)
    (ht : eval (.Call (.Attribute o m apos) (e :: es) [] pos) X.env = (do
      let ov ← eval o X.env
      standAt apos.atName
      let (f, first) ← holding [ov] (getMethod ov m pl)
      callWith pos f first (backTo pos (starEach (e :: es) X.env)) (backToKw pos (keywordEach [] X.env))) := by rfl) :
    PE X (.Call (.Attribute o m apos) (e :: es) [] pos) (tMethH C m sp E ta t) := by
  refine ⟨fun pins s σ H Q I h => ?_⟩
  refine PySem.W.methodCall_KW (pl := pl) (thn (he.run pins s σ H _ I h) fun u s1 ⟨x, H1, I1, rx, a, dx, fs, ex, ea, l, q⟩ => ?_) ht
  subst ex
  obtain rfl : u = Value.ref a := rx
  refine getmeth_ok I1 ea c hm l ?_
  refine PySem.W.callWith_K (first := [.ref a]) (h₀ := X.base) I.ok.mod.kin hm.kp (thn (ha.run pos pins s1 σ H1 _ I1 q) fun us s2 ⟨vs, H2, I2, r, q2⟩ => ⟨I2.kIn, ?_⟩) hst hpl
  exact run_fnS (us := .ref a :: us) (vs := .ref a :: vs) F hr hb (hx σ) I2 (.cons rfl r) q2
end
/-- __init__(self, f, g): self.f = f; self.g = g -/
def spErr2 (C : Addr) (f g : Str) : Sp := fun vs H Q _ => ∃ (a : Addr) (v u : V), vs = [.ref a, v, u] ∧ H a = some (exo a C none) ∧ ∀ dx, H dx = none → dx ≠ a → Q .non (upd (upd H dx (exd dx [(g, u), (f, v)])) a (exo a C (some dx)))
theorem mk2_fin {C : Addr} {f g : Str} {H1 : Hp} {v u : V} {Q : XK} (h : ∀ d, H1 d = none → Q (.ref C) (some d) (upd H1 d (.xd [(g, u), (f, v)]))) :
    [v].length ≤ 1000 ∧ ∀ a, H1 a = none → spErr2 C f g (.ref a :: ([v] ++ [u])) (upd H1 a (exo a C none))
      (fun v H2 => v = .non ∧ ∃ (d : Addr) (fs : List (Str × V)), H2 a = some (exo a C (some d)) ∧ H2 d = some (exd d fs) ∧ H1 d = none ∧ Q (.ref C) (some d) (upd (del H2 a) d (.xd fs))) (fun _ _ _ => False) := by
  refine ⟨by show 1 ≤ 1000; decide, fun a na => ⟨a, v, u, rfl, upd_same, fun dx nd ne => ⟨rfl, dx, [(g, u), (f, v)], upd_same, ?_, ?_, ?_⟩⟩⟩
  · rw [upd_ne ne]; exact upd_same
  · rw [upd_ne ne] at nd; exact nd
  · have nd' : H1 dx = none := by rw [upd_ne ne] at nd; exact nd
    have e : upd (del (upd (upd (upd H1 a (exo a C none)) dx (exd dx [(g, u), (f, v)])) a (exo a C (some dx))) a) dx (.xd [(g, u), (f, v)]) = upd H1 dx (.xd [(g, u), (f, v)]) := by
      funext b
      by_cases hb : b = dx
      · subst hb; rw [upd_same, upd_same]
      · rw [upd_ne hb, upd_ne hb]
        by_cases ha : b = a
        · subst ha; rw [del_same, na]
        · rw [del_ne ha, upd_ne ha, upd_ne hb, upd_ne ha]
    rw [e]
    exact h dx nd'
end Sip
/-! a caught error is lent to a def -/
namespace Sip
open PySem PySem.Spec PyProof.Rows L2 TL
abbrev SuiteOkB (X : Cx) (su : List Stmt) (ts : Addr → Value → Option Addr → TS) : Prop := ∀ (a : Addr) (oe : Obj) (cls : Value) (d : Option Addr) (pn : List (Addr × Obj)), Zc cls d oe → (∃ vs, oe.data = .fields vs) → X.base.get? a = none → PSs (X.suite a ((a, oe) :: pn)) su (ts a cls d)
inductive ClsOkB (X : Cx) : List ExceptHandler → List Cl → Prop
  | nil : ClsOkB X [] []
  | cons {x : Str} {c : Value} {nm : Option Str} {o : Option Nat} {ts : Addr → Value → Option Addr → TS} {st : Stmt} {su : List Stmt} {q1 q2 : Pos} {hs : List ExceptHandler} {l : List Cl} (hc : Names X x c) (ha : AsOk X nm o) (hsu : SuiteOkB X (st :: su) ts) (r : ClsOkB X hs l) :
      ClsOkB X (.ExceptHandler (some (.Name x q1)) nm (st :: su) q2 :: hs) ((c, o, ts) :: l)
section
variable {X : Cx} {pins : List (Addr × Obj)} {a : Addr} {B : Heap} {sI s1 : Shared} {h3 : Heap} {σ : L2.St} {H : Hp} {cls : Value} {d : Option Addr} {D : Ends} {Wo : WX}
/-- it is none of the module's things -/
theorem caught_nobase (C : Caught X pins a B sI s1 h3 σ H cls d) : X.base.get? a = none := by
  cases q : X.base.get? a with
  | none => rfl
  | some o =>
    have h1 := C.inv.bk a o q
    have nf : a ∉ frs X.stack := by
      rw [C.stk]
      intro m
      obtain ⟨e, h2, h3⟩ := List.mem_filterMap.mp m
      rcases List.mem_cons.mp h2 with rfl | h2
      · rw [C.frm] at h3; exact C.nL (Option.some.inj h3).symm
      · exact C.nF (List.mem_filterMap.mpr ⟨e, h2, h3⟩)
    have h2 := C.nb a o h1 nf
    rw [C.fl.2.1] at h2; cases h2
theorem caught_goB (C : Caught X pins a B sI s1 h3 σ H cls d) (tk : Takes X Wo) : ∀ {hs : List ExceptHandler} {l : List Cl}, ClsOkB X hs l → wMix X.K Wo D l cls d σ H → wpAny (model X.prog X.w) X.A (handleBy (.ref a) X.env hs) (SP X pins D) X.xe { s1 with heap := h3 } := by
  intro hs l hk
  induction hk with
  | nil => exact fun w => C.none tk w
  | @cons x c nm o ts st su q1 q2 hs2 l2 hc ha hsu r ih =>
    rintro ⟨b, hb, yes, no⟩
    have J3 := C.at C.fl (Heap.UpToSlots.refl _)
    have nbase := caught_nobase C
    obtain ⟨oe, vs, he, hz, hd⟩ := C.fl.there
    have S3 := J3.suite he hd C.na C.nL C.nF
    refine wpAny_handleBy_cons (codeAny_handlers_test ?_) (by intro q; cases q)
    have knows : PySem.W.Looks (model X.prog X.w) h3 (typeOf (.ref a)) cls := fun _ _ _ _ k q => wpAny_typeOf_ref (k _ _ he) (by rw [hz.1]; exact q)
    have look := PySem.W.exm_one (M := model X.prog X.w) J3.kIn knows hb
    have named : ∀ {Q E : Value → Shared → Prop}, Q c { s1 with heap := h3 } → wpAny (model X.prog X.w) (X.A.mark (some (.ref a))) (eval (.Name x q1) X.env) Q E { s1 with heap := h3 } := fun q => by
      rcases hc with ⟨g1, g2, m1 | ⟨m1, m2, m3⟩⟩
      · exact ld_glob (X := X.suite a ((a, oe) :: (X.pn ++ pins))) S3 g1 m1 q g2
      · exact ld_blt (X := X.suite a ((a, oe) :: (X.pn ++ pins))) S3 g1 m1 m2 q m3 g2
    refine named (look.here ?_)
    cases b with
    | false => exact ih (no rfl)
    | true =>
      cases nm with
      | none =>
        cases o with
        | some i => exact ha.elim
        | none =>
          refine codeAny_handlers_suite (HandSPX.lands_againZ C.fl fun h4 f4 u4 => ?_)
          obtain ⟨oe4, _, e4, z4, d4⟩ := f4.there
          have S4 := (C.at f4 u4).suite e4 d4 C.na C.nL C.nF
          refine wpAny_mono ((hsu a oe4 cls d (X.pn ++ pins) z4 ⟨_, d4⟩ nbase).run [] _ _ H _ S4 (yes rfl a C.na)) (fun f s6 hp => ?_) fun _ _ z => z.elim
          match f, hp with
          | .next, ⟨_, _, S6, q6⟩ => exact ⟨_, _, S6.unsuite C.ok, q6⟩
          | .brk, ⟨_, _, S6, q6⟩ => exact ⟨_, _, S6.unsuite C.ok, q6⟩
          | .cont, ⟨_, _, S6, q6⟩ => exact ⟨_, _, S6.unsuite C.ok, q6⟩
          | .ret _, ⟨_, _, _, S6, r6, q6⟩ => exact ⟨_, _, _, S6.unsuite C.ok, r6, q6⟩
      | some n =>
        cases o with
        | none => exact ha.elim
        | some i =>
          obtain ⟨hN, hi, hl⟩ := ha
          refine codeAny_handlers_suite_as (HandSPX.lands_againZ C.fl fun h4 f4 u4 => ?_)
          obtain ⟨oe4, _, e4, z4, d4⟩ := f4.there
          have S4 := (C.at f4 u4).suite e4 d4 C.na C.nL C.nF
          refine store_ok (X := X.suite a ((a, oe4) :: (X.pn ++ pins))) (v := .ref a) S4 hN hi (.inl hl) rfl (fun s5 S5 => ?_) (.inr hl)
          refine wpAny_mono ((hsu a oe4 cls d (X.pn ++ pins) z4 ⟨_, d4⟩ nbase).run [] s5 _ H _ S5 (yes rfl a C.na)) (fun f s6 hp => ?_) fun _ _ z => z.elim
          have off : ∀ {σ6 : L2.St} {H6 : Hp} {Q : Shared → Prop}, Inv (X.suite a ((a, oe4) :: (X.pn ++ pins))) [] σ6 H6 s6 → (∀ s7, Inv X pins (σ6.set i none) H6 s7 → Q s7) → wpAny (model X.prog X.w) X.A (do bindName X.env n .none; unbindBehindTheSuite X.env n q2) (fun _ s7 => Q s7) X.xe s6 :=
            fun S6 hq => gone_ok (S6.unsuite C.ok) hN hi hl hq
          match f, hp with
          | .next, ⟨_, _, S6, q6⟩ => exact off S6 fun _ J7 => ⟨_, _, J7, q6⟩
          | .brk, ⟨_, _, S6, q6⟩ => exact off S6 fun _ J7 => ⟨_, _, J7, q6⟩
          | .cont, ⟨_, _, S6, q6⟩ => exact off S6 fun _ J7 => ⟨_, _, J7, q6⟩
          | .ret _, ⟨_, _, _, S6, r6, q6⟩ => exact off S6 fun _ J7 => ⟨_, _, _, J7, r6, q6⟩
/-- try: .. except X: .. except Y as n: .. -/
theorem ps_try_mixB {body : List Stmt} {h0 : ExceptHandler} {hs : List ExceptHandler} {l : List Cl} {pos : Pos} {tb : WX → TS} (stk : X.stack = X.env :: X.outer) (frm : X.env.frame = some X.env.locals) (tk : Takes X Wo)
    (hb : ∀ (W : WX) (pn : List (Addr × Obj)) (xe : Value → Shared → Prop), Takes (X.tr pn xe) W → PassesOwn (model X.prog X.w) X.A X.env xe → PSs (X.tr pn xe) body (tb W)) (hh : ClsOkB X (h0 :: hs) l) :
    PS X (.Try body (h0 :: hs) [] [] pos) (fun D σ H => tb (wMix X.K Wo D l) D σ H) := by
  refine ⟨fun pins s σ H D I h => wpAny_Try_except ?_⟩
  have ok := I.ok
  have fr : X.A.frames = some (X.env :: X.outer) := by rw [ok.frames, stk]
  have run := (hb (wMix X.K Wo D l) (X.pn ++ pins) (fun e t1 => wpAny (model X.prog X.w) X.A (noteFrame e X.env) (fun _ t2 => wpAny (model X.prog X.w) X.A (setFlight e none) (fun _ t3 => wpAny (model X.prog X.w) X.A (handleBy e X.env (h0 :: hs)) (SP X pins D) X.xe t3) X.xe t2) X.xe t1) ?_ PassesOwn.looking).run [] s σ H D (I.toTry _) h
  · refine wpAny_mono run (fun f s1 hp => ?_) fun _ _ he => he
    match f, hp with
    | .next, ⟨_, _, J, q⟩ => exact wpAny_execs_nil ⟨_, _, J.ofTry ok, q⟩
    | .brk, ⟨_, _, J, q⟩ => exact ⟨_, _, J.ofTry ok, q⟩
    | .cont, ⟨_, _, J, q⟩ => exact ⟨_, _, J.ofTry ok, q⟩
    | .ret _, ⟨_, _, _, J, r, q⟩ => exact ⟨_, _, _, J.ofTry ok, r, q⟩
  · rintro u s1 ⟨a, B, sI, pins2, σ2, H2, cls, d, rfl, J2, nb, up, sky, na, os, ag, w⟩
    have sky2 : Sky B (X.env :: X.outer) a (Zc cls d) X.env.locals s1.heap := by rw [← stk]; exact sky
    refine Sky.land Zc.steady fr frm sky2 fun h3 f3 u3 => ?_
    obtain ⟨oe, vs, he, _, hd⟩ := f3.there
    have far : a ∉ frs (X.env :: X.outer) := fun m => by
      obtain ⟨_, o2, e2, nf⟩ := f3.2.2.1.mem m
      rw [he] at e2; cases e2
      exact nf _ hd
    have nL : a ≠ X.env.locals := fun z => far (List.mem_filterMap.mpr ⟨X.env, List.mem_cons_self, by rw [frm, z]⟩)
    have nF : a ∉ X.fs := fun m => by
      obtain ⟨e, h1, h2⟩ := List.mem_filterMap.mp m
      exact far (List.mem_filterMap.mpr ⟨e, List.mem_cons_of_mem _ h1, h2⟩)
    exact caught_goB ⟨ok, stk, frm, J2.ofTry ok, nb, up.trans u3, f3, na, nL, nF, os, ag⟩ tk hh w
end

/-- a caught error while a def has it -/
def lentE (o : Obj) : HO := .frz o (.ext fun _ => True)
section
variable {Y : Cx} {pins : List (Addr × Obj)} {σ : L2.St} {H : Hp} {s s' : Shared} {a : Addr} {oe : Obj}
theorem lent_ok {P : Program} {w : World} {h : Heap} (ha : h.get? a = some oe) (hok : HOk P w H h) (na : H a = none) : HOk P w (upd H a (lentE oe)) h := fun b u e => by
  by_cases hb : b = a
  · subst hb; rw [upd_same] at e; cases e
    exact ⟨ha, trivial, ⟨oe, ha⟩, fun _ _ _ _ => trivial⟩
  · rw [upd_ne hb] at e
    exact (hok b u e).stay (fun _ _ _ q => q) (fun c q => by rw [upd_ne (ne_of_none q na)]; exact q) fun c xs q => by rw [upd_ne (ne_of_none q na)]; exact q
theorem lent_env (I : Inv Y pins σ H s) (hp : (a, oe) ∈ Y.pn ++ pins) (nb : Y.base.get? a = none) : Env0 Y.prog Y.w Y.K Y.mg Y.base Y.A Y.stack s (upd H a (lentE oe)) := by
  obtain ⟨ha, na, nL, nF, _⟩ := I.pin _ hp
  have e := I.env0
  refine ⟨e.frames, e.mod, fun b o q => ⟨(e.bs b o q).1, ?_⟩, e.bsz, e.funs, fun b hb => ?_, lent_ok ha e.hok na, e.bare⟩
  · rw [upd_ne (fun z => by rw [z, nb] at q; cases q)]; exact (e.bs b o q).2
  · have : b ≠ a := fun z => by
      subst z
      rcases I.ok.stk with h | ⟨h, hf⟩
      · rw [h] at hb; exact nF hb
      · rw [h] at hb
        obtain ⟨e, h2, h3⟩ := List.mem_filterMap.mp hb
        rcases List.mem_cons.mp h2 with rfl | h2
        · rw [hf] at h3; exact nL (Option.some.inj h3).symm
        · exact nF (List.mem_filterMap.mpr ⟨e, h2, h3⟩)
    rw [upd_ne this]; exact e.frf b hb
theorem lent_back {Q : VK} {u : Value} (I : Inv Y pins σ H s) (hp : (a, oe) ∈ Y.pn ++ pins) (h : CE Y.stack Y.prog Y.w (upd H a (lentE oe)) s (fun v H2 => Q v (del H2 a)) u s') : CE Y.stack Y.prog Y.w H s Q u s' := by
  obtain ⟨ha, na, nL, nF, _⟩ := I.pin _ hp
  obtain ⟨v, H', os, bare, un, hok, r, q⟩ := h
  have eH : H' a = some (lentE oe) := un.frzs a oe _ upd_same
  have ea : s'.heap.get? a = some oe := (hok a _ eH).1
  have nst : a ∉ frs Y.stack := fun hb => by
    rcases I.ok.stk with h | ⟨h, hf⟩
    · rw [h] at hb; exact nF hb
    · rw [h] at hb
      obtain ⟨e, h2, h3⟩ := List.mem_filterMap.mp hb
      rcases List.mem_cons.mp h2 with rfl | h2
      · rw [hf] at h3; exact nL (Option.some.inj h3).symm
      · exact nF (List.mem_filterMap.mpr ⟨e, h2, h3⟩)
  refine ⟨v, del H' a, os, bare, ⟨fun b o e n hb hx => ?_, fun b o e n hb hx => ?_, fun b o e n hx => ?_, fun b o e hx => un.there b o e hx, fun b xs e => ?_, fun b o u e => ?_, fun b ps e => ?_⟩, fun b o e => ?_, r, q⟩
  · by_cases z : b = a
    · subst z; rw [ha] at e; cases e; exact ea
    · exact un.keep b o e (by rw [upd_ne z]; exact n) hb hx
  · have z : b ≠ a := fun z => nst (by rw [← z]; exact hb)
    exact un.slot b o e (by rw [upd_ne z]; exact n) hb hx
  · by_cases z : b = a
    · subst z; exact del_same
    · rw [del_ne z]; exact un.free b o e (by rw [upd_ne z]; exact n) hx
  · have z : b ≠ a := ne_of_none e na
    rw [del_ne z]; exact un.tups b xs (by rw [upd_ne z]; exact e)
  · have z : b ≠ a := ne_of_none e na
    rw [del_ne z]; exact un.frzs b o u (by rw [upd_ne z]; exact e)
  · have z : b ≠ a := ne_of_none e na
    rw [del_ne z]; exact un.tbls b ps (by rw [upd_ne z]; exact e)
  · by_cases z : b = a
    · subst z; rw [del_same] at e; cases e
    · rw [del_ne z] at e
      exact (hok b o e).stay (fun _ _ _ q => q) (fun c q => by rw [del_ne (fun z => by rw [z, eH] at q; cases q)]; exact q) fun c xs q => by rw [del_ne (fun z => by rw [z, eH] at q; cases q)]; exact q
end
section
variable {X : Cx} {CX : CXT} {k : Nat} {f : Addr} {fd : FuncData} {ps : List Str} {sp : Sp} {x : Str} {p pos : Pos} {e : Expr} {te : TE}
def one1 (P : V → Hp → Prop) : List V → Hp → Prop
  | [x], H => P x H
  | _, _ => False
/-- f(e) in a suite: e is the error that the suite holds -/
def tCallE (sp : Sp) (a : Addr) (cls : Value) (d : Option Addr) (te : TE) : TE := fun σ H Q => te σ H fun x H1 => x = .ref a ∧ (H1 a = none → ∀ o, Zc cls d o → (∃ vs, o.data = .fields vs) → sp [.ref a] (upd H1 a (lentE o)) (fun v H2 => Q v (del H2 a)) (fun _ _ _ => False))
theorem pe_callE {a : Addr} {oe : Obj} {cls : Value} {d : Option Addr} {pn : List (Addr × Obj)} (F : FnC X.prog X.w X.K X.mg X.base k f fd ps sp) (hr : L2H.RoomH k (X.suite a ((a, oe) :: pn)).A) (hg : Gl (X.suite a ((a, oe) :: pn)) x) (hm : X.mg x = some (.ref f)) (hk : PySem.W.keepIn X.K (.ref f) = true) (hb : Binds X.K fd ps [])
    (hz : Zc cls d oe) (hf : ∃ vs, oe.data = .fields vs) (hnb : X.base.get? a = none) (he0 : PE (X.suite a ((a, oe) :: pn)) e te)
    (hdb : (x == ("__debug__" : Str)) = false := by decide) (he : starEach [e] X.env = (false, eval e X.env) :: starEach [] X.env := by rfl) (hpl : (backTo pos (starEach [] X.env)).any (·.1) = false := by rfl) :
    PE (X.suite a ((a, oe) :: pn)) (.Call (.Name x p) [e] [] pos) (tCallE sp a cls d te) := by
  refine ⟨fun pins s σ H Q I h => ?_⟩
  refine wpAny_Call_Name_kw (ld_glob I hg hm ?_ hdb)
  have ha : PA (X.suite a ((a, oe) :: pn)) [e] (tCons te tNil) := pa_cons he0 pa_nil (hs := he)
  have h' : tCons te tNil σ H (one1 fun x H1 => x = .ref a ∧ (H1 a = none → ∀ o, Zc cls d o → (∃ vs, o.data = .fields vs) → sp [.ref a] (upd H1 a (lentE o)) (fun v H2 => Q v (del H2 a)) (fun _ _ _ => False))) := h
  refine PySem.W.callWith_K (h₀ := X.base) I.ok.mod.kin hk (thn (ha.run pos pins s σ H _ I h') fun us s1 ⟨vs, H1, I1, r, q⟩ => ⟨I1.kIn, ?_⟩) he hpl
  match vs, q with
  | [x], q =>
  obtain ⟨rfl, q⟩ := q
  have hp : (a, oe) ∈ (X.suite a ((a, oe) :: pn)).pn ++ pins := List.mem_append_left _ List.mem_cons_self
  have na := (I1.pin _ hp).2.1
  have q := q na oe hz hf
  have hl : us.length = ps.length := by rw [← r.length]; exact F.len _ _ _ _ q
  have b := hb s1 us I1.kIn (by rw [List.append_nil]; exact hl)
  rw [List.append_nil] at b
  refine wpAny_call (codeAny_mono (F.run _ _ s1 _ ⟨us, []⟩ us _ _ _ hr (lent_env I1 hp hnb) b r q) fun r s' hq => ?_)
  match r, hq with
  | .error e, hq => exact hq.elim
  | .ok (.ret u), hq => exact I1.after (lent_back I1 hp hq)
  | .ok .next, hq => exact hq.elim
  | .ok .brk, hq => exact hq.elim
  | .ok .cont, hq => exact hq.elim
/-- isinstance of it, in the def that has it -/
def rIsL (K : PySem.W.Frag) : List V → Hp → VK → Prop := fun xs H Q => ∃ (a D : Addr) (o : Obj) (d : Option Addr), H a = some (lentE o) ∧ Zc (.ref D) d o ∧ (∃ vs, o.data = .fields vs) ∧ ExcC K D ∧ (d = none ∨ ∃ dd fs, d = some dd ∧ H dd = some (.xd fs)) ∧ rIsE K D a xs H Q
theorem call_isL : CallR X (.builtin "isinstance") (rIsL X.K) := by
  intro pins s σ H xs us Q I r h
  obtain ⟨a, D, o, d, eo, hz, hf, C, hd, c, cv, b, rfl, hcv, e, q⟩ := h
  obtain ⟨u1, u2, rfl, r1, r2⟩ := vals2 r
  obtain rfl : u1 = Value.ref a := r1
  obtain rfl := hcv _ r2
  have ha : s.heap.get? a = some o := (I.hok a _ eo).1
  obtain ⟨od, J⟩ := inst_of I ha hz hf hd
  have hcl : (PySem.W.clsIn X.K D).isSome = true := by
    obtain ⟨cd, h1, _⟩ := PySem.W.any_some C.hd
    rw [h1]; rfl
  exact PySem.W.kia_one (PySem.W.kitx_exc hcl C.hg C.hk C.hs C.ha C.hn C.ht C.hm) I.kIn J e (fun z => nomatch z) fun tk => ⟨.bl b, H, I.kept (t' := tk) fun _ _ z => z, rfl, q⟩
/-- list.count of flat things -/
def rCntV (K : PySem.W.Frag) : V → List V → Hp → VK → Prop := fun x xs H Q => ∃ (a : Addr) (ys : List V) (y : V), x = V.ref a ∧ xs = [y] ∧ SqL K H a ys ∧ flatV y = true ∧ ys.all flatV = true ∧ Q (.int (ys.countP fun z => eqV z y : Nat)) H
theorem cnt_eq {y : V} : ∀ {ys : List V} {us : List Value}, Vals ys us → ys.all flatV = true → us.countP (eqU y) = ys.countP fun z => eqV z y
  | _, _, .nil, _ => rfl
  | _, _, .cons r t, h => by
    rw [List.all_cons, Bool.and_eq_true] at h
    rw [List.countP_cons, List.countP_cons, cnt_eq t h.2, eqU_of r h.1]
theorem mt_countV : MtR X "list.count" (rCntV X.K) := by
  intro pins s σ H x xs v us Q I rx rxs h
  obtain ⟨a, ys, y, rfl, rfl, hs, fy, fys, q⟩ := h
  cases rx
  cases rxs with
  | cons ry rt =>
    rename_i uy ut
    cases rt
    obtain ⟨its, rv, ⟨⟨cls, dd, data, sl⟩, n, ho, hc, hdn, hd⟩, hlen⟩ := I.list hs
    simp only at hc hd
    subst hc hd
    refine call_meets PySem.F.slot_list_count ⟨_, ho, rfl⟩ PySem.F.entry_list_count (PySem.F.args_list_count_2 _ _)
      (SeqAt.list_countAt a its.toArray n dd sl uy (eqU y)) ⟨ho, fun u' hu' => mem_eqAt ry fy rv fys u' (by simpa using hu'), ?_⟩
    have ec : its.toArray.toList.countP (eqU y) = ys.countP fun z => eqV z y := cnt_eq rv fys
    refine ⟨.int (ys.countP fun z => eqV z y : Nat), H, I.tok _, ⟨s.toks, ?_⟩, q⟩
    show Value.int ((its.toArray.toList.countP (eqU y) : Nat) : Int) s.toks = Value.int ((ys.countP fun z => eqV z y : Nat) : Int) s.toks
    rw [ec]
end
end Sip
/-! except C: ..; raise -/
namespace Sip
open PySem PySem.Spec PyProof.Rows L2 TL
/-- a caught error that stands to be raised again: its class, its traceback at T -/
structure Ag (X : Cx) (a : Addr) (oe : Obj) (T : Addr) (oT : Obj) (cls : Value) (d : Option Addr) (pn : List (Addr × Obj)) : Prop where
  ok : X.Ok
  hz : Zc cls d oe
  dat : ∃ vs, oe.data = .fields vs ∧ vs[1]? = some (.ref T)
  tb : ∃ ts, oT.data = .fields ts ∧ ts[3]? = some .none
  ne : T ≠ a
  old : ∀ b o, X.s_0.heap.get? b = some o → b ∉ X.ex → b ≠ a ∧ b ≠ T
  pns : ∀ p ∈ X.pn, p ∈ pn ∧ p.1 ≠ a ∧ p.1 ≠ T
section
variable {X : Cx} {a T : Addr} {oe oT : Obj} {cls : Value} {d : Option Addr} {pn : List (Addr × Obj)} {Wout : WX} {rp : Pos}
abbrev agX (X : Cx) (a : Addr) (oe : Obj) (T : Addr) (oT : Obj) (pn : List (Addr × Obj)) : Cx := L2H.suiteX X a ((a, oe) :: (T, oT) :: pn)
/-- a bare raise in the suite -/
theorem ps_again (stk : X.stack = X.env :: X.outer) (frm : X.env.frame = some X.env.locals) (tk : Takes X Wout) (g : Ag X a oe T oT cls d pn) : PS (agX X a oe T oT pn) (.Raise none none rp) (fun _ σ H => Wout cls d σ H) := by
  refine ⟨fun pins s σ H D I h => wpAny_Raise_bare ?_⟩
  obtain ⟨ha, na, aL, aF, _⟩ := I.pin (a, oe) (List.mem_append_left _ List.mem_cons_self)
  obtain ⟨hT, nT, TL, TF, _⟩ := I.pin (T, oT) (List.mem_append_left _ (List.mem_cons_of_mem _ List.mem_cons_self))
  dsimp only at ha na aL aF hT nT TL TF
  obtain ⟨vs, hd, h1⟩ := g.dat
  obtain ⟨ts, hdT, h3⟩ := g.tb
  have sz : 3 < ts.size := (Array.getElem?_eq_some_iff.mp h3).1
  suffices go : X.xe (.ref a) { s with heap := s.heap.update T (Obj.mapFields (·.setIfInBounds 3 (rawInt X.env.locals))) } by
    unfold raiseBare raiseStmt
    dsimp only
    refine wpAny_bind (wpAny_handled ?_)
    show wpAny _ _ (match (some (Value.ref a) : Option Value) with | _ => _) _ _ _
    dsimp only
    refine wpAny_bind (wpAny_rule ?_)
    refine wpAny_bind (wpAny_field ha hd h1 ?_)
    rw [if_neg (show ¬ ((Value.ref T == Value.none) = true) from by simp)]
    rw [show (agX X a oe T oT pn).env.frame = some X.env.locals from frm]
    first
      | exact wpAny_bind (setFlight_tb (fr := some X.env.locals) ha hd h1 hT hdT sz (wpAny_throw go))
      | exact wpAny_bind (wpAny_pure (wpAny_bind (setFlight_tb (fr := some X.env.locals) ha hd h1 hT hdT sz (wpAny_throw go))))
  have two : ∀ b, b ≠ a → b ≠ T → b ∉ [a, T] := fun b x y => by simp [x, y]
  have hid : ∀ b o, s.heap.get? b = some o → b ≠ a → b ≠ T → (PySem.W.hideAll s.heap [a, T]).get? b = some o := fun b o e x y => PySem.W.hideAll_get _ e (two b x y)
  have off : ∀ b o, (PySem.W.hideAll s.heap [a, T]).get? b = some o → b ≠ a ∧ b ≠ T := fun b o e => by
    constructor
    · rintro rfl; rw [PySem.W.hideAll_none _ (by simp)] at e; cases e
    · rintro rfl; rw [PySem.W.hideAll_none _ (by simp)] at e; cases e
  have cel : ∀ c v, s.heap.IsCell c v → (PySem.W.hideAll s.heap [a, T]).IsCell c v := fun c v ⟨o, ho, hc⟩ => by
    refine ⟨o, hid c o ho ?_ ?_, hc⟩
    · rintro rfl; rw [ha] at ho; cases ho; rw [hd] at hc; cases hc
    · rintro rfl; rw [hT] at ho; cases ho; rw [hdT] at hc; cases hc
  have J : Inv X [] σ H { s with heap := PySem.W.hideAll s.heap [a, T] } := by
    refine ⟨g.ok, I.os, I.bare, ⟨fun b o e n hb hx => ?_, fun b o e n hb hx => ?_, I.base.free, fun b o e hx => ?_, I.base.tups, I.base.frzs, I.base.tbls⟩, ?_, fun x c e => ?_, I.free, I.freeC, fun p hp => ?_, fun b u e => ?_, I.len⟩
    · exact hid b o (I.base.keep b o e n hb hx) (g.old b o e hx).1 (g.old b o e hx).2
    · obtain ⟨sl, q⟩ := I.base.slot b o e n hb hx
      exact ⟨sl, hid b _ q (g.old b o e hx).1 (g.old b o e hx).2⟩
    · obtain ⟨o', q⟩ := I.base.there b o e hx
      exact ⟨o', hid b _ q (g.old b o e hx).1 (g.old b o e hx).2⟩
    · obtain ⟨m, ⟨o, es, ep, ho, r⟩, hl⟩ := I.loc
      refine ⟨m, ⟨o, es, ep, hid _ o ho aL.symm TL.symm, r⟩, fun i x v e1 e2 e3 => ?_⟩
      obtain ⟨u, ru, lk⟩ := hl i x v e1 e2 e3
      refine ⟨u, ru, ?_⟩
      rcases lk with lk | ⟨k, c, e, ic⟩
      · exact .inl lk
      · exact .inr ⟨k, c, e, cel c _ ic⟩
    · obtain ⟨v, ic⟩ := I.cell x c e
      exact ⟨v, cel c v ic⟩
    · rw [List.append_nil] at hp
      obtain ⟨p1, p2, p3⟩ := g.pns p hp
      obtain ⟨q1, q2⟩ := I.pin p (List.mem_append_left _ (List.mem_cons_of_mem _ (List.mem_cons_of_mem _ p1)))
      exact ⟨hid _ _ q1 p2 p3, q2⟩
    · refine (I.hok b u e).stay (fun c v hc q => ?_) (fun _ q => q) fun _ _ q => q
      rcases hc with rfl | hc
      · exact hid _ _ q (ne_of_none e na) (ne_of_none e nT)
      · exact hid _ _ q (ne_of_none hc na) (ne_of_none hc nT)
  have upT : ∀ b o, b ≠ T → s.heap.get? b = some o → (s.heap.update T (Obj.mapFields (·.setIfInBounds 3 (rawInt X.env.locals)))).get? b = some o := fun b o x e => (Heap.get?_update_other _ _ (Ne.symm x)).trans e
  refine tk _ _ ⟨a, PySem.W.hideAll s.heap (a :: T :: frs X.stack), _, [], σ, H, cls, d, rfl, J, fun b o e nb => ?_, fun b o e _ => ⟨o.slots, upT b o (off b o e).2 (PySem.W.of_hideAll _ e)⟩, .inr (.inr ⟨fun b o e => ?_, PySem.W.hideAll_none _ (by simp), ?_, ?_⟩), na, rfl, I.bare, h⟩
  · refine PySem.W.hideAll_get _ (PySem.W.of_hideAll _ e) fun m => ?_
    rcases List.mem_cons.mp m with z | m
    · exact (off b o e).1 z
    rcases List.mem_cons.mp m with z | m
    · exact (off b o e).2 z
    · exact nb m
  · refine upT b o (fun z => ?_) (PySem.W.of_hideAll _ e)
    rw [z, PySem.W.hideAll_none _ (by simp)] at e; cases e
  · refine Heap.FunFrames.of_keeps (fun b o e nf => ⟨o, upT b o (fun z => ?_) e, rfl⟩) (funFrames_none (show s.heap.FunFrames X.base X.stack from I.stack) fun b hb => PySem.W.hideAll_none _ (List.mem_cons_of_mem _ (List.mem_cons_of_mem _ hb)))
    rw [z, hT] at e; cases e
    exact nf _ hdT
  · exact ⟨oe, vs, T, _, _, upT a oe g.ne.symm ha, g.hz, hd, h1, PySem.W.hideAll_none _ (by simp), g.ne, Heap.get?_update_self _ hT (Obj.isFreed_of_fields (Obj.data_mapFields hdT _)), Obj.data_mapFields hdT _, by simp [sz]⟩
end
end Sip
namespace Sip
open PySem PySem.Spec PyProof.Rows L2 TL
section
variable {X : Cx} {x : Str} {c : Value} {body : List Stmt} {b₀ : Stmt} {suite : List Stmt} {np pos pos' : Pos} {tb : WX → TS} {ts : Addr → Value → Option Addr → TS} {Wout : WX}
theorem stk_in {X : Cx} (stk : X.stack = X.env :: X.outer) (frm : X.env.frame = some X.env.locals) {a : Addr} (nL : a ≠ X.env.locals) (nF : a ∉ X.fs) : a ∉ frs X.stack := by
  rw [stk]
  intro m
  obtain ⟨e, h2, h3⟩ := List.mem_filterMap.mp m
  rcases List.mem_cons.mp h2 with rfl | h2
  · rw [frm] at h3; exact nL (Option.some.inj h3).symm
  · exact nF (List.mem_filterMap.mpr ⟨e, h2, h3⟩)
theorem okX {X : Cx} (ok : X.Ok) (a : Addr) (pn : List (Addr × Obj)) : (L2H.suiteX X a pn).Ok :=
  ⟨ok.mod, ok.kind, ok.glob, ok.blt, ok.above, ok.inj, ok.has, ok.cab, (fun z => absurd (show false = true from z) Bool.false_ne_true), ok.frames, ok.stk, ok.exf, ok.bs, ok.bsz, ok.noex, ok.exfs, ok.funs, ok.frf⟩
/-- try: .. except C: .. (a suite that may raise the error again) -/
theorem ps_try_again (stk : X.stack = X.env :: X.outer) (frm : X.env.frame = some X.env.locals) (hc : Names X x c) (hpa : ∀ hd : Option Value, PassesOwnAt (model X.prog X.w) (X.A.mark hd) X.A X.env X.xe) (tk : Takes X Wout)
    (hb : ∀ (W : WX) (pn : List (Addr × Obj)) (xe : Value → Shared → Prop), Takes (X.tr pn xe) W → PassesOwn (model X.prog X.w) X.A X.env xe → PSs (X.tr pn xe) body (tb W))
    (hsu : ∀ (a : Addr) (oe : Obj) (T : Addr) (oT : Obj) (cls : Value) (d : Option Addr) (pn : List (Addr × Obj)), Ag X a oe T oT cls d pn → PSs (agX X a oe T oT pn) (b₀ :: suite) (ts a cls d)) :
    PS X (.Try body [.ExceptHandler (some (.Name x np)) none (b₀ :: suite) pos'] [] [] pos) (fun D σ H => tb (wOnly X.K c ts Wout D) D σ H) := by
  refine ⟨fun pins s σ H D I h => wpAny_Try_except ?_⟩
  have ok := I.ok
  have fr : X.A.frames = some (X.env :: X.outer) := by rw [ok.frames, stk]
  have run := (hb (wOnly X.K c ts Wout D) (X.pn ++ pins) (fun e t1 => wpAny (model X.prog X.w) X.A (noteFrame e X.env) (fun _ t2 => wpAny (model X.prog X.w) X.A (setFlight e none) (fun _ t3 => wpAny (model X.prog X.w) X.A (handleBy e X.env [.ExceptHandler (some (.Name x np)) none (b₀ :: suite) pos']) (SP X pins D) X.xe t3) X.xe t2) X.xe t1) ?_ PassesOwn.looking).run [] s σ H D (I.toTry _) h
  · refine wpAny_mono run (fun f s1 hp => ?_) fun _ _ he => he
    match f, hp with
    | .next, ⟨_, _, J, q⟩ => exact wpAny_execs_nil ⟨_, _, J.ofTry ok, q⟩
    | .brk, ⟨_, _, J, q⟩ => exact ⟨_, _, J.ofTry ok, q⟩
    | .cont, ⟨_, _, J, q⟩ => exact ⟨_, _, J.ofTry ok, q⟩
    | .ret _, ⟨_, _, _, J, r, q⟩ => exact ⟨_, _, _, J.ofTry ok, r, q⟩
  · rintro u s1 ⟨a, B, sI, pins2, σ2, H2, cls, d, rfl, J2, nb, up, sky, na, os, ag, b, hb1, yes, no⟩
    have sky2 : Sky B (X.env :: X.outer) a (Zc cls d) X.env.locals s1.heap := by rw [← stk]; exact sky
    refine Sky.land Zc.steady fr frm sky2 fun h3 f3 u3 => ?_
    obtain ⟨oe, vs, he, hz, hd⟩ := f3.there
    have far : a ∉ frs (X.env :: X.outer) := fun m => by
      obtain ⟨_, o2, e2, nf⟩ := f3.2.2.1.mem m
      rw [he] at e2; cases e2
      exact nf _ hd
    have nL : a ≠ X.env.locals := fun z => far (List.mem_filterMap.mpr ⟨X.env, List.mem_cons_self, by rw [frm, z]⟩)
    have nF : a ∉ X.fs := fun m => by
      obtain ⟨e, h1, h2⟩ := List.mem_filterMap.mp m
      exact far (List.mem_filterMap.mpr ⟨e, List.mem_cons_of_mem _ h1, h2⟩)
    have C : Caught X pins a B sI s1 h3 σ2 H2 cls d := ⟨ok, stk, frm, J2.ofTry ok, nb, up.trans u3, f3, na, nL, nF, os, ag⟩
    have J3 := C.at C.fl (Heap.UpToSlots.refl _)
    have S3 := J3.suite he hd C.na C.nL C.nF
    refine wpAny_handleBy_cons (codeAny_handlers_test ?_) (by intro q; cases q)
    have knows : PySem.W.Looks (model X.prog X.w) h3 (typeOf (.ref a)) cls := fun _ _ _ _ k q => wpAny_typeOf_ref (k _ _ he) (by rw [hz.1]; exact q)
    have look := PySem.W.exm_one (M := model X.prog X.w) J3.kIn knows hb1
    have named : ∀ {Q E : Value → Shared → Prop}, Q c { s1 with heap := h3 } → wpAny (model X.prog X.w) (X.A.mark (some (.ref a))) (eval (.Name x np) X.env) Q E { s1 with heap := h3 } := fun q => by
      rcases hc with ⟨g1, g2, m1 | ⟨m1, m2, m3⟩⟩
      · exact ld_glob (X := X.suite a ((a, oe) :: (X.pn ++ pins))) S3 g1 m1 q g2
      · exact ld_blt (X := X.suite a ((a, oe) :: (X.pn ++ pins))) S3 g1 m1 m2 q m3 g2
    refine named (look.here ?_)
    cases b with
    | false => exact C.none tk (no rfl)
    | true =>
      refine codeAny_handlers_suite (HandSPX.lands_againZ C.fl fun h4 f4 u4 => ?_)
      have J4 := C.at f4 u4
      obtain ⟨k1, k2, k3, oe4, vs4, T, oT, tss, e4, z4, d4, v4, bT, Ta, eT, dT, t3⟩ := id f4
      have farT : T ∉ frs X.stack := fun m => by
        rw [stk] at m
        obtain ⟨_, o2, e2, nf⟩ := f4.2.2.1.mem m
        rw [eT] at e2; cases e2
        exact nf _ dT
      have TL : T ≠ X.env.locals := fun z => farT (by rw [stk]; exact List.mem_filterMap.mpr ⟨X.env, List.mem_cons_self, by rw [frm, z]⟩)
      have TF : T ∉ X.fs := fun m => by
        obtain ⟨e, h1, h2⟩ := List.mem_filterMap.mp m
        exact farT (by rw [stk]; exact List.mem_filterMap.mpr ⟨e, List.mem_cons_of_mem _ h1, h2⟩)
      have farA : a ∉ frs X.stack := by rw [stk]; exact far
      -- what stood ahead of the error is neither it nor its traceback
      have away : ∀ b o, sI.heap.get? b = some o → b ≠ a ∧ b ≠ T := fun b o e => by
        constructor
        · rintro rfl
          have := nb b o e farA
          rw [k2] at this; cases this
        · rintro rfl
          have := nb b o e farT
          rw [bT] at this; cases this
      have I2 : Inv X pins σ2 H2 sI := J2.ofTry ok
      have nT : H2 T = none := by
        cases q : H2 T with
        | none => rfl
        | some u =>
          obtain ⟨o, e⟩ := objOk_get (I2.hok T u q)
          exact absurd rfl (away T o e).2
      have G : Ag X a oe4 T oT cls d (X.pn ++ pins) := ⟨ok, z4, ⟨vs4, d4, v4⟩, ⟨tss, dT, t3⟩, Ta, fun b o e hx => by
        obtain ⟨o', q⟩ := I2.base.there b o e hx
        exact away b o' q, fun p hp => ⟨List.mem_append_left _ hp, away _ _ (I2.pin p (List.mem_append_left _ hp)).1⟩⟩
      have S4 : Inv (agX X a oe4 T oT (X.pn ++ pins)) [] σ2 H2 { s1 with heap := h4 } := by
        refine ⟨okX ok _ _, J4.os, J4.bare, J4.base, J4.loc, J4.cell, J4.free, J4.freeC, fun p hp => ?_, J4.hok, J4.len⟩
        rw [List.append_nil] at hp
        rcases List.mem_cons.mp hp with e | hp
        · rw [e]; exact ⟨e4, na, nL, nF, fun v z => by have z' : oe4.data = .cell v := z; rw [d4] at z'; cases z'⟩
        rcases List.mem_cons.mp hp with e | hp
        · rw [e]; exact ⟨eT, nT, TL, TF, fun v z => by have z' : oT.data = .cell v := z; rw [dT] at z'; cases z'⟩
        · exact J4.pin p hp
      refine wpAny_mono ((hsu a oe4 T oT cls d (X.pn ++ pins) G).run [] _ _ H2 _ S4 (yes rfl a na)) (fun f s6 hp => ?_) fun e6 s6 z => hpa (some (.ref a)) e6 s6 z
      have back : ∀ {σ6 : L2.St} {H6 : Hp}, Inv (agX X a oe4 T oT (X.pn ++ pins)) [] σ6 H6 s6 → Inv X pins σ6 H6 s6 := fun S6 => ⟨ok, S6.os, S6.bare, S6.base, S6.loc, S6.cell, S6.free, S6.freeC, fun p hp => S6.pin p (List.mem_append_left _ (List.mem_cons_of_mem _ (List.mem_cons_of_mem _ hp))), S6.hok, S6.len⟩
      match f, hp with
      | .next, ⟨_, _, S6, q6⟩ => exact ⟨_, _, back S6, q6⟩
      | .brk, ⟨_, _, S6, q6⟩ => exact ⟨_, _, back S6, q6⟩
      | .cont, ⟨_, _, S6, q6⟩ => exact ⟨_, _, back S6, q6⟩
      | .ret _, ⟨_, _, _, S6, r6, q6⟩ => exact ⟨_, _, _, back S6, r6, q6⟩
end
end Sip
/-! a device -/
namespace Sip
open PySem PySem.Spec PyProof.Rows L2 TL
structure Dad where
  d : Addr
  c : Addr
  p : Addr
  l : Addr
structure Dst where
  seek : Bool
  spot : Nat
  bar : Bool
  ns : List Nt
  cells : List Int
  plan : List Int
  used : Nat
def dfs (A : Dad) (seek : Bool) (spot : Nat) (bar : Bool) (used : Nat) : Fs := [("can_seek", .bl seek), ("spot", .int spot), ("barred", .bl bar), ("notes", .ref A.l), ("cells", .ref A.c), ("plan", .ref A.p), ("used", .int used)]
structure DevIn (CD : Addr) (H : Hp) (A : Dad) (S : Dst) (dd : Addr) (vs : List V) (G : Addr → Prop) : Prop where
  hd : H A.d = some (.ins CD dd (dfs A S.seek S.spot S.bar S.used))
  hc : H A.c = some (.lst (S.cells.map V.int))
  hp : H A.p = some (.lst (S.plan.map V.int))
  hl : H A.l = some (.lst vs)
  nn : Nts H G vs S.ns
  al : ∀ b, G b → ∃ o, H b = some o
  ag : ∀ b, G b → b ≠ A.d ∧ b ≠ A.c ∧ b ≠ A.p ∧ b ≠ A.l
  d1 : A.c ≠ A.p
  d2 : A.c ≠ A.l
  d3 : A.p ≠ A.l
def Own4 (A : Dad) (b : Addr) : Prop := b = A.d ∨ b = A.c ∨ b = A.p ∨ b = A.l
def DevAt (CD : Addr) (H : Hp) (A : Dad) (F : Addr → Prop) (S : Dst) : Prop := ∃ dd vs G, DevIn CD H A S dd vs G ∧ ∀ b, F b ↔ Own4 A b ∨ G b
section
variable {CD : Addr} {H H' : Hp} {A : Dad} {S : Dst} {dd : Addr} {vs : List V} {G F : Addr → Prop}
theorem DevIn.nes (h : DevIn CD H A S dd vs G) : A.c ≠ A.d ∧ A.p ≠ A.d ∧ A.l ≠ A.d := ⟨lst_ins h.hc h.hd, lst_ins h.hp h.hd, lst_ins h.hl h.hd⟩
theorem DevAt.loc (h : DevAt CD H A F S) (k : ∀ b o, F b → H b = some o → H' b = some o) : DevAt CD H' A F S := by
  obtain ⟨dd, vs, G, I, hF⟩ := h
  have o4 : ∀ {b o}, Own4 A b → H b = some o → H' b = some o := fun {b o} z e => k b o ((hF b).mpr (.inl z)) e
  have kg : ∀ b o, G b → H b = some o → H' b = some o := fun b o z e => k b o ((hF b).mpr (.inr z)) e
  exact ⟨dd, vs, G, ⟨o4 (.inl rfl) I.hd, o4 (.inr (.inl rfl)) I.hc, o4 (.inr (.inr (.inl rfl))) I.hp, o4 (.inr (.inr (.inr rfl))) I.hl, I.nn.keep kg (fun _ z => z), fun b z => (I.al b z).elim fun o e => ⟨o, kg b o z e⟩, I.ag, I.d1, I.d2, I.d3⟩, hF⟩
theorem DevAt.same (h : DevAt CD H A F S) (s : Same H H') : DevAt CD H' A F S := h.loc fun b o _ e => s b o e
theorem DevAt.kp {qs : List Addr} (h : DevAt CD H A F S) (k : Kp qs H H') (n : ∀ q ∈ qs, ¬ F q) : DevAt CD H' A F S := h.loc fun b o f e => k b o (fun z => n b z f) e
theorem DevAt.own (h : DevAt CD H A F S) : ∀ b, F b → ∃ o, H b = some o := by
  obtain ⟨dd, vs, G, I, hF⟩ := h
  intro b z
  rcases (hF b).mp z with (rfl | rfl | rfl | rfl) | z
  · exact ⟨_, I.hd⟩
  · exact ⟨_, I.hc⟩
  · exact ⟨_, I.hp⟩
  · exact ⟨_, I.hl⟩
  · exact I.al b z
theorem DevAt.new {q : Addr} (h : DevAt CD H A F S) (n : H q = none) : ¬ F q := fun f => by
  obtain ⟨o, e⟩ := h.own q f
  rw [n] at e; cases e
/-- its own fields are put anew -/
theorem DevIn.setd (I : DevIn CD H A S dd vs G) (spot : Nat) (bar : Bool) (used : Nat) : DevIn CD (upd H A.d (.ins CD dd (dfs A S.seek spot bar used))) A { S with spot := spot, bar := bar, used := used } dd vs G := by
  obtain ⟨n1, n2, n3⟩ := I.nes
  have kg : ∀ x o, G x → H x = some o → (upd H A.d (.ins CD dd (dfs A S.seek spot bar used))) x = some o := fun x o z e => by rw [upd_ne (I.ag x z).1]; exact e
  exact ⟨upd_same, by rw [upd_ne n1]; exact I.hc, by rw [upd_ne n2]; exact I.hp, by rw [upd_ne n3]; exact I.hl, I.nn.keep kg (fun _ z => z), fun b z => (I.al b z).elim fun o e => ⟨o, kg b o z e⟩, I.ag, I.d1, I.d2, I.d3⟩
/-- the row, in its list -/
theorem DevIn.setc (I : DevIn CD H A S dd vs G) (xs : List Int) : DevIn CD (upd H A.c (.lst (xs.map V.int))) A { S with cells := xs } dd vs G := by
  obtain ⟨n1, n2, n3⟩ := I.nes
  have kg : ∀ x o, G x → H x = some o → (upd H A.c (.lst (xs.map V.int))) x = some o := fun x o z e => by rw [upd_ne (I.ag x z).2.1]; exact e
  exact ⟨by rw [upd_ne n1.symm]; exact I.hd, upd_same, by rw [upd_ne I.d1.symm]; exact I.hp, by rw [upd_ne I.d2.symm]; exact I.hl, I.nn.keep kg (fun _ z => z), fun b z => (I.al b z).elim fun o e => ⟨o, kg b o z e⟩, I.ag, I.d1, I.d2, I.d3⟩
/-- the row, in another list c -/
theorem DevIn.newc (I : DevIn CD H A S dd vs G) {c : Addr} {xs : List Int} (hc : H c = some (.lst (xs.map V.int))) (nF : ¬ (Own4 A c ∨ G c)) :
    DevIn CD (upd H A.d (.ins CD dd (dfs { A with c := c } S.seek S.spot S.bar S.used))) { A with c := c } { S with cells := xs } dd vs G := by
  obtain ⟨n1, n2, n3⟩ := I.nes
  have cd : c ≠ A.d := fun z => nF (.inl (.inl z))
  have kg : ∀ x o, G x → H x = some o → (upd H A.d (.ins CD dd (dfs { A with c := c } S.seek S.spot S.bar S.used))) x = some o := fun x o z e => by rw [upd_ne (I.ag x z).1]; exact e
  exact ⟨upd_same, by rw [upd_ne cd]; exact hc, by show (upd H A.d _) A.p = _; rw [upd_ne n2]; exact I.hp, by show (upd H A.d _) A.l = _; rw [upd_ne n3]; exact I.hl, I.nn.keep kg (fun _ z => z), fun b z => (I.al b z).elim fun o e => ⟨o, kg b o z e⟩,
    fun b z => ⟨(I.ag b z).1, fun y => nF (.inr (by rw [← show b = c from y]; exact z)), (I.ag b z).2.2.1, (I.ag b z).2.2.2⟩, fun z => nF (.inl (.inr (.inr (.inl z)))), fun z => nF (.inl (.inr (.inr (.inr z)))), I.d3⟩
/-- a note more: its tuple new, its lists G0 handed over -/
theorem DevIn.note (I : DevIn CD H A S dd vs G) {t : Addr} {n : Nt} {hv cv : V} {G0 : Addr → Prop} (nt : H t = none) (h0 : TgAt H G0 hv n.h) (c0 : TgAt H G0 cv n.c) (ok : NtOk n) (ep : n.p = S.spot) (a0 : ∀ b, G0 b → ∃ o, H b = some o) (n0 : ∀ b, G0 b → ¬ Own4 A b) :
    DevIn CD (upd (upd H t (.tup [.str n.w, .int S.spot, hv, cv])) A.l (.lst (vs ++ [.ref t]))) A { S with ns := S.ns ++ [n] } dd (vs ++ [.ref t]) (fun b => G b ∨ b = t ∨ G0 b) := by
  obtain ⟨n1, n2, n3⟩ := I.nes
  have ne : ∀ {b o}, H b = some o → b ≠ t := fun {b o} e => ne_of_none e nt
  have kp : ∀ b o, b ≠ A.l → H b = some o → (upd (upd H t (.tup [.str n.w, .int S.spot, hv, cv])) A.l (.lst (vs ++ [.ref t]))) b = some o := fun b o z e => by rw [upd_ne z, upd_ne (ne e)]; exact e
  have kg : ∀ b o, G b → H b = some o → (upd (upd H t (.tup [.str n.w, .int S.spot, hv, cv])) A.l (.lst (vs ++ [.ref t]))) b = some o := fun b o z e => kp b o (I.ag b z).2.2.2 e
  have k0 : ∀ b o, G0 b → H b = some o → (upd (upd H t (.tup [.str n.w, .int S.spot, hv, cv])) A.l (.lst (vs ++ [.ref t]))) b = some o := fun b o z e => kp b o (fun y => n0 b z (.inr (.inr (.inr y)))) e
  have tl : t ≠ A.l := (ne I.hl).symm
  refine ⟨kp _ _ n3.symm I.hd, kp _ _ I.d2 I.hc, kp _ _ I.d3 I.hp, upd_same, Nts.snoc ⟨t, hv, cv, rfl, .inr (.inl rfl), ?_, h0.keep k0 (fun _ z => .inr (.inr z)), c0.keep k0 (fun _ z => .inr (.inr z)), ok⟩ (I.nn.keep kg (fun _ z => .inl z)), ?_, ?_, I.d1, I.d2, I.d3⟩
  · rw [upd_ne tl, upd_same, ep]
  · rintro b (z | rfl | z)
    · exact (I.al b z).elim fun o e => ⟨o, kg b o z e⟩
    · exact ⟨_, by rw [upd_ne tl]; exact upd_same⟩
    · exact (a0 b z).elim fun o e => ⟨o, k0 b o z e⟩
  · rintro b (z | rfl | z)
    · exact I.ag b z
    · exact ⟨(ne I.hd).symm, (ne I.hc).symm, (ne I.hp).symm, (ne I.hl).symm⟩
    · have h := n0 b z
      exact ⟨fun y => h (.inl y), fun y => h (.inr (.inl y)), fun y => h (.inr (.inr (.inl y))), fun y => h (.inr (.inr (.inr y)))⟩
theorem own_dev {x : Addr} {o : HO} (hF : ∀ b, F b ↔ Own4 A b ∨ G b) (hx : Own4 A x) : Step F H F (upd H x o) := ⟨fun b o nf e => by
  have n : b ≠ x := fun z => nf ((hF b).mpr (.inl (by rw [z]; exact hx)))
  rw [upd_ne n]; exact e, fun b z => .inl z⟩
theorem dfs_seek (A : Dad) (k : Bool) (s : Nat) (b : Bool) (u : Nat) : (dfs A k s b u).lookup ("can_seek" : Str) = some (.bl k) := by unfold dfs; kernel_rfl
theorem dfs_spot (A : Dad) (k : Bool) (s : Nat) (b : Bool) (u : Nat) : (dfs A k s b u).lookup ("spot" : Str) = some (.int s) := by unfold dfs; kernel_rfl
theorem dfs_barred (A : Dad) (k : Bool) (s : Nat) (b : Bool) (u : Nat) : (dfs A k s b u).lookup ("barred" : Str) = some (.bl b) := by unfold dfs; kernel_rfl
theorem dfs_notes (A : Dad) (k : Bool) (s : Nat) (b : Bool) (u : Nat) : (dfs A k s b u).lookup ("notes" : Str) = some (.ref A.l) := by unfold dfs; kernel_rfl
theorem dfs_cells (A : Dad) (k : Bool) (s : Nat) (b : Bool) (u : Nat) : (dfs A k s b u).lookup ("cells" : Str) = some (.ref A.c) := by unfold dfs; kernel_rfl
theorem dfs_plan (A : Dad) (k : Bool) (s : Nat) (b : Bool) (u : Nat) : (dfs A k s b u).lookup ("plan" : Str) = some (.ref A.p) := by unfold dfs; kernel_rfl
theorem dfs_used (A : Dad) (k : Bool) (s : Nat) (b : Bool) (u : Nat) : (dfs A k s b u).lookup ("used" : Str) = some (.int u) := by unfold dfs; kernel_rfl
theorem dfs_put_s (A : Dad) (k : Bool) (s r : Nat) (b : Bool) (u : Nat) : putF ("spot" : Str) (.int r) (dfs A k s b u) = dfs A k r b u := by unfold dfs; kernel_rfl
theorem dfs_put_b (A : Dad) (k : Bool) (s : Nat) (b c : Bool) (u : Nat) : putF ("barred" : Str) (.bl c) (dfs A k s b u) = dfs A k s c u := by unfold dfs; kernel_rfl
theorem dfs_put_u (A : Dad) (k : Bool) (s : Nat) (b : Bool) (u v : Nat) : putF ("used" : Str) (.int v) (dfs A k s b u) = dfs A k s b v := by unfold dfs; kernel_rfl
theorem dfs_put_c (A : Dad) (k : Bool) (s : Nat) (b : Bool) (u : Nat) (c : Addr) : putF ("cells" : Str) (.ref c) (dfs A k s b u) = dfs { A with c := c } k s b u := by unfold dfs; kernel_rfl
theorem dfs_few (A : Dad) (k : Bool) (s : Nat) (b : Bool) (u : Nat) : (dfs A k s b u).length < 1000 := by show 7 < 1000; decide
theorem dfs_no (A : Dad) (k : Bool) (s : Nat) (b : Bool) (u : Nat) : ∀ m ∈ (["take", "put", "go", "cut", "shut", "place", "size", "seeks", "is_shut", "log", "log_behind", "note", "check_open", "check_seeks", "may_take", "may_put", "may_cut", "give", "accept", "move", "trim", "extent", "grow", "content", "left", "allowed"] : List Str), (dfs A k s b u).lookup m = none := by
  intro m hm
  simp only [List.mem_cons, List.mem_nil_iff, or_false] at hm
  unfold dfs
  rcases hm with rfl | rfl | rfl | rfl | rfl | rfl | rfl | rfl | rfl | rfl | rfl | rfl | rfl | rfl | rfl | rfl | rfl | rfl | rfl | rfl | rfl | rfl | rfl | rfl | rfl | rfl <;> kernel_rfl
end
end Sip
/-! a heap in pieces that have nothing in common -/
namespace Sip
open PySem PySem.Spec PyProof.Rows L2 TL
inductive Ch
  | pt (a : Addr) (o : HO)
  | ab (P : Hp → (Addr → Prop) → Prop)
def Ch.P : Ch → Hp → (Addr → Prop) → Prop
  | .pt a o => fun H F => H a = some o ∧ ∀ b, F b ↔ b = a
  | .ab P => P
/-- the piece is there, at just these places, whatever else is changed -/
def Ch.On (c : Ch) (H : Hp) (F : Addr → Prop) : Prop := (∀ H', (∀ b o, F b → H b = some o → H' b = some o) → c.P H' F) ∧ ∀ b, F b → ∃ o, H b = some o
def SatF (H : Hp) : List Ch → (Addr → Prop) → Prop
  | [], F => ∀ b, ¬ F b
  | c :: cs, F => ∃ F1 F2, c.On H F1 ∧ SatF H cs F2 ∧ (∀ b, F1 b → ¬ F2 b) ∧ ∀ b, F b ↔ F1 b ∨ F2 b
def Sat (H : Hp) (cs : List Ch) : Prop := ∃ F, SatF H cs F
inductive Pull (c : Ch) : List Ch → List Ch → Prop
  | hd {cs} : Pull c (c :: cs) cs
  | tl {d cs cs1} : Pull c cs cs1 → Pull c (d :: cs) (d :: cs1)
inductive Pk : List Ch → List Ch → Prop
  | nil {cs} : Pk cs cs
  | cons {c cs cs1 ds} : Pull c cs cs1 → Pk cs1 ds → Pk cs (c :: ds)
  | drop {c cs ds} : Pk cs ds → Pk (c :: cs) ds
section
variable {H H' H1 : Hp} {c d : Ch} {cs ds cs1 : List Ch} {F F1 F2 : Addr → Prop} {a b l p : Addr} {o o' o1 : HO}
theorem Ch.On.here (h : c.On H F) : c.P H F := h.1 H fun _ _ _ e => e
theorem Ch.On.keep (h : c.On H F) (k : ∀ b o, F b → H b = some o → H' b = some o) : c.On H' F :=
  ⟨fun H2 k2 => h.1 H2 fun b o f e => k2 b o f (k b o f e), fun b f => (h.2 b f).elim fun o e => ⟨o, k b o f e⟩⟩
theorem SatF.own : ∀ {cs : List Ch} {F : Addr → Prop}, SatF H cs F → ∀ b, F b → ∃ o, H b = some o
  | [], F, h, b, f => (h b f).elim
  | c :: cs, F, ⟨F1, F2, h1, h2, _, u⟩, b, f => ((u b).mp f).elim (h1.2 b) (SatF.own h2 b)
theorem SatF.keep : ∀ {cs : List Ch} {F : Addr → Prop}, SatF H cs F → (∀ b o, F b → H b = some o → H' b = some o) → SatF H' cs F
  | [], F, h, _ => h
  | c :: cs, F, ⟨F1, F2, h1, h2, d, u⟩, k => ⟨F1, F2, h1.keep fun b o f e => k b o ((u b).mpr (.inl f)) e, SatF.keep h2 fun b o f e => k b o ((u b).mpr (.inr f)) e, d, u⟩
theorem SatF.perm {cs ds : List Ch} (p : cs.Perm ds) : ∀ {F : Addr → Prop}, SatF H cs F → SatF H ds F := by
  induction p with
  | nil => exact fun h => h
  | cons x _ ih => exact fun ⟨F1, F2, h1, h2, d, u⟩ => ⟨F1, F2, h1, ih h2, d, u⟩
  | swap x y l =>
    rintro F ⟨F1, F2, h1, ⟨F3, F4, h3, h4, d2, u2⟩, d, u⟩
    refine ⟨F3, fun b => F1 b ∨ F4 b, h3, ⟨F1, F4, h1, h4, fun b f g => d b f ((u2 b).mpr (.inr g)), fun _ => Iff.rfl⟩, fun b f g => ?_, fun b => ?_⟩
    · exact g.elim (fun g => d b g ((u2 b).mpr (.inl f))) (d2 b f)
    · rw [u b, u2 b]
      constructor
      · rintro (x | x | x)
        · exact .inr (.inl x)
        · exact .inl x
        · exact .inr (.inr x)
      · rintro (x | x | x)
        · exact .inr (.inl x)
        · exact .inl x
        · exact .inr (.inr x)
  | trans _ _ i1 i2 => exact fun h => i2 (i1 h)
theorem Pull.perm : ∀ {cs cs1 : List Ch}, Pull c cs cs1 → cs.Perm (c :: cs1)
  | _, _, .hd => .refl _
  | _, _, .tl (d := d) h => (List.Perm.cons d h.perm).trans (.swap _ _ _)
theorem Sat.perm (h : Sat H cs) (p : cs.Perm ds) : Sat H ds := h.elim fun F h => ⟨F, h.perm p⟩
theorem Sat.tl (h : Sat H (c :: cs)) : Sat H cs := by
  obtain ⟨F, F1, F2, _, h, _⟩ := h
  exact ⟨F2, h⟩
theorem Sat.pull (h : Sat H cs) (p : Pull c cs cs1) : Sat H (c :: cs1) := h.perm p.perm
theorem SatF.cons {F : Addr → Prop} (h : Sat H (c :: cs)) : ∃ F1 F2, c.On H F1 ∧ SatF H cs F2 ∧ ∀ b, F1 b → ¬ F2 b := by
  obtain ⟨F, F1, F2, h1, h2, d, _⟩ := h
  exact ⟨F1, F2, h1, h2, d⟩
theorem Sat.mk (h1 : c.On H F1) (h2 : SatF H cs F2) (d : ∀ b, F1 b → ¬ F2 b) : Sat H (c :: cs) := ⟨fun b => F1 b ∨ F2 b, F1, F2, h1, h2, d, fun _ => Iff.rfl⟩
/-- a piece is opened: whatever is done to it alone -/
theorem Sat.opn (h : Sat H (c :: cs)) : ∃ F, c.On H F ∧ ∀ c' F' H', (∀ b o, ¬ F b → H b = some o → H' b = some o) → (∀ b, F' b → F b ∨ H b = none) → c'.On H' F' → Sat H' (c' :: cs) := by
  obtain ⟨F, F1, F2, h1, h2, d, u⟩ := h
  refine ⟨F1, h1, fun c' F' H' k f o => Sat.mk o (h2.keep fun b o g e => k b o (fun x => d b x g) e) fun b x g => ?_⟩
  rcases f b x with y | y
  · exact d b y g
  · obtain ⟨o, e⟩ := h2.own b g
    rw [y] at e; cases e
theorem Pk.satF : ∀ {cs ds : List Ch}, Pk cs ds → ∀ {F : Addr → Prop}, SatF H cs F → ∃ F', SatF H ds F' ∧ ∀ b, F' b → F b
  | _, _, .nil, F, h => ⟨F, h, fun _ z => z⟩
  | _, _, .cons p q, F, h => by
    obtain ⟨F1, F2, h1, h2, d, u⟩ := h.perm p.perm
    obtain ⟨F3, h3, s⟩ := q.satF h2
    exact ⟨fun b => F1 b ∨ F3 b, ⟨F1, F3, h1, h3, fun b x y => d b x (s b y), fun _ => Iff.rfl⟩, fun b z => (u b).mpr (z.imp id (s b))⟩
  | _, _, .drop q, F, ⟨F1, F2, _, h2, _, u⟩ => by
    obtain ⟨F3, h3, s⟩ := q.satF h2
    exact ⟨F3, h3, fun b z => (u b).mpr (.inr (s b z))⟩
theorem Sat.pk (h : Sat H cs) (p : Pk cs ds) : Sat H ds := by
  obtain ⟨F, h⟩ := h
  obtain ⟨F', h', _⟩ := p.satF h
  exact ⟨F', h'⟩
theorem On.pt (h : H a = some o) : (Ch.pt a o).On H (fun b => b = a) := ⟨fun H' k => ⟨k a o rfl h, fun _ => Iff.rfl⟩, fun b z => ⟨o, by rw [show b = a from z]; exact h⟩⟩
theorem Sat.get (h : Sat H cs) (p : Pull (.pt a o) cs cs1) : H a = some o := by
  obtain ⟨F, F1, F2, h1, _⟩ := h.pull p
  exact h1.here.1
theorem Sat.alloc (h : Sat H cs) (n : H l = none) (g : upd H l o = H1) : Sat H1 (.pt l o :: cs) := by
  obtain ⟨F, h⟩ := h
  subst g
  refine Sat.mk (On.pt upd_same) (h.keep fun b o f e => ?_) fun b z f => ?_
  · rw [upd_ne (ne_of_none e n)]; exact e
  · obtain ⟨o, e⟩ := h.own b f
    rw [show b = l from z, n] at e; cases e
theorem Sat.put (h : Sat H (.pt a o :: cs)) (g : upd H a o' = H1) : Sat H1 (.pt a o' :: cs) := by
  obtain ⟨F, h1, k⟩ := h.opn
  subst g
  have hF := h1.here.2
  refine k _ (fun b => b = a) _ (fun b o n e => ?_) (fun b z => .inl ((hF b).mpr z)) (On.pt upd_same)
  rw [upd_ne (fun z => n ((hF b).mpr z))]; exact e
theorem Sat.same (h : Sat H cs) (s : Same H H') : Sat H' cs := h.elim fun F h => ⟨F, h.keep fun b o _ e => s b o e⟩
theorem Sat.fresh (h : Sat H cs) (s : Same H H') (n : H l = none) (e : H' l = some o) : Sat H' (.pt l o :: cs) := by
  obtain ⟨F, h⟩ := h
  refine Sat.mk (On.pt e) (h.keep fun b o _ e => s b o e) fun b z f => ?_
  obtain ⟨o, e⟩ := h.own b f
  rw [show b = l from z, n] at e; cases e
theorem Sat.ne2 (h : Sat H (.pt a o :: .pt b o' :: cs)) : a ≠ b := by
  obtain ⟨F, F1, F2, h1, ⟨F3, F4, h3, _, _, u⟩, d, _⟩ := h
  intro z
  exact d a ((h1.here.2 a).mpr rfl) ((u a).mpr (.inl ((h3.here.2 a).mpr z)))
theorem SatF.split : ∀ {ds : List Ch} {F : Addr → Prop}, SatF H (ds ++ cs) F → ∃ F1 F2, SatF H ds F1 ∧ SatF H cs F2 ∧ (∀ b, F1 b → ¬ F2 b) ∧ ∀ b, F b ↔ F1 b ∨ F2 b
  | [], F, h => ⟨fun _ => False, F, fun _ z => z, h, fun _ z => z.elim, fun b => ⟨.inr, fun z => z.elim (fun z => z.elim) id⟩⟩
  | c :: ds, F, ⟨F1, F2, h1, h2, d, u⟩ => by
    obtain ⟨F3, F4, h3, h4, d2, u2⟩ := SatF.split h2
    refine ⟨fun b => F1 b ∨ F3 b, F4, ⟨F1, F3, h1, h3, fun b x y => d b x ((u2 b).mpr (.inl y)), fun _ => Iff.rfl⟩, h4, fun b x y => ?_, fun b => ?_⟩
    · exact x.elim (fun x => d b x ((u2 b).mpr (.inr y))) fun x => d2 b x y
    · rw [u b, u2 b, or_assoc]
theorem SatF.join : ∀ {ds : List Ch} {F1 F2 : Addr → Prop}, SatF H ds F1 → SatF H cs F2 → (∀ b, F1 b → ¬ F2 b) → SatF H (ds ++ cs) (fun b => F1 b ∨ F2 b)
  | [], F1, F2, h1, h2, d => by
    have e : (fun b => F1 b ∨ F2 b) = F2 := funext fun b => propext ⟨fun z => z.elim (fun z => (h1 b z).elim) id, .inr⟩
    rw [e]; exact h2
  | c :: ds, F, F2, ⟨F3, F4, h3, h4, d, u⟩, h2, d2 => ⟨F3, fun b => F4 b ∨ F2 b, h3, SatF.join h4 h2 (fun b x y => d2 b ((u b).mpr (.inr x)) y), fun b x y => y.elim (d b x) (d2 b ((u b).mpr (.inl x))), fun b => by show F b ∨ F2 b ↔ F3 b ∨ F4 b ∨ F2 b; rw [u b, or_assoc]⟩
/-- pieces of which only some word is known -/
def exC {α : Type} (P : α → Prop) (f : α → List Ch) : Ch := .ab fun H F => ∃ x, P x ∧ SatF H (f x) F
theorem On.exC {α : Type} {P : α → Prop} {f : α → List Ch} {x : α} (hP : P x) (h : SatF H (f x) F) : (exC P f).On H F := ⟨fun H' k => ⟨x, hP, h.keep k⟩, h.own⟩
theorem Sat.exE {α : Type} {P : α → Prop} {f : α → List Ch} (h : Sat H (exC P f :: cs)) : ∃ x, P x ∧ Sat H (f x ++ cs) := by
  obtain ⟨F, F1, F2, h1, h2, d, u⟩ := h
  obtain ⟨x, hP, h3⟩ := h1.here
  exact ⟨x, hP, _, h3.join h2 d⟩
theorem Sat.exI {α : Type} {P : α → Prop} {f : α → List Ch} (x : α) (hP : P x) (h : Sat H (f x ++ cs)) : Sat H (exC P f :: cs) := by
  obtain ⟨F, h⟩ := h
  obtain ⟨F1, F2, h1, h2, d, u⟩ := h.split
  exact Sat.mk (On.exC hP h1) h2 d
/-- a whole group opened -/
theorem Sat.opnL {ds : List Ch} (h : Sat H (ds ++ cs)) : ∃ F, SatF H ds F ∧ ∀ ds' F' H', Step F H F' H' → SatF H' ds' F' → Sat H' (ds' ++ cs) := by
  obtain ⟨F, h⟩ := h
  obtain ⟨F1, F2, h1, h2, d, u⟩ := h.split
  refine ⟨F1, h1, fun ds' F' H' st o => ⟨_, o.join (h2.keep fun b o g e => st.1 b o (fun x => d b x g) e) fun b x g => ?_⟩⟩
  rcases st.2 b x with y | y
  · exact d b y g
  · obtain ⟨o, e⟩ := h2.own b g
    rw [y] at e; cases e
theorem SatF.one (h : c.On H F) : SatF H [c] F := ⟨F, fun _ => False, h, fun _ z => z, fun _ _ z => z, fun b => ⟨.inl, fun z => z.elim id fun z => z.elim⟩⟩
theorem SatF.of1 (h : SatF H [c] F) : c.On H F := by
  obtain ⟨F1, F2, h1, h2, d, u⟩ := h
  have e : F1 = F := funext fun b => propext ⟨fun z => (u b).mpr (.inl z), fun z => ((u b).mp z).elim id fun z => (h2 b z).elim⟩
  rw [← e]; exact h1
/-- the law's pool -/
def poolC (p : Addr) (n : Int) : Ch := exC (fun o => PoolO n o) fun o => [.pt p o]
theorem Sat.pool {n : Int} (h : Sat H (poolC p n :: cs)) : ∃ o, H p = some o ∧ PoolO n o := by
  obtain ⟨o, hP, h⟩ := h.exE
  exact ⟨o, h.get .hd, hP⟩
theorem Sat.poolp {n m : Int} (h : Sat H (poolC p n :: cs)) (hP : PoolO m o) (g : upd H p o = H1) : Sat H1 (poolC p m :: cs) := by
  obtain ⟨o, _, h⟩ := h.exE
  exact Sat.exI _ hP (Sat.put h g)
theorem Sat.poolup {n m : Int} (h : Sat H (poolC p n :: cs)) (l : n ≤ m) : Sat H (poolC p m :: cs) := by
  obtain ⟨o, hP, h⟩ := h.exE
  exact Sat.exI o (hP.up l) h
/-- a list that the library may hold -/
def scrC (K : PySem.W.Frag) (a : Addr) (xs : List V) : Ch := .ab fun H F => SqL K H a xs ∧ ((∀ b, F b ↔ b = a) ∨ ∀ b, ¬ F b)
theorem Sat.scr {K : PySem.W.Frag} {xs : List V} (h : Sat H cs) (p : Pull (scrC K a xs) cs cs1) : SqL K H a xs := by
  obtain ⟨F, F1, F2, h1, _⟩ := h.pull p
  exact h1.here.1
theorem Sat.scr0 {K : PySem.W.Frag} {xs : List V} (h : SqL K H a xs) : Sat H [scrC K a xs] := by
  cases e : H a with
  | some o => exact ⟨_, SatF.one (F := fun b => b = a) ⟨fun H' k => ⟨by
      rcases h with (h | ⟨u, h⟩) | h
      · exact .inl (.inl (k a _ rfl h))
      · exact .inl (.inr ⟨u, k a _ rfl h⟩)
      · exact .inr h, .inl fun _ => Iff.rfl⟩, fun b z => ⟨o, by rw [show b = a from z]; exact e⟩⟩⟩
  | none => exact ⟨_, SatF.one (F := fun _ => False) ⟨fun H' k => ⟨by
      rcases h with (h | ⟨u, h⟩) | h
      · rw [e] at h; cases h
      · rw [e] at h; cases h
      · exact .inr h, .inr fun _ z => z⟩, fun b z => z.elim⟩⟩
/-- lists of which nothing but their length is known -/
def jkC (m : Nat) (zs : List Addr) : Ch := .ab fun H F => (∀ z ∈ zs, ∃ xs, H z = some (.lst xs) ∧ xs.length ≤ m) ∧ ∀ b, F b ↔ b ∈ zs
theorem On.jk {m : Nat} {zs : List Addr} (h : ∀ z ∈ zs, ∃ xs, H z = some (.lst xs) ∧ xs.length ≤ m) : (jkC m zs).On H (fun b => b ∈ zs) :=
  ⟨fun H' k => ⟨fun z hz => by obtain ⟨xs, e, l⟩ := h z hz; exact ⟨xs, k z _ hz e, l⟩, fun _ => Iff.rfl⟩, fun b hb => by obtain ⟨xs, e, l⟩ := h b hb; exact ⟨_, e⟩⟩
theorem Sat.jk0 {m : Nat} (h : Sat H cs) : Sat H (jkC m [] :: cs) := by
  obtain ⟨F, h⟩ := h
  exact Sat.mk (On.jk (fun z hz => by cases hz)) h (fun b z => by cases z)
theorem Sat.jk1 {m : Nat} {zs : List Addr} {xs : List V} (h : Sat H (.pt a (.lst xs) :: jkC m zs :: cs)) (l : xs.length ≤ m) : Sat H (jkC m (a :: zs) :: cs) := by
  obtain ⟨F, F1, F2, h1, ⟨F3, F4, h3, h4, d2, u2⟩, d, u⟩ := h
  have e1 := h1.here.2
  have e3 := h3.here.2
  refine Sat.mk (On.jk (fun z hz => ?_)) h4 (fun b z => ?_)
  · rcases List.mem_cons.mp hz with rfl | hz
    · exact ⟨xs, h1.here.1, l⟩
    · exact h3.here.1 z hz
  · rcases List.mem_cons.mp z with rfl | z
    · exact fun w => d b ((e1 b).mpr rfl) ((u2 b).mpr (.inr w))
    · exact d2 b ((e3 b).mpr z)
theorem Sat.jkup {m n : Nat} {zs : List Addr} (h : Sat H (jkC m zs :: cs)) (l : m ≤ n) : Sat H (jkC n zs :: cs) := by
  obtain ⟨F, F1, F2, h1, h2, d, u⟩ := h
  have e1 := h1.here.2
  refine Sat.mk (On.jk (fun z hz => ?_)) h2 (fun b z => d b ((e1 b).mpr z))
  obtain ⟨xs, e, lx⟩ := h1.here.1 z hz
  exact ⟨xs, e, by omega⟩
theorem Sat.jksub {m : Nat} {zs ys : List Addr} (h : Sat H (jkC m zs :: cs)) (s : ∀ y ∈ ys, y ∈ zs) : Sat H (jkC m ys :: cs) := by
  obtain ⟨F, F1, F2, h1, h2, d, u⟩ := h
  have e1 := h1.here.2
  exact Sat.mk (On.jk (fun z hz => h1.here.1 z (s z hz))) h2 (fun b z => d b ((e1 b).mpr (s b z)))
theorem Sat.jkadd {m : Nat} {zs ys : List Addr} (h : Sat H (jkC m zs :: jkC m ys :: cs)) : Sat H (jkC m (zs ++ ys) :: cs) := by
  obtain ⟨F, F1, F2, h1, ⟨F3, F4, h3, h4, d2, u2⟩, d, u⟩ := h
  have e1 := h1.here.2
  have e3 := h3.here.2
  refine Sat.mk (On.jk (fun z hz => ?_)) h4 (fun b z => ?_)
  · rcases List.mem_append.mp hz with hz | hz
    · exact h1.here.1 z hz
    · exact h3.here.1 z hz
  · rcases List.mem_append.mp z with z | z
    · exact fun w => d b ((e1 b).mpr z) ((u2 b).mpr (.inr w))
    · exact d2 b ((e3 b).mpr z)
/-- one of them, and what is put in its place -/
theorem Sat.jkE {m : Nat} {zs : List Addr} (h : Sat H (jkC m zs :: cs)) {z : Addr} (hz : z ∈ zs) : ∃ xs, H z = some (.lst xs) ∧ xs.length ≤ m ∧ ∀ xs' H1, xs'.length ≤ m + 1 → upd H z (.lst xs') = H1 → Sat H1 (jkC (m + 1) zs :: cs) := by
  obtain ⟨F, h1, k⟩ := h.opn
  obtain ⟨xs, e, lx⟩ := h1.here.1 z hz
  have hF := h1.here.2
  refine ⟨xs, e, lx, fun xs' H1 l g => ?_⟩
  subst g
  refine k _ (fun b => b ∈ zs) _ (fun b o n e => ?_) (fun b y => .inl ((hF b).mpr y)) (On.jk fun y hy => ?_)
  · rw [upd_ne (fun y => n ((hF b).mpr (by rw [y]; exact hz)))]; exact e
  · by_cases yz : y = z
    · rw [yz]; exact ⟨xs', upd_same, l⟩
    · obtain ⟨ys, ey, ly⟩ := h1.here.1 y hy
      exact ⟨ys, by rw [upd_ne yz]; exact ey, by omega⟩
/-- a device -/
def devC (CD d : Addr) (S : Dst) : Ch := .ab fun H F => ∃ A : Dad, A.d = d ∧ DevAt CD H A F S
theorem On.dev {CD : Addr} {A : Dad} {S : Dst} (h : DevAt CD H A F S) : (devC CD A.d S).On H F := ⟨fun H' k => ⟨A, rfl, h.loc k⟩, h.own⟩
theorem Sat.dev {CD d : Addr} {S : Dst} (h : Sat H (devC CD d S :: cs)) : ∃ A F, A.d = d ∧ DevAt CD H A F S ∧ ∀ ds' F' H', Step F H F' H' → SatF H' ds' F' → Sat H' (ds' ++ cs) := by
  obtain ⟨F, h1, k⟩ := Sat.opnL (ds := [devC CD d S]) h
  obtain ⟨A, e, hA⟩ := h1.of1.here
  exact ⟨A, F, e, hA, k⟩
/-- a told log -/
def ntsC (q : Addr) (ns : List Nt) : Ch := .ab fun H F => ∃ vs G, H q = some (.lst vs) ∧ Nts H G vs ns ∧ ¬ G q ∧ (∀ b, G b → ∃ o, H b = some o) ∧ ∀ b, F b ↔ b = q ∨ G b
theorem On.nts {q : Addr} {ns : List Nt} {vs : List V} {G : Addr → Prop} (e : H q = some (.lst vs)) (h : Nts H G vs ns) (n : ¬ G q) (al : ∀ b, G b → ∃ o, H b = some o) : (ntsC q ns).On H (fun b => b = q ∨ G b) :=
  ⟨fun H' k => ⟨vs, G, k q _ (.inl rfl) e, h.keep (fun b o z e => k b o (.inr z) e) (fun _ z => z), n, fun b z => (al b z).elim fun o e => ⟨o, k b o (.inr z) e⟩, fun _ => Iff.rfl⟩, fun b z => z.elim (fun z => ⟨.lst vs, by rw [z]; exact e⟩) (al b)⟩
theorem Sat.nts {q : Addr} {ns : List Nt} (h : Sat H cs) (p : Pull (ntsC q ns) cs cs1) : ∃ vs G, H q = some (.lst vs) ∧ Nts H G vs ns := by
  obtain ⟨F, F1, F2, h1, _⟩ := h.pull p
  obtain ⟨vs, G, e, N, _⟩ := h1.here
  exact ⟨vs, G, e, N⟩
end
end Sip
namespace Sip
open PySem PySem.Spec PyProof.Rows L2 TL

abbrev DQ := Hp → Dad → (Addr → Prop) → Dst → Prop
def spLeft (PA : DQ) : Sp := fun vs H Q _ => ∃ (A : Dad) (F : Addr → Prop) (S : Dst), vs = [.ref A.d] ∧ PA H A F S ∧ Q (.int ((S.plan.length : Int) - S.used)) H
def DstOk (S : Dst) : Prop := S.used ≤ S.plan.length ∧ S.plan.length ≤ 100000 ∧ S.ns.length ≤ 8000000
/-- the number that an ask uses, if one is left -/
def planN (S : Dst) : Option Int := S.plan[S.used]?
def usedS (S : Dst) : Dst := if S.used < S.plan.length then { S with used := S.used + 1 } else S
/-- how many of so many an ask may have -/
def mayF (S : Dst) (n : Int) : Int := match planN S with | none => n | some k => min n k
/-- a fault of this number flies: the device stands so -/
def FaultTo (PA : DQ) (E : XK) (C : Addr) (H : Hp) (A : Dad) (F : Addr → Prop) (S : Dst) (n : Int) : Prop := ∀ (H' : Hp) (F' : Addr → Prop) (d : Addr), PA H' A F' S → H d = none → H' d = some (.xd [("taken", .int 0), ("number", .int n)]) → ¬ F' d → Step F H F' H' → E (.ref C) (some d) H'
theorem usedS_cells (S : Dst) : (usedS S).cells = S.cells := by unfold usedS; split <;> rfl
theorem usedS_spot (S : Dst) : (usedS S).spot = S.spot := by unfold usedS; split <;> rfl
theorem usedS_ok {S : Dst} (h : DstOk S) : DstOk (usedS S) := by
  obtain ⟨h1, h2, h3⟩ := h
  unfold usedS
  split
  · exact ⟨by show S.used + 1 ≤ S.plan.length; omega, h2, h3⟩
  · exact ⟨h1, h2, h3⟩
theorem noted (S : Dst) (w : Str) (h c : Tg) : ({ usedS S with ns := (usedS S).ns ++ [⟨w, (usedS S).spot, h, c⟩] } : Dst) = { usedS S with ns := S.ns ++ [⟨w, S.spot, h, c⟩] } := by unfold usedS; split <;> rfl
theorem may_nn {S : Dst} {n : Nat} (h : ∀ k, planN S = some k → 0 ≤ k) : 0 ≤ mayF S n := by
  unfold mayF
  cases e : planN S with
  | none => show (0 : Int) ≤ n; omega
  | some k => have := h k e; show 0 ≤ min (n : Int) k; omega
theorem new_of {F F' : Addr → Prop} {H H' : Hp} {z : Addr} (st : Step F H F' H') (h : ∀ b, F b → H' b ≠ none) (nz : H' z = none) : H z = none := by
  cases e : H z with
  | none => rfl
  | some o =>
    have := st.1 z o (fun f => h z f nz) e
    rw [nz] at this; cases this
theorem DevAt.some {CD : Addr} {H : Hp} {A : Dad} {F : Addr → Prop} {S : Dst} (h : DevAt CD H A F S) : ∀ b, F b → H b ≠ none := fun b f z => h.new z f
def spAllowed (PA : DQ) (C : Addr) : Sp := fun vs H Q E => ∃ (A : Dad) (F : Addr → Prop) (S : Dst) (n : Int), vs = [.ref A.d, .int n] ∧ PA H A F S ∧ DstOk S ∧
  ((∀ k, planN S = some k → 0 ≤ k) → ∀ H', PA H' A F (usedS S) → Step F H F H' → Q (.int (mayF S n)) H') ∧
  (∀ k, planN S = some k → k < 0 → FaultTo PA E C H A F (usedS S) (-k))
theorem at_map {xs : List Int} {i : Nat} {k : Int} (h : xs[i]? = some k) : atI (xs.map V.int) (i : Int) = some (.int k) := atI_nat (by rw [List.getElem?_map, h]; rfl)
def spNoteD (PA : DQ) : Sp := fun vs H Q _ => ∃ (A : Dad) (w : Str) (hv cv : V) (F G0 : Addr → Prop) (S : Dst) (h c : Tg), vs = [.ref A.d, .str w, hv, cv] ∧ PA H A F S ∧ DstOk S ∧ TgAt H G0 hv h ∧ TgAt H G0 cv c ∧ NtOk ⟨w, S.spot, h, c⟩ ∧ (∀ b, G0 b → ¬ F b) ∧ (∀ b, G0 b → ∃ o, H b = some o) ∧
  ∀ (H' : Hp) (F' : Addr → Prop), PA H' A F' { S with ns := S.ns ++ [⟨w, S.spot, h, c⟩] } → (∀ b o, ¬ F b → H b = some o → H' b = some o) → (∀ b, F' b → F b ∨ G0 b ∨ H b = none) → Q .non H'

def spOpenD (PA : DQ) : Sp := fun vs H Q _ => ∃ (A : Dad) (F : Addr → Prop) (S : Dst), vs = [.ref A.d] ∧ PA H A F S ∧ S.bar = false ∧ Q .non H
def spMaytD (PA : DQ) : Sp := fun vs H Q _ => ∃ (A : Dad) (F : Addr → Prop) (S : Dst), vs = [.ref A.d] ∧ PA H A F S ∧ Q .non H
/-- the bytes that a take of so many tells -/
def takenF (S : Dst) (n : Int) : List Int := (S.cells.drop S.spot).take (mayF S n).toNat
def spGiveD (PA : DQ) (C : Addr) : Sp := fun vs H Q E => ∃ (A : Dad) (F : Addr → Prop) (S : Dst) (n : Nat), vs = [.ref A.d, .int n] ∧ PA H A F S ∧ DstOk S ∧
  ((∀ k, planN S = some k → 0 ≤ k) → ∀ (H' : Hp) (q : Addr), PA H' A F (usedS S) → (mayF S n ≠ 0 → H q = none ∧ H' q = some (.lst ((takenF S n).map V.int))) → Step F H F H' → Q (if mayF S n = 0 then .non else .ref q) H') ∧
  (∀ k, planN S = some k → k < 0 → FaultTo PA E C H A F (usedS S) (-k))
/-- how a take leaves it -/
def tookS (S : Dst) (n : Int) : Dst := if mayF S n = 0 then { usedS S with ns := S.ns ++ [⟨Str.ofString "take", S.spot, .i n, .s (Str.ofString "stall")⟩] } else { usedS S with spot := S.spot + (takenF S n).length, ns := S.ns ++ [⟨Str.ofString "take", S.spot, .i n, .l (takenF S n)⟩] }
def spTakeD (PA : DQ) (C : Addr) : Sp := fun vs H Q E => ∃ (A : Dad) (F : Addr → Prop) (S : Dst) (n : Nat), vs = [.ref A.d, .int n] ∧ PA H A F S ∧ DstOk S ∧ S.bar = false ∧
  ((∀ k, planN S = some k → 0 ≤ k) → ∀ (H' : Hp) (F' : Addr → Prop) (q : Addr), PA H' A F' (tookS S n) → (mayF S n ≠ 0 → H q = none ∧ H' q = some (.lst ((takenF S n).map V.int)) ∧ ¬ F' q) → Step F H F' H' → Q (if mayF S n = 0 then .non else .ref q) H') ∧
  (∀ k, planN S = some k → k < 0 → FaultTo PA E C H A F { usedS S with ns := S.ns ++ [⟨Str.ofString "take", S.spot, .i n, .s (Str.ofString "fault")⟩] } (-k))
theorem del_from (r : List Int) (n : Nat) : delV (r.map V.int) (some (n : Int)) none = (r.take n).map V.int := by
  unfold delV delL
  rw [HT.sIx_none, HT.sIx_nat, List.length_map, List.map_take]
  by_cases h : n ≤ r.length
  · rw [Nat.min_eq_left h]; simp; omega
  · rw [Nat.min_eq_right (by omega), List.take_of_length_le (l := r.map V.int) (i := n) (by rw [List.length_map]; omega)]; simp
def goneS (S : Dst) (w : Str) (n : Nat) : Dst := { usedS S with ns := S.ns ++ [⟨w, S.spot, .i n, .s (Str.ofString "fault")⟩] }
def spGoD (PA : DQ) (C : Addr) : Sp := fun vs H Q E => ∃ (A : Dad) (F : Addr → Prop) (S : Dst) (n : Nat), vs = [.ref A.d, .int n] ∧ PA H A F S ∧ DstOk S ∧ S.bar = false ∧ S.seek = true ∧ n ≤ 4000 ∧
  ((∀ k, planN S = some k → 0 ≤ k) → ∀ (H' : Hp) (F' : Addr → Prop), PA H' A F' { usedS S with spot := n, ns := S.ns ++ [⟨Str.ofString "go", S.spot, .i n, .i 0⟩] } → Step F H F' H' → Q .non H') ∧
  (∀ k, planN S = some k → k < 0 → FaultTo PA E C H A F (goneS S (Str.ofString "go") n) (-k))
def spCutD (PA : DQ) (C : Addr) : Sp := fun vs H Q E => ∃ (A : Dad) (F : Addr → Prop) (S : Dst) (n : Nat), vs = [.ref A.d, .int n] ∧ PA H A F S ∧ DstOk S ∧ S.bar = false ∧ S.seek = true ∧ n ≤ 4000 ∧
  ((∀ k, planN S = some k → 0 ≤ k) → ∀ (H' : Hp) (F' : Addr → Prop), PA H' A F' { usedS S with cells := S.cells.take n, ns := S.ns ++ [⟨Str.ofString "cut", S.spot, .i n, .i 0⟩] } → Step F H F' H' → Q .non H') ∧
  (∀ k, planN S = some k → k < 0 → FaultTo PA E C H A F (goneS S (Str.ofString "cut") n) (-k))
theorem noted_c (S : Dst) (xs : List Int) (w : Str) (h c : Tg) : ({ ({ usedS S with cells := xs } : Dst) with ns := (usedS S).ns ++ [⟨w, (usedS S).spot, h, c⟩] } : Dst) = { usedS S with cells := xs, ns := S.ns ++ [⟨w, S.spot, h, c⟩] } := by unfold usedS; split <;> rfl
/-- how many bytes a put of so many takes -/
def putN (S : Dst) (ds : List Int) : Nat := (mayF S (ds.length : Int)).toNat
def laidS (S : Dst) (ds : List Int) : List Int := laidF S.cells S.spot (ds.take (putN S ds))
def spAcceptD (PA : DQ) (C : Addr) : Sp := fun vs H Q E => ∃ (A : Dad) (d : Addr) (F : Addr → Prop) (S : Dst) (ds : List Int), vs = [.ref A.d, .ref d] ∧ PA H A F S ∧ DstOk S ∧ ¬ F d ∧ H d = some (.lst (ds.map V.int)) ∧ S.cells.length ≤ 10000 ∧ S.spot ≤ 4400 ∧ ds.length ≤ 4400 ∧
  ((∀ k, planN S = some k → 0 ≤ k) → ∀ (H' : Hp) (c : Addr) (F' : Addr → Prop), PA H' { A with c := c } F' { usedS S with cells := laidS S ds } → Step F H F' H' → Q (if putN S ds = 0 then .non else .int (putN S ds)) H') ∧
  (∀ k, planN S = some k → k < 0 → FaultTo PA E C H A F (usedS S) (-k))
def spMaypD (PA : DQ) : Sp := fun vs H Q _ => ∃ (A : Dad) (d : Addr) (F : Addr → Prop) (S : Dst) (ds : List Int), vs = [.ref A.d, .ref d] ∧ PA H A F S ∧ H d = some (.lst (ds.map V.int)) ∧ (S.seek = true → S.cells.length ≤ 4000 ∧ S.spot + ds.length ≤ 4000) ∧ Q .non H
def putS (S : Dst) (ds : List Int) : Dst := { usedS S with cells := laidS S ds, spot := S.spot + putN S ds, ns := S.ns ++ [⟨Str.ofString "put", S.spot, .l ds, if putN S ds = 0 then .s (Str.ofString "stall") else .i (putN S ds)⟩] }
theorem putS_stall {S : Dst} {ds : List Int} (h0 : putN S ds = 0) : putS S ds = { usedS S with cells := laidS S ds, ns := S.ns ++ [⟨Str.ofString "put", S.spot, .l ds, .s (Str.ofString "stall")⟩] } := by
  unfold putS
  rw [h0, if_pos rfl]
  unfold usedS
  split <;> rfl
def spPutD (PA : DQ) (C : Addr) : Sp := fun vs H Q E => ∃ (A : Dad) (d : Addr) (F : Addr → Prop) (S : Dst) (ds : List Int), vs = [.ref A.d, .ref d] ∧ PA H A F S ∧ DstOk S ∧ S.bar = false ∧ H d = some (.lst (ds.map V.int)) ∧ (S.seek = true → S.cells.length ≤ 4000 ∧ S.spot + ds.length ≤ 4000) ∧ S.cells.length ≤ 10000 ∧ S.spot ≤ 4400 ∧ ds.length ≤ 4400 ∧
  ((∀ k, planN S = some k → 0 ≤ k) → ∀ (H' : Hp) (c : Addr) (F' : Addr → Prop), PA H' { A with c := c } F' (putS S ds) → Step F H F' H' → Q (if putN S ds = 0 then .non else .int (putN S ds)) H') ∧
  (∀ k, planN S = some k → k < 0 → FaultTo PA E C H A F { usedS S with ns := S.ns ++ [⟨Str.ofString "put", S.spot, .l ds, .s (Str.ofString "fault")⟩] } (-k))
def spLenC : Sp := fun vs H Q _ => ∃ v : Int, vs = [.int v] ∧ v ≤ 4000 ∧ Q .non H
def spExtD (PA : DQ) : Sp := fun vs H Q _ => ∃ (A : Dad) (F : Addr → Prop) (S : Dst), vs = [.ref A.d] ∧ PA H A F S ∧ Q (.int S.cells.length) H
def spSeeksD (PA : DQ) : Sp := fun vs H Q _ => ∃ (A : Dad) (F : Addr → Prop) (S : Dst), vs = [.ref A.d] ∧ PA H A F S ∧ S.seek = true ∧ Q .non H
def spContD (PA : DQ) : Sp := fun vs H Q _ => ∃ (A : Dad) (F : Addr → Prop) (S : Dst), vs = [.ref A.d] ∧ PA H A F S ∧ ∀ (H' : Hp) (q : Addr), H q = none → H' q = some (.lst (S.cells.map V.int)) → Same H H' → Q (.ref q) H'
def spMoveD (PA : DQ) (C : Addr) : Sp := fun vs H Q E => ∃ (A : Dad) (F : Addr → Prop) (S : Dst) (n : Int), vs = [.ref A.d, .int n] ∧ PA H A F S ∧ DstOk S ∧
  ((∀ k, planN S = some k → 0 ≤ k) → ∀ H', PA H' A F (usedS S) → Step F H F H' → Q .non H') ∧ (∀ k, planN S = some k → k < 0 → FaultTo PA E C H A F (usedS S) (-k))
def spTrimD (PA : DQ) (C : Addr) : Sp := fun vs H Q E => ∃ (A : Dad) (F : Addr → Prop) (S : Dst) (n : Nat), vs = [.ref A.d, .int n] ∧ PA H A F S ∧ DstOk S ∧
  ((∀ k, planN S = some k → 0 ≤ k) → ∀ H', PA H' A F { usedS S with cells := S.cells.take n } → Step F H F H' → Q .non H') ∧ (∀ k, planN S = some k → k < 0 → FaultTo PA E C H A F (usedS S) (-k))
theorem cut_0 (xs : List V) : cutV xs (some 0) none = xs := by
  unfold cutV
  rw [HT.sIx_none, show ((0 : Int)) = ((0 : Nat) : Int) from rfl, HT.sIx_nat]
  simp
def spOwnC : Sp := fun vs H Q _ => ∃ (v : V) (t : Tg) (G : Addr → Prop), vs = [v] ∧ TgAt H G v t ∧ ∀ (H' : Hp) (v' : V), TgAt H' (fun b => H b = none) v' t → Same H H' → Q v' H'
/-- a log is told: all of it new -/
def LogTo (H : Hp) (Q : VK) (ns : List Nt) : Prop := ∀ (H' : Hp) (q : Addr) (vs : List V) (G : Addr → Prop), H q = none → ¬ G q → H' q = some (.lst vs) → Nts H' G vs ns → (∀ b, G b → H b = none) → Same H H' → Q (.ref q) H'

def spLogD (PA : DQ) : Sp := fun vs H Q _ => ∃ (A : Dad) (F : Addr → Prop) (S : Dst), vs = [.ref A.d] ∧ PA H A F S ∧ DstOk S ∧ LogTo H Q S.ns
def spLogbD (PA : DQ) : Sp := fun vs H Q _ => ∃ (A : Dad) (F : Addr → Prop) (S : Dst), vs = [.ref A.d, .int 0] ∧ PA H A F S ∧ DstOk S ∧ LogTo H Q S.ns

def spGrowD (PA : DQ) : Sp := fun vs H Q _ => ∃ (A : Dad) (d : Addr) (F : Addr → Prop) (S : Dst) (ds : List Int), vs = [.ref A.d, .ref d] ∧ PA H A F S ∧ ¬ F d ∧ H d = some (.lst (ds.map V.int)) ∧ (S.seek = true → S.cells.length + ds.length ≤ 4000) ∧ S.cells.length + ds.length ≤ 100000 ∧
  ∀ H', PA H' A F { S with cells := S.cells ++ ds } → Step F H F H' → Q .non H'

theorem dfs_new (A : Dad) (k : Bool) : putF ("used" : Str) (.int 0) (putF ("plan" : Str) (.ref A.p) (putF ("cells" : Str) (.ref A.c) (putF ("notes" : Str) (.ref A.l) (putF ("barred" : Str) (.bl false) (putF ("spot" : Str) (.int 0) (putF ("can_seek" : Str) (.bl k) [])))))) = dfs A k 0 false 0 := by unfold dfs; kernel_rfl
def spRInitB (K : PySem.W.Frag) : Sp := fun vs H Q _ => ∃ (e C dx : Addr) (k : Bool), vs = [.ref e, .bl k] ∧ H e = some (.ins C dx []) ∧ Cls K C ∧ NoAttr K C "can_seek" ∧ NoAttr K C "spot" ∧ NoAttr K C "barred" ∧ NoAttr K C "notes" ∧
  ∀ (H' : Hp) (l : Addr), H l = none → H' l = some (.lst []) → H' e = some (.ins C dx (putF ("notes" : Str) (.ref l) (putF ("barred" : Str) (.bl false) (putF ("spot" : Str) (.int 0) (putF ("can_seek" : Str) (.bl k) []))))) → Kp [e] H H' → Q .non H'
def spDInit (CD : Addr) (PA : DQ) : Sp := fun vs H Q _ => ∃ (d dd a p : Addr) (k : Bool) (row plan : List Int), vs = [.ref d, .ref a, .ref p, .bl k] ∧ H d = some (.ins CD dd []) ∧ H a = some (.lst (row.map V.int)) ∧ H p = some (.lst (plan.map V.int)) ∧
  ∀ (H' : Hp) (A : Dad) (F : Addr → Prop), A.d = d → PA H' A F ⟨k, 0, false, [], row, plan, 0⟩ → Step (fun b => b = d ∨ b = dd) H F H' → Q .non H'
end Sip
/-! promises over a heap in pieces: the draws, the device -/
namespace Sip
open PySem PySem.Spec PyProof.Rows L2 TL
section
variable {H H' H1 : Hp} {c d : Ch} {cs ds cs1 R : List Ch} {F F1 F2 F' : Addr → Prop} {a b l p q : Addr} {o o' o1 : HO} {vs : List V} {Q : VK} {E : XK} {CD C x dx : Addr} {S : Dst}
theorem Pk.none : ∀ cs : List Ch, Pk cs []
  | [] => .nil
  | c :: cs => .drop (Pk.none cs)
theorem Step.add (st : Step F H F' H') (n : H q = none) : Step F H (fun b => F' b ∨ b = q) H' := ⟨st.1, fun b z => z.elim (st.2 b) fun y => .inr (by rw [y]; exact n)⟩
theorem SatF.two (h1 : c.On H F1) (h2 : d.On H F2) (n : ∀ b, F1 b → ¬ F2 b) : SatF H [c, d] (fun b => F1 b ∨ F2 b) := ⟨F1, F2, h1, SatF.one h2, n, fun _ => Iff.rfl⟩
/-- an object made -/
theorem Sat.make (h : Sat H cs) (n : H x = none) (m : H dx = none) (ne : dx ≠ x) (g : upd (upd H dx o') x o = H1) : Sat H1 (.pt x o :: .pt dx o' :: cs) := by
  have h1 := h.alloc m rfl (o := o')
  exact h1.alloc (by rw [upd_ne ne.symm]; exact n) g
def spTakeS : Sp := fun vs H Q _ => ∃ (p : Addr) (n wide : Int) (R : List Ch), vs = [.ref p, .int wide] ∧ Sat H (poolC p n :: R) ∧ n ≤ 1000000000 ∧ 0 < wide ∧ wide < 1073741824 ∧
  ∀ (r : Nat) (H' : Hp), (r : Int) < wide → Sat H' (poolC p (n + 1) :: R) → Q (.int r) H'
theorem spTakeS.to (h : spTakeS vs H Q E) : spTake vs H Q E := by
  obtain ⟨p, n, wide, R, rfl, h, a, b, c, q⟩ := h
  obtain ⟨o, e, P⟩ := h.pool
  refine ⟨p, n, wide, o, rfl, e, P, a, b, c, fun r o' r0 r1 P' => ?_⟩
  obtain ⟨k, rfl⟩ := Int.eq_ofNat_of_zero_le r0
  exact q k _ r1 (h.poolp P' rfl)
def spPoolS (K : PySem.W.Frag) : Sp := fun vs H Q _ => ∃ (a : Addr) (ns : List Int) (i : Int) (R : List Ch), vs = [.ref a, .int i] ∧ Sat H (scrC K a (ns.map V.int) :: R) ∧ ns.length ≤ 63 ∧ 0 ≤ i ∧ i ≤ 1000 ∧
  ∀ (p : Addr) (H' : Hp), Sat H' (poolC p (1000 * i) :: scrC K a (ns.map V.int) :: R) → Q (.ref p) H'
theorem spPoolS.to {K : PySem.W.Frag} (h : spPoolS K vs H Q E) : spPool K vs H Q E := by
  obtain ⟨a, ns, i, R, rfl, h, a1, b, c, q⟩ := h
  exact ⟨a, ns, i, rfl, h.scr .hd, a1, b, c, fun p o np P => q p _ (Sat.exI o P (h.alloc np rfl))⟩
/-- a call that changes the pool alone and makes one list -/
theorem Sat.kp1 {n m : Int} (h : Sat H (poolC p n :: R)) (k : Kp [p] H H') (nb : H b = none) (eb : H' b = some o) (ep : H' p = some o1) (hP : PoolO m o1) : Sat H' (poolC p m :: .pt b o :: R) := by
  obtain ⟨o2, hP2, h⟩ := h.exE
  obtain ⟨F, h1, kk⟩ := Sat.opnL (ds := [.pt p o2]) h
  have e1 := h1.of1.here
  have pb : p ≠ b := fun z => by rw [← z, e1.1] at nb; cases nb
  refine Sat.exI o1 hP (kk [.pt p o1, .pt b o] (fun x => x = p ∨ x = b) H' ⟨fun x o n e => k x o (by simpa using fun z => n ((e1.2 x).mpr z)) e, fun x z => ?_⟩ (SatF.two (On.pt ep) (On.pt eb) fun x y z => pb (y.symm.trans z)))
  rcases z with rfl | rfl
  · exact .inl ((e1.2 _).mpr rfl)
  · exact .inr nb
def spRowL : Sp := fun vs H Q _ => ∃ (p : Addr) (n N : Int) (o : HO), vs = [.ref p, .int N] ∧ H p = some o ∧ PoolO n o ∧ n ≤ 900000000 ∧ 0 ≤ N ∧ N ≤ 400 ∧
  ∀ (H' : Hp) (b : Addr) (bs : List Int) (o' : HO), H b = none → H' b = some (.lst (bs.map V.int)) → H' p = some o' → PoolO (n + 1000) o' → Kp [p] H H' → (bs.length : Int) ≤ N → Bytes bs → Q (.ref b) H'
def spRowS : Sp := fun vs H Q _ => ∃ (p : Addr) (n N : Int) (R : List Ch), vs = [.ref p, .int N] ∧ Sat H (poolC p n :: R) ∧ n ≤ 900000000 ∧ 0 ≤ N ∧ N ≤ 400 ∧
  ∀ (H' : Hp) (b : Addr) (bs : List Int), Sat H' (poolC p (n + 1000) :: .pt b (.lst (bs.map V.int)) :: R) → (bs.length : Int) ≤ N → Bytes bs → Q (.ref b) H'
theorem spRowS.to (h : spRowS vs H Q E) : spRowL vs H Q E := by
  obtain ⟨p, n, N, R, rfl, h, a, b, c, q⟩ := h
  obtain ⟨o, e, P⟩ := h.pool
  exact ⟨p, n, N, o, rfl, e, P, a, b, c, fun H' b bs o' nb eb ep hP k lb hb => q H' b bs (h.kp1 k nb eb ep hP) lb hb⟩
def spPlanL : Sp := fun vs H Q _ => ∃ (p : Addr) (n N tr : Int) (o : HO), vs = [.ref p, .int N, .int tr] ∧ H p = some o ∧ PoolO n o ∧ n ≤ 900000000 ∧ 0 ≤ N ∧ N ≤ 200 ∧
  ∀ (H' : Hp) (b : Addr) (ns : List Int) (o' : HO), H b = none → H' b = some (.lst (ns.map V.int)) → H' p = some o' → PoolO (n + 1000) o' → Kp [p] H H' → (ns.length : Int) ≤ N → Q (.ref b) H'
def spPlanS : Sp := fun vs H Q _ => ∃ (p : Addr) (n N tr : Int) (R : List Ch), vs = [.ref p, .int N, .int tr] ∧ Sat H (poolC p n :: R) ∧ n ≤ 900000000 ∧ 0 ≤ N ∧ N ≤ 200 ∧
  ∀ (H' : Hp) (b : Addr) (ns : List Int), Sat H' (poolC p (n + 1000) :: .pt b (.lst (ns.map V.int)) :: R) → (ns.length : Int) ≤ N → Q (.ref b) H'
theorem spPlanS.to (h : spPlanS vs H Q E) : spPlanL vs H Q E := by
  obtain ⟨p, n, N, tr, R, rfl, h, a, b, c, q⟩ := h
  obtain ⟨o, e, P⟩ := h.pool
  exact ⟨p, n, N, tr, o, rfl, e, P, a, b, c, fun H' b bs o' nb eb ep hP k lb => q H' b bs (h.kp1 k nb eb ep hP) lb⟩
def spLaidW : Sp := fun vs H Q _ => ∃ (a b : Addr) (r ds : List Int) (n : Nat), vs = [.ref a, .int n, .ref b] ∧ H a = some (.lst (r.map V.int)) ∧ H b = some (.lst (ds.map V.int)) ∧ r.length ≤ 100000 ∧ n ≤ 100000 ∧ ds.length ≤ 100000 ∧
  ∀ (H' : Hp) (q : Addr), H q = none → H' q = some (.lst ((laidF r n ds).map V.int)) → Same H H' → Q (.ref q) H'
def spLaidS : Sp := fun vs H Q _ => ∃ (a b : Addr) (r ds : List Int) (n : Nat) (R : List Ch), vs = [.ref a, .int n, .ref b] ∧ Sat H R ∧ H a = some (.lst (r.map V.int)) ∧ H b = some (.lst (ds.map V.int)) ∧ r.length ≤ 100000 ∧ n ≤ 100000 ∧ ds.length ≤ 100000 ∧
  ∀ (H' : Hp) (q : Addr), Sat H' (.pt q (.lst ((laidF r n ds).map V.int)) :: R) → Q (.ref q) H'
theorem spLaidS.to (h : spLaidS vs H Q E) : spLaidW vs H Q E := by
  obtain ⟨a, b, r, ds, n, R, rfl, h, ha, hb, l1, l2, l3, q⟩ := h
  exact ⟨a, b, r, ds, n, rfl, ha, hb, l1, l2, l3, fun H' z nz ez s => q H' z (h.fresh s nz ez)⟩
/-! the device's calls -/
def devMs : List Str := ["take", "put", "go", "cut", "shut", "place", "size", "seeks", "is_shut", "log", "log_behind", "note", "check_open", "check_seeks", "may_take", "may_put", "may_cut", "give", "accept", "move", "trim", "extent", "grow", "content", "left", "allowed"]
theorem meth_dev {m : Str} {G : Prop} (h : Sat H (devC CD a S :: R)) (hm : m ∈ devMs) (g : G) : ∃ (x dx : Addr) (fs : List (Str × V)), V.ref a = .ref x ∧ H x = some (.ins CD dx fs) ∧ fs.lookup m = none ∧ G := by
  obtain ⟨A, F, rfl, ⟨dd, ws, G, I, hF⟩, k⟩ := h.dev
  exact ⟨A.d, dd, _, rfl, I.hd, dfs_no _ _ _ _ _ m hm, g⟩
theorem SatF.dev1 {A : Dad} (h : DevAt CD H A F S) : SatF H [devC CD A.d S] F := SatF.one (On.dev h)
theorem SatF.dev2 {A : Dad} (h : DevAt CD H A F S) (e : H q = some o) (n : ¬ F q) : SatF H [devC CD A.d S, .pt q o] (fun b => F b ∨ b = q) := SatF.two (On.dev h) (On.pt e) fun b x y => n (by rw [← show b = q from y]; exact x)
/-- a fault flies: the device stands so -/
def FaultS (CD : Addr) (E : XK) (C d : Addr) (R : List Ch) (S : Dst) (n : Int) : Prop := ∀ (H' : Hp) (e : Addr), Sat H' (devC CD d S :: .pt e (.xd [("taken", .int 0), ("number", .int n)]) :: R) → E (.ref C) (some e) H'
def Good (S : Dst) : Prop := ∀ k, planN S = some k → 0 ≤ k
theorem faultS {A : Dad} {n : Int} (k : ∀ ds' F' H', Step F H F' H' → SatF H' ds' F' → Sat H' (ds' ++ R)) (h : FaultS CD E C A.d R S n) : FaultTo (DevAt CD) E C H A F S n := fun H' F' e hA n0 he ne st =>
  h H' e (k [_, _] _ H' (st.add n0) (SatF.dev2 hA he ne))
def noteS (S : Dst) (w : Str) (h c : Tg) : Dst := { usedS S with ns := S.ns ++ [⟨w, S.spot, h, c⟩] }
def spTakeDS (CD C : Addr) : Sp := fun vs H Q E => ∃ (d : Addr) (S : Dst) (n : Nat) (R : List Ch), vs = [.ref d, .int n] ∧ Sat H (devC CD d S :: R) ∧ DstOk S ∧ S.bar = false ∧
  (Good S → mayF S n = 0 → ∀ H', Sat H' (devC CD d (tookS S n) :: R) → Q .non H') ∧
  (Good S → mayF S n ≠ 0 → ∀ (H' : Hp) (q : Addr), Sat H' (.pt q (.lst ((takenF S n).map V.int)) :: devC CD d (tookS S n) :: R) → Q (.ref q) H') ∧
  (∀ k, planN S = some k → k < 0 → FaultS CD E C d R (noteS S (Str.ofString "take") (.i n) (.s (Str.ofString "fault"))) (-k))
theorem spTakeDS.to (h : spTakeDS CD C vs H Q E) : spTakeD (DevAt CD) C vs H Q E := by
  obtain ⟨d, S, n, R, rfl, h, ok, hb, q1, q2, qe⟩ := h
  obtain ⟨A, F, rfl, hA, k⟩ := h.dev
  refine ⟨A, F, S, n, rfl, hA, ok, hb, fun good H' F' q hA' hq st => ?_, fun m em hm => faultS k (qe m em hm)⟩
  by_cases h0 : mayF S n = 0
  · rw [if_pos h0]; exact q1 good h0 H' (k _ _ H' st (SatF.dev1 hA'))
  · rw [if_neg h0]
    obtain ⟨nq, eq, nF⟩ := hq h0
    exact q2 good h0 H' q ((k [_, _] _ H' (st.add nq) (SatF.dev2 hA' eq nF)).pull (.tl .hd))
def spGoDS (CD C : Addr) : Sp := fun vs H Q E => ∃ (d : Addr) (S : Dst) (n : Nat) (R : List Ch), vs = [.ref d, .int n] ∧ Sat H (devC CD d S :: R) ∧ DstOk S ∧ S.bar = false ∧ S.seek = true ∧ n ≤ 4000 ∧
  (Good S → ∀ H', Sat H' (devC CD d { noteS S (Str.ofString "go") (.i n) (.i 0) with spot := n } :: R) → Q .non H') ∧
  (∀ k, planN S = some k → k < 0 → FaultS CD E C d R (noteS S (Str.ofString "go") (.i n) (.s (Str.ofString "fault"))) (-k))
theorem spGoDS.to (h : spGoDS CD C vs H Q E) : spGoD (DevAt CD) C vs H Q E := by
  obtain ⟨d, S, n, R, rfl, h, ok, hb, hs, hn, q1, qe⟩ := h
  obtain ⟨A, F, rfl, hA, k⟩ := h.dev
  exact ⟨A, F, S, n, rfl, hA, ok, hb, hs, hn, fun good H' F' hA' st => q1 good H' (k _ _ H' st (SatF.dev1 hA')), fun m em hm => faultS k (qe m em hm)⟩
def spCutDS (CD C : Addr) : Sp := fun vs H Q E => ∃ (d : Addr) (S : Dst) (n : Nat) (R : List Ch), vs = [.ref d, .int n] ∧ Sat H (devC CD d S :: R) ∧ DstOk S ∧ S.bar = false ∧ S.seek = true ∧ n ≤ 4000 ∧
  (Good S → ∀ H', Sat H' (devC CD d { noteS S (Str.ofString "cut") (.i n) (.i 0) with cells := S.cells.take n } :: R) → Q .non H') ∧
  (∀ k, planN S = some k → k < 0 → FaultS CD E C d R (noteS S (Str.ofString "cut") (.i n) (.s (Str.ofString "fault"))) (-k))
theorem spCutDS.to (h : spCutDS CD C vs H Q E) : spCutD (DevAt CD) C vs H Q E := by
  obtain ⟨d, S, n, R, rfl, h, ok, hb, hs, hn, q1, qe⟩ := h
  obtain ⟨A, F, rfl, hA, k⟩ := h.dev
  exact ⟨A, F, S, n, rfl, hA, ok, hb, hs, hn, fun good H' F' hA' st => q1 good H' (k _ _ H' st (SatF.dev1 hA')), fun m em hm => faultS k (qe m em hm)⟩
def PutFit (S : Dst) (ds : List Int) : Prop := (S.seek = true → S.cells.length ≤ 4000 ∧ S.spot + ds.length ≤ 4000) ∧ S.cells.length ≤ 10000 ∧ S.spot ≤ 4400 ∧ ds.length ≤ 4400
def spPutDS (CD C : Addr) : Sp := fun vs H Q E => ∃ (d l : Addr) (S : Dst) (ds : List Int) (R : List Ch), vs = [.ref d, .ref l] ∧ Sat H (devC CD d S :: R) ∧ H l = some (.lst (ds.map V.int)) ∧ DstOk S ∧ S.bar = false ∧ PutFit S ds ∧
  (Good S → ∀ H', Sat H' (devC CD d (putS S ds) :: R) → Q (if putN S ds = 0 then .non else .int (putN S ds)) H') ∧
  (∀ k, planN S = some k → k < 0 → FaultS CD E C d R (noteS S (Str.ofString "put") (.l ds) (.s (Str.ofString "fault"))) (-k))
theorem spPutDS.to (h : spPutDS CD C vs H Q E) : spPutD (DevAt CD) C vs H Q E := by
  obtain ⟨d, l, S, ds, R, rfl, h, hl, ok, hb, ⟨p1, p2, p3, p4⟩, q1, qe⟩ := h
  obtain ⟨A, F, rfl, hA, k⟩ := h.dev
  exact ⟨A, l, F, S, ds, rfl, hA, ok, hb, hl, p1, p2, p3, p4, fun good H' c F' hA' st => q1 good H' (k _ _ H' st (SatF.dev1 (A := { A with c := c }) hA')), fun m em hm => faultS k (qe m em hm)⟩
def spContDS (CD : Addr) : Sp := fun vs H Q _ => ∃ (d : Addr) (S : Dst) (R : List Ch), vs = [.ref d] ∧ Sat H (devC CD d S :: R) ∧ ∀ (H' : Hp) (q : Addr), Sat H' (.pt q (.lst (S.cells.map V.int)) :: devC CD d S :: R) → Q (.ref q) H'
theorem spContDS.to (h : spContDS CD vs H Q E) : spContD (DevAt CD) vs H Q E := by
  obtain ⟨d, S, R, rfl, h, q⟩ := h
  obtain ⟨A, F, rfl, hA, k⟩ := h.dev
  exact ⟨A, F, S, rfl, hA, fun H' z nz ez s => q H' z (h.fresh s nz ez)⟩
def spGrowDS (CD : Addr) : Sp := fun vs H Q _ => ∃ (d l : Addr) (S : Dst) (ds : List Int) (R : List Ch), vs = [.ref d, .ref l] ∧ Sat H (devC CD d S :: .pt l (.lst (ds.map V.int)) :: R) ∧ (S.seek = true → S.cells.length + ds.length ≤ 4000) ∧ S.cells.length + ds.length ≤ 100000 ∧
  ∀ H', Sat H' (devC CD d { S with cells := S.cells ++ ds } :: .pt l (.lst (ds.map V.int)) :: R) → Q .non H'
theorem spGrowDS.to (h : spGrowDS CD vs H Q E) : spGrowD (DevAt CD) vs H Q E := by
  obtain ⟨d, l, S, ds, R, rfl, h, l1, l2, q⟩ := h
  have hl := h.get (a := l) (.tl .hd)
  have nF : ∀ F, (∃ A : Dad, A.d = d ∧ DevAt CD H A F S) → True := fun _ _ => trivial
  obtain ⟨F0, F, F2, h1, ⟨F3, F4, h3, h4, d2, u2⟩, dj, u⟩ := h
  obtain ⟨A, rfl, hA⟩ := h1.here
  have nl : ¬ F l := fun z => dj l z ((u2 l).mpr (.inl ((h3.here.2 l).mpr rfl)))
  refine ⟨A, l, F, S, ds, rfl, hA, nl, hl, l1, l2, fun H' hA' st => q H' ?_⟩
  have h5 : SatF H (.pt l (.lst (ds.map V.int)) :: R) F2 := ⟨F3, F4, h3, h4, d2, u2⟩
  exact Sat.mk (On.dev hA') (h5.keep fun b o g e => st.1 b o (fun z => dj b z g) e) dj
theorem Nts.shrink {G : Addr → Prop} : ∀ {vs : List V} {ns : List Nt}, Nts H G vs ns → Nts H (fun b => G b ∧ ∃ o, H b = some o) vs ns
  | [], [], _ => trivial
  | v :: vs, n :: ns, ⟨⟨t, hv, cv, e, g, ht, h1, h2, h3⟩, r⟩ => ⟨⟨t, hv, cv, e, ⟨g, _, ht⟩, ht, by
      cases n with
      | mk w p h c => cases h with
        | i n => exact h1
        | s w => exact h1
        | l xs => obtain ⟨a, e, ga, ha⟩ := h1; exact ⟨a, e, ⟨ga, _, ha⟩, ha⟩, by
      cases n with
      | mk w p h c => cases c with
        | i n => exact h2
        | s w => exact h2
        | l xs => obtain ⟨a, e, ga, ha⟩ := h2; exact ⟨a, e, ⟨ga, _, ha⟩, ha⟩, h3⟩, Nts.shrink r⟩
def spLogDS (CD : Addr) : Sp := fun vs H Q _ => ∃ (d : Addr) (S : Dst) (R : List Ch), vs = [.ref d] ∧ Sat H (devC CD d S :: R) ∧ DstOk S ∧ ∀ (H' : Hp) (q : Addr), Sat H' (ntsC q S.ns :: devC CD d S :: R) → Q (.ref q) H'
theorem spLogDS.to (h : spLogDS CD vs H Q E) : spLogD (DevAt CD) vs H Q E := by
  obtain ⟨d, S, R, rfl, h, ok, q⟩ := h
  obtain ⟨A, F, rfl, hA, k⟩ := h.dev
  refine ⟨A, F, S, rfl, hA, ok, fun H' z vs G nz ng ez N g0 s => q H' z ?_⟩
  obtain ⟨F9, h⟩ := h
  refine Sat.mk (On.nts ez N.shrink (fun y => ng y.1) (fun b y => y.2)) (h.keep fun b o _ e => s b o e) fun b y f => ?_
  obtain ⟨o, e⟩ := h.own b f
  rcases y with rfl | y
  · rw [nz] at e; cases e
  · rw [g0 b y.1] at e; cases e
def dst0 (k : Bool) (row plan : List Int) : Dst := ⟨k, 0, false, [], row, plan, 0⟩
def spDInitS (CD : Addr) : Sp := fun vs H Q _ => ∃ (d dd a p : Addr) (k : Bool) (row plan : List Int) (R : List Ch), vs = [.ref d, .ref a, .ref p, .bl k] ∧ Sat H (.pt d (.ins CD dd []) :: .pt dd (.own d) :: R) ∧ H a = some (.lst (row.map V.int)) ∧ H p = some (.lst (plan.map V.int)) ∧
  ∀ H' : Hp, Sat H' (devC CD d (dst0 k row plan) :: R) → Q .non H'
theorem spDInitS.to (h : spDInitS CD vs H Q E) : spDInit CD (DevAt CD) vs H Q E := by
  obtain ⟨d, dd, a, p, k, row, plan, R, rfl, h, ha, hp, q⟩ := h
  refine ⟨d, dd, a, p, k, row, plan, rfl, h.get .hd, ha, hp, fun H' A F e hA st => q H' ?_⟩
  subst e
  obtain ⟨F1, h1, kk⟩ := Sat.opnL (ds := [.pt A.d (.ins CD dd []), .pt dd (.own A.d)]) h
  obtain ⟨F2, F3, h2, h3, _, u⟩ := h1
  have e2 := h2.here.2
  have e3 := h3.of1.here.2
  have eF : (fun b => b = A.d ∨ b = dd) = F1 := funext fun b => propext (by rw [u b, e2 b, e3 b])
  rw [eF] at st
  exact kk _ _ H' st (SatF.dev1 hA)
end
end Sip
/-! the laws' own device: a dict with its row, plan and notes; what comes of an ask -/
namespace Sip
open PySem PySem.Spec PyProof.Rows L2 TL
def ntsK (q : Addr) (ns : List Nt) (ks : List (Addr × List Int)) : Ch := .ab fun H F => ∃ vs G, H q = some (.lst vs) ∧ Nts H G vs ns ∧ ¬ G q ∧ (∀ b, G b → ∃ o, H b = some o) ∧ (∀ x ∈ ks, G x.1 ∧ H x.1 = some (.lst (x.2.map V.int))) ∧ ∀ b, F b ↔ b = q ∨ G b
def tgF (v : V) (t : Tg) : Addr → Prop := fun b => match t, v with
  | .l _, .ref a => b = a
  | _, _ => False
def tgC (v : V) (t : Tg) : Ch := .ab fun H F => F = tgF v t ∧ TgAt H F v t
def kn (v : V) (t : Tg) : List (Addr × List Int) := match v, t with
  | .ref a, .l xs => [(a, xs)]
  | _, _ => []
section
variable {H H' H1 : Hp} {c d : Ch} {cs ds cs1 R : List Ch} {F F1 F2 F' : Addr → Prop} {a b l p q t : Addr} {o o' o1 : HO} {vs : List V} {Q : VK} {E : XK} {CD C x dx : Addr} {S : Dst} {ns : List Nt} {ks : List (Addr × List Int)}
theorem On.ntsK {G : Addr → Prop} (e : H q = some (.lst vs)) (h : Nts H G vs ns) (n : ¬ G q) (al : ∀ b, G b → ∃ o, H b = some o) (kk : ∀ x ∈ ks, G x.1 ∧ H x.1 = some (.lst (x.2.map V.int))) : (ntsK q ns ks).On H (fun b => b = q ∨ G b) :=
  ⟨fun H' k => ⟨vs, G, k q _ (.inl rfl) e, h.keep (fun b o z e => k b o (.inr z) e) (fun _ z => z), n, fun b z => (al b z).elim fun o e => ⟨o, k b o (.inr z) e⟩, fun x hx => ⟨(kk x hx).1, k _ _ (.inr (kk x hx).1) (kk x hx).2⟩, fun _ => Iff.rfl⟩, fun b z => z.elim (fun z => ⟨.lst vs, by rw [z]; exact e⟩) (al b)⟩
theorem Sat.ntsk (h : Sat H cs) (p : Pull (ntsK q ns ks) cs cs1) : ∃ vs G, H q = some (.lst vs) ∧ Nts H G vs ns := by
  obtain ⟨F, F1, F2, h1, _⟩ := h.pull p
  obtain ⟨vs, G, e, N, _⟩ := h1.here
  exact ⟨vs, G, e, N⟩
theorem Sat.kget {xs : List Int} (h : Sat H cs) (p : Pull (ntsK q ns ks) cs cs1) (m : (a, xs) ∈ ks) : H a = some (.lst (xs.map V.int)) := by
  obtain ⟨F, F1, F2, h1, _⟩ := h.pull p
  obtain ⟨vs, G, e, N, _, _, kk, _⟩ := h1.here
  exact (kk _ m).2
theorem Sat.ksub {js : List (Addr × List Int)} (h : Sat H (ntsK q ns ks :: cs)) (s : ∀ x ∈ js, x ∈ ks) : Sat H (ntsK q ns js :: cs) := by
  obtain ⟨F, F1, F2, h1, h2, d, u⟩ := h
  obtain ⟨vs, G, e, N, n, al, kk, hF⟩ := h1.here
  exact Sat.mk (On.ntsK e N n al (fun x hx => kk x (s x hx))) h2 (fun b z => d b ((hF b).mpr z))
theorem Sat.nts0 (h : Sat H (.pt q (.lst []) :: cs)) : Sat H (ntsK q [] [] :: cs) := by
  obtain ⟨F, F1, F2, h1, h2, d, u⟩ := h
  obtain ⟨e, hF⟩ := h1.here
  exact Sat.mk (On.ntsK (G := fun _ => False) e trivial (fun z => z) (fun _ z => z.elim) (fun x hx => by cases hx)) h2 (fun b z => d b ((hF b).mpr (z.elim id fun z => z.elim)))
theorem On.tg {v : V} {t : Tg} (h : TgAt H (tgF v t) v t) : (tgC v t).On H (tgF v t) := by
  refine ⟨fun H' k => ⟨rfl, h.keep k (fun _ z => z)⟩, fun b z => ?_⟩
  cases t with
  | i n => exact absurd z (by unfold tgF; simp)
  | s n => exact absurd z (by unfold tgF; simp)
  | l xs =>
    obtain ⟨a, rfl, ga, ha⟩ := h
    exact ⟨_, by rw [show b = a from z]; exact ha⟩
theorem Sat.tgl {xs : List Int} (h : Sat H (.pt a (.lst (xs.map V.int)) :: cs)) : Sat H (tgC (.ref a) (.l xs) :: cs) := by
  obtain ⟨F, F1, F2, h1, h2, d, u⟩ := h
  obtain ⟨e, hF⟩ := h1.here
  exact Sat.mk (On.tg ⟨a, rfl, rfl, e⟩) h2 (fun b z => d b ((hF b).mpr z))
theorem Sat.tgi (n : Int) (h : Sat H cs) : Sat H (tgC (.int n) (.i n) :: cs) := by
  obtain ⟨F, h⟩ := h
  exact Sat.mk (On.tg (show TgAt H _ (.int n) (.i n) from rfl)) h (fun b z => absurd z (by unfold tgF; simp))
theorem Sat.tgs (w : Str) (h : Sat H cs) : Sat H (tgC (.str w) (.s w) :: cs) := by
  obtain ⟨F, h⟩ := h
  exact Sat.mk (On.tg (show TgAt H _ (.str w) (.s w) from rfl)) h (fun b z => absurd z (by unfold tgF; simp))
theorem Sat.tgE {xs : List Int} {v : V} (h : Sat H (tgC v (.l xs) :: cs)) : ∃ a, v = .ref a ∧ Sat H (.pt a (.lst (xs.map V.int)) :: cs) := by
  obtain ⟨F, F1, F2, h1, h2, d, u⟩ := h
  obtain ⟨eF, a, rfl, ga, ha⟩ := h1.here
  exact ⟨a, rfl, Sat.mk (On.pt ha) h2 (fun b z => d b (by rw [eF]; exact z))⟩
theorem Sat.tgiE {n : Int} {v : V} (h : Sat H (tgC v (.i n) :: cs)) : v = .int n ∧ Sat H cs := by
  obtain ⟨F, F1, F2, h1, h2, d, u⟩ := h
  exact ⟨h1.here.2, F2, h2⟩
theorem Sat.tgsE {w : Str} {v : V} (h : Sat H (tgC v (.s w) :: cs)) : v = .str w ∧ Sat H cs := by
  obtain ⟨F, F1, F2, h1, h2, d, u⟩ := h
  exact ⟨h1.here.2, F2, h2⟩
theorem kn_at {v : V} {t : Tg} {x : Addr × List Int} (hx : x ∈ kn v t) : tgF v t x.1 ∧ ∀ H F, TgAt H F v t → H x.1 = some (.lst (x.2.map V.int)) := by
  cases t with
  | i n => cases v <;> cases hx
  | s n => cases v <;> cases hx
  | l xs =>
    cases v with
    | ref a =>
      cases (List.mem_singleton.mp hx)
      refine ⟨rfl, fun H F h => ?_⟩
      obtain ⟨a', e, _, ha⟩ := h
      cases e
      exact ha
    | _ => cases hx
/-- a note more -/
theorem Sat.note {n : Nt} {hv cv : V} (h : Sat H (ntsK q ns ks :: tgC hv n.h :: tgC cv n.c :: cs)) (ok : NtOk n) : ∃ vs, H q = some (.lst vs) ∧ vs.length = ns.length ∧ ∀ t H1, H t = none →
    upd (upd H t (.tup [.str n.w, .int n.p, hv, cv])) q (.lst (vs ++ [.ref t])) = H1 → Sat H1 (ntsK q (ns ++ [n]) (kn hv n.h ++ (kn cv n.c ++ ks)) :: cs) := by
  obtain ⟨F, h1, k⟩ := Sat.opnL (ds := [ntsK q ns ks, tgC hv n.h, tgC cv n.c]) h
  obtain ⟨FA, FB, hA, ⟨FC, FD, hC, hD, dC, uC⟩, dA, uA⟩ := h1
  have hD := hD.of1
  obtain ⟨vs, G, e, N, nq, al, kk, hF⟩ := hA.here
  obtain ⟨rfl, hT⟩ := hC.here
  obtain ⟨rfl, hU⟩ := hD.here
  refine ⟨vs, e, N.len, fun t H1 nt g => ?_⟩
  subst g
  have ne : ∀ {b o}, H b = some o → b ≠ t := fun {b o} e => ne_of_none e nt
  have tq : t ≠ q := (ne e).symm
  have kq : ∀ b o, b ≠ q → H b = some o → (upd (upd H t (.tup [.str n.w, .int n.p, hv, cv])) q (.lst (vs ++ [.ref t]))) b = some o := fun b o z e => by rw [upd_ne z, upd_ne (ne e)]; exact e
  have Cq : ∀ b, tgF hv n.h b → b ≠ q := fun b z y => dA q ((hF q).mpr (.inl rfl)) ((uC q).mpr (.inl (by rw [← y]; exact z)))
  have Dq : ∀ b, tgF cv n.c b → b ≠ q := fun b z y => dA q ((hF q).mpr (.inl rfl)) ((uC q).mpr (.inr (by rw [← y]; exact z)))
  have Gq : ∀ b, G b → b ≠ q := fun b z y => nq (by rw [← y]; exact z)
  refine k [_] (fun b => b = q ∨ (G b ∨ b = t ∨ tgF hv n.h b ∨ tgF cv n.c b)) _ ⟨fun b o nb e => ?_, fun b z => ?_⟩ (SatF.one (On.ntsK (G := fun b => G b ∨ b = t ∨ tgF hv n.h b ∨ tgF cv n.c b) upd_same (Nts.snoc ⟨t, hv, cv, rfl, .inr (.inl rfl), ?_, ?_, ?_, ok⟩ (N.keep (fun b o z e => kq b o (Gq b z) e) (fun _ z => .inl z))) ?_ ?_ ?_))
  · exact kq b o (fun y => nb ((uA b).mpr (.inl ((hF b).mpr (.inl y))))) e
  · rcases z with z | z | z | z | z
    · exact .inl ((uA b).mpr (.inl ((hF b).mpr (.inl z))))
    · exact .inl ((uA b).mpr (.inl ((hF b).mpr (.inr z))))
    · exact .inr (by rw [z]; exact nt)
    · exact .inl ((uA b).mpr (.inr ((uC b).mpr (.inl z))))
    · exact .inl ((uA b).mpr (.inr ((uC b).mpr (.inr z))))
  · rw [upd_ne tq, upd_same]
  · exact hT.keep (fun b o z e => kq b o (Cq b z) e) (fun _ z => .inr (.inr (.inl z)))
  · exact hU.keep (fun b o z e => kq b o (Dq b z) e) (fun _ z => .inr (.inr (.inr z)))
  · rintro (z | z | z | z)
    · exact nq z
    · exact tq z.symm
    · exact Cq q z rfl
    · exact Dq q z rfl
  · rintro b (z | z | z | z)
    · exact (al b z).elim fun o e => ⟨o, kq b o (Gq b z) e⟩
    · exact ⟨_, by rw [z, upd_ne tq, upd_same]⟩
    · exact (hC.2 b z).elim fun o e => ⟨o, kq b o (Cq b z) e⟩
    · exact (hD.2 b z).elim fun o e => ⟨o, kq b o (Dq b z) e⟩
  · intro x hx
    rcases List.mem_append.mp hx with hx | hx
    · obtain ⟨h1, h2⟩ := kn_at hx
      exact ⟨.inr (.inr (.inl h1)), kq _ _ (Cq _ h1) (h2 _ _ hT)⟩
    · rcases List.mem_append.mp hx with hx | hx
      · obtain ⟨h1, h2⟩ := kn_at hx
        exact ⟨.inr (.inr (.inr h1)), kq _ _ (Dq _ h1) (h2 _ _ hU)⟩
      · exact ⟨.inl (kk x hx).1, kq _ _ (Gq _ (kk x hx).1) (kk x hx).2⟩
/-- the law's own device -/
def mK (rw pl no : Addr) (s : Nat) : List (Key × V) := [(Sum.inr (Str.ofString "row"), .ref rw), (Sum.inr (Str.ofString "spot"), .int s), (Sum.inr (Str.ofString "plan"), .ref pl), (Sum.inr (Str.ofString "notes"), .ref no)]
def modC (m : Addr) (S : Dst) (ks : List (Addr × List Int)) : Ch := exC (fun _ : Addr × Addr × Addr => True) fun x => [.pt m (.dK (mK x.1 x.2.1 x.2.2 S.spot)), .pt x.1 (.lst (S.cells.map V.int)), .pt x.2.1 (.lst (S.plan.map V.int)), ntsK x.2.2 S.ns ks]
theorem Sat.mod {m : Addr} (h : Sat H (modC m S ks :: cs)) : ∃ rw pl no, Sat H (.pt m (.dK (mK rw pl no S.spot)) :: .pt rw (.lst (S.cells.map V.int)) :: .pt pl (.lst (S.plan.map V.int)) :: ntsK no S.ns ks :: cs) := by
  obtain ⟨⟨rw, pl, no⟩, _, h⟩ := h.exE
  exact ⟨rw, pl, no, h⟩
theorem Sat.modI {m rw pl no : Addr} (h : Sat H (.pt m (.dK (mK rw pl no S.spot)) :: .pt rw (.lst (S.cells.map V.int)) :: .pt pl (.lst (S.plan.map V.int)) :: ntsK no S.ns ks :: cs)) : Sat H (modC m S ks :: cs) := Sat.exI (rw, pl, no) trivial h
theorem Sat.modsub {m : Addr} {js : List (Addr × List Int)} (h : Sat H (modC m S ks :: cs)) (s : ∀ x ∈ js, x ∈ ks) : Sat H (modC m S js :: cs) := by
  obtain ⟨rw, pl, no, h⟩ := h.mod
  have h := (h.pull (.tl (.tl (.tl .hd)))).ksub s
  exact Sat.modI (rw := rw) (pl := pl) (no := no) (h.pk (.cons (.tl .hd) (.cons (.tl .hd) (.cons (.tl .hd) .nil))))
theorem Sat.modget {m : Addr} {xs : List Int} (h : Sat H cs) (p : Pull (modC m S ks) cs cs1) (i : (a, xs) ∈ ks) : H a = some (.lst (xs.map V.int)) := by
  obtain ⟨rw, pl, no, h⟩ := (h.pull p).mod
  exact h.kget (.tl (.tl (.tl .hd))) i
theorem mK_row (rw pl no : Addr) (s : Nat) : valV (mK rw pl no s) (Sum.inr (Str.ofString "row")) = some (.ref rw) := by unfold mK; kernel_rfl
theorem mK_spot (rw pl no : Addr) (s : Nat) : valV (mK rw pl no s) (Sum.inr (Str.ofString "spot")) = some (.int s) := by unfold mK; kernel_rfl
theorem mK_plan (rw pl no : Addr) (s : Nat) : valV (mK rw pl no s) (Sum.inr (Str.ofString "plan")) = some (.ref pl) := by unfold mK; kernel_rfl
theorem mK_notes (rw pl no : Addr) (s : Nat) : valV (mK rw pl no s) (Sum.inr (Str.ofString "notes")) = some (.ref no) := by unfold mK; kernel_rfl
theorem mK_prow (rw pl no r : Addr) (s : Nat) : putK (mK rw pl no s) (Sum.inr (Str.ofString "row")) (.ref r) = mK r pl no s := by unfold mK; kernel_rfl
theorem mK_pspot (rw pl no : Addr) (s r : Nat) : putK (mK rw pl no s) (Sum.inr (Str.ofString "spot")) (.int r) = mK rw pl no r := by unfold mK; kernel_rfl
/-- reading and writing an entry -/
theorem mget {m rw pl no : Addr} {s : Nat} {k : Str} {v : V} (e : H m = some (.dK (mK rw pl no s))) (g : valV (mK rw pl no s) (Sum.inr k) = some v) : DGet H m (.str k) (some v) := by
  rw [← g]; exact DGet.k (k := Sum.inr k) e
theorem mput {m rw pl no : Addr} {s : Nat} {k : Str} {v : V} {kvs : List (Key × V)} (e : H m = some (.dK (mK rw pl no s))) (g : putK (mK rw pl no s) (Sum.inr k) v = kvs) : DPut H m (.str k) v (upd H m (.dK kvs)) := by
  rw [← g]; exact DPut.k (k := Sum.inr k) e (by show (4 : Nat) < sizeLine; rw [sizeLine_eq]; decide)
end
/-! what comes of an ask -/
inductive Ask
  | take (n : Nat) | put (ds : List Int) | go (n : Nat) | cut (n : Nat)
def Ask.w : Ask → Str
  | .take _ => Str.ofString "take" | .put _ => Str.ofString "put" | .go _ => Str.ofString "go" | .cut _ => Str.ofString "cut"
def Ask.h : Ask → Tg
  | .take n => .i n | .put ds => .l ds | .go n => .i n | .cut n => .i n
def badN (S : Dst) : Bool := match planN S with
  | some k => decide (k < 0)
  | none => false
def goodT (S : Dst) : Ask → Tg
  | .take n => if mayF S n = 0 then .s (Str.ofString "stall") else .l (takenF S n)
  | .put ds => if putN S ds = 0 then .s (Str.ofString "stall") else .i (putN S ds)
  | _ => .i 0
def cameT (S : Dst) (a : Ask) : Tg := if badN S = true then .s (Str.ofString "fault") else goodT S a
def goodS (S : Dst) : Ask → Dst
  | .take n => tookS S n
  | .put ds => putS S ds
  | .go n => { noteS S (Str.ofString "go") (.i n) (.i 0) with spot := n }
  | .cut n => { noteS S (Str.ofString "cut") (.i n) (.i 0) with cells := S.cells.take n }
def doneS (S : Dst) (a : Ask) : Dst := if badN S = true then noteS S a.w a.h (.s (Str.ofString "fault")) else goodS S a
theorem badN_iff {S : Dst} : badN S = true ↔ ∃ k, planN S = some k ∧ k < 0 := by
  unfold badN
  cases e : planN S with
  | none => simp
  | some k => simp
theorem good_of {S : Dst} (h : badN S = false) : Good S := fun k ek => by
  unfold badN at h
  rw [ek] at h
  have := of_decide_eq_false h
  omega
theorem usedS_ns (S : Dst) : (usedS S).ns = S.ns := by unfold usedS; split <;> rfl
theorem usedS_plan (S : Dst) : (usedS S).plan = S.plan := by unfold usedS; split <;> rfl
theorem usedS_seek (S : Dst) : (usedS S).seek = S.seek := by unfold usedS; split <;> rfl
theorem usedS_bar (S : Dst) : (usedS S).bar = S.bar := by unfold usedS; split <;> rfl
theorem doneS_used (S : Dst) (a : Ask) : (doneS S a).used = (usedS S).used ∧ (doneS S a).plan = S.plan ∧ (doneS S a).seek = S.seek ∧ (doneS S a).bar = S.bar ∧ (doneS S a).ns = S.ns ++ [⟨a.w, S.spot, a.h, cameT S a⟩] := by
  unfold doneS cameT
  cases hb : badN S with
  | true => exact ⟨rfl, usedS_plan S, usedS_seek S, usedS_bar S, rfl⟩
  | false =>
    rw [if_neg (by simp), if_neg (by simp)]
    cases a with
    | take n =>
      show (tookS S n).used = _ ∧ (tookS S n).plan = _ ∧ (tookS S n).seek = _ ∧ (tookS S n).bar = _ ∧ (tookS S n).ns = S.ns ++ [⟨_, _, _, if mayF S n = 0 then _ else _⟩]
      unfold tookS
      by_cases h : mayF S n = 0
      · rw [if_pos h, if_pos h]; exact ⟨rfl, usedS_plan S, usedS_seek S, usedS_bar S, rfl⟩
      · rw [if_neg h, if_neg h]; exact ⟨rfl, usedS_plan S, usedS_seek S, usedS_bar S, rfl⟩
    | put ds => exact ⟨rfl, usedS_plan S, usedS_seek S, usedS_bar S, rfl⟩
    | go n => exact ⟨rfl, usedS_plan S, usedS_seek S, usedS_bar S, rfl⟩
    | cut n => exact ⟨rfl, usedS_plan S, usedS_seek S, usedS_bar S, rfl⟩
/-- each ask so far has used a number -/
def UsedOk (S : Dst) : Prop := S.used = min S.ns.length S.plan.length
theorem UsedOk.done {S : Dst} (h : UsedOk S) (a : Ask) : UsedOk (doneS S a) := by
  obtain ⟨h1, h2, h3, h4, h5⟩ := doneS_used S a
  unfold UsedOk at *
  rw [h1, h2, h5, List.length_append]
  show _ = min (_ + 1) _
  unfold usedS
  split
  · show S.used + 1 = _; omega
  · omega
theorem UsedOk.plan {S : Dst} (h : UsedOk S) : planN S = S.plan[S.ns.length]? := by
  unfold planN
  by_cases l : S.ns.length < S.plan.length
  · rw [h, Nat.min_eq_left (by omega)]
  · rw [h, Nat.min_eq_right (by omega), List.getElem?_eq_none (by omega), List.getElem?_eq_none (by omega)]
end Sip
/-! a part of the heap as it is, by itself -/
namespace Sip
open PySem PySem.Spec PyProof.Rows L2 TL
def frC (M : Hp) : Ch := .ab fun H F => (∀ b o, M b = some o → H b = some o) ∧ ∀ b, F b ↔ ∃ o, M b = some o
section
variable {H H' H1 M : Hp} {c d : Ch} {cs ds cs1 R : List Ch} {F F1 F2 F' : Addr → Prop} {a b l p q t z : Addr} {o o' o1 : HO} {vs : List V} {ns : List Nt} {ks : List (Addr × List Int)}
theorem On.fr (h : ∀ b o, M b = some o → H b = some o) : (frC M).On H (fun b => ∃ o, M b = some o) :=
  ⟨fun H' k => ⟨fun b o e => k b o ⟨o, e⟩ (h b o e), fun _ => Iff.rfl⟩, fun b ⟨o, e⟩ => ⟨o, h b o e⟩⟩
theorem Sat.frz {P : Hp → (Addr → Prop) → Prop} (h : Sat H (.ab P :: cs)) : ∃ M F, Sat H (frC M :: cs) ∧ P M F := by
  obtain ⟨F, F1, F2, h1, h2, d, u⟩ := h
  classical
  refine ⟨fun b => if F1 b then H b else none, F1, ?_, ?_⟩
  · refine Sat.mk (On.fr fun b o e => ?_) h2 fun b ⟨o, e⟩ => ?_
    · by_cases f : F1 b
      · rw [if_pos f] at e; exact e
      · rw [if_neg f] at e; cases e
    · by_cases f : F1 b
      · exact d b f
      · rw [if_neg f] at e; cases e
  · refine h1.1 _ fun b o f e => ?_
    show (if F1 b then H b else none) = some o
    rw [if_pos f]; exact e
theorem Sat.fr (h : Sat H cs) (p : Pull (frC M) cs cs1) (e : M b = some o) : H b = some o := by
  obtain ⟨F, F1, F2, h1, _⟩ := h.pull p
  exact h1.here.1 b o e
theorem Sat.frjk {m : Nat} {zs : List Addr} (h : Sat H (frC M :: cs)) (k : ∀ z ∈ zs, ∃ xs, M z = some (.lst xs) ∧ xs.length ≤ m) : Sat H (jkC m zs :: cs) := by
  obtain ⟨F, F1, F2, h1, h2, d, u⟩ := h
  have e1 := h1.here
  refine Sat.mk (On.jk fun z hz => ?_) h2 fun b hb => ?_
  · obtain ⟨xs, e, l⟩ := k z hz
    exact ⟨xs, e1.1 _ _ e, l⟩
  · obtain ⟨xs, e, l⟩ := k b hb
    exact d b ((e1.2 b).mpr ⟨_, e⟩)
theorem Sat.ntsf (h : Sat H (ntsC q ns :: cs)) : ∃ M vs G, Sat H (frC M :: cs) ∧ M q = some (.lst vs) ∧ Nts M G vs ns := by
  obtain ⟨M, F, hM, vs, G, e, N, _⟩ := h.frz
  exact ⟨M, vs, G, hM, e, N⟩
theorem Sat.ntsjk {m : Nat} (h : Sat H (ntsC q ns :: cs)) (l : ns.length ≤ m) : Sat H (jkC m [q] :: cs) := by
  obtain ⟨M, vs, G, hM, e, N⟩ := h.ntsf
  exact hM.frjk fun z hz => by
    rw [List.mem_singleton.mp hz]
    exact ⟨vs, e, by rw [N.len]; exact l⟩
end
end Sip
/-! what an ask comes to: by the law and by the device -/
namespace Sip
open PySem PySem.Spec PyProof.Rows L2 TL
def numF (S : Dst) : Int := (planN S).getD 1000000000
def AskOk : Ask → Prop
  | .take n => 1 ≤ n ∧ n ≤ 1000000000
  | .put ds => ds ≠ [] ∧ ds.length ≤ 4400
  | _ => True
def TgV (v : V) : Tg → Prop
  | .i n => v = .int n
  | .s w => v = .str w
  | .l _ => ∃ a, v = .ref a
theorem numF_some {S : Dst} {k : Int} (h : planN S = some k) : numF S = k := by unfold numF; rw [h]; rfl
theorem numF_none {S : Dst} (h : planN S = none) : numF S = 1000000000 := by unfold numF; rw [h]; rfl
theorem num_bad {S : Dst} : badN S = true ↔ numF S < 0 := by
  unfold badN numF
  cases planN S with
  | none => simp
  | some k => simp
theorem num_may {S : Dst} {n : Nat} (h : n ≤ 1000000000) : (if numF S < (n : Int) then numF S else (n : Int)) = mayF S n := by
  unfold numF mayF
  cases planN S with
  | none => show (if (1000000000 : Int) < (n : Int) then _ else _) = (n : Int); rw [if_neg (by omega)]
  | some k => show (if k < (n : Int) then k else (n : Int)) = min (n : Int) k; split <;> omega
theorem done_bad {S : Dst} {a : Ask} (h : numF S < 0) : doneS S a = noteS S a.w a.h (.s (Str.ofString "fault")) ∧ cameT S a = .s (Str.ofString "fault") := by
  have hb := num_bad.mpr h
  exact ⟨if_pos hb, if_pos hb⟩
theorem done_good {S : Dst} {a : Ask} (h : ¬ numF S < 0) : doneS S a = goodS S a ∧ cameT S a = goodT S a := by
  have hb : ¬ badN S = true := fun z => h (num_bad.mp z)
  exact ⟨if_neg hb, if_neg hb⟩
theorem noteS_cells (S : Dst) (w : Str) (h c : Tg) : (noteS S w h c).cells = S.cells := usedS_cells S
theorem noteS_spot (S : Dst) (w : Str) (h c : Tg) : (noteS S w h c).spot = S.spot := usedS_spot S
theorem num_zero {S : Dst} (h : numF S = 0) : planN S = some 0 := by
  unfold numF at h
  cases e : planN S with
  | none => rw [e] at h; exact absurd h (by decide)
  | some k => rw [e] at h; cases (show k = 0 from h); rfl
theorem may_zero {S : Dst} (h : numF S = 0) (n : Nat) : mayF S n = 0 := by unfold mayF; rw [num_zero h]; show min (n : Int) 0 = 0; omega
theorem put_zero {S : Dst} (h : numF S = 0) (ds : List Int) : putN S ds = 0 := by unfold putN; rw [may_zero h]; rfl
theorem took_stall {S : Dst} {n : Nat} (h : mayF S n = 0) : (tookS S n).cells = S.cells ∧ (tookS S n).spot = S.spot := by
  unfold tookS; rw [if_pos h]; exact ⟨usedS_cells S, usedS_spot S⟩
theorem took_some {S : Dst} {n : Nat} (h : mayF S n ≠ 0) : (tookS S n).cells = S.cells ∧ (tookS S n).spot = S.spot + (takenF S n).length := by
  unfold tookS; rw [if_neg h]; exact ⟨usedS_cells S, rfl⟩
theorem puts_stall {S : Dst} {ds : List Int} (h : putN S ds = 0) : (putS S ds).cells = S.cells ∧ (putS S ds).spot = S.spot := by
  unfold putS laidS; rw [h, List.take_zero, laidF_nil]; exact ⟨rfl, rfl⟩
theorem may_pos {S : Dst} {n : Nat} (h : ¬ numF S < 0) (h0 : numF S ≠ 0) (hn : 1 ≤ n) : 0 < mayF S n := by
  unfold mayF numF at *
  cases e : planN S with
  | none => show (0 : Int) < (n : Int); omega
  | some k => rw [e] at h h0; have h : ¬ k < 0 := h; have h0 : k ≠ 0 := h0; show 0 < min (n : Int) k; omega
def spAskedS : Sp := fun vs H Q _ => ∃ (m : Addr) (S : Dst) (a : Ask) (hv : V) (ks : List (Addr × List Int)) (R : List Ch), vs = [.ref m, .str a.w, hv] ∧ Sat H (modC m S ks :: tgC hv a.h :: R) ∧ UsedOk S ∧ S.ns.length ≤ 100000 ∧ S.plan.length ≤ 100000 ∧ S.cells.length ≤ 90000 ∧ S.spot ≤ 90000 ∧ AskOk a ∧
  ∀ (H' : Hp) (cv : V), Sat H' (modC m (doneS S a) (kn hv a.h ++ (kn cv (cameT S a) ++ ks)) :: R) → TgV cv (cameT S a) → Q cv H'
theorem askw_ok (a : Ask) : PyData.strOk a.w = true := by cases a <;> (show PyData.strOk (Str.ofString _) = true; decide +kernel)
theorem askh_ok (a : Ask) : tgOk a.h := by cases a <;> trivial
theorem stall_ok : PyData.strOk (Str.ofString "stall") = true := by decide +kernel
theorem fault_ok : PyData.strOk (Str.ofString "fault") = true := by decide +kernel
theorem came_ok (S : Dst) (a : Ask) : tgOk (cameT S a) := by
  unfold cameT
  split
  · exact fault_ok
  · cases a with
    | take n => show tgOk (if _ then _ else _); split; exact stall_ok; trivial
    | put ds => show tgOk (if _ then _ else _); split; exact stall_ok; trivial
    | go n => trivial
    | cut n => trivial
theorem in_take : (if false = true then !inV (V.str (Str.ofString "take")) [V.str (Str.ofString "take"), V.str (Str.ofString "put")] else inV (V.str (Str.ofString "take")) [V.str (Str.ofString "take"), V.str (Str.ofString "put")]) = true := by decide +kernel
theorem in_put : (if false = true then !inV (V.str (Str.ofString "put")) [V.str (Str.ofString "take"), V.str (Str.ofString "put")] else inV (V.str (Str.ofString "put")) [V.str (Str.ofString "take"), V.str (Str.ofString "put")]) = true := by decide +kernel
theorem in_go : (if false = true then !inV (V.str (Str.ofString "go")) [V.str (Str.ofString "take"), V.str (Str.ofString "put")] else inV (V.str (Str.ofString "go")) [V.str (Str.ofString "take"), V.str (Str.ofString "put")]) = false := by decide +kernel
theorem in_cut : (if false = true then !inV (V.str (Str.ofString "cut")) [V.str (Str.ofString "take"), V.str (Str.ofString "put")] else inV (V.str (Str.ofString "cut")) [V.str (Str.ofString "take"), V.str (Str.ofString "put")]) = false := by decide +kernel
theorem w_put_take : decide (V.str (Str.ofString "put") = V.str (Str.ofString "take")) = false := by decide +kernel
theorem w_go_take : decide (V.str (Str.ofString "go") = V.str (Str.ofString "take")) = false := by decide +kernel
theorem w_go_put : decide (V.str (Str.ofString "go") = V.str (Str.ofString "put")) = false := by decide +kernel
theorem w_cut_take : decide (V.str (Str.ofString "cut") = V.str (Str.ofString "take")) = false := by decide +kernel
theorem w_cut_put : decide (V.str (Str.ofString "cut") = V.str (Str.ofString "put")) = false := by decide +kernel
theorem w_cut_go : decide (V.str (Str.ofString "cut") = V.str (Str.ofString "go")) = false := by decide +kernel
theorem good_take0 {S : Dst} {n : Nat} (h : mayF S n = 0) : (goodS S (.take n)).cells = S.cells ∧ (goodS S (.take n)).spot = S.spot ∧ goodT S (.take n) = .s (Str.ofString "stall") := ⟨(took_stall h).1, (took_stall h).2, if_pos h⟩
theorem good_take1 {S : Dst} {n : Nat} (h : mayF S n ≠ 0) : (goodS S (.take n)).cells = S.cells ∧ (goodS S (.take n)).spot = S.spot + (takenF S n).length ∧ goodT S (.take n) = .l (takenF S n) := ⟨(took_some h).1, (took_some h).2, if_neg h⟩
theorem good_put0 {S : Dst} {ds : List Int} (h : putN S ds = 0) : (goodS S (.put ds)).cells = S.cells ∧ (goodS S (.put ds)).spot = S.spot ∧ goodT S (.put ds) = .s (Str.ofString "stall") := ⟨(puts_stall h).1, (puts_stall h).2, if_pos h⟩
theorem good_put1 {S : Dst} {ds : List Int} (h : putN S ds ≠ 0) : (goodS S (.put ds)).cells = laidF S.cells S.spot (ds.take (putN S ds)) ∧ (goodS S (.put ds)).spot = S.spot + putN S ds ∧ goodT S (.put ds) = .i (putN S ds) := ⟨rfl, rfl, if_neg h⟩
theorem good_go {S : Dst} {n : Nat} : (goodS S (.go n)).cells = S.cells ∧ (goodS S (.go n)).spot = n ∧ goodT S (.go n) = .i 0 := ⟨usedS_cells S, rfl, rfl⟩
theorem good_cut {S : Dst} {n : Nat} : (goodS S (.cut n)).cells = S.cells.take n ∧ (goodS S (.cut n)).spot = S.spot ∧ goodT S (.cut n) = .i 0 := ⟨rfl, usedS_spot S, rfl⟩
theorem take_cutV (S : Dst) (n : Nat) (hm : 0 < mayF S n) : cutV (S.cells.map V.int) (some (S.spot : Int)) (some ((S.spot : Int) + mayF S n)) = (takenF S n).map V.int := by
  have h9 := Int.toNat_of_nonneg (Int.le_of_lt hm)
  unfold takenF
  rw [← mid_cut, Int.natCast_add, h9]
/-- what a drawn ask may be -/
def DeedOk (S : Dst) : Ask → Prop
  | .take n => 1 ≤ n ∧ n ≤ 400
  | .put ds => ds ≠ [] ∧ ds.length ≤ 10
  | .go n => n ≤ S.cells.length + 5
  | .cut n => n ≤ S.cells.length + 3
theorem DeedOk.ask {S : Dst} {a : Ask} (h : DeedOk S a) : AskOk a := by
  cases a with
  | take n => exact ⟨h.1, by have := h.2; omega⟩
  | put ds => exact ⟨h.1, by have := h.2; omega⟩
  | go n => trivial
  | cut n => trivial
def spDeedS : Sp := fun vs H Q _ => ∃ (p m : Addr) (n : Int) (S : Dst) (ks : List (Addr × List Int)) (R : List Ch), vs = [.ref p, .ref m] ∧ Sat H (poolC p n :: modC m S ks :: R) ∧ n ≤ 800000000 ∧ S.cells.length ≤ 100000 ∧
  ∀ (H' : Hp) (t : Addr) (a : Ask) (hv : V), Sat H' (.pt t (.tup [.str a.w, hv]) :: poolC p (n + 2000) :: modC m S ks :: tgC hv a.h :: R) → DeedOk S a → Q (.ref t) H'
def ansW (S : Dst) : Str := if badN S = true then Str.ofString "fault" else Str.ofString "told"
def okV (S : Dst) (a : Ask) (v : V) : V := match a with
  | .take n => if mayF S n = 0 then .non else v
  | .put ds => if putN S ds = 0 then .non else v
  | _ => .non
def ansV (S : Dst) (a : Ask) (v : V) : V := if badN S = true then .int (-numF S) else okV S a v
def spAnswerS : Sp := fun vs H Q _ => ∃ (m : Addr) (S : Dst) (a : Ask) (hv : V) (ks : List (Addr × List Int)) (R : List Ch), vs = [.ref m, .str a.w, hv] ∧ Sat H (modC m S ks :: tgC hv a.h :: R) ∧ UsedOk S ∧ S.ns.length ≤ 100000 ∧ S.plan.length ≤ 100000 ∧ S.cells.length ≤ 90000 ∧ S.spot ≤ 90000 ∧ AskOk a ∧
  ∀ (H' : Hp) (t : Addr) (cv : V), Sat H' (.pt t (.tup [.str (ansW S), ansV S a cv]) :: modC m (doneS S a) (kn hv a.h ++ (kn cv (cameT S a) ++ ks)) :: R) → TgV cv (cameT S a) → Q (.ref t) H'
theorem Sat.camed {K : PySem.W.Frag} {H : Hp} {cs cs1 : List Ch} {m : Addr} {S S' : Dst} {a : Ask} {hv cv : V} {ks : List (Addr × List Int)} (h : Sat H cs) (p : Pull (modC m S' (kn hv a.h ++ (kn cv (cameT S a) ++ ks))) cs cs1) (tv : TgV cv (cameT S a)) : Dp K H cv (tgD (cameT S a)) := by
  have hk : ∀ x ∈ kn cv (cameT S a), H x.1 = some (.lst (x.2.map V.int)) := fun x hx => h.modget p (List.mem_append_right _ (List.mem_append_left _ hx))
  generalize cameT S a = t at *
  cases t with
  | i n => cases (show cv = _ from tv); exact .int _
  | s w => cases (show cv = _ from tv); exact .str _
  | l xs =>
    obtain ⟨z, rfl⟩ := tv
    exact dp_lst (sq_at (hk (z, xs) (List.mem_singleton.mpr rfl)))
theorem tg_shaped {t : Tg} (h : tgOk t) : SeqAt.shaped (tgD t) = true := by
  unfold SeqAt.shaped
  have := tg_depth t
  simp [tg_lay h]
  omega
theorem eqv_fault {S : Dst} {a : Ask} : PyData.eqv (tgD (cameT S a)) (.str (Str.ofString "fault")) = badN S := by
  unfold cameT
  cases hb : badN S with
  | true => rw [if_pos rfl]; show PyData.eqv (.str (Str.ofString "fault")) (.str (Str.ofString "fault")) = true; decide +kernel
  | false =>
    rw [if_neg (by simp)]
    have e1 : PyData.eqv (.str (Str.ofString "stall")) (.str (Str.ofString "fault")) = false := by decide +kernel
    cases a with
    | take n => show PyData.eqv (tgD (if _ then _ else _)) _ = false; split; exact e1; rfl
    | put ds => show PyData.eqv (tgD (if _ then _ else _)) _ = false; split; exact e1; rfl
    | go n => rfl
    | cut n => rfl
theorem in_tgo : (if false = true then !inV (V.str (Str.ofString "take")) [V.str (Str.ofString "go"), V.str (Str.ofString "cut")] else inV (V.str (Str.ofString "take")) [V.str (Str.ofString "go"), V.str (Str.ofString "cut")]) = false := by decide +kernel
theorem in_pgo : (if false = true then !inV (V.str (Str.ofString "put")) [V.str (Str.ofString "go"), V.str (Str.ofString "cut")] else inV (V.str (Str.ofString "put")) [V.str (Str.ofString "go"), V.str (Str.ofString "cut")]) = false := by decide +kernel
theorem in_ggo : (if false = true then !inV (V.str (Str.ofString "go")) [V.str (Str.ofString "go"), V.str (Str.ofString "cut")] else inV (V.str (Str.ofString "go")) [V.str (Str.ofString "go"), V.str (Str.ofString "cut")]) = true := by decide +kernel
theorem in_cgo : (if false = true then !inV (V.str (Str.ofString "cut")) [V.str (Str.ofString "go"), V.str (Str.ofString "cut")] else inV (V.str (Str.ofString "cut")) [V.str (Str.ofString "go"), V.str (Str.ofString "cut")]) = true := by decide +kernel
theorem fstr_shaped : SeqAt.shaped (.str (Str.ofString "fault")) = true := by decide +kernel
theorem sstr_shaped : SeqAt.shaped (.str (Str.ofString "stall")) = true := by decide +kernel
theorem eqv_stall {S : Dst} {a : Ask} (hb : badN S = false) : PyData.eqv (tgD (cameT S a)) (.str (Str.ofString "stall")) = (match a with | .take n => decide (mayF S n = 0) | .put ds => decide (putN S ds = 0) | _ => false) := by
  unfold cameT
  rw [hb, if_neg (by simp)]
  have e1 : PyData.eqv (.str (Str.ofString "stall")) (.str (Str.ofString "stall")) = true := by decide +kernel
  cases a with
  | take n =>
    show PyData.eqv (tgD (if _ then _ else _)) _ = decide _
    by_cases h : mayF S n = 0
    · rw [if_pos h, decide_eq_true h]; exact e1
    · rw [if_neg h, decide_eq_false h]; rfl
  | put ds =>
    show PyData.eqv (tgD (if _ then _ else _)) _ = decide _
    by_cases h : putN S ds = 0
    · rw [if_pos h, decide_eq_true h]; exact e1
    · rw [if_neg h, decide_eq_false h]; rfl
  | go n => rfl
  | cut n => rfl
/-- what an ask of the device tells -/
def toldT (S : Dst) (a : Ask) : Option Tg := if badN S = true then some (.i (-numF S)) else match a with
  | .take n => if mayF S n = 0 then none else some (.l (takenF S n))
  | .put ds => if putN S ds = 0 then none else some (.i (putN S ds))
  | _ => none
def toC (v : V) : Option Tg → Ch
  | none => exC (fun _ : Unit => v = .non) (fun _ => [])
  | some t => tgC v t
def optD : Option Tg → PyData
  | none => .none
  | some t => tgD t
def ansD (S : Dst) (a : Ask) : PyData := .tuple [.str (ansW S), optD (toldT S a)]
theorem Sat.toN {H : Hp} {cs : List Ch} (h : Sat H cs) : Sat H (toC .non none :: cs) := Sat.exI () rfl h
theorem Sat.tgD {K : PySem.W.Frag} {H : Hp} {cs cs1 : List Ch} {v : V} {t : Tg} (h : Sat H cs) (p : Pull (tgC v t) cs cs1) : Dp K H v (tgD t) := by
  obtain ⟨F, F1, F2, h1, _⟩ := h.pull p
  exact h1.here.2.dp
theorem Sat.toD {K : PySem.W.Frag} {H : Hp} {cs cs1 : List Ch} {v : V} {o : Option Tg} (h : Sat H cs) (p : Pull (toC v o) cs cs1) : Dp K H v (optD o) := by
  cases o with
  | none =>
    obtain ⟨_, e, _⟩ := (h.pull p).exE
    rw [e]; exact .non
  | some t => exact h.tgD p
/-- what the handed thing is -/
def HandV (H : Hp) (v : V) : Tg → Prop
  | .i n => v = .int n
  | .s w => v = .str w
  | .l xs => ∃ l, v = .ref l ∧ H l = some (.lst (xs.map V.int))
def FitOk (S : Dst) : Ask → Prop
  | .take n => 1 ≤ n
  | .put ds => ds ≠ [] ∧ PutFit S ds
  | .go n => n ≤ 4000
  | .cut n => n ≤ 4000
def spToldS (CD : Addr) : Sp := fun vs H Q _ => ∃ (d : Addr) (S : Dst) (a : Ask) (hv : V) (R : List Ch), vs = [.ref d, .str a.w, hv] ∧ Sat H (devC CD d S :: R) ∧ HandV H hv a.h ∧ DstOk S ∧ S.bar = false ∧ S.seek = true ∧ FitOk S a ∧
  ∀ (H' : Hp) (t : Addr) (v : V), Sat H' (.pt t (.tup [.str (ansW S), v]) :: toC v (toldT S a) :: devC CD d (doneS S a) :: R) → Q (.ref t) H'
theorem Good.bad {S : Dst} (h : Good S) : badN S = false := by
  cases hb : badN S with
  | false => rfl
  | true =>
    obtain ⟨k, ek, hk⟩ := badN_iff.mp hb
    have := h k ek
    omega
theorem told_good {S : Dst} {a : Ask} (h : Good S) : ansW S = Str.ofString "told" ∧ doneS S a = goodS S a := by
  have hb := h.bad
  exact ⟨if_neg (by rw [hb]; simp), if_neg (by rw [hb]; simp)⟩
theorem told_bad {S : Dst} {a : Ask} {k : Int} (ek : planN S = some k) (hk : k < 0) : ansW S = Str.ofString "fault" ∧ doneS S a = noteS S a.w a.h (.s (Str.ofString "fault")) ∧ toldT S a = some (.i (-k)) := by
  have hb : badN S = true := badN_iff.mpr ⟨k, ek, hk⟩
  exact ⟨if_pos hb, if_pos hb, by unfold toldT; rw [if_pos hb, numF_some ek]⟩
theorem toldT_take0 {S : Dst} {n : Nat} (h : Good S) (h0 : mayF S n = 0) : toldT S (.take n) = none := by unfold toldT; rw [if_neg (by rw [h.bad]; simp)]; exact if_pos h0
theorem toldT_take1 {S : Dst} {n : Nat} (h : Good S) (h0 : mayF S n ≠ 0) : toldT S (.take n) = some (.l (takenF S n)) := by unfold toldT; rw [if_neg (by rw [h.bad]; simp)]; exact if_neg h0
theorem toldT_put0 {S : Dst} {ds : List Int} (h : Good S) (h0 : putN S ds = 0) : toldT S (.put ds) = none := by unfold toldT; rw [if_neg (by rw [h.bad]; simp)]; exact if_pos h0
theorem toldT_put1 {S : Dst} {ds : List Int} (h : Good S) (h0 : putN S ds ≠ 0) : toldT S (.put ds) = some (.i (putN S ds)) := by unfold toldT; rw [if_neg (by rw [h.bad]; simp)]; exact if_neg h0
theorem toldT_go {S : Dst} {n : Nat} (h : Good S) : toldT S (.go n) = none := by unfold toldT; rw [if_neg (by rw [h.bad]; simp)]
theorem toldT_cut {S : Dst} {n : Nat} (h : Good S) : toldT S (.cut n) = none := by unfold toldT; rw [if_neg (by rw [h.bad]; simp)]
end Sip
/-! the law's own device whose notes lie in a part of the heap that stays as it is -/
namespace Sip
open PySem PySem.Spec PyProof.Rows L2 TL
section
variable {H H' H1 M N : Hp} {c d : Ch} {cs ds cs1 R : List Ch} {F F1 F2 F' : Addr → Prop} {a b l p q t z m : Addr} {o o' o1 : HO} {vs : List V} {ns : List Nt} {S : Dst}
theorem Sat.frjoin (h : Sat H (frC M :: frC N :: cs)) : ∃ U, Sat H (frC U :: cs) ∧ Same M U ∧ Same N U := by
  obtain ⟨F, F1, F2, h1, ⟨F3, F4, h3, h4, d2, u2⟩, d, u⟩ := h
  have e1 := h1.here
  have e3 := h3.here
  refine ⟨fun b => (M b).or (N b), Sat.mk (On.fr fun b o e => ?_) h4 fun b ⟨o, e⟩ => ?_, fun b o e => ?_, fun b o e => ?_⟩
  · cases eM : M b with
    | some x => rw [eM] at e; exact e1.1 b o (eM.trans e)
    | none => rw [eM] at e; exact e3.1 b o e
  · cases eM : M b with
    | some x => exact fun z => d b ((e1.2 b).mpr ⟨x, eM⟩) ((u2 b).mpr (.inr z))
    | none => rw [eM] at e; exact d2 b ((e3.2 b).mpr ⟨o, e⟩)
  · show (M b).or (N b) = some o
    rw [e]; rfl
  · show (M b).or (N b) = some o
    cases eM : M b with
    | some x => exact absurd ((u2 b).mpr (.inl ((e3.2 b).mpr ⟨o, e⟩))) (d b ((e1.2 b).mpr ⟨x, eM⟩))
    | none => exact e
theorem Sat.frpt (h : Sat H (.pt a o :: cs)) : ∃ M, Sat H (frC M :: cs) ∧ M a = some o := by
  obtain ⟨F, F1, F2, h1, h2, d, u⟩ := h
  obtain ⟨e, hF⟩ := h1.here
  classical
  refine ⟨fun b => if b = a then some o else none, Sat.mk (On.fr fun b x ex => ?_) h2 fun b ⟨x, ex⟩ => ?_, if_pos rfl⟩
  · by_cases h : b = a
    · rw [if_pos h] at ex; cases ex; rw [h]; exact e
    · rw [if_neg h] at ex; cases ex
  · by_cases h : b = a
    · exact d b ((hF b).mpr h)
    · rw [if_neg h] at ex; cases ex
theorem Sat.ptfr (h : Sat H (.pt a o :: frC M :: cs)) : ∃ U, Sat H (frC U :: cs) ∧ Same M U ∧ U a = some o := by
  obtain ⟨N, h, e⟩ := h.frpt
  obtain ⟨U, h, s1, s2⟩ := h.frjoin
  exact ⟨U, h, s2, s1 _ _ e⟩
theorem Sat.fr0 (h : Sat H cs) : Sat H (frC (fun _ => none) :: cs) := by
  obtain ⟨F, h⟩ := h
  exact Sat.mk (On.fr fun b o e => by cases e) h fun b ⟨o, e⟩ => by cases e
theorem Sat.frs (h : Sat H cs) (p : Pull (frC M) cs cs1) : Same M H := fun b o e => h.fr p e
theorem HandV.same {v : V} {t : Tg} (h : HandV M v t) (s : Same M N) : HandV N v t := by
  cases t with
  | i n => exact h
  | s n => exact h
  | l xs => obtain ⟨a, e, ha⟩ := h; exact ⟨a, e, s _ _ ha⟩
theorem TgAt.hand {G : Addr → Prop} {v : V} {t : Tg} (h : TgAt M G v t) : HandV M v t := by
  cases t with
  | i n => exact h
  | s n => exact h
  | l xs => obtain ⟨a, e, _, ha⟩ := h; exact ⟨a, e, ha⟩
theorem HandV.tg {v : V} {t : Tg} (h : HandV M v t) : TgAt M (fun _ => True) v t := by
  cases t with
  | i n => exact h
  | s n => exact h
  | l xs => obtain ⟨a, e, ha⟩ := h; exact ⟨a, e, trivial, ha⟩
theorem HandV.dp {K : PySem.W.Frag} {v : V} {t : Tg} (h : HandV M v t) (s : Same M H) : Dp K H v (tgD t) := (h.same s).tg.dp
/-- the notes, wherever they lie -/
def NtsM (M : Hp) (vs : List V) (ns : List Nt) : Prop := Nts M (fun _ => True) vs ns
theorem Nts.toM {G : Addr → Prop} (h : Nts M G vs ns) : NtsM M vs ns := h.keep (fun _ _ _ e => e) (fun _ _ => trivial)
theorem NtsM.same (h : NtsM M vs ns) (s : Same M N) : NtsM N vs ns := Nts.keep (fun b o _ e => s b o e) (fun _ z => z) h
def mdC (m : Addr) (S : Dst) (M : Hp) : Ch := exC (fun x : Addr × Addr × Addr × List V => NtsM M x.2.2.2 S.ns) fun x => [.pt m (.dK (mK x.1 x.2.1 x.2.2.1 S.spot)), .pt x.1 (.lst (S.cells.map V.int)), .pt x.2.1 (.lst (S.plan.map V.int)), .pt x.2.2.1 (.lst x.2.2.2), frC M]
theorem Sat.md (h : Sat H (mdC m S M :: cs)) : ∃ rw pl no vs, Sat H (.pt m (.dK (mK rw pl no S.spot)) :: .pt rw (.lst (S.cells.map V.int)) :: .pt pl (.lst (S.plan.map V.int)) :: .pt no (.lst vs) :: frC M :: cs) ∧ NtsM M vs S.ns := by
  obtain ⟨⟨rw, pl, no, vs⟩, hN, h⟩ := h.exE
  exact ⟨rw, pl, no, vs, h, hN⟩
theorem Sat.mdI {rw pl no : Addr} (hN : NtsM M vs S.ns) (h : Sat H (.pt m (.dK (mK rw pl no S.spot)) :: .pt rw (.lst (S.cells.map V.int)) :: .pt pl (.lst (S.plan.map V.int)) :: .pt no (.lst vs) :: frC M :: cs)) : Sat H (mdC m S M :: cs) := Sat.exI (rw, pl, no, vs) hN h
theorem Sat.mds (h : Sat H cs) (p : Pull (mdC m S M) cs cs1) : Same M H := by
  obtain ⟨rw, pl, no, vs, h, _⟩ := (h.pull p).md
  exact h.frs (.tl (.tl (.tl (.tl .hd))))
/-- more is kept with the notes -/
theorem Sat.mdjoin (h : Sat H (mdC m S M :: frC N :: cs)) : ∃ U, Sat H (mdC m S U :: cs) ∧ Same M U ∧ Same N U := by
  obtain ⟨rw, pl, no, vs, h, hN⟩ := h.md
  have h : Sat H (frC M :: frC N :: .pt m (.dK (mK rw pl no S.spot)) :: .pt rw (.lst (S.cells.map V.int)) :: .pt pl (.lst (S.plan.map V.int)) :: .pt no (.lst vs) :: cs) := h.pk (.cons (.tl (.tl (.tl (.tl .hd)))) (.cons (.tl (.tl (.tl (.tl .hd)))) .nil))
  obtain ⟨U, h, s1, s2⟩ := h.frjoin
  exact ⟨U, Sat.mdI (hN.same s1) (h.pk (.cons (.tl .hd) (.cons (.tl .hd) (.cons (.tl .hd) (.cons (.tl .hd) .nil))))), s1, s2⟩
theorem Sat.mdpt (h : Sat H (mdC m S M :: .pt a o :: cs)) : ∃ U, Sat H (mdC m S U :: cs) ∧ Same M U ∧ U a = some o := by
  obtain ⟨N, h, e⟩ := (h.pull (.tl .hd)).frpt
  obtain ⟨U, h, s1, s2⟩ := (h.pull (.tl .hd)).mdjoin
  exact ⟨U, h, s1, s2 _ _ e⟩
def spAskedM : Sp := fun vs H Q _ => ∃ (m : Addr) (S : Dst) (a : Ask) (hv : V) (M : Hp) (R : List Ch), vs = [.ref m, .str a.w, hv] ∧ Sat H (mdC m S M :: R) ∧ HandV M hv a.h ∧ UsedOk S ∧ S.ns.length ≤ 8000000 ∧ S.plan.length ≤ 100000 ∧ S.cells.length ≤ 90000 ∧ S.spot ≤ 90000 ∧ AskOk a ∧
  ∀ (H' : Hp) (cv : V) (M' : Hp), Sat H' (mdC m (doneS S a) M' :: R) → Same M M' → HandV M' cv (cameT S a) → Q cv H'
def spDeviceM : Sp := fun vs H Q _ => ∃ (a b : Addr) (r ps : List Int) (R : List Ch), vs = [.ref a, .ref b] ∧ Sat H (.pt a (.lst (r.map V.int)) :: .pt b (.lst (ps.map V.int)) :: R) ∧
  ∀ (H' : Hp) (m : Addr) (M : Hp), Sat H' (mdC m (dst0 true r ps) M :: .pt a (.lst (r.map V.int)) :: .pt b (.lst (ps.map V.int)) :: R) → Q (.ref m) H'
/-- asks one behind another -/
def asksS (S : Dst) (as : List Ask) : Dst := as.foldl doneS S
theorem asksS_snoc (S : Dst) (as : List Ask) (a : Ask) : asksS S (as ++ [a]) = doneS (asksS S as) a := by unfold asksS; rw [List.foldl_append]; rfl
theorem asksS_app (S : Dst) (as bs : List Ask) : asksS S (as ++ bs) = asksS (asksS S as) bs := by unfold asksS; rw [List.foldl_append]
theorem asksS_facts (S : Dst) : ∀ as : List Ask, (asksS S as).plan = S.plan ∧ (asksS S as).seek = S.seek ∧ (asksS S as).bar = S.bar ∧ (asksS S as).ns.length = S.ns.length + as.length ∧ (UsedOk S → UsedOk (asksS S as)) := by
  intro as
  induction as generalizing S with
  | nil => exact ⟨rfl, rfl, rfl, rfl, id⟩
  | cons a as ih =>
    obtain ⟨h1, h2, h3, h4, h5⟩ := ih (doneS S a)
    obtain ⟨g1, g2, g3, g4, g5⟩ := doneS_used S a
    refine ⟨h1.trans g2, h2.trans g3, h3.trans g4, ?_, fun u => h5 (u.done a)⟩
    rw [show asksS S (a :: as) = asksS (doneS S a) as from rfl, h4, g5, List.length_append]
    show _ + 1 + _ = _ + (_ + 1)
    omega
/-- the note of the i-th ask -/
theorem asksS_note (S : Dst) (as : List Ask) : ∀ i a, as[i]? = some a → (asksS S as).ns[S.ns.length + i]? = some ⟨a.w, (asksS S (as.take i)).spot, a.h, cameT (asksS S (as.take i)) a⟩ := by
  induction as generalizing S with
  | nil => intro i a h; cases h
  | cons b as ih =>
    intro i a h
    obtain ⟨g1, g2, g3, g4, g5⟩ := doneS_used S b
    have pre : ∀ (bs : List Ask) (T : Dst) (j : Nat), j < T.ns.length → (asksS T bs).ns[j]? = T.ns[j]? := by
      intro bs
      induction bs with
      | nil => intro T j _; rfl
      | cons c bs ih2 =>
        intro T j hj
        obtain ⟨_, _, _, _, k5⟩ := doneS_used T c
        rw [show asksS T (c :: bs) = asksS (doneS T c) bs from rfl, ih2 (doneS T c) j (by rw [k5, List.length_append]; omega), k5, List.getElem?_append_left hj]
    cases i with
    | zero =>
      cases h
      rw [show asksS S (b :: as) = asksS (doneS S b) as from rfl, pre as (doneS S b) _ (by rw [g5, List.length_append]; show _ < _ + 1; omega), g5, List.getElem?_append_right (by omega)]
      simp
      exact ⟨rfl, rfl⟩
    | succ i =>
      have := ih (doneS S b) i a (by simpa using h)
      rw [g5, List.length_append] at this
      rw [show asksS S (b :: as) = asksS (doneS S b) as from rfl]
      rw [show S.ns.length + (i + 1) = S.ns.length + [(⟨b.w, S.spot, b.h, cameT S b⟩ : Nt)].length + i by show _ = _ + 1 + i; omega]
      exact this
end
theorem u65 {k : Nat} {A : Around} (r : Room k A) : A.units + 65 < cLine := by have := r.un; omega
/-- asks that stall or fail -/
def trb : Tg → Bool
  | .s _ => true
  | _ => false
def camesT (S : Dst) : List Ask → List Tg
  | [] => []
  | a :: as => cameT S a :: camesT (doneS S a) as
theorem camesT_snoc (as : List Ask) (a : Ask) : ∀ S : Dst, camesT S (as ++ [a]) = camesT S as ++ [cameT (asksS S as) a] := by
  induction as with
  | nil => intro S; rfl
  | cons b as ih => intro S; show cameT S b :: camesT (doneS S b) (as ++ [a]) = _; rw [ih]; rfl
theorem camesT_len (as : List Ask) : ∀ S : Dst, (camesT S as).length = as.length := by
  induction as with
  | nil => intro S; rfl
  | cons b as ih => intro S; show (camesT (doneS S b) as).length + 1 = as.length + 1; rw [ih]
inductive HandVs (M : Hp) : List V → List Tg → Prop
  | nil : HandVs M [] []
  | cons {v t vs ts} : HandV M v t → HandVs M vs ts → HandVs M (v :: vs) (t :: ts)
theorem HandVs.same {M N : Hp} {vs : List V} {ts : List Tg} (h : HandVs M vs ts) (s : Same M N) : HandVs N vs ts := by
  induction h with
  | nil => exact .nil
  | cons a _ ih => exact .cons (a.same s) ih
theorem HandVs.snoc {M : Hp} {vs : List V} {ts : List Tg} {v : V} {t : Tg} (h : HandVs M vs ts) (k : HandV M v t) : HandVs M (vs ++ [v]) (ts ++ [t]) := by
  induction h with
  | nil => exact .cons k .nil
  | cons a _ ih => exact .cons a ih
theorem HandVs.len {M : Hp} {vs : List V} {ts : List Tg} (h : HandVs M vs ts) : vs.length = ts.length := by
  induction h with
  | nil => rfl
  | cons _ _ ih => show _ + 1 = _ + 1; rw [ih]
theorem HandVs.at {M : Hp} {vs : List V} {ts : List Tg} (h : HandVs M vs ts) : ∀ {i : Nat} {v : V}, vs[i]? = some v → ∃ t, ts[i]? = some t ∧ HandV M v t := by
  induction h with
  | nil => intro i v e; cases e
  | cons a _ ih =>
    intro i v e
    cases i with
    | zero => cases e; exact ⟨_, rfl, a⟩
    | succ i => obtain ⟨t, e1, h1⟩ := ih (by simpa using e); exact ⟨t, by simpa using e1, h1⟩
/-- none but the last is troubled -/
def Quiet (ts : List Tg) : Prop := ∀ i t, i + 1 < ts.length → ts[i]? = some t → trb t = false
theorem cutDrop (xs : List V) (k : Nat) : cutV xs (some (k : Int)) none = xs.drop k := by
  unfold cutV
  rw [HT.sIx_none, HT.sIx_nat]
  by_cases h : k ≤ xs.length
  · rw [Nat.min_eq_left h, List.take_of_length_le (by rw [List.length_drop]; omega)]
  · rw [Nat.min_eq_right (by omega), List.drop_of_length_le (by omega), List.drop_of_length_le (by omega), List.take_nil]
/-- xs[:-1] -/
theorem cutLast (xs : List V) : cutV xs none (some (-1)) = xs.take (xs.length - 1) := by
  unfold cutV
  rw [HT.sIx_none]
  show (xs.drop 0).take (HT.sIx xs.length xs.length (some (-1)) - 0) = _
  have e : HT.sIx xs.length xs.length (some (-1)) = xs.length - 1 := by
    unfold HT.sIx
    simp
    omega
  rw [e]; rfl
theorem trb_in {t : Tg} (h : trb t = false) : ([PyData.str (Str.ofString "stall"), PyData.str (Str.ofString "fault")].any fun z => PyData.eqv z (tgD t)) = false := by
  cases t with
  | i n => rfl
  | s w => cases h
  | l xs => rfl
theorem log_shaped {ns : List Nt} (h : ∀ n ∈ ns, NtOk n) : SeqAt.shaped (ntsD ns) = true := by
  obtain ⟨h1, h2⟩ := nts_lay h
  unfold SeqAt.shaped ntsD
  simp [PyData.canLay0, PyData.depth, h1]
  omega
/-- the numbers of a drawn plan -/
def PlanOk (tr : Int) (ns : List Int) : Prop := ∀ k ∈ ns, (k = 0 → tr % 2 = 1) ∧ (k < 0 → 1 < tr) ∧ -99 ≤ k ∧ k ≤ 400
theorem PlanOk.snoc {tr x : Int} {ns : List Int} (h : PlanOk tr ns) (k : (x = 0 → tr % 2 = 1) ∧ (x < 0 → 1 < tr) ∧ -99 ≤ x ∧ x ≤ 400) : PlanOk tr (ns ++ [x]) := fun y hy => by
  rcases List.mem_append.mp hy with z | z
  · exact h y z
  · rw [List.mem_singleton.mp z]; exact k
def spPlanM : Sp := fun vs H Q _ => ∃ (p : Addr) (n N tr : Int) (o : HO), vs = [.ref p, .int N, .int tr] ∧ H p = some o ∧ PoolO n o ∧ n ≤ 900000000 ∧ 0 ≤ N ∧ N ≤ 200 ∧
  ∀ (H' : Hp) (b : Addr) (ns : List Int) (o' : HO), H b = none → H' b = some (.lst (ns.map V.int)) → H' p = some o' → PoolO (n + 1000) o' → Kp [p] H H' → (ns.length : Int) ≤ N → PlanOk tr ns → Q (.ref b) H'
def spPlanMS : Sp := fun vs H Q _ => ∃ (p : Addr) (n N tr : Int) (R : List Ch), vs = [.ref p, .int N, .int tr] ∧ Sat H (poolC p n :: R) ∧ n ≤ 900000000 ∧ 0 ≤ N ∧ N ≤ 200 ∧
  ∀ (H' : Hp) (b : Addr) (ns : List Int), Sat H' (poolC p (n + 1000) :: .pt b (.lst (ns.map V.int)) :: R) → (ns.length : Int) ≤ N → PlanOk tr ns → Q (.ref b) H'
theorem spPlanMS.to {vs : List V} {H : Hp} {Q : VK} {E : XK} (h : spPlanMS vs H Q E) : spPlanM vs H Q E := by
  obtain ⟨p, n, N, tr, R, rfl, h, a, b, c, q⟩ := h
  obtain ⟨o, e, P⟩ := h.pool
  exact ⟨p, n, N, tr, o, rfl, e, P, a, b, c, fun H' b bs o' nb eb ep hP k lb hB => q H' b bs (h.kp1 k nb eb ep hP) lb hB⟩
def lineO (isl : Bool) (xs : List Int) : List Int := if isl = true then lineF xs else xs
def dueF (r : List Int) (c : Nat) (isl : Bool) (many : Option Nat) : List Int := takeO many (lineO isl (r.drop c))
def isLine (w : Str) : Bool := decide (V.str w = V.str (Str.ofString "readline"))
def spDueM : Sp := fun vs H Q _ => ∃ (a : Addr) (r : List Int) (c : Nat) (w : Str) (many : Option Nat) (R : List Ch), vs = [.ref a, .int c, .str w, cntV many] ∧ Sat H (.pt a (.lst (r.map V.int)) :: R) ∧ r.length ≤ 10000 ∧
  ∀ (H' : Hp) (q : Addr), Sat H' (.pt q (.lst ((dueF r c (isLine w) many).map V.int)) :: .pt a (.lst (r.map V.int)) :: R) → Q (.ref q) H'
def spCountM : Sp := fun vs H Q _ => ∃ (p : Addr) (n : Int) (w : Str) (R : List Ch), vs = [.ref p, .str w] ∧ Sat H (poolC p n :: R) ∧ n ≤ 900000000 ∧
  ∀ (H' : Hp) (k : Option Nat), Sat H' (poolC p (n + 10) :: R) → (∀ m, k = some m → m ≤ 1000000000) → (k = none → inV (.str w) [.str (Str.ofString "read"), .str (Str.ofString "readline")] = true) → Q (cntV k) H'
def spFollowM (CD : Addr) : Sp := fun vs H Q _ => ∃ (m d : Addr) (S : Dst) (as : List Ask) (M : Hp) (R : List Ch), vs = [.ref m, .ref d] ∧ Sat H (mdC m S M :: devC CD d (asksS S as) :: R) ∧ UsedOk S ∧ DstOk (asksS S as) ∧ (∀ a ∈ as, AskOk a) ∧ (∀ i, (asksS S (as.take i)).cells.length ≤ 90000 ∧ (asksS S (as.take i)).spot ≤ 90000) ∧ Quiet (camesT S as) ∧
  ∀ (H' : Hp) (q : Addr) (cvs : List V) (M' : Hp), Sat H' (.pt q (.lst cvs) :: mdC m (asksS S as) M' :: devC CD d (asksS S as) :: R) → Same M M' → HandVs M' cvs (camesT S as) → Q (.ref q) H'
end Sip
/-! methods called within a try: with defaults, without arguments -/
namespace Sip
open PySem PySem.Spec PyProof.Rows L2 TL
section
variable {X : Cx} {CX : CXT} {k : Nat} {f C : Addr} {fd : FuncData} {ps : List Str} {ds : List Value} {dvs : List V} {sp : Sp} {E : L2.St → XK} {m : Str} {pos apos : Pos} {o e : Expr} {es : List Expr} {ta : TE} {t : TA}
def tMethTD (C : Addr) (m : Str) (sp : Sp) (dvs : List V) (E : L2.St → XK) (ta : TE) (t : TA) : TE := fun σ H Q => ta σ H fun x H1 => ∃ a dx fs, x = .ref a ∧ H1 a = some (.ins C dx fs) ∧ fs.lookup m = none ∧ t σ H1 fun vs H2 => sp (x :: (vs ++ dvs)) H2 Q (E σ)
theorem pe_methTD {pl : Sem Bool} (he : PE X o ta) (c : Cls X.K C) (hm : Meth X.K C m f) (F : FnOk X.prog X.w X.K X.mg X.base CX k f fd ps sp) (hr : Room k X.A) (hb : Binds X.K fd ps ds) (hd : Vals dvs ds) (hx : ∀ σ, PassesAt CX X σ (E σ)) (ha : PA X (e :: es) t)
    (hst : starEach (e :: es) X.env = (false, eval e X.env) :: starEach es X.env := by rfl) (hpl : (backTo pos (starEach es X.env)).any (·.1) = false := by rfl)
    (ht : eval (.Call (.Attribute o m apos) (e :: es) [] pos) X.env = (do
      let ov ← eval o X.env
      standAt apos.atName
      let (f, first) ← holding [ov] (getMethod ov m pl)
      callWith pos f first (backTo pos (starEach (e :: es) X.env)) (backToKw pos (keywordEach [] X.env))) := by rfl) :
    PE X (.Call (.Attribute o m apos) (e :: es) [] pos) (tMethTD C m sp dvs E ta t) := by
  refine ⟨fun pins s σ H Q I h => ?_⟩
  refine PySem.W.methodCall_KW (pl := pl) (thn (he.run pins s σ H _ I h) fun u s1 ⟨x, H1, I1, rx, a, dx, fs, ex, ea, l, q⟩ => ?_) ht
  subst ex
  obtain rfl : u = Value.ref a := rx
  refine getmeth_ok I1 ea c hm l ?_
  refine PySem.W.callWith_K (first := [.ref a]) (h₀ := X.base) I.ok.mod.kin hm.kp (thn (ha.run pos pins s1 σ H1 _ I1 q) fun us s2 ⟨vs, H2, I2, r, q2⟩ => ⟨I2.kIn, ?_⟩) hst hpl
  exact run_fnSD (us := .ref a :: us) (vs := .ref a :: vs) F hr hb hd (hx σ) I2 (.cons rfl r) q2
theorem pe_meth0T {pl : Sem Bool} (he : PE X o ta) (c : Cls X.K C) (hm : Meth X.K C m f) (F : FnOk X.prog X.w X.K X.mg X.base CX k f fd ps sp) (hr : Room k X.A) (hb : Binds X.K fd ps ds) (hd : Vals dvs ds) (hx : ∀ σ, PassesAt CX X σ (E σ))
    (ht : eval (.Call (.Attribute o m apos) [] [] pos) X.env = (do
      let ov ← eval o X.env
      standAt apos.atName
      let (f, first) ← holding [ov] (getMethod ov m pl)
      callWith pos f first (backTo pos (starEach [] X.env)) (backToKw pos (keywordEach [] X.env))) := by rfl) :
    PE X (.Call (.Attribute o m apos) [] [] pos) (tMethTD C m sp dvs E ta tNil) := by
  refine ⟨fun pins s σ H Q I h => ?_⟩
  refine PySem.W.methodCall_KW (pl := pl) (thn (he.run pins s σ H _ I h) fun u s1 ⟨x, H1, I1, rx, a, dx, fs, ex, ea, l, q⟩ => ?_) ht
  subst ex
  obtain rfl : u = Value.ref a := rx
  refine getmeth_ok I1 ea c hm l ?_
  exact PySem.W.callWith_K0 (first := [.ref a]) I1.kIn hm.kp (run_fnSD (us := [.ref a]) (vs := [.ref a]) F hr hb hd (hx σ) I1 (.cons rfl .nil) q)
end
end Sip
/-! own errors made with keywords; made and raised where an error is handled -/
namespace Sip
open PySem PySem.HandSPX
open PySem.Builtin PySem.Builtin.ObjectAttr
section
variable {M : Model} {A : Around} {E : Value → Shared → Prop} {h : Heap} {g : Array GenState} {d : Drawn} {t : Nat} {os : OsState}
variable {nm q : Str} {C N : Addr} {bs bm bmB : List Value} {hdct : Bool} {sn : List Str} {sub : List Value} {ab : Bool} {col : Option Bool} {dd : Option Addr} {k0 k1 k2 k3 k5 : Option Value} {B newId initId : String}
theorem check_new_ownK (F : ExcBaseFacts B newId initId bmB) (hT : ∀ X : String, bm.contains (.type X) = bmB.contains (.type X)) {rest : List Value} {kw : List (Str × Value)} {Q : Unit → Shared → Prop}
    (hC : h.get? C = some (excClassObj nm q C N bs bm hdct sn sub ab col dd k0 k1 k2 k3 k5 newId)) (hq : Q () ⟨h, g, d, t, os⟩) : wpAny M A (checkBuiltinCall newId ⟨.ref C :: rest, kw⟩) Q E ⟨h, g, d, t, os⟩ := by
  have hcont : (Value.ref C :: bm).contains (.type B) = true := by rw [List.contains_cons, hT, F.hasB, Bool.or_true]
  have hstar := F.noStar
  simp only [checkBuiltinCall, F.newKind, F.newSplit, F.newRow]
  repeat (first | refine wpAny_loadPart_at hC ?_ | (refine wpAny_isSubtype_exc hC ?_; rw [hcont]) | refine wpAny_staticBase_exc hC ?_ | refine wpAny_madeBy_exc hC ?_ | simp only [bne_self_eq_false, Bool.false_eq_true, if_false] | wp_step)
  exact hq
end
section
variable {prog : Program} {w : World} {A : Around} {E : Value → Shared → Prop} {R : Result → Shared → Prop} {h : Heap} {g : Array GenState} {d : Drawn} {t : Nat} {os : OsState}
variable {nm q : Str} {C N : Addr} {bs bm bmB : List Value} {hdct : Bool} {sn : List Str} {sub : List Value} {ab : Bool} {col : Option Bool} {dd : Option Addr} {k0 k1 k2 k3 k5 : Option Value} {B newId initId : String}
theorem new_ownK (F : ExcBaseFacts B newId initId bmB) (hT : ∀ X : String, bm.contains (.type X) = bmB.contains (.type X)) {rest : List Value} {kw : List (Str × Value)}
    (hC : h.get? C = some (excClassObj nm q C N bs bm hdct sn sub ab col dd k0 k1 k2 k3 k5 newId))
    (hq : R (.ok (.ret (.ref (h.objs.size + 1)))) ⟨(h.push { cls := .type "tuple", data := .seq rest.toArray }).push
      { cls := .ref C, data := .fields #[.ref h.objs.size, .none, .none, .none, .bool false, .none] }, g, d, t, os⟩) (hrest : rest.length ≤ sizeLine) :
    codeAny (model prog w) A (.builtin newId ⟨.ref C :: rest, kw⟩) R ⟨h, g, d, t, os⟩ := by
  have hends := F.ends
  have hcB : (Value.ref C :: bm).contains (.type B) = true := by rw [List.contains_cons, hT, F.hasB, Bool.or_true]
  have hcA : (Value.ref C :: bm).contains (.type "AttributeError") = false := by rw [List.contains_cons, hT, F.noAttr]; rfl
  have hcN : (Value.ref C :: bm).contains (.type "NameError") = false := by rw [List.contains_cons, hT, F.noName]; rfl
  refine codeAny_builtinAt F.entry ?_
  unfold Builtin.«BaseException.__new__»
  refine wpAt_bind ?_
  show wpAt _ _ _ (stack >>= _) _ _ _
  refine wpAt_bind (wpAt_stack fun p below => wpAt_of_wpAny ?_)
  wp_walk
  refine wpAt_of_wpAny ?_
  rw [F.owner]
  repeat (first | with_reducible refine wpAny_madeHere_exc F.canon hC ?_ | with_reducible refine wpAny_loadPart_at hC ?_ | (with_reducible refine wpAny_isSubtype_exc hC ?_; first | rw [hcB] | rw [hcA] | rw [hcN]) | wp_step)
  show R _ _
  rw [Heap.size_push]
  exact hq
theorem type_call_ownK (F : ExcBaseFacts B newId initId bmB) (hT : ∀ X : String, bm.contains (.type X) = bmB.contains (.type X)) {rest : List Value} {kw : List (Str × Value)} {fI : Addr} {Q : Fin → Shared → Prop}
    (hC : h.get? C = some (excClassObj nm q C N bs bm hdct sn sub ab col dd k0 k1 k2 k3 k5 newId))
    (hi : W.Looks (model prog w) h (typeLookup (.ref C) "__init__") (some (.ref fI))) (hb : ∀ self, W.Looks (model prog w) h (bindSpecial (.ref fI) self) (.ref fI, [self])) (hrest : rest.length ≤ sizeLine)
    (hq : codeAny (model prog w) A (.call (.ref fI) ⟨.ref (h.objs.size + 1) :: rest, kw⟩)
      (fun r s' => match r with | .ok (.ret v) => v = .none ∧ Q (.done (.ret (.ref (h.objs.size + 1)))) s' | .ok _ => False | .error e => E e s')
      ⟨(h.push (W.kdv_tup rest)).push (excO C h.objs.size), g, d, t, os⟩) :
    wpAny (model prog w) A (Builtin.«type.__call__» ⟨.ref C :: rest, kw⟩) Q E ⟨h, g, d, t, os⟩ := by
  repeat (first | with_reducible refine wpAny_loadPart_at hC ?_ | with_reducible refine wpAny_madeBy_exc hC ?_ | wp_step)
  refine codeAny_call_builtin_code (Code.quiet_builtin _ F.quiet) (check_new_ownK F hT hC ?_)
  refine new_ownK F hT hC ?_ hrest
  show wpAny _ _ _ _ _ _
  have k : ∀ b o, h.get? b = some o → ((h.push (W.kdv_tup rest)).push (excO C h.objs.size)).get? b = some o := fun b o e => Heap.get?_push_of_some _ (Heap.get?_push_of_some _ e)
  have hC₁ := k _ _ hC
  have hget : ((h.push (W.kdv_tup rest)).push (excO C h.objs.size)).get? (h.objs.size + 1) = some (excO C h.objs.size) := by heap_get
  have hcC : (Value.ref C :: bm).contains (.ref C) = true := by simp
  have i1 := hi.keeps k
  have b1 := (hb (.ref (h.objs.size + 1))).keeps k
  unfold isInstance
  repeat (first | with_reducible refine wpAny_loadPart_at hget ?_ | (with_reducible refine wpAny_isSubtype_exc hC₁ ?_; rw [hcC]) | wp_step)
  show wpAny _ _ (typeLookup (.ref C) _) _ _ _
  refine i1.at ?_
  refine wpAny_holding (wpAny_bind (b1.at ?_))
  refine wpAny_bind (wpAny_call (codeAny_mono hq fun r s' z => ?_))
  rcases r with e | (v | _ | _ | _) <;> first | exact z | exact z.elim | skip
  obtain ⟨rfl, z⟩ := z
  first
    | exact wpAny_pure (wpAny_pure z)
    | (wp_walk; exact z)
theorem call_ownK (F : ExcBaseFacts B newId initId bmB) (hT : ∀ X : String, bm.contains (.type X) = bmB.contains (.type X)) {rest : List Value} {kw : List (Str × Value)} {fI : Addr}
    (hC : h.get? C = some (excClassObj nm q C N bs bm hdct sn sub ab col dd k0 k1 k2 k3 k5 newId))
    (hi : W.Looks (model prog w) h (typeLookup (.ref C) "__init__") (some (.ref fI))) (hb : ∀ self, W.Looks (model prog w) h (bindSpecial (.ref fI) self) (.ref fI, [self])) (hrest : rest.length ≤ sizeLine)
    (hq : codeAny (model prog w) (A.under (.builtin "type.__call__" ⟨.ref C :: rest, kw⟩)) (.call (.ref fI) ⟨.ref (h.objs.size + 1) :: rest, kw⟩) (W.InitBack (h.objs.size + 1) R)
      ⟨(h.push (W.kdv_tup rest)).push (excO C h.objs.size), g, d, t, os⟩) :
    codeAny (model prog w) A (.call (.ref C) ⟨rest, kw⟩) R ⟨h, g, d, t, os⟩ := by
  have f1 := tc_lookup
  have f2 := tc_bind (.ref C)
  have hTy : (⟨h, g, d, t, os⟩ : Shared).TypeIs (.ref C) "type" := ⟨_, hC, rfl⟩
  refine codeAny_of_tree ?_
  show wpAny _ _ (callAny (.ref C) _) _ _ _
  repeat (any_goals (first | assumption | with_reducible refine wpAny_loadPart_at hC ?_ | wp_step))
  refine ⟨rfl, ?_⟩
  refine codeAny_call_builtin_at (Code.quiet_builtin _ (by decide +kernel)) entry_typeCall (wpAny_check_type_call_sub hC (type_call_ownK F hT hC hi hb hrest ?_))
  refine codeAny_mono hq fun r s' z => ?_
  rcases r with e | (v | _ | _ | _) <;> exact z
end
end Sip
namespace Sip
open PySem PySem.Spec PyProof.Rows L2 TL L2H
section
variable {X : Cx} {C fI : Addr} {k n : Nat} {fd : FuncData} {ps ks : List Str} {sp : Sp} {x : Str} {e : Expr} {es : List Expr} {kws : List Keyword} {ta tk : TA} {p pos : Pos} {ds : List Value} {dvs : List V} {g : List Value → List Value → List Value} {gV : List V → List V → List V}
/-- an own error made by an __init__ that raises nothing -/
theorem mk_coreC {pins : List (Addr × Obj)} {σ : L2.St} {H1 : Hp} {s1 : Shared} {Q : XK} {us : List Value} {kw : List (Str × Value)} {us2 : Value → List Value} {vs2 : Addr → List V} (T : OexC X.K C)
    (iC : PySem.W.findIn X.K (.ref C) "__init__" = some (some (.ref fI))) (tI : PySem.W.typeIn X.K (.ref fI) = some (.type "function")) (F1 : FnC X.prog X.w X.K X.mg X.base k fI fd ps sp) (hr : RoomH (k + 1) X.A)
    (I1 : Inv X pins σ H1 s1) (hus : us.length ≤ sizeLine) (hbd : ∀ (s : Shared) (a : Value), X.K.In s.heap → BindsTo s fd ⟨a :: us, kw⟩ (ps.zip (us2 a))) (r2 : ∀ a : Addr, Vals (vs2 a) (us2 (.ref a)))
    (hq : ∀ a, H1 a = none → sp (vs2 a) (upd H1 a (exo a C none)) (fun v H2 => v = .non ∧ ∃ (d : Addr) (fs : List (Str × V)), H2 a = some (exo a C (some d)) ∧ H2 d = some (exd d fs) ∧ H1 d = none ∧ Q (.ref C) (some d) (upd (del H2 a) d (.xd fs))) (fun _ _ _ => False)) :
    wpAny (model X.prog X.w) X.A (call (.ref C) us kw) (L2N.MkP X pins σ Q) X.xe s1 := by
  obtain ⟨nm, q, N, bs, bm, sn, sub, ab, col, dd, k0, k1, k2, k3, k5, hC, hbm⟩ := T.cls
  obtain ⟨hp, g, dr, tk, os⟩ := s1
  have hsz : hp.objs.size ≤ hp.objs.size + 1 := Nat.le_succ _
  have hn : H1 (hp.objs.size + 1) = none := I1.hok.fresh hsz
  have hq := hq (hp.objs.size + 1) hn
  have kk : ∀ b o, hp.get? b = some o → ((hp.push (PySem.W.kdv_tup us)).push (PySem.HandSPX.excO C hp.objs.size)).get? b = some o := fun b o e => Heap.get?_push_of_some _ (Heap.get?_push_of_some _ e)
  have hget : ((hp.push (PySem.W.kdv_tup us)).push (PySem.HandSPX.excO C hp.objs.size)).get? (hp.objs.size + 1) = some (PySem.HandSPX.excO C hp.objs.size) := by heap_get
  have I2 : Inv X pins σ (upd H1 (hp.objs.size + 1) (exo (hp.objs.size + 1) C none)) ⟨(hp.push (PySem.W.kdv_tup us)).push (PySem.HandSPX.excO C hp.objs.size), g, dr, tk, os⟩ :=
    I1.laid (t' := tk) (a := hp.objs.size + 1) (o := exo (hp.objs.size + 1) C none) (h' := (hp.push (PySem.W.kdv_tup us)).push (PySem.HandSPX.excO C hp.objs.size)) kk hsz (exo_ok hget)
  refine wpAny_call (call_ownK F.excBase_ValueError (fun Y => PySem.HandSPX.refsVE_contains Y bm hbm) (I1.kIn _ _ hC) (PySem.W.looks_findIn I1.kIn iC) (fun self => PySem.W.bind_fn I1.kIn self tI) hus
    (codeAny_mono (F1.run _ X.stack _ _ ⟨Value.ref (hp.objs.size + 1) :: us, kw⟩ (us2 (.ref (hp.objs.size + 1))) _ _ (fun _ _ _ => False) (hr.make C us kw) (I2.env0.make C us kw) (hbd _ _ I2.kIn) (r2 _) hq) fun r s' hq' => ?_))
  match r, hq' with
  | .ok (.ret u), hq' =>
    obtain ⟨v, H2, os2, bare2, un2, hok2, rv, ev, d, fs, ea, ed, hd1, q2⟩ := hq'
    subst ev
    obtain ⟨h2, g2, d2, t2, os'⟩ := s'
    obtain ⟨t0, G, J, kG, ge, hoe, na⟩ := mk_end0 (d2 := d2) (t2 := t2) I1 hsz kk un2 hok2 os2 bare2 ea ed hd1
    refine ⟨rv, ⟨hp.objs.size + 1, _, _, ⟨G, g2, d2, t2, os'⟩, _, .ref C, some d, rfl, J, kG, ge, hoe, ⟨rfl, rfl, fun vs hv => ?_⟩, rfl, rfl, na, rfl, bare2, raises_own T.exC T.tyC, q2⟩⟩
    cases hv
    rfl
/-- C(e, ..) -/
theorem pmk_C (T : OexC X.K C) (iC : PySem.W.findIn X.K (.ref C) "__init__" = some (some (.ref fI))) (tI : PySem.W.typeIn X.K (.ref fI) = some (.type "function")) (F1 : FnC X.prog X.w X.K X.mg X.base k fI fd ps sp) (hr : RoomH (k + 1) X.A)
    (hb : Binds X.K fd ps ds) (hd : Vals dvs ds) (hg : Gl X x) (hm : X.mg x = some (.ref C)) (ha : PA X (e :: es) ta)
    (hdb : (x == ("__debug__" : Str)) = false := by decide) (he : starEach (e :: es) X.env = (false, eval e X.env) :: starEach es X.env := by rfl) (hpl : (backTo pos (starEach es X.env)).any (·.1) = false := by rfl) :
    L2N.PMk X (.Call (.Name x p) (e :: es) [] pos) (tMkO C sp dvs ta) := by
  intro pins s σ H Q I h
  refine wpAny_Call_Name_kw (ld_glob I hg hm ?_ hdb)
  refine PySem.W.callWith_K (h₀ := X.base) I.ok.mod.kin T.kC (thn (ha.run pos pins s σ H _ I h) fun us s1 ⟨vs, H1, I1, r1, hz, q1⟩ => ⟨I1.kIn, ?_⟩) he hpl
  have hl : ∀ a : Value, (a :: us ++ ds).length = ps.length := fun a => by
    have e := F1.len _ _ _ _ (q1 (s1.heap.objs.size + 1) (I1.hok.fresh (Nat.le_succ _)))
    have l1 := Paired.length r1
    have l2 := Paired.length hd
    simp only [List.length_cons, List.length_append] at e ⊢
    omega
  show wpAny _ _ (call (.ref C) us []) _ _ _
  exact mk_coreC (us := us) (kw := []) (us2 := fun a => a :: (us ++ ds)) (vs2 := fun a => .ref a :: (vs ++ dvs)) T iC tI F1 hr I1 (by rw [← Paired.length r1, sizeLine_eq]; omega) (fun s a KX => hb s (a :: us) KX (hl a)) (fun a => .cons rfl (r1.append hd)) q1
/-- C(k = v, ..) -/
def tMkK (C : Addr) (m : Nat) (sp : Sp) (gV : List V → List V → List V) (tk : TA) : L2.St → Hp → XK → Prop := fun σ H Q => tk σ H fun zs H1 => zs.length = m ∧ ∀ a, H1 a = none → sp (gV [.ref a] zs) (upd H1 a (exo a C none))
  (fun v H2 => v = .non ∧ ∃ (d : Addr) (fs : List (Str × V)), H2 a = some (exo a C (some d)) ∧ H2 d = some (exd d fs) ∧ H1 d = none ∧ Q (.ref C) (some d) (upd (del H2 a) d (.xd fs))) (fun _ _ _ => False)
theorem pmk_CK0 (T : OexC X.K C) (iC : PySem.W.findIn X.K (.ref C) "__init__" = some (some (.ref fI))) (tI : PySem.W.typeIn X.K (.ref fI) = some (.type "function")) (F1 : FnC X.prog X.w X.K X.mg X.base k fI fd ps sp) (hr : RoomH (k + 1) X.A)
    (hb : KBn X.K fd ps 1 ks g gV) (hg : Gl X x) (hm : X.mg x = some (.ref C)) (hkw : PK X kws tk)
    (hall : (backToKw pos (keywordEach kws X.env)).all (·.1.isSome) = true := by rfl) (hks : (backToKw pos (keywordEach kws X.env)).filterMap (·.1) = ks := by rfl) (hdb : (x == ("__debug__" : Str)) = false := by decide)
    (hpl : ((backTo pos (starEach [] X.env)).any (·.1) || (backToKw pos (keywordEach kws X.env)).any (·.1.isNone)) = false := by rfl) :
    L2N.PMk X (.Call (.Name x p) [] kws pos) (tMkK C ks.length sp gV tk) := by
  intro pins s σ H Q I h
  refine wpAny_Call_Name_kw (ld_glob I hg hm ?_ hdb)
  refine PySem.W.callWith_KW0 (h₀ := X.base) I.ok.mod.kin T.kC hall ?_ hpl
  refine thn (hkw.run pos pins s σ H _ I h) fun ws s2 ⟨zs, H2, I2, rz, l2, q2⟩ => ⟨I2.kIn, ?_⟩
  rw [hks]
  exact mk_coreC (us := []) (kw := ks.zip ws) (us2 := fun a => g [a] ws) (vs2 := fun a => gV [.ref a] zs) T iC tI F1 hr I2 (Nat.zero_le _) (fun s a KX => hb.to s [a] ws KX rfl (rz.length.symm.trans l2)) (fun a => hb.rel (.cons rfl .nil) rz) q2
/-- C(e, .., k = v, ..) -/
def tMkEK (C : Addr) (n m : Nat) (sp : Sp) (gV : List V → List V → List V) (ta tk : TA) : L2.St → Hp → XK → Prop := fun σ H Q => ta σ H fun vs H0 => tk σ H0 fun zs H1 => vs.length = n ∧ zs.length = m ∧ n ≤ 1000 ∧ ∀ a, H1 a = none → sp (gV (.ref a :: vs) zs) (upd H1 a (exo a C none))
  (fun v H2 => v = .non ∧ ∃ (d : Addr) (fs : List (Str × V)), H2 a = some (exo a C (some d)) ∧ H2 d = some (exd d fs) ∧ H1 d = none ∧ Q (.ref C) (some d) (upd (del H2 a) d (.xd fs))) (fun _ _ _ => False)
theorem pmk_CK (T : OexC X.K C) (iC : PySem.W.findIn X.K (.ref C) "__init__" = some (some (.ref fI))) (tI : PySem.W.typeIn X.K (.ref fI) = some (.type "function")) (F1 : FnC X.prog X.w X.K X.mg X.base k fI fd ps sp) (hr : RoomH (k + 1) X.A)
    (hb : KBn X.K fd ps (n + 1) ks g gV) (hg : Gl X x) (hm : X.mg x = some (.ref C)) (ha : PA X (e :: es) ta) (hkw : PK X kws tk)
    (hall : (backToKw pos (keywordEach kws X.env)).all (·.1.isSome) = true := by rfl) (hks : (backToKw pos (keywordEach kws X.env)).filterMap (·.1) = ks := by rfl) (hdb : (x == ("__debug__" : Str)) = false := by decide)
    (he : starEach (e :: es) X.env = (false, eval e X.env) :: starEach es X.env := by rfl) (hpl : ((backTo pos (starEach (e :: es) X.env)).any (·.1) || (backToKw pos (keywordEach kws X.env)).any (·.1.isNone)) = false := by rfl) :
    L2N.PMk X (.Call (.Name x p) (e :: es) kws pos) (tMkEK C n ks.length sp gV ta tk) := by
  intro pins s σ H Q I h
  refine wpAny_Call_Name_kw (ld_glob I hg hm ?_ hdb)
  refine PySem.W.callWith_KW (h₀ := X.base) I.ok.mod.kin T.kC hall (thn (ha.run pos pins s σ H _ I h) fun us s1 ⟨vs, H1, I1, r, q⟩ => ?_) hpl he
  refine thn (hkw.run pos pins s1 σ H1 _ I1 q) fun ws s2 ⟨zs, H2, I2, rz, l1, l2, ln, q2⟩ => ⟨I2.kIn, ?_⟩
  rw [hks]
  have lu : us.length = n := r.length.symm.trans l1
  exact mk_coreC (us := us) (kw := ks.zip ws) (us2 := fun a => g (a :: us) ws) (vs2 := fun a => gV (.ref a :: vs) zs) T iC tI F1 hr I2 (by rw [lu, sizeLine_eq]; omega) (fun s a KX => hb.to s (a :: us) ws KX (by rw [List.length_cons, lu]) (rz.length.symm.trans l2)) (fun a => hb.rel (.cons rfl r) rz) q2
/-- o.m() of a def that raises nothing, whatever is handled -/
theorem pe_meth0C {f C : Addr} {k : Nat} {fd : FuncData} {ps : List Str} {sp : Sp} {E : XK} {m : Str} {o : Expr} {te : TE} {pos apos : Pos} {pl : Sem Bool} (he : PE X o te) (c : Cls X.K C) (hm : Meth X.K C m f) (F : FnC X.prog X.w X.K X.mg X.base k f fd ps sp) (hr : RoomH k X.A) (hb : Binds X.K fd ps ds) (hd : Vals dvs ds)
    (ht : eval (.Call (.Attribute o m apos) [] [] pos) X.env = (do
      let ov ← eval o X.env
      standAt apos.atName
      let (f, first) ← holding [ov] (getMethod ov m pl)
      callWith pos f first (backTo pos (starEach [] X.env)) (backToKw pos (keywordEach [] X.env))) := by rfl) :
    PE X (.Call (.Attribute o m apos) [] [] pos) (tMeth C m sp dvs E te tNil) := by
  refine ⟨fun pins s σ H Q I h => ?_⟩
  refine PySem.W.methodCall_KW (pl := pl) (thn (he.run pins s σ H _ I h) fun u s1 ⟨x, H1, I1, rx, a, dx, fs, ex, ea, l, q⟩ => ?_) ht
  subst ex
  obtain rfl : u = Value.ref a := rx
  refine getmeth_ok I1 ea c hm l ?_
  exact PySem.W.callWith_K0 (first := [.ref a]) I1.kIn hm.kp (run_fnC (us := [.ref a]) (vs := [.ref a]) F hr hb hd I1 (.cons rfl .nil) q)
/-- e.f of a pinned error -/
theorem pe_xfG {f : Str} {a : Addr} {oe : Obj} {cls : Value} {d : Option Addr} {e : Expr} {te : TE} {pos : Pos} (hp : (a, oe) ∈ X.pn) (hz : Zc cls d oe) (hf : ∃ vs, oe.data = .fields vs) (he : PE X e te)
    (hb : attributeBase e f X.env (eval e X.env) = eval e X.env := by rfl) : PE X (.Attribute e f pos) (tXf X.K f a cls d te) := by
  refine ⟨fun pins s σ H Q I h => attr_of hb (thn (he.run pins s σ H _ I h) fun u s1 hh => ?_)⟩
  obtain ⟨x, H1, I1, rx, D, dd, fs, v, rfl, rfl, C, no, rfl, ed, lk, q⟩ := hh
  obtain rfl : u = Value.ref a := rx
  obtain ⟨ha, _⟩ := I1.pin (a, oe) (List.mem_append_left _ hp)
  have ob : ObjOk X.prog X.w H1 s1.heap dd (.xd fs) := I1.hok dd _ ed
  obtain ⟨mA, hns, hr⟩ := ob
  obtain ⟨od, ho, hl⟩ := lookIn_ns hns
  obtain ⟨v', hv', rv⟩ := RelO.some_of (v := v) (o := mA f) (by rw [← lk]; exact hr f)
  obtain ⟨vs, hd⟩ := hf
  have J : PySem.W.InstAt s1.heap a oe D (some od) := by
    refine ⟨ha, hz.1, ?_, ?_⟩
    · unfold PySem.W.notCls; rw [hd]
    · rw [hz.2]; exact ho
  exact HandSPX.exc_get I1.kIn J C.hg C.hk C.hs (PySem.W.findObj_own C.hd no rfl (by rw [hl, hv'])) (handed_of rv) ⟨v, H1, I1.tok _, rv, q⟩
end
end Sip
namespace Sip
open PySem PySem.Spec PyProof.Rows L2 TL L2H
section
variable {X : Cx} {C fI : Addr} {k : Nat} {fd : FuncData} {ps : List Str} {sp : Sp} {x : Str} {p pos : Pos} {ds : List Value} {dvs : List V}
/-- C() -/
theorem pmk_C0 (T : OexC X.K C) (iC : PySem.W.findIn X.K (.ref C) "__init__" = some (some (.ref fI))) (tI : PySem.W.typeIn X.K (.ref fI) = some (.type "function")) (F1 : FnC X.prog X.w X.K X.mg X.base k fI fd ps sp) (hr : RoomH (k + 1) X.A)
    (hb : Binds X.K fd ps ds) (hd : Vals dvs ds) (hg : Gl X x) (hm : X.mg x = some (.ref C)) (hdb : (x == ("__debug__" : Str)) = false := by decide) :
    L2N.PMk X (.Call (.Name x p) [] [] pos) (tMkO C sp dvs tNil) := by
  intro pins s σ H Q I h
  refine wpAny_Call_Name_kw (ld_glob I hg hm ?_ hdb)
  obtain ⟨_, q1⟩ := h
  have hl : ∀ a : Value, ([a] ++ ds).length = ps.length := fun a => by
    have e := F1.len _ _ _ _ (q1 (s.heap.objs.size + 1) (I.hok.fresh (Nat.le_succ _)))
    have l2 := Paired.length hd
    simp only [List.length_cons, List.length_append, List.length_nil] at e ⊢
    omega
  refine PySem.W.callWith_K0 (first := []) I.kIn T.kC ?_
  exact mk_coreC (us := []) (kw := []) (us2 := fun a => a :: ds) (vs2 := fun a => .ref a :: dvs) T iC tI F1 hr I (Nat.zero_le _) (fun s a KX => hb s [a] KX (hl a)) (fun a => .cons rfl hd) q1
end
end Sip
/-! list comprehensions over two things, one by one -/
namespace Sip
open PySem PySem.Spec PyProof.Rows L2 TL
section
variable {K : PySem.W.Frag} {a : Addr} {x0 x1 : V} {g : TG} {tt : TT} {te : TE} {vs : List Nat} {σ : L2.St} {H1 : Hp} {D : Addr} {Qd : Hp → Prop}
/-- one element of a list that is being made -/
def El2 (g : TG) (tt : TT) (te : TE) (vs : List Nat) (σ : L2.St) (D : Addr) (x : V) (H : Hp) (Nx : Hp → Prop) : Prop := g x (wipe σ vs) H fun σ2 H2 => wipe σ2 vs = wipe σ vs ∧ tt σ2 H2 fun b H3 =>
      if b = true then te σ2 H3 fun y H4 => ∃ acc, H4 D = some (.lst acc) ∧ acc.length < sizeLine ∧ Nx (upd H4 D (.lst (acc ++ [y]))) else Nx H3
theorem lc_list2 (P1 P2 : Hp → Prop) (h0 : SqL K (upd H1 D (.lst [])) a [x0, x1])
    (s0 : El2 g tt te vs σ D x0 (upd H1 D (.lst [])) P1)
    (s1 : ∀ H, P1 H → SqL K H a [x0, x1] ∧ El2 g tt te vs σ D x1 H P2)
    (s2 : ∀ H, P2 H → SqL K H a [x0, x1] ∧ Qd H) :
    ∃ W : Nat → Nat → Hp → Prop, (∃ m, W 0 m (upd H1 D (.lst []))) ∧ ∀ i m H, W i m H →
      ((Itl K a).stop i H ∧ Qd H) ∨ ((Itl K a).go i H ∧ ∃ Nx : Hp → Prop, (∀ H', Nx H' → ∃ m', m' < m ∧ W (i + 1) m' H') ∧ ∀ x H', (Itl K a).yld i H x H' → g x (wipe σ vs) H' fun σ2 H2 => wipe σ2 vs = wipe σ vs ∧ tt σ2 H2 fun b H3 =>
        if b = true then te σ2 H3 fun y H4 => ∃ acc, H4 D = some (.lst acc) ∧ acc.length < sizeLine ∧ Nx (upd H4 D (.lst (acc ++ [y]))) else Nx H3) := by
  refine lc_list (K := K) (a := a) (xs := [x0, x1]) (fun i H' => match i with | 0 => H' = upd H1 D (.lst []) | 1 => P1 H' | _ => P2 H') rfl (fun i H' hi h => ?_) (fun i x H' hx h => ?_) (fun H' h => (s2 H' h).2)
  · match i, hi, h with
    | 0, _, h => obtain rfl : H' = _ := h; exact h0
    | 1, _, h => exact (s1 _ h).1
    | 2, _, h => exact (s2 _ h).1
    | n + 3, hi, _ => exact absurd hi (by show ¬ n + 3 ≤ 2; omega)
  · match i, hx, h with
    | 0, hx, h => obtain rfl : H' = _ := h; obtain rfl : x0 = x := Option.some.inj hx; exact s0
    | 1, hx, h => obtain rfl : x1 = x := Option.some.inj hx; exact (s1 _ h).2
    | n + 2, hx, _ => exact absurd hx (by simp)
end
end Sip
/-! a def whose first statement is super().m() -/
namespace Sip
open PySem PySem.Spec PyProof.Rows L2 TL
section
variable {X : Cx} {pins : List (Addr × Obj)} {σ : L2.St} {H : Hp} {s : Shared} {a C D dx f f2 cc cda : Addr} {fs : List (Str × V)} {fd fd2 : FuncData} {ar : Arg} {vs : Array Value} {file m : Str} {tf : Tok} {ps2 : List Str} {sp : Sp} {k : Nat} {CX : CXT} {E : XK} {Q : VK}
/-- what super() asks of the running def and its class -/
structure SupA (X : Cx) (C D f cc cda f2 : Addr) (fd : FuncData) (ar : Arg) (m : Str) : Prop where
  ks : X.env.kindOf "super" = some .globalImplicit
  kc : X.env.kindOf "__class__" = some .free
  cl : X.env.cells.lookup ("__class__" : Str) = some cc
  fu : X.env.func = some f
  fK : ∃ oc od sl, X.K.lookup f = some ⟨oc, od, .func fd, sl⟩
  hp : (fd.params.posonlyargs ++ fd.params.args).head? = some ar
  slf : X.N[0]? = some ar.arg
  lo : X.env.kindOf ar.arg = some .local
  co : X.env.code = .ref cda
  cK : ∃ (cls : Value) (d : Option Addr) (vs : Array Value) (sl : Array (Option Value)) (file : Str) (tf : Tok), X.K.lookup cda = some ⟨cls, d, .fields vs, sl⟩ ∧ vs[2]? = some (.str file tf) ∧ ((X.prog.main.file : Str) == file) = true
  top : (X.prog.main.scope.names.lookup ("super" : Str)).isSome = false
  ce : ∃ cls d sl, X.K.lookup cc = some ⟨cls, d, .cell (some (.ref D)), sl⟩
  cD : (PySem.W.clsIn X.K D).isSome = true
  sub : PySem.W.mroIn X.K C (.ref D) = some true
  sm : PySem.W.ks_superIn X.K C D m = some (some (.ref f2))
  ty : PySem.W.typeIn X.K (.ref f2) = some (.type "function")
  fn : PySem.W.fnIn X.K f2 = true
  na : PySem.W.nsIn X.K PySem.cStatics "thirdparty.any" = some none
  ms : X.mg "super" = none
theorem super_run {body : List Stmt} {p0 p1 apos pos : Pos} (A : SupA X C D f cc cda f2 fd ar m) (hat : (m == ("__class__" : Str)) = false) (hboot : bootBuiltins "super" = some (.type "super")) {pl : Sem Bool}
    (he : eval (.Call (.Attribute (.Call (.Name "super" p0) [] [] p1) m apos) [] [] pos) X.env = (do
      let ov ← attributeBase (.Call (.Name "super" p0) [] [] p1) m X.env (eval (.Call (.Name "super" p0) [] [] p1) X.env)
      standAt apos.atName
      let (f, first) ← holding [ov] (getMethod ov m pl)
      callWith pos f first (backTo pos (starEach [] X.env)) []))
    (F : FnOk X.prog X.w X.K X.mg X.base CX k f2 fd2 ps2 sp) (hr : Room k X.A) (hb : Binds X.K fd2 ps2 []) (hx : Passes CX X E) (I : Inv X pins σ H s) (h0 : σ[0]? = some (some (.ref a))) (ea : H a = some (.ins C dx fs)) (q : sp [.ref a] H Q E) :
    _root_.PySem.wpAt (model X.prog X.w) X.A (.func body X.env) (eval (.Call (.Attribute (.Call (.Name "super" p0) [] [] p1) m apos) [] [] pos) X.env) (EP X pins σ Q) X.xe s := by
  obtain ⟨oc, od, sl, fK⟩ := A.fK
  obtain ⟨ccl, cdd, vs, ccs, file, tf, cK, hvs, hfile⟩ := A.cK
  obtain ⟨zcl, zd, zsl, ce⟩ := A.ce
  obtain ⟨cdD, cD⟩ := Option.isSome_iff_exists.mp A.cD
  have KX := I.kIn
  obtain ⟨mA, J0, _⟩ := ins_get I.hok ea
  obtain ⟨od2, J, _⟩ := J0.look
  obtain ⟨oD, hD1, hD2⟩ : ∃ oD, s.heap.get? D = some oD ∧ oD.data = .cls cdD := by
    unfold PySem.W.clsIn at cD
    split at cD
    · rename_i c d cd' sl ho
      cases cD
      exact ⟨_, KX _ _ ho, rfl⟩
    · cases cD
  refine ks_wpAt_MethodCall (pl := pl) ?_ he
  refine ks_wpAt_super_base A.ks A.kc hat A.fu (KX _ _ fK) rfl A.hp A.co (KX _ _ cK) rfl hvs hfile A.top ?_
  obtain ⟨mb, h1, h2⟩ := I.mod.blt
  refine PySem.W.ks_loadName_global I.ok.kind A.ks (Calls.loadGlobal_builtin (by rw [I.ok.glob]; exact I.mod.glob.keeps I.bk) A.ms (by rw [I.ok.blt]; exact h1.keeps I.bk) ((h2 "super" (by decide)).trans hboot) ⟨rfl, ?_⟩)
  refine wpAny_loadName_free I.ok.kind A.kc A.cl ⟨_, KX _ _ ce, rfl⟩ ?_
  obtain ⟨m', hn, hl⟩ := I.loc
  obtain ⟨u, ru, lk⟩ := hl 0 ar.arg (.ref a) A.slf h0 (Or.inl A.lo)
  cases (show u = Value.ref a from ru)
  have hv : m' ar.arg = some (.ref a) := by
    rcases lk with ⟨_, z⟩ | ⟨z, _⟩
    · exact z
    · rw [A.lo] at z; rcases z with z | z <;> cases z
  refine wpAny_loadName_local I.ok.kind A.lo hn hv ?_
  obtain ⟨hh, g, d, t, os⟩ := s
  refine ks_wpAny_isType_cls hD1 hD2 ⟨rfl, ?_⟩
  refine ks_wpAny_call_super hD1 hD2 J.at_ J.cls (fun c e => ?_) (PySem.W.looks_mroIn KX A.sub) (fun h' e kk => ?_)
  · have := J.no
    unfold PySem.W.notCls at this
    rw [e] at this
    exact Bool.noConfusion this
  have I1 : Inv X pins σ H ⟨h', g, d, t, os⟩ := I.kept (t' := t) kk
  have KX1 := I1.kIn
  have J1 := J
  cases hc : PySem.W.clsIn X.K C with
  | none => have z := A.sm; unfold PySem.W.ks_superIn at z; rw [hc] at z; cases z
  | some cd =>
    have hm := A.sm
    unfold PySem.W.ks_superIn at hm
    rw [hc] at hm
    obtain ⟨of, hof, hofc⟩ : ∃ of, h'.get? f2 = some of ∧ of.cls = .type "function" := by
      have ht' : (X.K.lookup f2).map (·.cls) = some (.type "function") := A.ty
      cases z : X.K.lookup f2 with
      | none => rw [z] at ht'; cases ht'
      | some of => rw [z] at ht'; exact ⟨of, KX1 _ _ z, Option.some.inj ht'⟩
    refine ks_wpAny_getMethod_super e (PySem.W.looks_opaque KX1 A.na) (l₀ := cd.mro) ?_ rfl KX1 hm hof hofc (PySem.W.ks_ne KX J hc) hat ?_
    · exact fun A Q E s k q => wpAny_bind ((PySem.W.looks_clsIn KX1 hc) A _ E s k (wpAny_pure q))
    have I2 := ClX.met_new (g := f2) (C := a) I1
    refine PySem.W.callWith_M0 (K := X.K) (g := f2) (self := .ref a) ⟨ClX.pin_at I2, I2.kIn⟩ A.fn ?_
    have hl := F.len _ _ _ _ q
    have r2 : Vals [V.ref a] [Value.ref a] := .cons rfl .nil
    have z : wpAny (model X.prog X.w) X.A (call (.ref h'.objs.size) []) (EP X ((h'.objs.size, PySem.W.methodObj (.ref f2) (.ref a)) :: pins) σ Q) X.xe _ :=
      wpAny_call (PySem.W.method_call (ClX.pin_at I2) (codeAny_mono (F.run X.A X.stack _ H ⟨[.ref a], []⟩ [.ref a] [.ref a] Q E hr I2.env0 (by
        have := hb _ [.ref a] I2.kIn (by simpa using hl)
        simpa using this) r2 q) fun r s' hq => by
          cases r with
          | error e => exact hx _ σ H _ e s' I2 hq
          | ok fl =>
            cases fl with
            | ret w => exact I2.after hq
            | next => exact False.elim hq
            | brk => exact False.elim hq
            | cont => exact False.elim hq))
    exact thn z fun _ _ y => ClX.unpinE y
end
section
open NdefX
variable {CX : CXT} {P : Program} {w : World} {K : PySem.W.Frag} {mg : Str → Option Value} {base : Heap} {N ps : List Str} {F : NF} {f cc D : Addr} {k : Nat} {sp : Sp} {doc pm ctv oc : Value} {od : Option Addr} {sl : Array (Option Value)} {m : Str} {rest : List Stmt} {p0 p1 apos pos epos : Pos}
/-- a def whose first statement is super().m() -/
theorem fn_super (lk : K.lookup f = some ⟨oc, od, .func (F.fd doc pm ctv), sl⟩) (hcd : PySem.W.codeIn K (.ref F.c) F.qual = true) (S : NScope N ps ["__class__"] F.scope) (hcl : F.cl = [(("__class__" : Str), cc)])
    (ce : ∃ cls d csl, K.lookup cc = some ⟨cls, d, .cell (some (.ref D)), csl⟩)
    (hbd : F.body = .Expr (.Call (.Attribute (.Call (.Name "super" p0) [] [] p1) m apos) [] [] pos) epos :: rest) (hat : (m == ("__class__" : Str)) = false) (hboot : bootBuiltins "super" = some (.type "super"))
    (hi : ∀ L, interactive (envF F f L) = false) (hs : ∀ L, swapsWith (.Call (.Attribute (.Call (.Name "super" p0) [] [] p1) m apos) [] [] pos) none epos.line (envF F f L) = pure false)
    (he : ∀ L, ∃ pl : Sem Bool, eval (.Call (.Attribute (.Call (.Name "super" p0) [] [] p1) m apos) [] [] pos) (envF F f L) = (do
      let ov ← attributeBase (.Call (.Name "super" p0) [] [] p1) m (envF F f L) (eval (.Call (.Name "super" p0) [] [] p1) (envF F f L))
      standAt apos.atName
      let (g, first) ← holding [ov] (getMethod ov m pl)
      callWith pos g first (backTo pos (starEach [] (envF F f L))) []))
    (len : ∀ vs H Q E, sp vs H Q E → vs.length = ps.length)
    (hbody : ∀ (A : Around) (outer : List Env) (s : Shared) (H : Hp) (vs : List V) (Q : VK) (E : XK), Room k (A.deeper (envF F f s.heap.objs.size)) → sp vs H Q E →
      ∃ (a C dx : Addr) (fs : List (Str × V)) (f2 cda : Addr) (fd2 : FuncData) (ps2 : List Str) (sp2 : Sp) (ar : Arg), SupA (ncx CX P w K mg base N F f A outer s H E) C D f cc cda f2 (F.fd doc pm ctv) ar m ∧ FnOk P w K mg base CX k f2 fd2 ps2 sp2 ∧ Binds K fd2 ps2 [] ∧
        Passes CX (ncx CX P w K mg base N F f A outer s H E) E ∧ vs[0]? = some (.ref a) ∧ H a = some (.ins C dx fs) ∧
        sp2 [.ref a] H (fun _ H1 => ∃ t, PSs (ncx CX P w K mg base N F f A outer s H E) rest t ∧ t { nx := fun _ H' => Q .non H', rt := Q } (startF N vs [none]) H1) E) :
    FnOk P w K mg base CX (k + 1) f (F.fd doc pm ctv) ps sp := by
  refine ⟨len, fun A outer s H args us vs Q E hr e0 hb r hsp => ?_⟩
  have KX : K.In s.heap := e0.mod.kin.keeps fun b o e => (e0.bs b o e).1
  have hl := len _ _ _ _ hsp
  have lim : s.heap.NoLimit := e0.mod.nolimit.keeps fun b o e => (e0.bs b o e).1
  refine codeAny_call_function hr.depth (KX _ _ lk) rfl S.co S.gen rfl (PySem.W.codeRec_of KX hcd) (hb _ _ _ _ ?_)
  refine wpAny_newFunctionEnv S.nocell (fun ⟨n, _⟩ hy => S.par n (List.of_mem_zip hy).1) (fun h₁ hns hsb => ⟨lim.fresh _ hsb, ?_⟩) S.kind
  show codeAny _ _ (.func F.body (envF F f s.heap.objs.size)) _ _
  refine ks_codeAny_funcAt ?_
  have kp : ∀ b o, s.heap.get? b = some o → h₁.get? b = some o := fun b o e => hsb.extBut b o (Nat.ne_of_lt (Heap.lt_size e)) (Heap.get?_push_of_some _ e)
  obtain ⟨a, C, dx, fs, f2, cda, fd2, ps2, sp2, ar, SA, F2, hb2, hx, v0, ea, q⟩ := hbody A outer s H vs Q E (hr.deeper _) hsp
  obtain ⟨ccls, cd, csl, ce⟩ := ce
  have Hc : H cc = none := by
    cases e : base.get? cc with
    | some o => exact (e0.bs cc o e).2
    | none => have z := e0.mod.kin _ _ ce; rw [e] at z; cases z
  have C0 : CellsAt F.cl ["__class__"] [none] s.heap H := by
    rw [hcl]
    have only : ∀ {y : Str} {c : Addr}, List.lookup y [(("__class__" : Str), cc)] = some c → y = "__class__" ∧ c = cc := fun {y c} e => by
      by_cases h : (y == ("__class__" : Str)) = true
      · rw [List.lookup_cons, h] at e
        exact ⟨eq_of_beq h, (Option.some.inj e).symm⟩
      · rw [List.lookup_cons, Bool.eq_false_iff.mpr h] at e
        cases e
    refine ⟨rfl, fun y c e => ?_, fun x y c e1 e2 => ?_, fun i y e => ?_⟩
    · obtain ⟨_, rfl⟩ := only e
      exact ⟨Hc, some (.ref D), ⟨_, KX _ _ ce, rfl⟩⟩
    · rw [(only e1).1, (only e2).1]
    · cases i with
      | succ i => simp at e
      | zero =>
        cases e
        exact ⟨cc, by simp [List.lookup], fun v e => by cases e⟩
  have I : Inv (ncx CX P w K mg base N F f A outer s H E) [] (startF N vs [none]) H { s with heap := h₁, toks := s.toks + (ps.zip us).length } := inv_startN S hr.hd e0 hl r C0 hns kp
  have s0 : (startF N vs [none])[0]? = some (some (.ref a)) := by
    unfold startF
    cases vs with
    | nil => cases v0
    | cons x xs => cases v0; rfl
  obtain ⟨pl, he⟩ := he s.heap.objs.size
  have fin : ∀ {σ' : L2.St} {H' : Hp} {v : V} {u : Value} {s' : Shared}, Inv (ncx CX P w K mg base N F f A outer s H E) [] σ' H' s' → L2.RelV v u → Q v H' → CE outer P w H s Q u s' :=
    fun {σ' H' v u s'} J rv q => ⟨v, H', J.os, J.bare, J.base, J.hok, rv, q⟩
  have run := super_run (X := ncx CX P w K mg base N F f A outer s H E) (body := F.body) SA hat hboot he F2 (hr.deeper _) hb2 hx I s0 ea q
  rw [hbd] at run ⊢
  refine ks_wpAt_execs_cons (ks_wpAt_Expr_any (ks_wpAt_mono run (fun v s' hv => ?_) fun e s' z => z) (hi _) (hs _))
  obtain ⟨v', H1, J, _, t, ht, hq⟩ := hv
  refine wpAt_of_wpAny (wpAny_mono (ht.run [] _ (startF N vs [none]) H1 _ J hq) (fun fl s'' hs2 => ?_) fun e s'' z => z)
  cases fl with
  | ret u =>
    obtain ⟨v, σ', H', J, rv, q⟩ := hs2
    exact fin J rv q
  | next =>
    obtain ⟨σ', H', J, q⟩ := hs2
    exact fin (v := V.non) (u := Value.none) J rfl q
  | brk =>
    obtain ⟨_, _, _, q⟩ := hs2
    exact False.elim q
  | cont =>
    obtain ⟨_, _, _, q⟩ := hs2
    exact False.elim q
end
/-- what super() asks of the program: the file of its text, and that the text has no global of this name -/
class SupProg (P : Program) (fl : Str) : Prop where
  file : ((P.main.file : Str) == fl) = true
  top : (P.main.scope.names.lookup ("super" : Str)).isSome = false
/-- .. and of the classes: D the class that says it, C the object's, f2 the def that is found -/
structure SupT (K : PySem.W.Frag) (mg : Str → Option Value) (C D f2 : Addr) (m : Str) : Prop where
  cD : (PySem.W.clsIn K D).isSome = true
  sub : PySem.W.mroIn K C (.ref D) = some true
  sm : PySem.W.ks_superIn K C D m = some (some (.ref f2))
  ty : PySem.W.typeIn K (.ref f2) = some (.type "function")
  fn : PySem.W.fnIn K f2 = true
  na : PySem.W.nsIn K PySem.cStatics "thirdparty.any" = some none
  ms : mg "super" = none
structure SupMeth (K : PySem.W.Frag) (C : Addr) (m : Str) (f : Addr) : Prop where
  m : Meth K C m f
section
open NdefX
variable {P : Program} {w : World} {K : PySem.W.Frag} {mg : Str → Option Value} {base : Heap} {N ps ps2 : List Str} {st : Stmt} {f cc cda C D f2 : Addr} {fd fd2 : FuncData} {fl x qual m : Str} {k : Nat} {sp sp2 : Sp} {rest : List Stmt} {p0 p1 apos pos epos : Pos} {ar : Arg}
abbrev supN (st : Stmt) (x qual : Str) (cc cda : Addr) : NF := ⟨x, qual, defArgs st, defBody st, defScope st, [(("__class__" : Str), cc)], cda⟩
theorem SupF.ok (U : SupF K D x qual (defArgs st) (defBody st) (defScope st) f fd cc cda fl) [SP : SupProg P fl] (M : SupT K mg C D f2 m) (S : NScope N ps ["__class__"] (defScope st))
    (hbd : defBody st = .Expr (.Call (.Attribute (.Call (.Name "super" p0) [] [] p1) m apos) [] [] pos) epos :: rest) (hat : (m == ("__class__" : Str)) = false) (hboot : bootBuiltins "super" = some (.type "super"))
    (hks : (defScope st).names.lookup ("super" : Str) = some .globalImplicit) (hp : ((defArgs st).posonlyargs ++ (defArgs st).args).head? = some ar) (hN : N[0]? = some ar.arg) (hlo : (defScope st).names.lookup ar.arg = some .local)
    (hi : ∀ L, interactive (envF (supN st x qual cc cda) f L) = false) (hs : ∀ L, swapsWith (.Call (.Attribute (.Call (.Name "super" p0) [] [] p1) m apos) [] [] pos) none epos.line (envF (supN st x qual cc cda) f L) = pure false)
    (he : ∀ L, ∃ pl : Sem Bool, eval (.Call (.Attribute (.Call (.Name "super" p0) [] [] p1) m apos) [] [] pos) (envF (supN st x qual cc cda) f L) = (do
      let ov ← attributeBase (.Call (.Name "super" p0) [] [] p1) m (envF (supN st x qual cc cda) f L) (eval (.Call (.Name "super" p0) [] [] p1) (envF (supN st x qual cc cda) f L))
      standAt apos.atName
      let (g, first) ← holding [ov] (getMethod ov m pl)
      callWith pos g first (backTo pos (starEach [] (envF (supN st x qual cc cda) f L))) []))
    (len : ∀ vs H Q E, sp vs H Q E → vs.length = ps.length) (F2 : FnOk P w K mg base CX0 k f2 fd2 ps2 sp2) (hb2 : Binds K fd2 ps2 [])
    (hb : ∀ (A : Around) (outer : List Env) (s : Shared) (H : Hp) (vs : List V) (Q : VK) (E : XK), Room k (A.deeper (envF (supN st x qual cc cda) f s.heap.objs.size)) → sp vs H Q E →
      ∃ (a dx : Addr) (fs : List (Str × V)), vs[0]? = some (.ref a) ∧ H a = some (.ins C dx fs) ∧
        sp2 [.ref a] H (fun _ H1 => ∃ t, PSs (ncx CX0 P w K mg base N (supN st x qual cc cda) f A outer s H E) rest t ∧ t { nx := fun _ H' => Q .non H', rt := Q } (startF N vs [none]) H1) E) :
    FnOk P w K mg base CX0 (k + 1) f fd ps sp := by
  obtain ⟨doc, pm, ctv, oc, od, sl, rfl, lk⟩ := U.ex
  refine fn_super (F := supN st x qual cc cda) (D := D) lk U.cd S rfl U.ce hbd hat hboot hi hs he len fun A outer s H vs Q E hr hsp => ?_
  obtain ⟨a, dx, fs, v0, ea, q⟩ := hb A outer s H vs Q E hr hsp
  refine ⟨a, C, dx, fs, f2, cda, fd2, ps2, sp2, ar, ⟨hks, S.frk _ (by simp), (show List.lookup ("__class__" : Str) [(("__class__" : Str), cc)] = some cc by simp [List.lookup]), rfl, ⟨_, _, _, lk⟩, hp, hN, hlo, rfl, ?_, SP.top, U.ce, M.cD, M.sub, M.sm, M.ty, M.fn, M.na, M.ms⟩, F2, hb2, fun _ _ _ _ _ _ _ z => z.elim, v0, ea, q⟩
  · obtain ⟨cls, d, vs, sl, tf, e1, e2⟩ := U.fi
    exact ⟨cls, d, vs, sl, fl, tf, e1, e2, SP.file⟩
end
end Sip
/-! making an object within a try: its __init__ may raise -/
namespace Sip
open PySem PySem.Spec PyProof.Rows L2 TL L2H
def tMakeKT (C : Addr) (n m : Nat) (sp : Sp) (gV : List V → List V → List V) (E : L2.St → XK) (t tk : TA) : TE := fun σ H Q => t σ H fun vs H1 => tk σ H1 fun zs H2 => vs.length = n ∧ zs.length = m ∧ ∀ x dx, H2 x = none → H2 dx = none → dx ≠ x →
  sp (gV (.ref x :: vs) zs) (upd (upd H2 dx (.own x)) x (.ins C dx [])) (fun v H3 => v = .non ∧ Q (.ref x) H3) (E σ)
section
variable {X : Cx} {CX : CXT} {k n : Nat} {f C : Addr} {fd : FuncData} {ps ks : List Str} {sp : Sp} {E : L2.St → XK} {x : Str} {p pos : Pos} {e : Expr} {es : List Expr} {kws : List Keyword} {t tk : TA} {g : List Value → List Value → List Value} {gV : List V → List V → List V}
theorem run_makeKT {pins : List (Addr × Obj)} {σ : L2.St} {H : Hp} {s : Shared} {Q : VK} {us ws : List Value} {vs zs : List V} (M : Mk X.K C f) (F : FnOk X.prog X.w X.K X.mg X.base CX k f fd ps sp) (hr : Room (k + 1) X.A) (hb : KBn X.K fd ps (n + 1) ks g gV) (hx : ∀ σ, PassesAt CX X σ (E σ))
    (I : Inv X pins σ H s) (r : Vals vs us) (rz : Vals zs ws) (l1 : vs.length = n) (l2 : zs.length = ks.length)
    (h : ∀ x dx, H x = none → H dx = none → dx ≠ x → sp (gV (.ref x :: vs) zs) (upd (upd H dx (.own x)) x (.ins C dx [])) (fun v H2 => v = .non ∧ Q (.ref x) H2) (E σ)) :
    wpAny (model X.prog X.w) X.A (call (.ref C) us (ks.zip ws)) (EP X pins σ Q) X.xe s := by
  have hq := h (s.heap.objs.size + 1) s.heap.objs.size (I.hok.fresh (Nat.le_succ _)) (I.hok.fresh (Nat.le_refl _)) (Nat.ne_of_lt (Nat.lt_succ_self _))
  have I2 := Inv.made (C := C) I
  have r1 : Vals (V.ref (s.heap.objs.size + 1) :: vs) (Value.ref (s.heap.objs.size + 1) :: us) := .cons rfl r
  have r2 := hb.rel r1 rz
  have n1 : (Value.ref (s.heap.objs.size + 1) :: us).length = n + 1 := by
    rw [List.length_cons, ← r.length, l1]
  refine wpAny_call (make_map (f := f) I.kIn M.makes M.init (beq_iff_eq.mp M.fn) (codeAny_mono (F.run _ X.stack _ _ ⟨Value.ref (s.heap.objs.size + 1) :: us, ks.zip ws⟩ (g (Value.ref (s.heap.objs.size + 1) :: us) ws) _ _ (E σ) (hr.make C us (ks.zip ws))
    (I2.env0.make C us (ks.zip ws)) (hb.to _ (Value.ref (s.heap.objs.size + 1) :: us) ws I2.kIn n1 (rz.length.symm.trans l2)) r2 hq) fun r s' hq' => ?_))
  cases r with
  | error e => exact hx σ pins _ _ e s' I2 hq'
  | ok fl =>
    cases fl with
    | ret u =>
      obtain ⟨v, H', I3, rv, ev, q3⟩ := I2.after hq'
      subst ev
      exact ⟨rv, ⟨V.ref (s.heap.objs.size + 1), H', I3, rfl, q3⟩⟩
    | next => exact False.elim hq'
    | brk => exact False.elim hq'
    | cont => exact False.elim hq'
/-- C(k = v, ..) in a try -/
theorem pe_makeK0T (M : Mk X.K C f) (F : FnOk X.prog X.w X.K X.mg X.base CX k f fd ps sp) (hr : Room (k + 1) X.A) (hg : Gl X x) (hm : X.mg x = some (.ref C)) (hb : KBn X.K fd ps 1 ks g gV) (hx : ∀ σ, PassesAt CX X σ (E σ)) (hkw : PK X kws tk)
    (hall : (backToKw pos (keywordEach kws X.env)).all (·.1.isSome) = true := by rfl) (hks : (backToKw pos (keywordEach kws X.env)).filterMap (·.1) = ks := by rfl) (hdb : (x == ("__debug__" : Str)) = false := by decide)
    (hpl : ((backTo pos (starEach [] X.env)).any (·.1) || (backToKw pos (keywordEach kws X.env)).any (·.1.isNone)) = false := by rfl) :
    PE X (.Call (.Name x p) [] kws pos) (tMakeKT C 0 ks.length sp gV E tNil tk) := by
  refine ⟨fun pins s σ H Q I h => ?_⟩
  refine wpAny_Call_Name_kw (ld_glob I hg hm ?_ hdb)
  refine PySem.W.callWith_KW0 (h₀ := X.base) I.ok.mod.kin M.kp hall ?_ hpl
  refine thn (hkw.run pos pins s σ H _ I h) fun ws s2 ⟨zs, H2, I2, rz, l1, l2, q2⟩ => ⟨I2.kIn, ?_⟩
  rw [hks]
  exact run_makeKT (us := []) (vs := []) M F hr hb hx I2 .nil rz rfl l2 q2
/-- C(e, .., k = v, ..) in a try -/
theorem pe_makeKT (M : Mk X.K C f) (F : FnOk X.prog X.w X.K X.mg X.base CX k f fd ps sp) (hr : Room (k + 1) X.A) (hg : Gl X x) (hm : X.mg x = some (.ref C)) (hb : KBn X.K fd ps (n + 1) ks g gV) (hx : ∀ σ, PassesAt CX X σ (E σ)) (ha : PA X (e :: es) t) (hkw : PK X kws tk)
    (hall : (backToKw pos (keywordEach kws X.env)).all (·.1.isSome) = true := by rfl) (hks : (backToKw pos (keywordEach kws X.env)).filterMap (·.1) = ks := by rfl) (hdb : (x == ("__debug__" : Str)) = false := by decide)
    (he : starEach (e :: es) X.env = (false, eval e X.env) :: starEach es X.env := by rfl) (hpl : ((backTo pos (starEach (e :: es) X.env)).any (·.1) || (backToKw pos (keywordEach kws X.env)).any (·.1.isNone)) = false := by rfl) :
    PE X (.Call (.Name x p) (e :: es) kws pos) (tMakeKT C n ks.length sp gV E t tk) := by
  refine ⟨fun pins s σ H Q I h => ?_⟩
  refine wpAny_Call_Name_kw (ld_glob I hg hm ?_ hdb)
  refine PySem.W.callWith_KW (h₀ := X.base) I.ok.mod.kin M.kp hall (thn (ha.run pos pins s σ H _ I h) fun us s1 ⟨vs, H1, I1, r, q⟩ => ?_) hpl he
  refine thn (hkw.run pos pins s1 σ H1 _ I1 q) fun ws s2 ⟨zs, H2, I2, rz, l1, l2, q2⟩ => ⟨I2.kIn, ?_⟩
  rw [hks]
  exact run_makeKT M F hr hb hx I2 r rz l1 l2 q2
end
end Sip
namespace Sip
open PySem PySem.Spec PyProof.Rows L2 TL

abbrev PQ := Hp → Pad → (Addr → Prop) → Pst → Prop
theorem efs_seek (s : Nat) (b : Bool) (l p : Addr) : (efs s b l p).lookup ("can_seek" : Str) = some (.bl false) := by unfold efs; kernel_rfl
theorem efs_spot (s : Nat) (b : Bool) (l p : Addr) : (efs s b l p).lookup ("spot" : Str) = some (.int s) := by unfold efs; kernel_rfl
theorem efs_barred (s : Nat) (b : Bool) (l p : Addr) : (efs s b l p).lookup ("barred" : Str) = some (.bl b) := by unfold efs; kernel_rfl
theorem efs_notes (s : Nat) (b : Bool) (l p : Addr) : (efs s b l p).lookup ("notes" : Str) = some (.ref l) := by unfold efs; kernel_rfl
theorem efs_pipe (s : Nat) (b : Bool) (l p : Addr) : (efs s b l p).lookup ("pipe" : Str) = some (.ref p) := by unfold efs; kernel_rfl
theorem efs_put_s (s r : Nat) (b : Bool) (l p : Addr) : putF ("spot" : Str) (.int r) (efs s b l p) = efs r b l p := by unfold efs; kernel_rfl
theorem efs_put_b (s : Nat) (b c : Bool) (l p : Addr) : putF ("barred" : Str) (.bl c) (efs s b l p) = efs s c l p := by unfold efs; kernel_rfl
theorem efs_few (s : Nat) (b : Bool) (l p : Addr) : (efs s b l p).length < 1000 := by show 5 < 1000; decide
theorem efs_new (l p : Addr) : putF ("pipe" : Str) (.ref p) (putF ("notes" : Str) (.ref l) (putF ("barred" : Str) (.bl false) (putF ("spot" : Str) (.int 0) (putF ("can_seek" : Str) (.bl false) [])))) = efs 0 false l p := by unfold efs; kernel_rfl
theorem efs_no (s : Nat) (b : Bool) (l p : Addr) : ∀ m ∈ (["take", "put", "go", "cut", "shut", "place", "size", "seeks", "is_shut", "log", "log_behind", "note", "check_open", "check_seeks", "may_take", "may_put", "may_cut", "give", "accept"] : List Str), (efs s b l p).lookup m = none := by
  intro m hm
  simp only [List.mem_cons, List.mem_nil_iff, or_false] at hm
  unfold efs
  rcases hm with rfl | rfl | rfl | rfl | rfl | rfl | rfl | rfl | rfl | rfl | rfl | rfl | rfl | rfl | rfl | rfl | rfl | rfl | rfl <;> kernel_rfl
theorem pifs_room (w ei eo : Addr) (R : Nat) : (pifs w ei eo R).lookup ("room" : Str) = some (.int R) := by unfold pifs; kernel_rfl
theorem pifs_within (w ei eo : Addr) (R : Nat) : (pifs w ei eo R).lookup ("within" : Str) = some (.ref w) := by unfold pifs; kernel_rfl
theorem pifs_into_end (w ei eo : Addr) (R : Nat) : (pifs w ei eo R).lookup ("into_end" : Str) = some (.ref ei) := by unfold pifs; kernel_rfl
theorem pifs_out_end (w ei eo : Addr) (R : Nat) : (pifs w ei eo R).lookup ("out_end" : Str) = some (.ref eo) := by unfold pifs; kernel_rfl
theorem pifs_new (w ei eo : Addr) (R : Nat) : putF ("out_end" : Str) (.ref eo) (putF ("into_end" : Str) (.ref ei) (putF ("within" : Str) (.ref w) (putF ("room" : Str) (.int R) []))) = pifs w ei eo R := by unfold pifs; kernel_rfl
theorem pifs_no (w ei eo : Addr) (R : Nat) : ∀ m ∈ (["into", "out", "held", "lay", "lift", "drop"] : List Str), (pifs w ei eo R).lookup m = none := by
  intro m hm
  simp only [List.mem_cons, List.mem_nil_iff, or_false] at hm
  unfold pifs
  rcases hm with rfl | rfl | rfl | rfl | rfl | rfl <;> kernel_rfl
theorem del_to (r : List Int) (n : Nat) : delV (r.map V.int) none (some (n : Int)) = (r.drop n).map V.int := by
  unfold delV delL
  rw [HT.sIx_none, HT.sIx_nat, List.length_map, List.map_drop]
  by_cases h : n ≤ r.length
  · rw [Nat.min_eq_left h]; simp
  · rw [Nat.min_eq_right (by omega), List.drop_of_length_le (l := r.map V.int) (by rw [List.length_map]; omega), List.drop_of_length_le (l := r.map V.int) (by rw [List.length_map]; omega)]; simp
def spWhole : Sp := fun vs H Q _ => ∃ v : Int, vs = [.int v] ∧ Q (.bl true) H
def spRoomC : Sp := fun vs H Q _ => ∃ R : Int, vs = [.int R] ∧ 1 ≤ R ∧ R ≤ 64 ∧ Q .non H
/-- a raw's first fields, whatever class stands upon it -/
def spRInit (K : PySem.W.Frag) : Sp := fun vs H Q _ => ∃ (e C dx : Addr), vs = [.ref e, .bl false] ∧ H e = some (.ins C dx []) ∧ Cls K C ∧ NoAttr K C "can_seek" ∧ NoAttr K C "spot" ∧ NoAttr K C "barred" ∧ NoAttr K C "notes" ∧
  ∀ (H' : Hp) (l : Addr), H l = none → H' l = some (.lst []) → H' e = some (.ins C dx (putF ("notes" : Str) (.ref l) (putF ("barred" : Str) (.bl false) (putF ("spot" : Str) (.int 0) (putF ("can_seek" : Str) (.bl false) []))))) → Kp [e] H H' → Q .non H'
def spEInit (C : Addr) : Sp := fun vs H Q _ => ∃ (e p dx : Addr), vs = [.ref e, .ref p] ∧ H e = some (.ins C dx []) ∧
  ∀ (H' : Hp) (l : Addr), H l = none → H' l = some (.lst []) → H' e = some (.ins C dx (efs 0 false l p)) → Kp [e] H H' → Q .non H'
def pst0 (R : Nat) : Pst := ⟨R, [], 0, 0, false, false, [], []⟩
def spPiInit (CP : Addr) (PA : PQ) : Sp := fun vs H Q _ => ∃ (p dx : Addr) (R : Nat), vs = [.ref p, .int R] ∧ H p = some (.ins CP dx []) ∧ 1 ≤ R ∧ R ≤ 64 ∧
  ∀ (H' : Hp) (A : Pad) (F : Addr → Prop), A.p = p → PA H' A F (pst0 R) → Step (fun b => b = p ∨ b = dx) H F H' → Q .non H'
def spInto (PA : PQ) : Sp := fun vs H Q _ => ∃ (A : Pad) (F : Addr → Prop) (S : Pst), vs = [.ref A.p] ∧ PA H A F S ∧ Q (.ref A.ei) H
def spOut (PA : PQ) : Sp := fun vs H Q _ => ∃ (A : Pad) (F : Addr → Prop) (S : Pst), vs = [.ref A.p] ∧ PA H A F S ∧ Q (.ref A.eo) H
def spHeld (PA : PQ) : Sp := fun vs H Q _ => ∃ (A : Pad) (F : Addr → Prop) (S : Pst), vs = [.ref A.p] ∧ PA H A F S ∧ ∀ (H' : Hp) (q : Addr), H q = none → H' q = some (.lst (S.ws.map V.int)) → Same H H' → Q (.ref q) H'
def spShutI (PA : PQ) : Sp := fun vs H Q _ => ∃ (A : Pad) (F : Addr → Prop) (S : Pst), vs = [.ref A.ei] ∧ PA H A F S ∧ Q (.bl S.bi) H
def spShutO (PA : PQ) : Sp := fun vs H Q _ => ∃ (A : Pad) (F : Addr → Prop) (S : Pst), vs = [.ref A.eo] ∧ PA H A F S ∧ Q (.bl S.bo) H
def spOpenI (PA : PQ) : Sp := fun vs H Q _ => ∃ (A : Pad) (F : Addr → Prop) (S : Pst), vs = [.ref A.ei] ∧ PA H A F S ∧ S.bi = false ∧ Q .non H
def spOpenO (PA : PQ) : Sp := fun vs H Q _ => ∃ (A : Pad) (F : Addr → Prop) (S : Pst), vs = [.ref A.eo] ∧ PA H A F S ∧ S.bo = false ∧ Q .non H
def spMayP (PA : PQ) : Sp := fun vs H Q _ => ∃ (A : Pad) (v : V) (F : Addr → Prop) (S : Pst), vs = [.ref A.ei, v] ∧ PA H A F S ∧ Q .non H
def spMayT (PA : PQ) : Sp := fun vs H Q _ => ∃ (A : Pad) (F : Addr → Prop) (S : Pst), vs = [.ref A.eo] ∧ PA H A F S ∧ Q .non H
/-- as many as have room -/
def fitF (S : Pst) (ds : List Int) : List Int := ds.take (S.R - S.ws.length)
def numV (xs : List Int) : V := if xs = [] then .non else .int xs.length
def numT (xs : List Int) : Tg := if xs = [] then .s (Str.ofString "stall") else .i xs.length
def laidP (S : Pst) (ds : List Int) : Pst := { S with ws := S.ws ++ fitF S ds }
def putP (S : Pst) (ds : List Int) : Pst := { S with ws := S.ws ++ fitF S ds, si := S.si + (fitF S ds).length, ni := S.ni ++ [⟨Str.ofString "put", S.si, .l ds, numT (fitF S ds)⟩] }
/-- all that the pipe's numbers keep to -/
def PstOk (S : Pst) : Prop := S.ws.length ≤ S.R ∧ S.R ≤ 64 ∧ S.ni.length ≤ 100000 ∧ S.no.length ≤ 100000
def spLay (PA : PQ) (e : Pad → Addr) : Sp := fun vs H Q _ => ∃ (A : Pad) (d : Addr) (F : Addr → Prop) (S : Pst) (ds : List Int), vs = [.ref (e A), .ref d] ∧ PA H A F S ∧ PstOk S ∧ S.bo = false ∧ ¬ F d ∧ H d = some (.lst (ds.map V.int)) ∧ ds.length ≤ 100000 ∧
  ∀ H' : Hp, PA H' A F (laidP S ds) → Step F H F H' → Q (numV (fitF S ds)) H'
def spPut (PA : PQ) : Sp := fun vs H Q _ => ∃ (A : Pad) (d : Addr) (F : Addr → Prop) (S : Pst) (ds : List Int), vs = [.ref A.ei, .ref d] ∧ PA H A F S ∧ PstOk S ∧ S.bi = false ∧ S.bo = false ∧ H d = some (.lst (ds.map V.int)) ∧ ds.length ≤ 100000 ∧
  ∀ (H' : Hp) (F' : Addr → Prop), PA H' A F' (putP S ds) → Step F H F' H' → Q (numV (fitF S ds)) H'
/-- whether a take of so many tells None -/
def stallB (S : Pst) (n : Nat) : Bool := decide (S.ws.take n = []) && !S.bi
def liftP (S : Pst) (n : Nat) : Pst := { S with ws := S.ws.drop n }
def takeP (S : Pst) (n : Nat) : Pst := { S with ws := S.ws.drop n, so := S.so + (S.ws.take n).length, no := S.no ++ [⟨Str.ofString "take", S.so, .i n, if stallB S n then .s (Str.ofString "stall") else .l (S.ws.take n)⟩] }
def spLift (PA : PQ) (e : Pad → Addr) : Sp := fun vs H Q _ => ∃ (A : Pad) (n : Nat) (F : Addr → Prop) (S : Pst), vs = [.ref (e A), .int n] ∧ PA H A F S ∧
  ∀ (H' : Hp) (q : Addr), PA H' A F (liftP S n) → H q = none → H' q = some (.lst ((S.ws.take n).map V.int)) → Step F H F H' → Q (if stallB S n then .non else .ref q) H'
def spTakeO (PA : PQ) : Sp := fun vs H Q _ => ∃ (A : Pad) (n : Nat) (F : Addr → Prop) (S : Pst), vs = [.ref A.eo, .int n] ∧ PA H A F S ∧ PstOk S ∧ S.bo = false ∧
  ∀ (H' : Hp) (F' : Addr → Prop) (q : Addr), PA H' A F' (takeP S n) → H q = none → H' q = some (.lst ((S.ws.take n).map V.int)) → ¬ F' q → Step F H F' H' → Q (if stallB S n then .non else .ref q) H'
def spNoteI (PA : PQ) : Sp := fun vs H Q _ => ∃ (A : Pad) (w : Str) (hv cv : V) (F G0 : Addr → Prop) (S : Pst) (h c : Tg), vs = [.ref A.ei, .str w, hv, cv] ∧ PA H A F S ∧ PstOk S ∧ TgAt H G0 hv h ∧ TgAt H G0 cv c ∧ NtOk ⟨w, S.si, h, c⟩ ∧ (∀ b, G0 b → ¬ F b) ∧ (∀ b, G0 b → ∃ o, H b = some o) ∧
  ∀ (H' : Hp) (F' : Addr → Prop), PA H' A F' { S with ni := S.ni ++ [⟨w, S.si, h, c⟩] } → (∀ b o, ¬ F b → H b = some o → H' b = some o) → (∀ b, F' b → F b ∨ G0 b ∨ H b = none) → Q .non H'
def spNoteO (PA : PQ) : Sp := fun vs H Q _ => ∃ (A : Pad) (w : Str) (hv cv : V) (F G0 : Addr → Prop) (S : Pst) (h c : Tg), vs = [.ref A.eo, .str w, hv, cv] ∧ PA H A F S ∧ PstOk S ∧ TgAt H G0 hv h ∧ TgAt H G0 cv c ∧ NtOk ⟨w, S.so, h, c⟩ ∧ (∀ b, G0 b → ¬ F b) ∧ (∀ b, G0 b → ∃ o, H b = some o) ∧
  ∀ (H' : Hp) (F' : Addr → Prop), PA H' A F' { S with no := S.no ++ [⟨w, S.so, h, c⟩] } → (∀ b o, ¬ F b → H b = some o → H' b = some o) → (∀ b, F' b → F b ∨ G0 b ∨ H b = none) → Q .non H'
def spLogI (PA : PQ) : Sp := fun vs H Q _ => ∃ (A : Pad) (F : Addr → Prop) (S : Pst), vs = [.ref A.ei] ∧ PA H A F S ∧ PstOk S ∧ LogTo H Q S.ni
def spLogO (PA : PQ) : Sp := fun vs H Q _ => ∃ (A : Pad) (F : Addr → Prop) (S : Pst), vs = [.ref A.eo] ∧ PA H A F S ∧ PstOk S ∧ LogTo H Q S.no
def spLogbI (PA : PQ) : Sp := fun vs H Q _ => ∃ (A : Pad) (F : Addr → Prop) (S : Pst), vs = [.ref A.ei, .int 0] ∧ PA H A F S ∧ PstOk S ∧ LogTo H Q S.ni
def spLogbO (PA : PQ) : Sp := fun vs H Q _ => ∃ (A : Pad) (F : Addr → Prop) (S : Pst), vs = [.ref A.eo, .int 0] ∧ PA H A F S ∧ PstOk S ∧ LogTo H Q S.no

theorem pifs_put_w (w ei eo l : Addr) (R : Nat) : putF ("within" : Str) (.ref l) (pifs w ei eo R) = pifs l ei eo R := by unfold pifs; kernel_rfl
theorem pifs_few (w ei eo : Addr) (R : Nat) : (pifs w ei eo R).length < 1000 := by show 4 < 1000; decide
theorem PipeIn.neww {CP CI CO : Addr} {H : Hp} {A : Pad} {S : Pst} {dp di dq : Addr} {vi vo : List V} {G : Addr → Prop} (I : PipeIn CP CI CO H A S dp di dq vi vo G) {l : Addr} (nl : H l = none) :
    PipeIn CP CI CO (upd (upd H l (.lst [])) A.p (.ins CP dp (pifs l A.ei A.eo S.R))) { A with w := l } { S with ws := [] } dp di dq vi vo G := by
  obtain ⟨n1, n2, n3, n4, n5, n6, n7, n8, n9⟩ := I.nes
  have ne : ∀ {b o}, H b = some o → b ≠ l := fun {b o} e => ne_of_none e nl
  have k : ∀ b o, b ≠ A.p → H b = some o → (upd (upd H l (.lst [])) A.p (.ins CP dp (pifs l A.ei A.eo S.R))) b = some o := fun b o z e => by rw [upd_ne z, upd_ne (ne e)]; exact e
  have kg : ∀ b o, G b → H b = some o → (upd (upd H l (.lst [])) A.p (.ins CP dp (pifs l A.ei A.eo S.R))) b = some o := fun b o z e => k b o (I.ag b z).1 e
  refine ⟨upd_same, ?_, k _ _ I.d1.symm I.hi, k _ _ I.d2.symm I.ho, k _ _ n4 I.hli, k _ _ n7 I.hlo, I.ni.keep kg (fun _ z => z), I.no.keep kg (fun _ z => z), fun b z => (I.al b z).elim fun o e => ⟨o, kg b o z e⟩, fun b z => ?_, I.d1, I.d2, I.d3, (ne I.hli).symm, (ne I.hlo).symm, I.d6⟩
  · show (upd (upd H l (.lst [])) A.p _) l = some (.lst (([] : List Int).map V.int))
    rw [upd_ne (ne I.hp).symm]
    exact upd_same
  · obtain ⟨o, e⟩ := I.al b z
    obtain ⟨a1, a2, a3⟩ := I.ag b z
    exact ⟨a1, ne e, a3⟩
def spRShut (K : PySem.W.Frag) : Sp := fun vs H Q _ => ∃ (e C dx : Addr) (fs : List (Str × V)), vs = [.ref e] ∧ H e = some (.ins C dx fs) ∧ Cls K C ∧ NoAttr K C "barred" ∧ fs.length < 1000 ∧ Q .non (upd H e (.ins C dx (putF ("barred" : Str) (.bl true) fs)))
def spDropP (PA : PQ) : Sp := fun vs H Q _ => ∃ (A : Pad) (F : Addr → Prop) (S : Pst), vs = [.ref A.p] ∧ PA H A F S ∧ ∀ (H' : Hp) (l : Addr) (F' : Addr → Prop), PA H' { A with w := l } F' { S with ws := [] } → Step F H F' H' → Q .non H'
def spSupO (PA : PQ) : Sp := fun vs H Q _ => ∃ (A : Pad) (F : Addr → Prop) (S : Pst), vs = [.ref A.eo] ∧ PA H A F S ∧ ∀ (H' : Hp) (l : Addr) (F' : Addr → Prop), PA H' { A with w := l } F' { S with ws := [], bo := true } → Step F H F' H' → Q .non H'
def spBarI (PA : PQ) : Sp := fun vs H Q _ => ∃ (A : Pad) (F : Addr → Prop) (S : Pst), vs = [.ref A.ei] ∧ PA H A F S ∧ ∀ (H' : Hp), PA H' A F { S with bi := true } → Step F H F H' → Q .non H'
def errN (H : Hp) (E : XK) (C : Addr) : Prop := ∀ (H' : Hp), Same H H' → E (.ref C) none H'

def spOpenB (PA : PQ) (e : Pad → Addr) (b : Pst → Bool) (C : Addr) : Sp := fun vs H _ E => ∃ (A : Pad) (F : Addr → Prop) (S : Pst), vs = [.ref (e A)] ∧ PA H A F S ∧ b S = true ∧ errN H E C
def spAskB (PA : PQ) (e : Pad → Addr) (b : Pst → Bool) (C : Addr) : Sp := fun vs H _ E => ∃ (A : Pad) (v : V) (F : Addr → Prop) (S : Pst), vs = [.ref (e A), v] ∧ PA H A F S ∧ b S = true ∧ errN H E C

def FaultQ (H : Hp) (E : XK) (C : Addr) (G : Hp → Addr → Prop) : Prop := ∀ (H' : Hp) (fe : Addr), G H' fe → H fe = none → H' fe = some (.xd [("taken", .int 0), ("number", .int 99)]) → E (.ref C) (some fe) H'
def spLayB (PA : PQ) (e : Pad → Addr) (C : Addr) : Sp := fun vs H _ E => ∃ (A : Pad) (d : Addr) (F : Addr → Prop) (S : Pst), vs = [.ref (e A), .ref d] ∧ PA H A F S ∧ S.bo = true ∧ FaultQ H E C (fun H' _ => Same H H')
def spPutF (PA : PQ) (C : Addr) : Sp := fun vs H _ E => ∃ (A : Pad) (d : Addr) (F : Addr → Prop) (S : Pst) (ds : List Int), vs = [.ref A.ei, .ref d] ∧ PA H A F S ∧ PstOk S ∧ S.bi = false ∧ S.bo = true ∧ H d = some (.lst (ds.map V.int)) ∧
  FaultQ H E C (fun H' fe => ∃ F' : Addr → Prop, PA H' A F' { S with ni := S.ni ++ [⟨Str.ofString "put", S.si, .l ds, .s (Str.ofString "fault")⟩] } ∧ Step F H F' H' ∧ ¬ F' fe)

def pipC (CP CI CO p ei eo : Addr) (S : Pst) : Ch := .ab fun H F => ∃ A : Pad, A.p = p ∧ A.ei = ei ∧ A.eo = eo ∧ PipeAt CP CI CO H A F S
def putFS (S : Pst) (ds : List Int) : Pst := { S with ni := S.ni ++ [⟨Str.ofString "put", S.si, .l ds, .s (Str.ofString "fault")⟩] }
section
variable {CP CI CO p ei eo : Addr} {H : Hp} {F : Addr → Prop} {A : Pad} {S : Pst} {R : List Ch} {vs : List V} {Q : VK} {E : XK}
theorem On.pip (h : PipeAt CP CI CO H A F S) : (pipC CP CI CO A.p A.ei A.eo S).On H F := ⟨fun H' k => ⟨A, rfl, rfl, rfl, h.loc k⟩, h.own⟩
theorem Sat.pip (h : Sat H (pipC CP CI CO p ei eo S :: R)) : ∃ A F, A.p = p ∧ A.ei = ei ∧ A.eo = eo ∧ PipeAt CP CI CO H A F S ∧ ∀ ds' F' H', Step F H F' H' → SatF H' ds' F' → Sat H' (ds' ++ R) := by
  obtain ⟨F, h1, k⟩ := Sat.opnL (ds := [pipC CP CI CO p ei eo S]) h
  obtain ⟨A, e1, e2, e3, hA⟩ := h1.of1.here
  exact ⟨A, F, e1, e2, e3, hA, k⟩
theorem Sat.pip1 (k : ∀ ds' F' H', Step F H F' H' → SatF H' ds' F' → Sat H' (ds' ++ R)) {H' : Hp} {F' : Addr → Prop} {S' : Pst} {A' : Pad} (h : PipeAt CP CI CO H' A' F' S') (st : Step F H F' H') : Sat H' (pipC CP CI CO A'.p A'.ei A'.eo S' :: R) := k [_] _ H' st (SatF.one (On.pip h))
theorem Sat.pip2 (k : ∀ ds' F' H', Step F H F' H' → SatF H' ds' F' → Sat H' (ds' ++ R)) {H' : Hp} {F' : Addr → Prop} {S' : Pst} {A' : Pad} {q : Addr} {o : HO} (h : PipeAt CP CI CO H' A' F' S') (st : Step F H F' H') (nq : H q = none) (eq : H' q = some o) (nF : ¬ F' q) : Sat H' (pipC CP CI CO A'.p A'.ei A'.eo S' :: .pt q o :: R) :=
  k [_, _] _ H' ⟨st.1, fun b z => z.elim (st.2 b) fun z => .inr (by rw [show b = q from z]; exact nq)⟩ (SatF.two (On.pip h) (On.pt eq) fun b x y => nF (by rw [← show b = q from y]; exact x))
def spPutS3 (CP CI CO CC CF : Addr) : Sp := fun vs H Q E => ∃ (p ei eo d : Addr) (S : Pst) (ds : List Int) (R : List Ch), vs = [.ref ei, .ref d] ∧ Sat H (pipC CP CI CO p ei eo S :: R) ∧ PstOk S ∧ H d = some (.lst (ds.map V.int)) ∧ ds.length ≤ 100000 ∧
  (S.bi = true → ∀ H', Sat H' (pipC CP CI CO p ei eo S :: R) → E (.ref CC) none H') ∧
  (S.bi = false → S.bo = true → ∀ H' fe, Sat H' (pipC CP CI CO p ei eo (putFS S ds) :: .pt fe (.xd [("taken", .int 0), ("number", .int 99)]) :: R) → E (.ref CF) (some fe) H') ∧
  (S.bi = false → S.bo = false → ∀ H', Sat H' (pipC CP CI CO p ei eo (putP S ds) :: R) → Q (numV (fitF S ds)) H')
theorem spPutS3.to {CC CF : Addr} (h : spPutS3 CP CI CO CC CF vs H Q E) : (spPut (PipeAt CP CI CO) vs H Q E ∨ spAskB (PipeAt CP CI CO) (fun A => A.ei) (fun S => S.bi) CC vs H Q E) ∨ spPutF (PipeAt CP CI CO) CF vs H Q E := by
  obtain ⟨p, ei, eo, d, S, ds, R, rfl, h, ok, hd, ld, q1, q2, q3⟩ := h
  obtain ⟨A, F, rfl, rfl, rfl, hA, k⟩ := h.pip
  cases hi : S.bi with
  | true => exact .inl (.inr ⟨A, _, F, S, rfl, hA, hi, fun H' s => q1 hi H' (Sat.pip1 k (hA.same s) (Step.of s))⟩)
  | false =>
    cases ho : S.bo with
    | true => exact .inr ⟨A, d, F, S, ds, rfl, hA, ok, hi, ho, hd, fun H' fe ⟨F', hA', st, nf⟩ n0 efe => q2 hi ho H' fe (Sat.pip2 k hA' st n0 efe nf)⟩
    | false => exact .inl (.inl ⟨A, d, F, S, ds, rfl, hA, ok, hi, ho, hd, ld, fun H' F' hA' st => q3 hi ho H' (Sat.pip1 k hA' st)⟩)
def spTakeS2 (CP CI CO CC : Addr) : Sp := fun vs H Q E => ∃ (p ei eo : Addr) (n : Nat) (S : Pst) (R : List Ch), vs = [.ref eo, .int n] ∧ Sat H (pipC CP CI CO p ei eo S :: R) ∧ PstOk S ∧
  (S.bo = true → ∀ H', Sat H' (pipC CP CI CO p ei eo S :: R) → E (.ref CC) none H') ∧
  (S.bo = false → ∀ H' q, Sat H' (pipC CP CI CO p ei eo (takeP S n) :: .pt q (.lst ((S.ws.take n).map V.int)) :: R) → Q (if stallB S n then .non else .ref q) H')
theorem spTakeS2.to {CC : Addr} (h : spTakeS2 CP CI CO CC vs H Q E) : spTakeO (PipeAt CP CI CO) vs H Q E ∨ spAskB (PipeAt CP CI CO) (fun A => A.eo) (fun S => S.bo) CC vs H Q E := by
  obtain ⟨p, ei, eo, n, S, R, rfl, h, ok, q1, q2⟩ := h
  obtain ⟨A, F, rfl, rfl, rfl, hA, k⟩ := h.pip
  cases ho : S.bo with
  | true => exact .inr ⟨A, _, F, S, rfl, hA, ho, fun H' s => q1 ho H' (Sat.pip1 k (hA.same s) (Step.of s))⟩
  | false => exact .inl ⟨A, n, F, S, rfl, hA, ok, ho, fun H' F' q hA' nq eq nF st => q2 ho H' q (Sat.pip2 k hA' st nq eq nF)⟩
def spSupS (CP CI CO : Addr) : Sp := fun vs H Q _ => ∃ (p ei eo : Addr) (S : Pst) (R : List Ch), vs = [.ref eo] ∧ Sat H (pipC CP CI CO p ei eo S :: R) ∧ ∀ H', Sat H' (pipC CP CI CO p ei eo { S with ws := [], bo := true } :: R) → Q .non H'
theorem spSupS.to (h : spSupS CP CI CO vs H Q E) : spSupO (PipeAt CP CI CO) vs H Q E := by
  obtain ⟨p, ei, eo, S, R, rfl, h, q⟩ := h
  obtain ⟨A, F, rfl, rfl, rfl, hA, k⟩ := h.pip
  exact ⟨A, F, S, rfl, hA, fun H' l F' hA' st => q H' (Sat.pip1 (A' := { A with w := l }) k hA' st)⟩
def spBarS (CP CI CO : Addr) : Sp := fun vs H Q _ => ∃ (p ei eo : Addr) (S : Pst) (R : List Ch), vs = [.ref ei] ∧ Sat H (pipC CP CI CO p ei eo S :: R) ∧ ∀ H', Sat H' (pipC CP CI CO p ei eo { S with bi := true } :: R) → Q .non H'
theorem spBarS.to (h : spBarS CP CI CO vs H Q E) : spBarI (PipeAt CP CI CO) vs H Q E := by
  obtain ⟨p, ei, eo, S, R, rfl, h, q⟩ := h
  obtain ⟨A, F, rfl, rfl, rfl, hA, k⟩ := h.pip
  exact ⟨A, F, S, rfl, hA, fun H' hA' st => q H' (Sat.pip1 k hA' st)⟩
end

def endMs : List Str := ["take", "put", "go", "cut", "shut", "place", "size", "seeks", "is_shut", "log", "log_behind", "note", "check_open", "check_seeks", "may_take", "may_put", "may_cut", "give", "accept"]
section
variable {CP CI CO p ei eo : Addr} {H : Hp} {S : Pst} {cs cs1 : List Ch} {m : Str} {G : Prop}
theorem meth_pi (h : Sat H cs) (pl : Pull (pipC CP CI CO p ei eo S) cs cs1) (hm : m ∈ endMs) (g : G) : ∃ (x dx : Addr) (fs : List (Str × V)), V.ref ei = .ref x ∧ H x = some (.ins CI dx fs) ∧ fs.lookup m = none ∧ G := by
  obtain ⟨A, F, rfl, rfl, rfl, ⟨dp, di, dq, vi, vo, G, I, hF⟩, k⟩ := (h.pull pl).pip
  exact ⟨A.ei, di, _, rfl, I.hi, efs_no _ _ _ _ m hm, g⟩
theorem meth_po (h : Sat H cs) (pl : Pull (pipC CP CI CO p ei eo S) cs cs1) (hm : m ∈ endMs) (g : G) : ∃ (x dx : Addr) (fs : List (Str × V)), V.ref eo = .ref x ∧ H x = some (.ins CO dx fs) ∧ fs.lookup m = none ∧ G := by
  obtain ⟨A, F, rfl, rfl, rfl, ⟨dp, di, dq, vi, vo, G, I, hF⟩, k⟩ := (h.pull pl).pip
  exact ⟨A.eo, dq, _, rfl, I.ho, efs_no _ _ _ _ m hm, g⟩
end

section
variable {CP CI CO : Addr} {H : Hp} {vs : List V} {Q : VK} {E : XK}
def spIntoS (CP CI CO : Addr) : Sp := fun vs H Q _ => ∃ (p ei eo : Addr) (S : Pst) (R : List Ch), vs = [.ref p] ∧ Sat H (pipC CP CI CO p ei eo S :: R) ∧ Q (.ref ei) H
theorem spIntoS.to (h : spIntoS CP CI CO vs H Q E) : spInto (PipeAt CP CI CO) vs H Q E := by
  obtain ⟨p, ei, eo, S, R, rfl, h, q⟩ := h
  obtain ⟨A, F, rfl, rfl, rfl, hA, k⟩ := h.pip
  exact ⟨A, F, S, rfl, hA, q⟩
def spOutS (CP CI CO : Addr) : Sp := fun vs H Q _ => ∃ (p ei eo : Addr) (S : Pst) (R : List Ch), vs = [.ref p] ∧ Sat H (pipC CP CI CO p ei eo S :: R) ∧ Q (.ref eo) H
theorem spOutS.to (h : spOutS CP CI CO vs H Q E) : spOut (PipeAt CP CI CO) vs H Q E := by
  obtain ⟨p, ei, eo, S, R, rfl, h, q⟩ := h
  obtain ⟨A, F, rfl, rfl, rfl, hA, k⟩ := h.pip
  exact ⟨A, F, S, rfl, hA, q⟩
def spIsI (CP CI CO : Addr) : Sp := fun vs H Q _ => ∃ (p ei eo : Addr) (S : Pst) (R : List Ch), vs = [.ref ei] ∧ Sat H (pipC CP CI CO p ei eo S :: R) ∧ Q (.bl S.bi) H
theorem spIsI.to (h : spIsI CP CI CO vs H Q E) : spShutI (PipeAt CP CI CO) vs H Q E := by
  obtain ⟨p, ei, eo, S, R, rfl, h, q⟩ := h
  obtain ⟨A, F, rfl, rfl, rfl, hA, k⟩ := h.pip
  exact ⟨A, F, S, rfl, hA, q⟩
def spIsO (CP CI CO : Addr) : Sp := fun vs H Q _ => ∃ (p ei eo : Addr) (S : Pst) (R : List Ch), vs = [.ref eo] ∧ Sat H (pipC CP CI CO p ei eo S :: R) ∧ Q (.bl S.bo) H
theorem spIsO.to (h : spIsO CP CI CO vs H Q E) : spShutO (PipeAt CP CI CO) vs H Q E := by
  obtain ⟨p, ei, eo, S, R, rfl, h, q⟩ := h
  obtain ⟨A, F, rfl, rfl, rfl, hA, k⟩ := h.pip
  exact ⟨A, F, S, rfl, hA, q⟩
def spHeldS (CP CI CO : Addr) : Sp := fun vs H Q _ => ∃ (p ei eo : Addr) (S : Pst) (R : List Ch), vs = [.ref p] ∧ Sat H (pipC CP CI CO p ei eo S :: R) ∧ ∀ (H' : Hp) (q : Addr), Sat H' (.pt q (.lst (S.ws.map V.int)) :: pipC CP CI CO p ei eo S :: R) → Q (.ref q) H'
theorem spHeldS.to (h : spHeldS CP CI CO vs H Q E) : spHeld (PipeAt CP CI CO) vs H Q E := by
  obtain ⟨p, ei, eo, S, R, rfl, h, q⟩ := h
  have h0 := h
  obtain ⟨A, F, rfl, rfl, rfl, hA, k⟩ := h.pip
  exact ⟨A, F, S, rfl, hA, fun H' z nz ez s => q H' z (h0.fresh s nz ez)⟩
theorem log_laid {H' : Hp} {cs : List Ch} {z : Addr} {ws : List V} {G : Addr → Prop} {ns : List Nt} (h : Sat H cs) (nz : H z = none) (ng : ¬ G z) (ez : H' z = some (.lst ws)) (N : Nts H' G ws ns) (g0 : ∀ b, G b → H b = none) (s : Same H H') : Sat H' (ntsC z ns :: cs) := by
  obtain ⟨F9, h⟩ := h
  refine Sat.mk (On.nts ez N.shrink (fun y => ng y.1) (fun b y => y.2)) (h.keep fun b o _ e => s b o e) fun b y f => ?_
  obtain ⟨o, e⟩ := h.own b f
  rcases y with rfl | y
  · rw [nz] at e; cases e
  · rw [g0 b y.1] at e; cases e
def spLogIS (CP CI CO : Addr) : Sp := fun vs H Q _ => ∃ (p ei eo : Addr) (S : Pst) (R : List Ch), vs = [.ref ei] ∧ Sat H (pipC CP CI CO p ei eo S :: R) ∧ PstOk S ∧ ∀ (H' : Hp) (q : Addr), Sat H' (ntsC q S.ni :: pipC CP CI CO p ei eo S :: R) → Q (.ref q) H'
theorem spLogIS.to (h : spLogIS CP CI CO vs H Q E) : spLogI (PipeAt CP CI CO) vs H Q E := by
  obtain ⟨p, ei, eo, S, R, rfl, h, ok, q⟩ := h
  have h0 := h
  obtain ⟨A, F, rfl, rfl, rfl, hA, k⟩ := h.pip
  exact ⟨A, F, S, rfl, hA, ok, fun H' z ws G nz ng ez N g0 s => q H' z (log_laid h0 nz ng ez N g0 s)⟩
def spLogOS (CP CI CO : Addr) : Sp := fun vs H Q _ => ∃ (p ei eo : Addr) (S : Pst) (R : List Ch), vs = [.ref eo] ∧ Sat H (pipC CP CI CO p ei eo S :: R) ∧ PstOk S ∧ ∀ (H' : Hp) (q : Addr), Sat H' (ntsC q S.no :: pipC CP CI CO p ei eo S :: R) → Q (.ref q) H'
theorem spLogOS.to (h : spLogOS CP CI CO vs H Q E) : spLogO (PipeAt CP CI CO) vs H Q E := by
  obtain ⟨p, ei, eo, S, R, rfl, h, ok, q⟩ := h
  have h0 := h
  obtain ⟨A, F, rfl, rfl, rfl, hA, k⟩ := h.pip
  exact ⟨A, F, S, rfl, hA, ok, fun H' z ws G nz ng ez N g0 s => q H' z (log_laid h0 nz ng ez N g0 s)⟩
end

theorem Sat.lentB {H H1 : Hp} {cs : List Ch} {x : Addr} {o : HO} (h : Sat H cs) (na : H x = none) (s : Same (upd H x o) H1) : Sat (del H1 x) cs := by
  obtain ⟨F, h⟩ := h
  refine ⟨F, h.keep fun b u _ e => ?_⟩
  have bx : b ≠ x := fun z => by rw [z, na] at e; cases e
  show (if b = x then none else H1 b) = some u
  rw [if_neg bx]
  exact s b u (by rw [upd_ne bx]; exact e)
theorem pair_shaped {w : Str} {d : PyData} (h : PyData.strOk w = true) (h2 : d.canLay0 = true) (h3 : d.depth ≤ 1) : SeqAt.shaped (.tuple [.str w, d]) = true := by
  unfold SeqAt.shaped
  simp [PyData.canLay0, PyData.canLayAll0, PyData.depth, PyData.depthAll, h, h2]
  omega

def pipMs : List Str := ["into", "out", "held", "lay", "lift", "drop"]
section
variable {CP CI CO p ei eo : Addr} {H : Hp} {S : Pst} {cs cs1 : List Ch} {m : Str} {G : Prop} {vs : List V} {Q : VK} {E : XK}
theorem meth_pp (h : Sat H cs) (pl : Pull (pipC CP CI CO p ei eo S) cs cs1) (hm : m ∈ pipMs) (g : G) : ∃ (x dx : Addr) (fs : List (Str × V)), V.ref p = .ref x ∧ H x = some (.ins CP dx fs) ∧ fs.lookup m = none ∧ G := by
  obtain ⟨A, F, rfl, rfl, rfl, ⟨dp, di, dq, vi, vo, G, I, hF⟩, k⟩ := (h.pull pl).pip
  exact ⟨A.p, dp, _, rfl, I.hp, pifs_no _ _ _ _ m hm, g⟩
def spPiInitS (CP CI CO : Addr) : Sp := fun vs H Q _ => ∃ (p dx : Addr) (r : Nat) (R : List Ch), vs = [.ref p, .int r] ∧ Sat H (.pt p (.ins CP dx []) :: .pt dx (.own p) :: R) ∧ 1 ≤ r ∧ r ≤ 64 ∧
  ∀ (H' : Hp) (ei eo : Addr), Sat H' (pipC CP CI CO p ei eo (pst0 r) :: R) → Q .non H'
theorem spPiInitS.to (h : spPiInitS CP CI CO vs H Q E) : spPiInit CP (PipeAt CP CI CO) vs H Q E := by
  obtain ⟨p, dx, r, R, rfl, h, r1, r2, q⟩ := h
  refine ⟨p, dx, r, rfl, h.get .hd, r1, r2, fun H' A F e hA st => q H' A.ei A.eo ?_⟩
  subst e
  obtain ⟨F1, h1, kk⟩ := Sat.opnL (ds := [.pt A.p (.ins CP dx []), .pt dx (.own A.p)]) h
  obtain ⟨F2, F3, h2, h3, _, u⟩ := h1
  have e2 := h2.here.2
  have e3 := h3.of1.here.2
  have eF : (fun b => b = A.p ∨ b = dx) = F1 := funext fun b => propext (by rw [u b, e2 b, e3 b])
  rw [eF] at st
  exact kk [_] _ H' st (SatF.one (On.pip hA))
end

def refC (c0 c1 c2 c3 : Addr) : Nat → Addr
  | 0 => c0
  | 1 => c1
  | 2 => c2
  | _ => c3
def refW : Nat → Str
  | 0 => Str.ofString "Closed"
  | 1 => Str.ofString "NoSeek"
  | 2 => Str.ofString "NoReads"
  | _ => Str.ofString "NoWrites"
def spRefusal (K : PySem.W.Frag) (c0 c1 c2 c3 : Addr) : Sp := fun vs H Q _ => ∃ (a : Addr) (o : Obj) (j : Nat), vs = [.ref a] ∧ j < 4 ∧ H a = some (lentE o) ∧ Zc (.ref (refC c0 c1 c2 c3 j)) none o ∧ (∃ vs, o.data = .fields vs) ∧ ∀ H', Same H H' → Q (.str (refW j)) H'

def spNo0 (PA : PQ) (e : Pad → Addr) (C : Addr) : Sp := fun vs H _ E => ∃ (A : Pad) (F : Addr → Prop) (S : Pst), vs = [.ref (e A)] ∧ PA H A F S ∧ errN H E C
def spNo1 (PA : PQ) (e : Pad → Addr) (C : Addr) : Sp := fun vs H _ E => ∃ (A : Pad) (v : V) (F : Addr → Prop) (S : Pst), vs = [.ref (e A), v] ∧ PA H A F S ∧ errN H E C
def spRf1 (PA : PQ) (e : Pad → Addr) (b : Pst → Bool) (CC CN : Addr) : Sp := fun vs H _ E => ∃ (A : Pad) (v : V) (F : Addr → Prop) (S : Pst), vs = [.ref (e A), v] ∧ PA H A F S ∧ errN H E (if b S = true then CC else CN)
def spSk (PA : PQ) (e : Pad → Addr) : Sp := fun vs H Q _ => ∃ (A : Pad) (F : Addr → Prop) (S : Pst), vs = [.ref (e A)] ∧ PA H A F S ∧ Q (.bl false) H

section
variable {CP CI CO CC CN : Addr} {H : Hp} {vs : List V} {Q : VK} {E : XK}

def spRfIS (CP CI CO CC CN : Addr) : Sp := fun vs H _ E => ∃ (p ei eo : Addr) (v : V) (S : Pst) (R : List Ch), vs = [.ref ei, v] ∧ Sat H (pipC CP CI CO p ei eo S :: R) ∧ ∀ H', Sat H' (pipC CP CI CO p ei eo S :: R) → E (.ref (if S.bi = true then CC else CN)) none H'
theorem spRfIS.to (h : spRfIS CP CI CO CC CN vs H Q E) : spRf1 (PipeAt CP CI CO) (fun A => A.ei) (fun S => S.bi) CC CN vs H Q E := by
  obtain ⟨p, ei, eo, v, S, R, rfl, h, q⟩ := h
  have h0 := h
  obtain ⟨A, F, rfl, rfl, rfl, hA, k⟩ := h.pip
  exact ⟨A, v, F, S, rfl, hA, fun H' s => q H' (h0.same s)⟩
def spNoIS (CP CI CO CN : Addr) : Sp := fun vs H _ E => ∃ (p ei eo : Addr) (S : Pst) (R : List Ch), vs = [.ref ei] ∧ Sat H (pipC CP CI CO p ei eo S :: R) ∧ ∀ H', Sat H' (pipC CP CI CO p ei eo S :: R) → E (.ref CN) none H'
theorem spNoIS.to (h : spNoIS CP CI CO CN vs H Q E) : spNo0 (PipeAt CP CI CO) (fun A => A.ei) CN vs H Q E := by
  obtain ⟨p, ei, eo, S, R, rfl, h, q⟩ := h
  have h0 := h
  obtain ⟨A, F, rfl, rfl, rfl, hA, k⟩ := h.pip
  exact ⟨A, F, S, rfl, hA, fun H' s => q H' (h0.same s)⟩
def spSkIS (CP CI CO : Addr) : Sp := fun vs H Q _ => ∃ (p ei eo : Addr) (S : Pst) (R : List Ch), vs = [.ref ei] ∧ Sat H (pipC CP CI CO p ei eo S :: R) ∧ Q (.bl false) H
theorem spSkIS.to (h : spSkIS CP CI CO vs H Q E) : spSk (PipeAt CP CI CO) (fun A => A.ei) vs H Q E := by
  obtain ⟨p, ei, eo, S, R, rfl, h, q⟩ := h
  obtain ⟨A, F, rfl, rfl, rfl, hA, k⟩ := h.pip
  exact ⟨A, F, S, rfl, hA, q⟩
def spRfOS (CP CI CO CC CN : Addr) : Sp := fun vs H _ E => ∃ (p ei eo : Addr) (v : V) (S : Pst) (R : List Ch), vs = [.ref eo, v] ∧ Sat H (pipC CP CI CO p ei eo S :: R) ∧ ∀ H', Sat H' (pipC CP CI CO p ei eo S :: R) → E (.ref (if S.bo = true then CC else CN)) none H'
theorem spRfOS.to (h : spRfOS CP CI CO CC CN vs H Q E) : spRf1 (PipeAt CP CI CO) (fun A => A.eo) (fun S => S.bo) CC CN vs H Q E := by
  obtain ⟨p, ei, eo, v, S, R, rfl, h, q⟩ := h
  have h0 := h
  obtain ⟨A, F, rfl, rfl, rfl, hA, k⟩ := h.pip
  exact ⟨A, v, F, S, rfl, hA, fun H' s => q H' (h0.same s)⟩
def spNoOS (CP CI CO CN : Addr) : Sp := fun vs H _ E => ∃ (p ei eo : Addr) (S : Pst) (R : List Ch), vs = [.ref eo] ∧ Sat H (pipC CP CI CO p ei eo S :: R) ∧ ∀ H', Sat H' (pipC CP CI CO p ei eo S :: R) → E (.ref CN) none H'
theorem spNoOS.to (h : spNoOS CP CI CO CN vs H Q E) : spNo0 (PipeAt CP CI CO) (fun A => A.eo) CN vs H Q E := by
  obtain ⟨p, ei, eo, S, R, rfl, h, q⟩ := h
  have h0 := h
  obtain ⟨A, F, rfl, rfl, rfl, hA, k⟩ := h.pip
  exact ⟨A, F, S, rfl, hA, fun H' s => q H' (h0.same s)⟩
def spSkOS (CP CI CO : Addr) : Sp := fun vs H Q _ => ∃ (p ei eo : Addr) (S : Pst) (R : List Ch), vs = [.ref eo] ∧ Sat H (pipC CP CI CO p ei eo S :: R) ∧ Q (.bl false) H
theorem spSkOS.to (h : spSkOS CP CI CO vs H Q E) : spSk (PipeAt CP CI CO) (fun A => A.eo) vs H Q E := by
  obtain ⟨p, ei, eo, S, R, rfl, h, q⟩ := h
  obtain ⟨A, F, rfl, rfl, rfl, hA, k⟩ := h.pip
  exact ⟨A, F, S, rfl, hA, q⟩
end
def wdS (h : Bool) : Nat → Str
  | 0 => if h = true then Str.ofString "take" else Str.ofString "put"
  | 1 => Str.ofString "go"
  | 2 => Str.ofString "cut"
  | 3 => Str.ofString "place"
  | _ => Str.ofString "size"
def dueI (h l : Bool) (j : Nat) : Nat := if 3 ≤ j then 1 else if l = false then 0 else if j = 0 then (if h = true then 2 else 3) else 1
def dueS (h l : Bool) (j : Nat) : Str := refW (dueI h l j)
def spTried (e : Bool) (CP CI CO : Addr) : Sp := fun vs H Q _ => ∃ (p ei eo : Addr) (j n : Nat) (S : Pst) (R : List Ch), vs = [.ref (if e = true then ei else eo), .str (wdS e j), .int n] ∧ j < 5 ∧ Sat H (pipC CP CI CO p ei eo S :: R) ∧
  ∀ H', Sat H' (pipC CP CI CO p ei eo S :: R) → Q (.str (dueS e (if e = true then !S.bi else !S.bo) j)) H'

def spDue13 : Sp := fun vs H Q _ => ∃ (h l : Bool) (j : Nat), vs = [.bl h, .bl l, .str (wdS h j)] ∧ j < 5 ∧ ∀ H', Same H H' → Q (.str (dueS h l j)) H'
def spRoomB (C : Addr) : Sp := fun vs H _ E => ∃ R : Int, vs = [.int R] ∧ (R < 1 ∨ 64 < R) ∧ errN H E C
def spPiB (C : Addr) : Sp := fun vs H _ E => ∃ (p : Addr) (R : Int), vs = [.ref p, .int R] ∧ (R < 1 ∨ 64 < R) ∧ errN H E C
def spBad13 : Sp := fun vs H Q _ => ∃ (R : Int) (cs : List Ch), vs = [.int R] ∧ (R < 1 ∨ 64 < R) ∧ Sat H cs ∧ ∀ H', Sat H' cs → Q (.bl true) H'

def spAsked13 (CP CI CO : Addr) : Sp := fun vs H Q _ => ∃ (p pp ei eo lv nn li n0 n1 : Addr) (n : Int) (v0 v1 : List V) (S : Pst) (M : Hp) (R : List Ch), vs = [.ref p, .ref pp, .ref lv, .ref nn, .ref li] ∧ Sat H (poolC p n :: pipC CP CI CO pp ei eo S :: .pt lv (.lst [.bl (!S.bo), .bl (!S.bi)]) :: frC M :: R) ∧ n ≤ 700000000 ∧ PstOk S ∧
  M nn = some (.lst [.ref n0, .ref n1]) ∧ M n0 = some (.lst v0) ∧ M n1 = some (.lst v1) ∧ NtsM M v0 S.no ∧ NtsM M v1 S.ni ∧ M li = some (.lst (S.ws.map V.int)) ∧
  ∀ H', Sat H' (poolC p (n + 12) :: pipC CP CI CO pp ei eo S :: .pt lv (.lst [.bl (!S.bo), .bl (!S.bi)]) :: frC M :: R) → Q (.bl true) H'

theorem wd_atF (j : Nat) (h : j < 5) : atI [V.str (Str.ofString "put"), .str (Str.ofString "go"), .str (Str.ofString "cut"), .str (Str.ofString "place"), .str (Str.ofString "size")] (j : Int) = some (.str (wdS false j)) := by
  rcases (show j = 0 ∨ j = 1 ∨ j = 2 ∨ j = 3 ∨ j = 4 by omega) with rfl | rfl | rfl | rfl | rfl <;> rfl
theorem wd_atT (j : Nat) (h : j < 5) : atI [V.str (Str.ofString "take"), .str (Str.ofString "go"), .str (Str.ofString "cut"), .str (Str.ofString "place"), .str (Str.ofString "size")] (j : Int) = some (.str (wdS true j)) := by
  rcases (show j = 0 ∨ j = 1 ∨ j = 2 ∨ j = 3 ∨ j = 4 by omega) with rfl | rfl | rfl | rfl | rfl <;> rfl
theorem eq_bl0 : decide (V.int ((0 : Nat) : Int) = V.int 1) = false := by decide
theorem eq_bl1 : decide (V.int ((1 : Nat) : Int) = V.int 1) = true := by decide

section
variable {CP CI CO : Addr} {H : Hp} {vs : List V} {Q : VK} {E : XK}
def spPutS (CP CI CO : Addr) : Sp := fun vs H Q _ => ∃ (p ei eo d : Addr) (S : Pst) (ds : List Int) (R : List Ch), vs = [.ref ei, .ref d] ∧ Sat H (pipC CP CI CO p ei eo S :: R) ∧ PstOk S ∧ S.bi = false ∧ S.bo = false ∧ H d = some (.lst (ds.map V.int)) ∧ ds.length ≤ 100000 ∧
  ∀ H', Sat H' (pipC CP CI CO p ei eo (putP S ds) :: R) → Q (numV (fitF S ds)) H'
theorem spPutS.to (h : spPutS CP CI CO vs H Q E) : spPut (PipeAt CP CI CO) vs H Q E := by
  obtain ⟨p, ei, eo, d, S, ds, R, rfl, h, ok, hi, ho, hd, ld, q⟩ := h
  obtain ⟨A, F, rfl, rfl, rfl, hA, k⟩ := h.pip
  exact ⟨A, d, F, S, ds, rfl, hA, ok, hi, ho, hd, ld, fun H' F' hA' st => q H' (Sat.pip1 k hA' st)⟩
end
set_option maxHeartbeats 0 in
structure Tx (K : PySem.W.Frag) (mg : Str → Option Value) where
  C_IntoEnd : Addr
  C_OutEnd : Addr
  C_Pipe : Addr
  C_Raw : Addr
  C_SipError : Addr
  C_Fault : Addr
  C_Closed : Addr
  C_NoSeek : Addr
  C_NoReads : Addr
  C_NoWrites : Addr
  C_BadRoom : Addr
  f_whole : Addr
  fd_whole : FuncData
  D_whole : Dg K mg "is_whole" s_whole f_whole fd_whole
  f_croom : Addr
  fd_croom : FuncData
  D_croom : Dg K mg "check_room" s_croom f_croom fd_croom
  f_ocopy : Addr
  fd_ocopy : FuncData
  D_ocopy : Dg K mg "own_copy" s_ocopy f_ocopy fd_ocopy
  f_rinit : Addr
  fd_rinit : FuncData
  D_rinit : Mf K C_Raw "__init__" "Raw.__init__" s_rinit f_rinit fd_rinit
  f_iinit : Addr
  fd_iinit : FuncData
  D_iinit : Mf K C_IntoEnd "__init__" "IntoEnd.__init__" s_iinit f_iinit fd_iinit
  f_oinit : Addr
  fd_oinit : FuncData
  D_oinit : Mf K C_OutEnd "__init__" "OutEnd.__init__" s_oinit f_oinit fd_oinit
  f_pinit : Addr
  fd_pinit : FuncData
  D_pinit : Mf K C_Pipe "__init__" "Pipe.__init__" s_pinit f_pinit fd_pinit
  f_pinto : Addr
  fd_pinto : FuncData
  D_pinto : Mf K C_Pipe "into" "Pipe.into" s_pinto f_pinto fd_pinto
  f_pout : Addr
  fd_pout : FuncData
  D_pout : Mf K C_Pipe "out" "Pipe.out" s_pout f_pout fd_pout
  f_pheld : Addr
  fd_pheld : FuncData
  D_pheld : Mf K C_Pipe "held" "Pipe.held" s_pheld f_pheld fd_pheld
  f_play : Addr
  fd_play : FuncData
  D_play : Mf K C_Pipe "lay" "Pipe.lay" s_play f_play fd_play
  f_plift : Addr
  fd_plift : FuncData
  D_plift : Mf K C_Pipe "lift" "Pipe.lift" s_plift f_plift fd_plift
  f_iaccept : Addr
  fd_iaccept : FuncData
  D_iaccept : Mf K C_IntoEnd "accept" "IntoEnd.accept" s_iaccept f_iaccept fd_iaccept
  f_ogive : Addr
  fd_ogive : FuncData
  D_ogive : Mf K C_OutEnd "give" "OutEnd.give" s_ogive f_ogive fd_ogive
  f_iput : Addr
  fd_iput : FuncData
  D_iput : Mf K C_IntoEnd "put" "Raw.put" s_iput f_iput fd_iput
  f_iopen : Addr
  fd_iopen : FuncData
  D_iopen : Mf K C_IntoEnd "check_open" "Raw.check_open" s_iopen f_iopen fd_iopen
  f_imay : Addr
  fd_imay : FuncData
  D_imay : Mf K C_IntoEnd "may_put" "Raw.may_put" s_imay f_imay fd_imay
  f_inote : Addr
  fd_inote : FuncData
  D_inote : Mf K C_IntoEnd "note" "Raw.note" s_inote f_inote fd_inote
  f_ishut : Addr
  fd_ishut : FuncData
  D_ishut : Mf K C_IntoEnd "is_shut" "Raw.is_shut" s_ishut f_ishut fd_ishut
  f_ilog : Addr
  fd_ilog : FuncData
  D_ilog : Mf K C_IntoEnd "log" "Raw.log" s_ilog f_ilog fd_ilog
  f_ilogb : Addr
  fd_ilogb : FuncData
  D_ilogb : Mf K C_IntoEnd "log_behind" "Raw.log_behind" s_ilogb f_ilogb fd_ilogb
  f_otake : Addr
  fd_otake : FuncData
  D_otake : Mf K C_OutEnd "take" "Raw.take" s_otake f_otake fd_otake
  f_oopen : Addr
  fd_oopen : FuncData
  D_oopen : Mf K C_OutEnd "check_open" "Raw.check_open" s_oopen f_oopen fd_oopen
  f_omay : Addr
  fd_omay : FuncData
  D_omay : Mf K C_OutEnd "may_take" "Raw.may_take" s_omay f_omay fd_omay
  f_onote : Addr
  fd_onote : FuncData
  D_onote : Mf K C_OutEnd "note" "Raw.note" s_onote f_onote fd_onote
  f_oshut : Addr
  fd_oshut : FuncData
  D_oshut : Mf K C_OutEnd "is_shut" "Raw.is_shut" s_oshut f_oshut fd_oshut
  f_olog : Addr
  fd_olog : FuncData
  D_olog : Mf K C_OutEnd "log" "Raw.log" s_olog f_olog fd_olog
  f_ologb : Addr
  fd_ologb : FuncData
  D_ologb : Mf K C_OutEnd "log_behind" "Raw.log_behind" s_ologb f_ologb fd_ologb
  f_iFault : Addr
  fd_iFault : FuncData
  D_iFault : FunA K "__init__" "Fault.__init__" s_iFault f_iFault fd_iFault
  f_rshut : Addr
  fd_rshut : FuncData
  D_rshut : Mf K C_Raw "shut" "Raw.shut" s_rshut f_rshut fd_rshut
  f_pdrop : Addr
  fd_pdrop : FuncData
  D_pdrop : Mf K C_Pipe "drop" "Pipe.drop" s_pdrop f_pdrop fd_pdrop
  f_osup : Addr
  fd_osup : FuncData
  cc_osup : Addr
  cda_osup : Addr
  U_osup : Sip.SupF K C_OutEnd "shut" "OutEnd.shut" (defArgs s_osup) (defBody s_osup) (defScope s_osup) f_osup fd_osup cc_osup cda_osup supFl
  D_osup : Sip.SupMeth K C_OutEnd "shut" f_osup
  M_osup : Sip.SupT K mg C_OutEnd C_OutEnd f_rshut "shut"
  f_ibar : Addr
  fd_ibar : FuncData
  D_ibar : Mf K C_IntoEnd "shut" "Raw.shut" s_ibar f_ibar fd_ibar
  f_itake : Addr
  fd_itake : FuncData
  D_itake : Mf K C_IntoEnd "take" "Raw.take" s_itake f_itake fd_itake
  f_imayT : Addr
  fd_imayT : FuncData
  D_imayT : Mf K C_IntoEnd "may_take" "IntoEnd.may_take" s_imayT f_imayT fd_imayT
  f_igo : Addr
  fd_igo : FuncData
  D_igo : Mf K C_IntoEnd "go" "Raw.go" s_igo f_igo fd_igo
  f_icut : Addr
  fd_icut : FuncData
  D_icut : Mf K C_IntoEnd "cut" "Raw.cut" s_icut f_icut fd_icut
  f_iplace : Addr
  fd_iplace : FuncData
  D_iplace : Mf K C_IntoEnd "place" "Raw.place" s_iplace f_iplace fd_iplace
  f_isize : Addr
  fd_isize : FuncData
  D_isize : Mf K C_IntoEnd "size" "Raw.size" s_isize f_isize fd_isize
  f_iseek : Addr
  fd_iseek : FuncData
  D_iseek : Mf K C_IntoEnd "check_seeks" "Raw.check_seeks" s_iseek f_iseek fd_iseek
  f_imayC : Addr
  fd_imayC : FuncData
  D_imayC : Mf K C_IntoEnd "may_cut" "Raw.may_cut" s_imayC f_imayC fd_imayC
  f_isk : Addr
  fd_isk : FuncData
  D_isk : Mf K C_IntoEnd "seeks" "Raw.seeks" s_isk f_isk fd_isk
  f_oput : Addr
  fd_oput : FuncData
  D_oput : Mf K C_OutEnd "put" "Raw.put" s_oput f_oput fd_oput
  f_omayP : Addr
  fd_omayP : FuncData
  D_omayP : Mf K C_OutEnd "may_put" "OutEnd.may_put" s_omayP f_omayP fd_omayP
  f_ogo : Addr
  fd_ogo : FuncData
  D_ogo : Mf K C_OutEnd "go" "Raw.go" s_ogo f_ogo fd_ogo
  f_ocut : Addr
  fd_ocut : FuncData
  D_ocut : Mf K C_OutEnd "cut" "Raw.cut" s_ocut f_ocut fd_ocut
  f_oplace : Addr
  fd_oplace : FuncData
  D_oplace : Mf K C_OutEnd "place" "Raw.place" s_oplace f_oplace fd_oplace
  f_osize : Addr
  fd_osize : FuncData
  D_osize : Mf K C_OutEnd "size" "Raw.size" s_osize f_osize fd_osize
  f_oseek : Addr
  fd_oseek : FuncData
  D_oseek : Mf K C_OutEnd "check_seeks" "Raw.check_seeks" s_oseek f_oseek fd_oseek
  f_omayC : Addr
  fd_omayC : FuncData
  D_omayC : Mf K C_OutEnd "may_cut" "Raw.may_cut" s_omayC f_omayC fd_omayC
  f_osk : Addr
  fd_osk : FuncData
  D_osk : Mf K C_OutEnd "seeks" "Raw.seeks" s_osk f_osk fd_osk
  f_pool : Addr
  fd_pool : FuncData
  D_pool : Dg K mg "_law_pool" s_pool f_pool fd_pool
  f_take : Addr
  fd_take : FuncData
  D_take : Dg K mg "_law_take" s_take f_take fd_take
  f_lrow : Addr
  fd_lrow : FuncData
  D_lrow : Dg K mg "_law_row" s_lrow f_lrow fd_lrow
  f_lrefusal : Addr
  fd_lrefusal : FuncData
  D_lrefusal : Dg K mg "_law_refusal" s_lrefusal f_lrefusal fd_lrefusal
  f_ltried : Addr
  fd_ltried : FuncData
  D_ltried : Dg K mg "_law_tried" s_ltried f_ltried fd_ltried
  f_lbad : Addr
  fd_lbad : FuncData
  D_lbad : Dg K mg "_law_bad_room" s_lbad f_lbad fd_lbad
  f_ldue : Addr
  fd_ldue : FuncData
  D_ldue : Dg K mg "_law_due" s_ldue f_ldue fd_ldue
  f_lasked : Addr
  fd_lasked : FuncData
  D_lasked : Dg K mg "_law_asked" s_lasked f_lasked fd_lasked
  f_law : Addr
  fd_law : FuncData
  D_law : Dg K mg "law" s_law f_law fd_law
  cl_IntoEnd : Cls K C_IntoEnd
  g_IntoEnd : mg "IntoEnd" = some (.ref C_IntoEnd)
  mk_IntoEnd : Mk K C_IntoEnd f_iinit
  n_IntoEnd_can_seek : NoAttr K C_IntoEnd "can_seek"
  n_IntoEnd_spot : NoAttr K C_IntoEnd "spot"
  n_IntoEnd_barred : NoAttr K C_IntoEnd "barred"
  n_IntoEnd_notes : NoAttr K C_IntoEnd "notes"
  n_IntoEnd_pipe : NoAttr K C_IntoEnd "pipe"
  cl_OutEnd : Cls K C_OutEnd
  g_OutEnd : mg "OutEnd" = some (.ref C_OutEnd)
  mk_OutEnd : Mk K C_OutEnd f_oinit
  n_OutEnd_can_seek : NoAttr K C_OutEnd "can_seek"
  n_OutEnd_spot : NoAttr K C_OutEnd "spot"
  n_OutEnd_barred : NoAttr K C_OutEnd "barred"
  n_OutEnd_notes : NoAttr K C_OutEnd "notes"
  n_OutEnd_pipe : NoAttr K C_OutEnd "pipe"
  cl_Pipe : Cls K C_Pipe
  g_Pipe : mg "Pipe" = some (.ref C_Pipe)
  mk_Pipe : Mk K C_Pipe f_pinit
  n_Pipe_room : NoAttr K C_Pipe "room"
  n_Pipe_within : NoAttr K C_Pipe "within"
  n_Pipe_into_end : NoAttr K C_Pipe "into_end"
  n_Pipe_out_end : NoAttr K C_Pipe "out_end"
  g_Raw : mg "Raw" = some (.ref C_Raw)
  cr_Raw : ClX.CRead K C_Raw (.type "type")
  cv_rinit : PySem.W.findCls K (.ref C_Raw) (.type "type") "__init__" = some (.val (.ref f_rinit))
  cv_rshut : PySem.W.findCls K (.ref C_Raw) (.type "type") "shut" = some (.val (.ref f_rshut))
  g_SipError : mg "SipError" = some (.ref C_SipError)
  g_Fault : mg "Fault" = some (.ref C_Fault)
  g_Closed : mg "Closed" = some (.ref C_Closed)
  g_NoSeek : mg "NoSeek" = some (.ref C_NoSeek)
  g_NoReads : mg "NoReads" = some (.ref C_NoReads)
  g_NoWrites : mg "NoWrites" = some (.ref C_NoWrites)
  g_BadRoom : mg "BadRoom" = some (.ref C_BadRoom)
  o_Fault : OexC K C_Fault
  e_Fault : ExcC K C_Fault
  n_Fault : PySem.W.findIn K (.ref C_Fault) "number" = some none
  n2_Fault : PySem.W.findIn K (.ref C_Fault) "taken" = some none
  ini_Fault : PySem.W.findIn K (.ref C_Fault) "__init__" = some (some (.ref f_iFault))
  tI_Fault : PySem.W.typeIn K (.ref f_iFault) = some (.type "function")
  te_Fault : PySem.W.exmOne K (.ref C_Fault) (.ref C_SipError) = some true
  kV_Fault : PySem.W.kitOne K (.ref C_Fault) (.type "ValueError") = some true
  k_Fault_Closed : PySem.W.kitOne K (.ref C_Fault) (.ref C_Closed) = some false
  k_Fault_NoSeek : PySem.W.kitOne K (.ref C_Fault) (.ref C_NoSeek) = some false
  k_Fault_NoReads : PySem.W.kitOne K (.ref C_Fault) (.ref C_NoReads) = some false
  k_Fault_NoWrites : PySem.W.kitOne K (.ref C_Fault) (.ref C_NoWrites) = some false
  k_Fault_Fault : PySem.W.kitOne K (.ref C_Fault) (.ref C_Fault) = some true
  k_Fault_SipError : PySem.W.kitOne K (.ref C_Fault) (.ref C_SipError) = some true
  x_Closed : PySem.W.excIn K C_Closed [.type "ValueError", .type "Exception", .type "BaseException", .type "object"] "ValueError.__new__" = true
  kk_Closed : PySem.W.keepIn K (.ref C_Closed) = true
  bx_Closed : PySem.W.subIn K (.ref C_Closed) (.type "BaseException") = some true
  tx_Closed : PySem.W.typeIn K (.ref C_Closed) = some (.type "type")
  x_NoSeek : PySem.W.excIn K C_NoSeek [.type "ValueError", .type "Exception", .type "BaseException", .type "object"] "ValueError.__new__" = true
  kk_NoSeek : PySem.W.keepIn K (.ref C_NoSeek) = true
  bx_NoSeek : PySem.W.subIn K (.ref C_NoSeek) (.type "BaseException") = some true
  tx_NoSeek : PySem.W.typeIn K (.ref C_NoSeek) = some (.type "type")
  x_NoReads : PySem.W.excIn K C_NoReads [.type "ValueError", .type "Exception", .type "BaseException", .type "object"] "ValueError.__new__" = true
  kk_NoReads : PySem.W.keepIn K (.ref C_NoReads) = true
  bx_NoReads : PySem.W.subIn K (.ref C_NoReads) (.type "BaseException") = some true
  tx_NoReads : PySem.W.typeIn K (.ref C_NoReads) = some (.type "type")
  x_NoWrites : PySem.W.excIn K C_NoWrites [.type "ValueError", .type "Exception", .type "BaseException", .type "object"] "ValueError.__new__" = true
  kk_NoWrites : PySem.W.keepIn K (.ref C_NoWrites) = true
  bx_NoWrites : PySem.W.subIn K (.ref C_NoWrites) (.type "BaseException") = some true
  tx_NoWrites : PySem.W.typeIn K (.ref C_NoWrites) = some (.type "type")
  x_BadRoom : PySem.W.excIn K C_BadRoom [.type "ValueError", .type "Exception", .type "BaseException", .type "object"] "ValueError.__new__" = true
  kk_BadRoom : PySem.W.keepIn K (.ref C_BadRoom) = true
  bx_BadRoom : PySem.W.subIn K (.ref C_BadRoom) (.type "BaseException") = some true
  tx_BadRoom : PySem.W.typeIn K (.ref C_BadRoom) = some (.type "type")
  e_Closed : ExcC K C_Closed
  kV_Closed : PySem.W.kitOne K (.ref C_Closed) (.type "ValueError") = some true
  k_Closed_Closed : PySem.W.kitOne K (.ref C_Closed) (.ref C_Closed) = some true
  k_Closed_NoSeek : PySem.W.kitOne K (.ref C_Closed) (.ref C_NoSeek) = some false
  k_Closed_NoReads : PySem.W.kitOne K (.ref C_Closed) (.ref C_NoReads) = some false
  k_Closed_NoWrites : PySem.W.kitOne K (.ref C_Closed) (.ref C_NoWrites) = some false
  k_Closed_Fault : PySem.W.kitOne K (.ref C_Closed) (.ref C_Fault) = some false
  k_Closed_SipError : PySem.W.kitOne K (.ref C_Closed) (.ref C_SipError) = some true
  e_NoSeek : ExcC K C_NoSeek
  kV_NoSeek : PySem.W.kitOne K (.ref C_NoSeek) (.type "ValueError") = some true
  k_NoSeek_Closed : PySem.W.kitOne K (.ref C_NoSeek) (.ref C_Closed) = some false
  k_NoSeek_NoSeek : PySem.W.kitOne K (.ref C_NoSeek) (.ref C_NoSeek) = some true
  k_NoSeek_NoReads : PySem.W.kitOne K (.ref C_NoSeek) (.ref C_NoReads) = some false
  k_NoSeek_NoWrites : PySem.W.kitOne K (.ref C_NoSeek) (.ref C_NoWrites) = some false
  k_NoSeek_Fault : PySem.W.kitOne K (.ref C_NoSeek) (.ref C_Fault) = some false
  k_NoSeek_SipError : PySem.W.kitOne K (.ref C_NoSeek) (.ref C_SipError) = some true
  e_NoReads : ExcC K C_NoReads
  kV_NoReads : PySem.W.kitOne K (.ref C_NoReads) (.type "ValueError") = some true
  k_NoReads_Closed : PySem.W.kitOne K (.ref C_NoReads) (.ref C_Closed) = some false
  k_NoReads_NoSeek : PySem.W.kitOne K (.ref C_NoReads) (.ref C_NoSeek) = some false
  k_NoReads_NoReads : PySem.W.kitOne K (.ref C_NoReads) (.ref C_NoReads) = some true
  k_NoReads_NoWrites : PySem.W.kitOne K (.ref C_NoReads) (.ref C_NoWrites) = some false
  k_NoReads_Fault : PySem.W.kitOne K (.ref C_NoReads) (.ref C_Fault) = some false
  k_NoReads_SipError : PySem.W.kitOne K (.ref C_NoReads) (.ref C_SipError) = some true
  e_NoWrites : ExcC K C_NoWrites
  kV_NoWrites : PySem.W.kitOne K (.ref C_NoWrites) (.type "ValueError") = some true
  k_NoWrites_Closed : PySem.W.kitOne K (.ref C_NoWrites) (.ref C_Closed) = some false
  k_NoWrites_NoSeek : PySem.W.kitOne K (.ref C_NoWrites) (.ref C_NoSeek) = some false
  k_NoWrites_NoReads : PySem.W.kitOne K (.ref C_NoWrites) (.ref C_NoReads) = some false
  k_NoWrites_NoWrites : PySem.W.kitOne K (.ref C_NoWrites) (.ref C_NoWrites) = some true
  k_NoWrites_Fault : PySem.W.kitOne K (.ref C_NoWrites) (.ref C_Fault) = some false
  k_NoWrites_SipError : PySem.W.kitOne K (.ref C_NoWrites) (.ref C_SipError) = some true
  e_BadRoom : ExcC K C_BadRoom
  kV_BadRoom : PySem.W.kitOne K (.ref C_BadRoom) (.type "ValueError") = some true
  k_BadRoom_Closed : PySem.W.kitOne K (.ref C_BadRoom) (.ref C_Closed) = some false
  k_BadRoom_NoSeek : PySem.W.kitOne K (.ref C_BadRoom) (.ref C_NoSeek) = some false
  k_BadRoom_NoReads : PySem.W.kitOne K (.ref C_BadRoom) (.ref C_NoReads) = some false
  k_BadRoom_NoWrites : PySem.W.kitOne K (.ref C_BadRoom) (.ref C_NoWrites) = some false
  k_BadRoom_Fault : PySem.W.kitOne K (.ref C_BadRoom) (.ref C_Fault) = some false
  k_BadRoom_SipError : PySem.W.kitOne K (.ref C_BadRoom) (.ref C_SipError) = some true
  te_Fault_Fault : PySem.W.exmOne K (.ref C_Fault) (.ref C_Fault) = some true
  te_Fault_SipError : PySem.W.exmOne K (.ref C_Fault) (.ref C_SipError) = some true
  te_Fault_BadRoom : PySem.W.exmOne K (.ref C_Fault) (.ref C_BadRoom) = some false
  te_Closed_Fault : PySem.W.exmOne K (.ref C_Closed) (.ref C_Fault) = some false
  te_Closed_SipError : PySem.W.exmOne K (.ref C_Closed) (.ref C_SipError) = some true
  te_Closed_BadRoom : PySem.W.exmOne K (.ref C_Closed) (.ref C_BadRoom) = some false
  te_NoSeek_Fault : PySem.W.exmOne K (.ref C_NoSeek) (.ref C_Fault) = some false
  te_NoSeek_SipError : PySem.W.exmOne K (.ref C_NoSeek) (.ref C_SipError) = some true
  te_NoSeek_BadRoom : PySem.W.exmOne K (.ref C_NoSeek) (.ref C_BadRoom) = some false
  te_NoReads_Fault : PySem.W.exmOne K (.ref C_NoReads) (.ref C_Fault) = some false
  te_NoReads_SipError : PySem.W.exmOne K (.ref C_NoReads) (.ref C_SipError) = some true
  te_NoReads_BadRoom : PySem.W.exmOne K (.ref C_NoReads) (.ref C_BadRoom) = some false
  te_NoWrites_Fault : PySem.W.exmOne K (.ref C_NoWrites) (.ref C_Fault) = some false
  te_NoWrites_SipError : PySem.W.exmOne K (.ref C_NoWrites) (.ref C_SipError) = some true
  te_NoWrites_BadRoom : PySem.W.exmOne K (.ref C_NoWrites) (.ref C_BadRoom) = some false
  te_BadRoom_Fault : PySem.W.exmOne K (.ref C_BadRoom) (.ref C_Fault) = some false
  te_BadRoom_SipError : PySem.W.exmOne K (.ref C_BadRoom) (.ref C_SipError) = some true
  te_BadRoom_BadRoom : PySem.W.exmOne K (.ref C_BadRoom) (.ref C_BadRoom) = some true
  bb_croom : Binds K fd_croom P_croom []
  bb_iaccept : Binds K fd_iaccept P_iaccept []
  bb_ibar : Binds K fd_ibar P_ibar []
  bb_icut : Binds K fd_icut P_icut []
  bb_igo : Binds K fd_igo P_igo []
  bb_iinit : Binds K fd_iinit P_iinit []
  bb_ilog : Binds K fd_ilog P_ilog []
  bb_ilogb : Binds K fd_ilogb P_ilogb []
  bb_imay : Binds K fd_imay P_imay []
  bb_imayC : Binds K fd_imayC P_imayC []
  bb_imayT : Binds K fd_imayT P_imayT []
  bb_inote : Binds K fd_inote P_inote []
  bb_iopen : Binds K fd_iopen P_iopen []
  bb_iplace : Binds K fd_iplace P_iplace []
  bb_iput : Binds K fd_iput P_iput []
  bb_iseek : Binds K fd_iseek P_iseek []
  bb_ishut : Binds K fd_ishut P_ishut []
  bb_isize : Binds K fd_isize P_isize []
  bb_isk : Binds K fd_isk P_isk []
  bb_itake : Binds K fd_itake P_itake []
  bb_lasked : Binds K fd_lasked P_lasked []
  bb_lbad : Binds K fd_lbad P_lbad []
  bb_ldue : Binds K fd_ldue P_ldue []
  bb_lrefusal : Binds K fd_lrefusal P_lrefusal []
  bb_lrow : Binds K fd_lrow P_lrow []
  bb_ltried : Binds K fd_ltried P_ltried []
  bb_ocopy : Binds K fd_ocopy P_ocopy []
  bb_ocut : Binds K fd_ocut P_ocut []
  bb_ogive : Binds K fd_ogive P_ogive []
  bb_ogo : Binds K fd_ogo P_ogo []
  bb_oinit : Binds K fd_oinit P_oinit []
  bb_olog : Binds K fd_olog P_olog []
  bb_ologb : Binds K fd_ologb P_ologb []
  bb_omay : Binds K fd_omay P_omay []
  bb_omayC : Binds K fd_omayC P_omayC []
  bb_omayP : Binds K fd_omayP P_omayP []
  bb_onote : Binds K fd_onote P_onote []
  bb_oopen : Binds K fd_oopen P_oopen []
  bb_oplace : Binds K fd_oplace P_oplace []
  bb_oput : Binds K fd_oput P_oput []
  bb_oseek : Binds K fd_oseek P_oseek []
  bb_oshut : Binds K fd_oshut P_oshut []
  bb_osize : Binds K fd_osize P_osize []
  bb_osk : Binds K fd_osk P_osk []
  bb_osup : Binds K fd_osup P_osup []
  bb_otake : Binds K fd_otake P_otake []
  bb_pdrop : Binds K fd_pdrop P_pdrop []
  bb_pheld : Binds K fd_pheld P_pheld []
  bb_pinto : Binds K fd_pinto P_pinto []
  bb_play : Binds K fd_play P_play []
  bb_plift : Binds K fd_plift P_plift []
  bb_pool : Binds K fd_pool P_pool []
  bb_pout : Binds K fd_pout P_pout []
  bb_rinit : Binds K fd_rinit P_rinit []
  bb_rshut : Binds K fd_rshut P_rshut []
  bb_take : Binds K fd_take P_take []
  bb_whole : Binds K fd_whole P_whole []
  ds_pinit_0 : List Value
  v_pinit_0 : Vals [.int 8] ds_pinit_0
  b_pinit_0 : Binds K fd_pinit P_pinit ds_pinit_0
  kb_pinit_0_room : KBn K fd_pinit P_pinit 1 ["room"] (fun us ws => us ++ ws) (fun vs zs => vs ++ zs)
  t_ROOM : Tok
  c_ROOM : mg "ROOM" = some (.int 8 t_ROOM)
  t_GREATEST_ROOM : Tok
  c_GREATEST_ROOM : mg "GREATEST_ROOM" = some (.int 64 t_GREATEST_ROOM)
  t_BROKEN : Tok
  c_BROKEN : mg "BROKEN" = some (.int 99 t_BROKEN)
  m_list : mg "list" = none
  m_len : mg "len" = none
  m_range : mg "range" = none
  m_max : mg "max" = none
  m_min : mg "min" = none
  m_isinstance : mg "isinstance" = none
  m_int : mg "int" = none
  m_bool : mg "bool" = none
  m_super : mg "super" = none
  m_ValueError : mg "ValueError" = none
local macro_rules | `(tactic| walk_at "pu") => `(tactic| first | with_reducible exact Pull.hd | (with_reducible apply Pull.tl; walk_at "pu"))
local macro_rules | `(tactic| walk_at "pt") => `(tactic| first | with_reducible exact Pk.nil | exact Pk.none _ | (with_reducible apply Pk.drop; walk_at "pt"))
local macro_rules | `(tactic| walk_at "pk") => `(tactic| first | with_reducible exact Pk.nil | (with_reducible apply Pk.cons; (focus walk_at "pu"); (focus walk_at "pk")) | walk_at "pt")
section
variable {P : Program} {w : World} {K : PySem.W.Frag} {mg : Str → Option Value} {base : Heap} [Sip.SupProg P supFl]

theorem ok_pool (T : Tx K mg) : FnOk P w K mg base CX0 1 T.f_pool T.fd_pool P_pool (spPool K) := by
  have sz : sizeLine = 16777216 := sizeLine_eq
  refine T.D_pool.F.ok sc_pool (fun vs H Q E h => ?_) (fun cdv A outer s H vs Q E hr h => ?_)
  · obtain ⟨a, ns, i, rfl, _⟩ := h
    rfl
  · obtain ⟨a, ns, i, rfl, hS, h63, i0, i1, q⟩ := h
    refine ⟨_, (pss_cons (ps_set (i := 2) sc_pool.nd rfl (.inl rfl) pe_int)
      (C8.pss_cut (ps_if (pt_cmpR op_gt (pe_callB call_len_seq (by rfl) T.m_len PySem.boot_len (pa_cons (pv 0) pa_nil)) pe_int (nomark _)) (pss_one (ps_set (i := 2) sc_pool.nd rfl (.inl rfl) (pe_ix ix_list (pv 0) (pe_op op_mod (pv 1) (pe_callB call_len_seq (by rfl) T.m_len PySem.boot_len (pa_cons (pv 0) pa_nil))) (fun _ _ => rfl)))) pss_nil)
      (pss_cons (ps_set (i := 3) sc_pool.nd rfl (.inl rfl) pe_int)
      (C8.pss_cut (ps_if (PW.pt (pw_and (pt_cmpR op_ge (pv 2) (pe_op op_pow pe_int pe_int) (nomark _)) (pw_and1 (pt_cmpR op_lt (pv 1) (pe_callB call_len_seq (by rfl) T.m_len PySem.boot_len (pa_cons (pv 0) pa_nil)) (nomark _))))) (pss_one (ps_set (i := 3) sc_pool.nd rfl (.inl rfl) (pv 2))) pss_nil)
      (pss_one (ps_ret (pe_lst (pa_cons (pv 3) (pa_cons (pe_op op_mul pe_int (pv 1)) (pa_cons (pv 2) pa_nil)))))))))), ?_⟩
    refine ⟨fun σ' H' => H' = H ∧ ∃ c : Int, σ' = [some (.ref a), some (.int i), some (.int c), none], ?_, fun σ' H' hm => ?_⟩
    · refine ⟨.ref a, rfl, a, ns.map V.int, rfl, .inl hS, _, _, rfl, rfl, _, rfl, ite2 (fun e => ?_) (fun e => ?_)⟩
      · have e1 : (0 : Int) < ((ns.map V.int).length : Int) := of_decide_eq_true e
        rw [List.length_map] at e1
        obtain ⟨m, _, em, _⟩ := atI_int (ms := ns) (i := i % (ns.length : Int)) (Int.emod_nonneg _ (by omega)) (Int.emod_lt_of_pos _ e1)
        refine ⟨.ref a, rfl, .int i, rfl, .ref a, rfl, a, ns.map V.int, rfl, .inl hS, _, _, rfl, rfl, ?_, a, _, _, .int m, rfl, rfl, hS, ?_, rfl, m, rfl⟩
        · rw [List.length_map]; exact e1
        · rw [List.length_map]; exact em
      · exact ⟨rfl, 0, rfl⟩
    · obtain ⟨rfl, c, rfl⟩ := hm
      refine ⟨fun σ' H'' => H'' = H' ∧ ∃ d : Int, 0 ≤ d ∧ σ' = [some (.ref a), some (.int i), some (.int c), some (.int d)], ?_, fun σ' H'' hm => ?_⟩
      · refine ⟨.int c, rfl, _, _, rfl, rfl, ⟨by decide, by decide, by decide⟩, _, _, rfl, rfl, _, rfl, ite2 (fun e => ?_) (fun e => iteF ⟨rfl, 0, by decide, rfl⟩)⟩
        have e1 : ((10 : Int) ^ (18 : Int).toNat) ≤ c := of_decide_eq_true e
        refine ⟨.int i, rfl, .ref a, rfl, a, ns.map V.int, rfl, .inl hS, _, _, rfl, rfl, _, rfl, ite2 (fun e => ?_) (fun e => ⟨rfl, 0, by decide, rfl⟩)⟩
        exact ⟨.int c, rfl, rfl, c, Int.le_trans (by decide) e1, rfl⟩
      · obtain ⟨rfl, d, d0, rfl⟩ := hm
        refine ⟨.int d, rfl, .int i, rfl, _, _, rfl, rfl, .inl ⟨by decide, by decide⟩, .int c, rfl, by show (3 : Nat) ≤ sizeLine; decide, fun p np => q p _ np ⟨d, 1000 * i, c, rfl, d0, by omega, by omega⟩⟩


theorem ok_take (T : Tx K mg) : FnOk P w K mg base CX0 1 T.f_take T.fd_take P_take (spTake) := by
  have sz : sizeLine = 16777216 := sizeLine_eq
  refine T.D_take.F.ok sc_take (fun vs H Q E h => ?_) (fun cdv A outer s H vs Q E hr h => ?_)
  · obtain ⟨p, n, wd, o, rfl, _⟩ := h
    rfl
  · obtain ⟨p, n, wd, o, rfl, hp, ⟨d, c, x, rfl, d0, c0, cn⟩, n9, w0, w1, q⟩ := h
    refine ⟨_, (pss_cons (ps_if (pt_cmpR op_gt (pe_ix ix_list (pv 0) pe_int (fun _ _ => rfl)) pe_int (nomark _)) (pss_cons (ps_set (i := 2) sc_take.nd rfl (.inl rfl) (pe_op op_mod (pe_ix ix_list (pv 0) pe_int (fun _ _ => rfl)) (pv 1)))
      (pss_cons (ps_asg (pe_op op_fdiv (pe_ix ix_list (pv 0) pe_int (fun _ _ => rfl)) (pv 1)) (pg_sub (pv 0) pe_int set_list))
      (pss_one (ps_ret (pv 2))))) pss_nil)
      (pss_cons (ps_asg (pe_op op_add (pe_ix ix_list (pv 0) pe_int (fun _ _ => rfl)) pe_int) (pg_sub (pv 0) pe_int set_list))
      (pss_cons (ps_set (i := 3) sc_take.nd rfl (.inl rfl) (pe_op op_mod (pe_op op_pow (pe_op op_add (pe_op op_mod (pe_ix ix_list (pv 0) pe_int (fun _ _ => rfl)) pe_int) (pe_op op_mul pe_int (pe_ix ix_list (pv 0) pe_int (fun _ _ => rfl)))) pe_int) pe_int))
      (pss_cons (ps_set (i := 3) sc_take.nd rfl (.inl rfl) (pe_op op_add (pe_op op_mul (pv 3) pe_int) (pe_op op_mul (pe_op op_mul (pe_ix ix_list (pv 0) pe_int (fun _ _ => rfl)) (pe_ix ix_list (pv 0) pe_int (fun _ _ => rfl))) pe_int)))
      (pss_one (ps_ret (pe_op op_mod (pe_op op_fdiv (pe_op op_mod (pe_op op_add (pv 3) (pe_op op_fdivW (pe_ix ix_list (pv 0) pe_int (fun _ _ => rfl)) pe_int)) pe_int) pe_int) (pv 1)))))))), ?_⟩
    have S0 : SqL K H p [.int d, .int c, .int x] := sq_at hp
    refine ⟨.ref p, rfl, p, _, 0, .int d, rfl, rfl, S0, rfl, d, 0, rfl, rfl, _, rfl, ite2 (fun e => ?_) (fun e => ?_)⟩
    · refine ⟨.ref p, rfl, p, _, 0, .int d, rfl, rfl, S0, rfl, .int wd, rfl, d, wd, rfl, rfl, w0, ?_⟩
      refine ⟨.ref p, rfl, p, _, 0, .int d, rfl, rfl, S0, rfl, .int wd, rfl, d, wd, rfl, rfl, ⟨w0, w1⟩, ?_⟩
      refine ⟨.ref p, rfl, p, _, 0, 0, rfl, rfl, hp, rfl, .int (d % wd), rfl, ?_⟩
      exact q _ _ (Int.emod_nonneg _ (by omega)) (Int.emod_lt_of_pos _ w0) ⟨d / wd, c, x, rfl, Int.ediv_nonneg d0 (by omega), c0, by omega⟩
    · refine ⟨.ref p, rfl, p, _, 1, .int c, rfl, rfl, S0, rfl, c, 1, rfl, rfl, .ref p, rfl, p, _, 1, 1, rfl, rfl, hp, rfl, ?_⟩
      have S1 : SqL K (upd H p (.lst [.int d, .int (c + 1), .int x])) p [.int d, .int (c + 1), .int x] := sq_new
      have y0 : 0 ≤ x % 2147483647 := Int.emod_nonneg _ (by decide)
      have y1 : x % 2147483647 < 2147483647 := Int.emod_lt_of_pos _ (by decide)
      refine ⟨.ref p, rfl, p, _, 2, .int x, rfl, rfl, S1, rfl, x, _, rfl, rfl, by show (0 : Int) < 2147483647; decide, .ref p, rfl, p, _, 1, .int (c + 1), rfl, rfl, S1, rfl, 40503, c + 1, rfl, rfl, .inl ⟨by decide, by decide⟩, _, _, rfl, rfl, _, 5, rfl, rfl, ⟨by decide, by decide, ?_⟩, _, 2147483647, rfl, rfl, by show (0 : Int) < 2147483647; decide, ?_⟩
      · show (x % 2147483647 + 40503 * (c + 1)).natAbs < 18446744073709551616
        omega
      · refine ⟨_, rfl, _, 48271, rfl, rfl, .inr ⟨by decide, by decide⟩, .ref p, rfl, p, _, 1, .int (c + 1), rfl, rfl, S1, rfl, .ref p, rfl, p, _, 1, .int (c + 1), rfl, rfl, S1, rfl, c + 1, c + 1, rfl, rfl, .inl ⟨by omega, by omega⟩, _, 39373, rfl, rfl, .inr ⟨by decide, by decide⟩, _, _, rfl, rfl, ?_⟩
        refine ⟨_, rfl, .ref p, rfl, p, _, 2, .int x, rfl, rfl, S1, rfl, x, _, rfl, rfl, wide_div (b := 32) (by decide) (by decide) (by decide) (by decide), _, _, rfl, rfl, _, _, rfl, rfl, by show (0 : Int) < 1000000007; decide, _, 16, rfl, rfl, ⟨by decide, by decide⟩, .int wd, rfl, _, wd, rfl, rfl, w0, ?_⟩
        exact q _ _ (Int.emod_nonneg _ (by omega)) (Int.emod_lt_of_pos _ w0) ⟨d, c + 1, x, rfl, d0, by omega, by omega⟩


theorem ok_whole (T : Tx K mg) : FnOk P w K mg base CX0 1 T.f_whole T.fd_whole P_whole (spWhole) := by
  have sz : sizeLine = 16777216 := sizeLine_eq
  refine T.D_whole.F.ok sc_whole (fun vs H Q E h => ?_) (fun cdv A outer s H vs Q E hr h => ?_)
  · obtain ⟨v, rfl, _⟩ := h
    rfl
  · obtain ⟨v, rfl, q⟩ := h
    refine ⟨_, (pss_one (ps_ret (pe_and (pe_callB (id := "isinstance") (r := rIsi K) call_isi (by rfl) T.m_isinstance (by decide +kernel) (pa_cons (pv 0) (pa_cons (pe_bltn (v := .ty "int") (by rfl) T.m_int (by decide +kernel) rfl) pa_nil))) (pe_one (pe_not (pe_callB (id := "isinstance") (r := rIsi K) call_isi (by rfl) T.m_isinstance (by decide +kernel) (pa_cons (pv 0) (pa_cons (pe_bltn (v := .ty "bool") (by rfl) T.m_bool (by decide +kernel) rfl) pa_nil)))))))), ?_⟩
    refine ⟨.int v, rfl, .int v, .ty "int", _, _, true, rfl, .ty "int", .base (.int v), kit_ty (by decide +kernel), true, rfl, ?_⟩
    exact ⟨.int v, rfl, .int v, .ty "bool", _, _, false, rfl, .ty "bool", .base (.int v), kit_ty (by decide +kernel), false, rfl, q⟩

theorem ok_croom (T : Tx K mg) : FnOk P w K mg base CX0 2 T.f_croom T.fd_croom P_croom (spRoomC) := by
  have G_whole := ok_whole (P := P) (w := w) (base := base) T
  have sz : sizeLine = 16777216 := sizeLine_eq
  refine T.D_croom.F.ok sc_croom (fun vs H Q E h => ?_) (fun cdv A outer s H vs Q E hr h => ?_)
  · obtain ⟨R, rfl, _⟩ := h
    rfl
  · obtain ⟨R, rfl, r1, r2, q⟩ := h
    refine ⟨_, (pss_one (ps_if (PW.pt (pw_or (pt_not (pt_val (pe_call G_whole (hr.mono (by decide)) (by rfl) T.D_whole.g T.D_whole.F.kp T.bb_whole .nil pass0 (pa_cons (pv 0) pa_nil)))) (pw_or1 (pt_not (pt_chain op_le op_le pe_int (pv 0) (pe_glob (v := .int 64) (by rfl) T.c_GREATEST_ROOM ⟨_, rfl⟩)))))) (pss_one ps_never) pss_nil)), ?_⟩
    refine ⟨.int R, rfl, R, rfl, true, rfl, iteF ?_⟩
    refine ⟨.int R, rfl, _, _, rfl, rfl, _, rfl, ?_⟩
    rw [if_pos (decide_eq_true r1)]
    refine ⟨_, _, rfl, rfl, _, rfl, ?_⟩
    rw [decide_eq_true r2]
    exact iteF q

theorem ok_ocopy (T : Tx K mg) : FnOk P w K mg base CX0 1 T.f_ocopy T.fd_ocopy P_ocopy (spOwnC) := by
  have sz : sizeLine = 16777216 := sizeLine_eq
  refine T.D_ocopy.F.ok sc_ocopy (fun vs H Q E h => ?_) (fun cdv A outer s H vs Q E hr h => ?_)
  · obtain ⟨v, t, G, rfl, _⟩ := h
    rfl
  · obtain ⟨v, t, G, rfl, ht, q⟩ := h
    refine ⟨_, (pss_cons (ps_if (pt_val (pe_callB (id := "isinstance") (r := rIsi K) call_isi (by rfl) T.m_isinstance (by decide +kernel) (pa_cons (pv 0) (pa_cons (pe_bltn (v := .ty "list") (by rfl) T.m_list (by decide +kernel) rfl) pa_nil)))) (pss_one (ps_ret (pe_callTy call_list_of (by rfl) T.m_list (by decide +kernel) (pa_cons (pv 0) pa_nil)))) pss_nil)
      (pss_one (ps_ret (pv 0)))), ?_⟩
    cases t with
    | i n =>
      cases (show v = _ from ht)
      exact ⟨.int n, rfl, .int n, .ty "list", _, _, false, rfl, .ty "list", .base (.int n), kit_ty (by decide +kernel), false, rfl, iteF ⟨.int n, rfl, q _ _ rfl (Same.refl _)⟩⟩
    | s w =>
      cases (show v = _ from ht)
      exact ⟨.str w, rfl, .str w, .ty "list", _, _, false, rfl, .ty "list", .base (.str w), kit_ty (by decide +kernel), false, rfl, iteF ⟨.str w, rfl, q _ _ rfl (Same.refl _)⟩⟩
    | l xs =>
      obtain ⟨a, rfl, ga, ha⟩ := ht
      exact ⟨.ref a, rfl, .ref a, .ty "list", _, _, true, rfl, .ty "list", .base (.lst ha), kit_ty (by decide +kernel), true, rfl, iteT ⟨.ref a, rfl, a, _, rfl, .inl (sq_at ha), fun z nz => q _ _ ⟨z, rfl, nz, upd_same⟩ (Kp.new (ps := []) nz).same⟩⟩

theorem ok_rinit (T : Tx K mg) : FnOk P w K mg base CX0 1 T.f_rinit T.fd_rinit P_rinit (spRInit K) := by
  have sz : sizeLine = 16777216 := sizeLine_eq
  refine T.D_rinit.F.ok sc_rinit (fun vs H Q E h => ?_) (fun cdv A outer s H vs Q E hr h => ?_)
  · obtain ⟨e, C, dx, rfl, _⟩ := h
    rfl
  · obtain ⟨e, C, dx, rfl, he, hC, n1, n2, n3, n4, q⟩ := h
    refine ⟨_, (pss_cons (ps_fld (pv 0) (pv 1) rfl)
      (pss_cons (ps_fld (pv 0) pe_int rfl)
      (pss_cons (ps_fld (pv 0) pe_bl rfl)
      (pss_one (ps_fld (pv 0) (pe_lst pa_nil) rfl))))), ?_⟩
    refine ⟨_, rfl, .ref e, rfl, e, C, dx, [], rfl, he, hC, n1, by show 0 < 1000; decide, ?_⟩
    refine ⟨.ref e, rfl, e, C, dx, _, rfl, upd_same, hC, n2, by show 1 < 1000; decide, ?_⟩
    refine ⟨.ref e, rfl, e, C, dx, _, rfl, upd_same, hC, n3, by show 2 < 1000; decide, ?_⟩
    rw [upd_upd, upd_upd]
    refine ⟨by show (0 : Nat) ≤ sizeLine; omega, fun l nl => ?_⟩
    have el : e ≠ l := ne_of_none upd_same nl
    refine ⟨.ref e, rfl, e, C, dx, _, rfl, by rw [upd_ne el]; exact upd_same, hC, n4, by show 3 < 1000; decide, ?_⟩
    have nl0 : H l = none := by rw [upd_ne el.symm] at nl; exact nl
    refine q _ l nl0 (by rw [upd_ne el.symm]; exact upd_same) upd_same (fun b o nb eb => ?_)
    rw [upd_ne (by simpa using nb), upd_ne (ne_of_none eb nl0), upd_ne (by simpa using nb)]
    exact eb

theorem ok_iinit (T : Tx K mg) : FnOk P w K mg base CX0 2 T.f_iinit T.fd_iinit P_iinit (spEInit T.C_IntoEnd) := by
  have G_rinit := ok_rinit (P := P) (w := w) (base := base) T
  have sz : sizeLine = 16777216 := sizeLine_eq
  refine T.D_iinit.F.ok sc_iinit (fun vs H Q E h => ?_) (fun cdv A outer s H vs Q E hr h => ?_)
  · obtain ⟨e, p, dx, rfl, _⟩ := h
    rfl
  · obtain ⟨e, p, dx, rfl, he, q⟩ := h
    refine ⟨_, (pss_cons (ps_expr (Sip.pe_cfn (pe_glob (v := .ref T.C_Raw) (by rfl) T.g_Raw rfl) T.cr_Raw T.cv_rinit T.D_rinit.F.kp G_rinit (hr.mono (by decide)) T.bb_rinit .nil pass0 (pa_cons (pv 0) (pa_cons pe_bl pa_nil))))
      (pss_one (ps_fld (pv 0) (pv 1) rfl))), ?_⟩
    refine ⟨rfl, .ref e, rfl, e, T.C_IntoEnd, dx, rfl, he, T.cl_IntoEnd, T.n_IntoEnd_can_seek, T.n_IntoEnd_spot, T.n_IntoEnd_barred, T.n_IntoEnd_notes, fun H1 l nl el ee k => ?_⟩
    refine ⟨.ref p, rfl, .ref e, rfl, e, T.C_IntoEnd, dx, _, rfl, ee, T.cl_IntoEnd, T.n_IntoEnd_pipe, by show 4 < 1000; decide, ?_⟩
    rw [efs_new]
    have ne : l ≠ e := (ne_of_none he nl).symm
    refine q _ l nl (by rw [upd_ne ne]; exact el) upd_same (k.trans (Kp.at (by simp)))

theorem ok_oinit (T : Tx K mg) : FnOk P w K mg base CX0 2 T.f_oinit T.fd_oinit P_oinit (spEInit T.C_OutEnd) := by
  have G_rinit := ok_rinit (P := P) (w := w) (base := base) T
  have sz : sizeLine = 16777216 := sizeLine_eq
  refine T.D_oinit.F.ok sc_oinit (fun vs H Q E h => ?_) (fun cdv A outer s H vs Q E hr h => ?_)
  · obtain ⟨e, p, dx, rfl, _⟩ := h
    rfl
  · obtain ⟨e, p, dx, rfl, he, q⟩ := h
    refine ⟨_, (pss_cons (ps_expr (Sip.pe_cfn (pe_glob (v := .ref T.C_Raw) (by rfl) T.g_Raw rfl) T.cr_Raw T.cv_rinit T.D_rinit.F.kp G_rinit (hr.mono (by decide)) T.bb_rinit .nil pass0 (pa_cons (pv 0) (pa_cons pe_bl pa_nil))))
      (pss_one (ps_fld (pv 0) (pv 1) rfl))), ?_⟩
    refine ⟨rfl, .ref e, rfl, e, T.C_OutEnd, dx, rfl, he, T.cl_OutEnd, T.n_OutEnd_can_seek, T.n_OutEnd_spot, T.n_OutEnd_barred, T.n_OutEnd_notes, fun H1 l nl el ee k => ?_⟩
    refine ⟨.ref p, rfl, .ref e, rfl, e, T.C_OutEnd, dx, _, rfl, ee, T.cl_OutEnd, T.n_OutEnd_pipe, by show 4 < 1000; decide, ?_⟩
    rw [efs_new]
    have ne : l ≠ e := (ne_of_none he nl).symm
    refine q _ l nl (by rw [upd_ne ne]; exact el) upd_same (k.trans (Kp.at (by simp)))

theorem ok_pinto (T : Tx K mg) : FnOk P w K mg base CX0 1 T.f_pinto T.fd_pinto P_pinto (spInto (PipeAt T.C_Pipe T.C_IntoEnd T.C_OutEnd)) := by
  have sz : sizeLine = 16777216 := sizeLine_eq
  refine T.D_pinto.F.ok sc_pinto (fun vs H Q E h => ?_) (fun cdv A outer s H vs Q E hr h => ?_)
  · obtain ⟨A, F, S, rfl, _⟩ := h
    rfl
  · obtain ⟨A, F, S, rfl, ⟨dp, di, dq, vi, vo, G, I, hF⟩, q⟩ := h
    refine ⟨_, (pss_one (ps_ret (pe_fld (pv 0) rfl))), ?_⟩
    exact ⟨.ref A.p, rfl, A.p, T.C_Pipe, dp, _, _, rfl, I.hp, T.cl_Pipe, T.n_Pipe_into_end, pifs_into_end _ _ _ _, q⟩

theorem ok_pout (T : Tx K mg) : FnOk P w K mg base CX0 1 T.f_pout T.fd_pout P_pout (spOut (PipeAt T.C_Pipe T.C_IntoEnd T.C_OutEnd)) := by
  have sz : sizeLine = 16777216 := sizeLine_eq
  refine T.D_pout.F.ok sc_pout (fun vs H Q E h => ?_) (fun cdv A outer s H vs Q E hr h => ?_)
  · obtain ⟨A, F, S, rfl, _⟩ := h
    rfl
  · obtain ⟨A, F, S, rfl, ⟨dp, di, dq, vi, vo, G, I, hF⟩, q⟩ := h
    refine ⟨_, (pss_one (ps_ret (pe_fld (pv 0) rfl))), ?_⟩
    exact ⟨.ref A.p, rfl, A.p, T.C_Pipe, dp, _, _, rfl, I.hp, T.cl_Pipe, T.n_Pipe_out_end, pifs_out_end _ _ _ _, q⟩

theorem ok_pheld (T : Tx K mg) : FnOk P w K mg base CX0 1 T.f_pheld T.fd_pheld P_pheld (spHeld (PipeAt T.C_Pipe T.C_IntoEnd T.C_OutEnd)) := by
  have sz : sizeLine = 16777216 := sizeLine_eq
  refine T.D_pheld.F.ok sc_pheld (fun vs H Q E h => ?_) (fun cdv A outer s H vs Q E hr h => ?_)
  · obtain ⟨A, F, S, rfl, _⟩ := h
    rfl
  · obtain ⟨A, F, S, rfl, ⟨dp, di, dq, vi, vo, G, I, hF⟩, q⟩ := h
    refine ⟨_, (pss_one (ps_ret (pe_callTy call_list_of (by rfl) T.m_list (by decide +kernel) (pa_cons (pe_fld (pv 0) rfl) pa_nil)))), ?_⟩
    exact ⟨.ref A.p, rfl, A.p, T.C_Pipe, dp, _, _, rfl, I.hp, T.cl_Pipe, T.n_Pipe_within, pifs_within _ _ _ _, A.w, _, rfl, .inl (sq_at I.hw), fun m nm => q _ m nm upd_same (Kp.new (ps := []) nm).same⟩

theorem ok_ishut (T : Tx K mg) : FnOk P w K mg base CX0 1 T.f_ishut T.fd_ishut P_ishut (spShutI (PipeAt T.C_Pipe T.C_IntoEnd T.C_OutEnd)) := by
  have sz : sizeLine = 16777216 := sizeLine_eq
  refine T.D_ishut.F.ok sc_ishut (fun vs H Q E h => ?_) (fun cdv A outer s H vs Q E hr h => ?_)
  · obtain ⟨A, F, S, rfl, _⟩ := h
    rfl
  · obtain ⟨A, F, S, rfl, ⟨dp, di, dq, vi, vo, G, I, hF⟩, q⟩ := h
    refine ⟨_, (pss_one (ps_ret (pe_fld (pv 0) rfl))), ?_⟩
    exact ⟨.ref A.ei, rfl, A.ei, T.C_IntoEnd, di, _, _, rfl, I.hi, T.cl_IntoEnd, T.n_IntoEnd_barred, efs_barred _ _ _ _, q⟩

theorem ok_iopen (T : Tx K mg) : FnOk P w K mg base CX0 1 T.f_iopen T.fd_iopen P_iopen (spOpenI (PipeAt T.C_Pipe T.C_IntoEnd T.C_OutEnd)) := by
  have sz : sizeLine = 16777216 := sizeLine_eq
  refine T.D_iopen.F.ok sc_iopen (fun vs H Q E h => ?_) (fun cdv A outer s H vs Q E hr h => ?_)
  · obtain ⟨A, F, S, rfl, _⟩ := h
    rfl
  · obtain ⟨A, F, S, rfl, ⟨dp, di, dq, vi, vo, G, I, hF⟩, hb, q⟩ := h
    refine ⟨_, (pss_one (ps_if (pt_val (pe_fld (pv 0) rfl)) (pss_one ps_never) pss_nil)), ?_⟩
    refine ⟨.ref A.ei, rfl, A.ei, T.C_IntoEnd, di, _, _, rfl, I.hi, T.cl_IntoEnd, T.n_IntoEnd_barred, efs_barred _ _ _ _, ?_⟩
    rw [hb]
    exact ⟨_, rfl, iteF q⟩

theorem ok_oshut (T : Tx K mg) : FnOk P w K mg base CX0 1 T.f_oshut T.fd_oshut P_oshut (spShutO (PipeAt T.C_Pipe T.C_IntoEnd T.C_OutEnd)) := by
  have sz : sizeLine = 16777216 := sizeLine_eq
  refine T.D_oshut.F.ok sc_oshut (fun vs H Q E h => ?_) (fun cdv A outer s H vs Q E hr h => ?_)
  · obtain ⟨A, F, S, rfl, _⟩ := h
    rfl
  · obtain ⟨A, F, S, rfl, ⟨dp, di, dq, vi, vo, G, I, hF⟩, q⟩ := h
    refine ⟨_, (pss_one (ps_ret (pe_fld (pv 0) rfl))), ?_⟩
    exact ⟨.ref A.eo, rfl, A.eo, T.C_OutEnd, dq, _, _, rfl, I.ho, T.cl_OutEnd, T.n_OutEnd_barred, efs_barred _ _ _ _, q⟩

theorem ok_oopen (T : Tx K mg) : FnOk P w K mg base CX0 1 T.f_oopen T.fd_oopen P_oopen (spOpenO (PipeAt T.C_Pipe T.C_IntoEnd T.C_OutEnd)) := by
  have sz : sizeLine = 16777216 := sizeLine_eq
  refine T.D_oopen.F.ok sc_oopen (fun vs H Q E h => ?_) (fun cdv A outer s H vs Q E hr h => ?_)
  · obtain ⟨A, F, S, rfl, _⟩ := h
    rfl
  · obtain ⟨A, F, S, rfl, ⟨dp, di, dq, vi, vo, G, I, hF⟩, hb, q⟩ := h
    refine ⟨_, (pss_one (ps_if (pt_val (pe_fld (pv 0) rfl)) (pss_one ps_never) pss_nil)), ?_⟩
    refine ⟨.ref A.eo, rfl, A.eo, T.C_OutEnd, dq, _, _, rfl, I.ho, T.cl_OutEnd, T.n_OutEnd_barred, efs_barred _ _ _ _, ?_⟩
    rw [hb]
    exact ⟨_, rfl, iteF q⟩

theorem ok_imay (T : Tx K mg) : FnOk P w K mg base CX0 1 T.f_imay T.fd_imay P_imay (spMayP (PipeAt T.C_Pipe T.C_IntoEnd T.C_OutEnd)) := by
  have sz : sizeLine = 16777216 := sizeLine_eq
  refine T.D_imay.F.ok sc_imay (fun vs H Q E h => ?_) (fun cdv A outer s H vs Q E hr h => ?_)
  · obtain ⟨A, v, F, S, rfl, _⟩ := h
    rfl
  · obtain ⟨A, v, F, S, rfl, ⟨dp, di, dq, vi, vo, G, I, hF⟩, q⟩ := h
    refine ⟨_, (pss_one (ps_if (pt_val (pe_fld (pv 0) rfl)) (pss_one ps_never) pss_nil)), ?_⟩
    exact ⟨.ref A.ei, rfl, A.ei, T.C_IntoEnd, di, _, _, rfl, I.hi, T.cl_IntoEnd, T.n_IntoEnd_can_seek, efs_seek _ _ _ _, _, rfl, iteF q⟩

theorem ok_omay (T : Tx K mg) : FnOk P w K mg base CX0 1 T.f_omay T.fd_omay P_omay (spMayT (PipeAt T.C_Pipe T.C_IntoEnd T.C_OutEnd)) := by
  have sz : sizeLine = 16777216 := sizeLine_eq
  refine T.D_omay.F.ok sc_omay (fun vs H Q E h => ?_) (fun cdv A outer s H vs Q E hr h => ?_)
  · obtain ⟨A, F, S, rfl, _⟩ := h
    rfl
  · obtain ⟨A, F, S, rfl, ⟨dp, di, dq, vi, vo, G, I, hF⟩, q⟩ := h
    refine ⟨_, (pss_one ps_pass), ?_⟩
    exact q

theorem ok_inote (T : Tx K mg) : FnC P w K mg base  1 T.f_inote T.fd_inote P_inote (spNoteI (PipeAt T.C_Pipe T.C_IntoEnd T.C_OutEnd)) := by
  have sz : sizeLine = 16777216 := sizeLine_eq
  refine T.D_inote.F.okC sc_inote (fun vs H Q E h => ?_) (fun cdv A outer s H vs Q E hr h => ?_)
  · obtain ⟨A, w, hv, cv, F, G0, S, h, c, rfl, _⟩ := h
    rfl
  · obtain ⟨A, w, hv, cv, F, G0, S, h, c, rfl, ⟨dp, di, dq, vi, vo, G, I, hF⟩, ok, h0, c0, nok, n0, a0, q⟩ := h
    refine ⟨_, (pss_one (ps_expr (pe_bm PySem.F.plainAttrs_list PySem.F.slot_list_append PySem.F.type_list_append mt_append (pe_fld (pv 0) rfl) (pa_cons (pe_tup (pa_cons (pv 1) (pa_cons (pe_fld (pv 0) rfl) (pa_cons (pv 2) (pa_cons (pv 3) pa_nil))))) pa_nil)))), ?_⟩
    refine ⟨.ref A.ei, rfl, A.ei, T.C_IntoEnd, di, _, _, rfl, I.hi, T.cl_IntoEnd, T.n_IntoEnd_notes, efs_notes _ _ _ _, ?_⟩
    refine ⟨.inl ⟨rfl, _, sq_at I.hli⟩, _, rfl, .ref A.ei, rfl, A.ei, T.C_IntoEnd, di, _, _, rfl, I.hi, T.cl_IntoEnd, T.n_IntoEnd_spot, efs_spot _ _ _ _, _, rfl, _, rfl, by show (4 : Nat) ≤ sizeLine; omega, fun t nt => ?_⟩
    have ne : ∀ {b o}, H b = some o → b ≠ t := fun {b o} e => ne_of_none e nt
    refine ⟨A.li, _, _, rfl, rfl, by rw [upd_ne (ne I.hli)]; exact I.hli, ?_, ?_⟩
    · have := I.ni.len
      have := ok.2.2
      omega
    refine q _ (fun b => F b ∨ b = t ∨ G0 b) ⟨dp, di, dq, _, _, _, I.notei (n := ⟨w, S.si, h, c⟩) nt h0 c0 nok rfl a0 (fun b z y => n0 b z ((hF b).mpr (.inl y))), fun b => ?_⟩ (fun b o nf e => ?_) (fun b z => ?_)
    · constructor
      · rintro (z | z)
        · rcases (hF b).mp z with y | y
          · exact .inl y
          · exact .inr (.inl y)
        · exact .inr (.inr z)
      · rintro (z | z | z)
        · exact .inl ((hF b).mpr (.inl z))
        · exact .inl ((hF b).mpr (.inr z))
        · exact .inr z
    · rw [upd_ne (fun z => nf ((hF b).mpr (.inl (by rw [z]; unfold Own6; simp)))), upd_ne (ne e)]; exact e
    · rcases z with z | rfl | z
      · exact .inl z
      · exact .inr (.inr nt)
      · exact .inr (.inl z)

theorem ok_ilogb (T : Tx K mg) : FnOk P w K mg base CX0 2 T.f_ilogb T.fd_ilogb P_ilogb (spLogbI (PipeAt T.C_Pipe T.C_IntoEnd T.C_OutEnd)) := by
  have G_ocopy := ok_ocopy (P := P) (w := w) (base := base) T
  have sz : sizeLine = 16777216 := sizeLine_eq
  refine T.D_ilogb.F.ok sc_ilogb (fun vs H Q E h => ?_) (fun cdv A outer s H vs Q E hr h => ?_)
  · obtain ⟨A, F, S, rfl, _⟩ := h
    rfl
  · obtain ⟨A, F, S, rfl, ⟨dp, di, dq, vi, vo, G, I, hF⟩, ok, q⟩ := h
    refine ⟨_, (pss_one (ps_ret (pe_lc (own := [("word", 2), ("place", 3), ("handed", 4), ("came", 5)]) (g := gTup K 4 (gCons (gName 2) (gCons (gName 3) (gCons (gName 4) (gCons (gName 5) (gNil)))))) (tt := tYes) (by rfl) sc_ilogb.nd (pi_list (pe_slice sl_list (pe_fld (pv 0) rfl) (po_some (pv 1)) po_none)) (blkOk_by (own := [("word", 2), ("place", 3), ("handed", 4), ("came", 5)]) (N := N_ilogb) (sc := defScope s_ilogb) (by decide +kernel)) (fun _ _ _ _ _ => (show PG _ _ (gTup K 4 (gCons (gName 2) (gCons (gName 3) (gCons (gName 4) (gCons (gName 5) (gNil)))))) from pg_tup rfl (pgs_cons (pg_name (i := 2) sc_ilogb.nd rfl (Or.inl rfl)) (pgs_cons (pg_name (i := 3) sc_ilogb.nd rfl (Or.inl rfl)) (pgs_cons (pg_name (i := 4) sc_ilogb.nd rfl (Or.inl rfl)) (pgs_cons (pg_name (i := 5) sc_ilogb.nd rfl (Or.inl rfl)) pgs_nil)))))) (fun _ _ _ _ _ => pts_nil) (fun _ _ _ _ _ => (pe_tup (pa_cons (pv 2) (pa_cons (pv 3) (pa_cons (pe_call G_ocopy (hr.mono (by decide)) (by rfl) T.D_ocopy.g T.D_ocopy.F.kp T.bb_ocopy .nil pass0 (pa_cons (pv 4) pa_nil)) (pa_cons (pe_call G_ocopy (hr.mono (by decide)) (by rfl) T.D_ocopy.g T.D_ocopy.F.kp T.bb_ocopy .nil pass0 (pa_cons (pv 5) pa_nil)) pa_nil))))))))), ?_⟩
    refine ⟨.ref A.ei, rfl, A.ei, T.C_IntoEnd, di, _, _, rfl, I.hi, T.cl_IntoEnd, T.n_IntoEnd_notes, efs_notes _ _ _ _, ?_⟩
    refine ⟨_, rfl, _, rfl, A.li, _, rfl, sq_at I.hli, fun z nz => ?_⟩
    rw [cut_0]
    have s1 : Same H (upd H z (.lst vi)) := (Kp.new (ps := []) nz).same
    have ez1 : (upd H z (.lst vi)) z = some (.lst vi) := upd_same
    generalize upd H z (.lst vi) = Hz at s1 ez1 ⊢
    refine ⟨z, rfl, ⟨_, sq_at ez1⟩, fun D nD => ?_⟩
    have zD : z ≠ D := ne_of_none ez1 nD
    refine lc_list (K := K) (a := z) (xs := vi) (fun i H' => ∃ acc, H' D = some (.lst acc) ∧ Nts H' (fun b => Hz b = none ∧ b ≠ D) acc (S.ni.take i) ∧ Same Hz H') ⟨[], upd_same, trivial, (Kp.new (ps := []) nD).same⟩ (fun i H' _ h => sq_at (h.elim fun _ h => h.2.2 _ _ ez1)) (fun i x H' hx hP => ?_) (fun H' hP => ?_)
    · obtain ⟨acc, eD, hN, sm⟩ := hP
      obtain ⟨m, em, t, hv, cv, rfl, gt, ht, h0, c0, nok⟩ := I.ni.at hx
      have ht' := sm _ _ (s1 _ _ ht)
      have h0' := h0.keep (H' := H') (fun b o _ e => sm _ _ (s1 _ _ e)) (fun _ z => z)
      have c0' := c0.keep (H' := H') (fun b o _ e => sm _ _ (s1 _ _ e)) (fun _ z => z)
      refine ⟨t, _, rfl, .inl (.inl ht'), rfl, ?_⟩
      refine ⟨_, _, rfl, _, _, rfl, _, _, rfl, _, _, rfl, rfl, rfl, ?_⟩
      refine ⟨_, rfl, _, rfl, hv, rfl, hv, m.h, G, rfl, h0', fun H2 hv2 h2 s2 => ?_⟩
      refine ⟨cv, rfl, cv, m.c, G, rfl, c0'.keep (fun b o _ e => s2 _ _ e) (fun _ z => z), fun H3 cv3 c3 s3 => ?_⟩
      refine ⟨by show (4 : Nat) ≤ sizeLine; omega, fun t2 nt2 => ?_⟩
      have s23 := s2.trans s3
      have eD3 := s23 _ _ eD
      have tD : D ≠ t2 := ne_of_none eD3 nt2
      have ne2 : ∀ {b o}, H3 b = some o → b ≠ t2 := fun {b o} e => ne_of_none e nt2
      refine ⟨acc, by rw [upd_ne tD]; exact eD3, ?_, acc ++ [.ref t2], upd_same, ?_, ?_⟩
      · have := hN.len
        have := List.length_take_le i S.ni
        have := ok.2.2
        rw [List.length_take] at *
        omega
      · rw [List.take_add_one, em]
        refine Nts.snoc ⟨t2, hv2, cv3, rfl, ⟨sm.free (s23.free nt2), tD.symm⟩, by rw [upd_ne tD.symm]; exact upd_same, ?_, ?_, nok⟩ (hN.keep (fun b o z e => ?_) (fun _ z => z))
        · exact h2.keep (fun b o z e => by rw [upd_ne (fun y => by rw [show b = D from y, eD] at z; cases z), upd_ne (ne2 (s3 _ _ e))]; exact s3 _ _ e) (fun b z => ⟨sm.free z, fun y => by rw [show b = D from y, eD] at z; cases z⟩)
        · exact c3.keep (fun b o z e => by rw [upd_ne (fun y => by rw [show b = D from y, s2 _ _ eD] at z; cases z), upd_ne (ne2 e)]; exact e) (fun b z => ⟨sm.free (s2.free z), fun y => by rw [show b = D from y, s2 _ _ eD] at z; cases z⟩)
        · rw [upd_ne z.2, upd_ne (ne2 (s23 _ _ e))]; exact s23 _ _ e
      · intro b o e
        have bD : b ≠ D := fun y => by rw [y, nD] at e; cases e
        rw [upd_ne bD, upd_ne (ne2 (s23 _ _ (sm _ _ e)))]; exact s23 _ _ (sm _ _ e)
    · obtain ⟨acc, eD, hN, sm⟩ := hP
      rw [I.ni.len, List.take_length] at hN
      exact q _ D acc _ (s1.free nD) (fun z => z.2 rfl) eD hN (fun b z => s1.free z.1) (s1.trans sm)

theorem ok_ilog (T : Tx K mg) : FnOk P w K mg base CX0 3 T.f_ilog T.fd_ilog P_ilog (spLogI (PipeAt T.C_Pipe T.C_IntoEnd T.C_OutEnd)) := by
  have G_ilogb := ok_ilogb (P := P) (w := w) (base := base) T
  have sz : sizeLine = 16777216 := sizeLine_eq
  refine T.D_ilog.F.ok sc_ilog (fun vs H Q E h => ?_) (fun cdv A outer s H vs Q E hr h => ?_)
  · obtain ⟨A, F, S, rfl, _⟩ := h
    rfl
  · obtain ⟨A, F, S, rfl, hPA, ok, q⟩ := h
    refine ⟨_, (pss_one (ps_ret (pe_meth (pv 0) T.cl_IntoEnd T.D_ilogb.m G_ilogb (hr.mono (by decide)) T.bb_ilogb .nil pass0 (pa_cons pe_int pa_nil)))), ?_⟩
    have hPA2 := hPA
    obtain ⟨dp, di, dq, vi, vo, G, I, hF⟩ := hPA2
    exact ⟨.ref A.ei, rfl, A.ei, di, _, rfl, I.hi, efs_no _ _ _ _ "log_behind" (by decide +kernel), A, F, S, rfl, hPA, ok, q⟩

theorem ok_onote (T : Tx K mg) : FnC P w K mg base  1 T.f_onote T.fd_onote P_onote (spNoteO (PipeAt T.C_Pipe T.C_IntoEnd T.C_OutEnd)) := by
  have sz : sizeLine = 16777216 := sizeLine_eq
  refine T.D_onote.F.okC sc_onote (fun vs H Q E h => ?_) (fun cdv A outer s H vs Q E hr h => ?_)
  · obtain ⟨A, w, hv, cv, F, G0, S, h, c, rfl, _⟩ := h
    rfl
  · obtain ⟨A, w, hv, cv, F, G0, S, h, c, rfl, ⟨dp, di, dq, vi, vo, G, I, hF⟩, ok, h0, c0, nok, n0, a0, q⟩ := h
    refine ⟨_, (pss_one (ps_expr (pe_bm PySem.F.plainAttrs_list PySem.F.slot_list_append PySem.F.type_list_append mt_append (pe_fld (pv 0) rfl) (pa_cons (pe_tup (pa_cons (pv 1) (pa_cons (pe_fld (pv 0) rfl) (pa_cons (pv 2) (pa_cons (pv 3) pa_nil))))) pa_nil)))), ?_⟩
    refine ⟨.ref A.eo, rfl, A.eo, T.C_OutEnd, dq, _, _, rfl, I.ho, T.cl_OutEnd, T.n_OutEnd_notes, efs_notes _ _ _ _, ?_⟩
    refine ⟨.inl ⟨rfl, _, sq_at I.hlo⟩, _, rfl, .ref A.eo, rfl, A.eo, T.C_OutEnd, dq, _, _, rfl, I.ho, T.cl_OutEnd, T.n_OutEnd_spot, efs_spot _ _ _ _, _, rfl, _, rfl, by show (4 : Nat) ≤ sizeLine; omega, fun t nt => ?_⟩
    have ne : ∀ {b o}, H b = some o → b ≠ t := fun {b o} e => ne_of_none e nt
    refine ⟨A.lo, _, _, rfl, rfl, by rw [upd_ne (ne I.hlo)]; exact I.hlo, ?_, ?_⟩
    · have := I.no.len
      have := ok.2.2
      omega
    refine q _ (fun b => F b ∨ b = t ∨ G0 b) ⟨dp, di, dq, _, _, _, I.noteo (n := ⟨w, S.so, h, c⟩) nt h0 c0 nok rfl a0 (fun b z y => n0 b z ((hF b).mpr (.inl y))), fun b => ?_⟩ (fun b o nf e => ?_) (fun b z => ?_)
    · constructor
      · rintro (z | z)
        · rcases (hF b).mp z with y | y
          · exact .inl y
          · exact .inr (.inl y)
        · exact .inr (.inr z)
      · rintro (z | z | z)
        · exact .inl ((hF b).mpr (.inl z))
        · exact .inl ((hF b).mpr (.inr z))
        · exact .inr z
    · rw [upd_ne (fun z => nf ((hF b).mpr (.inl (by rw [z]; unfold Own6; simp)))), upd_ne (ne e)]; exact e
    · rcases z with z | rfl | z
      · exact .inl z
      · exact .inr (.inr nt)
      · exact .inr (.inl z)

theorem ok_ologb (T : Tx K mg) : FnOk P w K mg base CX0 2 T.f_ologb T.fd_ologb P_ologb (spLogbO (PipeAt T.C_Pipe T.C_IntoEnd T.C_OutEnd)) := by
  have G_ocopy := ok_ocopy (P := P) (w := w) (base := base) T
  have sz : sizeLine = 16777216 := sizeLine_eq
  refine T.D_ologb.F.ok sc_ologb (fun vs H Q E h => ?_) (fun cdv A outer s H vs Q E hr h => ?_)
  · obtain ⟨A, F, S, rfl, _⟩ := h
    rfl
  · obtain ⟨A, F, S, rfl, ⟨dp, di, dq, vi, vo, G, I, hF⟩, ok, q⟩ := h
    refine ⟨_, (pss_one (ps_ret (pe_lc (own := [("word", 2), ("place", 3), ("handed", 4), ("came", 5)]) (g := gTup K 4 (gCons (gName 2) (gCons (gName 3) (gCons (gName 4) (gCons (gName 5) (gNil)))))) (tt := tYes) (by rfl) sc_ologb.nd (pi_list (pe_slice sl_list (pe_fld (pv 0) rfl) (po_some (pv 1)) po_none)) (blkOk_by (own := [("word", 2), ("place", 3), ("handed", 4), ("came", 5)]) (N := N_ologb) (sc := defScope s_ologb) (by decide +kernel)) (fun _ _ _ _ _ => (show PG _ _ (gTup K 4 (gCons (gName 2) (gCons (gName 3) (gCons (gName 4) (gCons (gName 5) (gNil)))))) from pg_tup rfl (pgs_cons (pg_name (i := 2) sc_ologb.nd rfl (Or.inl rfl)) (pgs_cons (pg_name (i := 3) sc_ologb.nd rfl (Or.inl rfl)) (pgs_cons (pg_name (i := 4) sc_ologb.nd rfl (Or.inl rfl)) (pgs_cons (pg_name (i := 5) sc_ologb.nd rfl (Or.inl rfl)) pgs_nil)))))) (fun _ _ _ _ _ => pts_nil) (fun _ _ _ _ _ => (pe_tup (pa_cons (pv 2) (pa_cons (pv 3) (pa_cons (pe_call G_ocopy (hr.mono (by decide)) (by rfl) T.D_ocopy.g T.D_ocopy.F.kp T.bb_ocopy .nil pass0 (pa_cons (pv 4) pa_nil)) (pa_cons (pe_call G_ocopy (hr.mono (by decide)) (by rfl) T.D_ocopy.g T.D_ocopy.F.kp T.bb_ocopy .nil pass0 (pa_cons (pv 5) pa_nil)) pa_nil))))))))), ?_⟩
    refine ⟨.ref A.eo, rfl, A.eo, T.C_OutEnd, dq, _, _, rfl, I.ho, T.cl_OutEnd, T.n_OutEnd_notes, efs_notes _ _ _ _, ?_⟩
    refine ⟨_, rfl, _, rfl, A.lo, _, rfl, sq_at I.hlo, fun z nz => ?_⟩
    rw [cut_0]
    have s1 : Same H (upd H z (.lst vo)) := (Kp.new (ps := []) nz).same
    have ez1 : (upd H z (.lst vo)) z = some (.lst vo) := upd_same
    generalize upd H z (.lst vo) = Hz at s1 ez1 ⊢
    refine ⟨z, rfl, ⟨_, sq_at ez1⟩, fun D nD => ?_⟩
    have zD : z ≠ D := ne_of_none ez1 nD
    refine lc_list (K := K) (a := z) (xs := vo) (fun i H' => ∃ acc, H' D = some (.lst acc) ∧ Nts H' (fun b => Hz b = none ∧ b ≠ D) acc (S.no.take i) ∧ Same Hz H') ⟨[], upd_same, trivial, (Kp.new (ps := []) nD).same⟩ (fun i H' _ h => sq_at (h.elim fun _ h => h.2.2 _ _ ez1)) (fun i x H' hx hP => ?_) (fun H' hP => ?_)
    · obtain ⟨acc, eD, hN, sm⟩ := hP
      obtain ⟨m, em, t, hv, cv, rfl, gt, ht, h0, c0, nok⟩ := I.no.at hx
      have ht' := sm _ _ (s1 _ _ ht)
      have h0' := h0.keep (H' := H') (fun b o _ e => sm _ _ (s1 _ _ e)) (fun _ z => z)
      have c0' := c0.keep (H' := H') (fun b o _ e => sm _ _ (s1 _ _ e)) (fun _ z => z)
      refine ⟨t, _, rfl, .inl (.inl ht'), rfl, ?_⟩
      refine ⟨_, _, rfl, _, _, rfl, _, _, rfl, _, _, rfl, rfl, rfl, ?_⟩
      refine ⟨_, rfl, _, rfl, hv, rfl, hv, m.h, G, rfl, h0', fun H2 hv2 h2 s2 => ?_⟩
      refine ⟨cv, rfl, cv, m.c, G, rfl, c0'.keep (fun b o _ e => s2 _ _ e) (fun _ z => z), fun H3 cv3 c3 s3 => ?_⟩
      refine ⟨by show (4 : Nat) ≤ sizeLine; omega, fun t2 nt2 => ?_⟩
      have s23 := s2.trans s3
      have eD3 := s23 _ _ eD
      have tD : D ≠ t2 := ne_of_none eD3 nt2
      have ne2 : ∀ {b o}, H3 b = some o → b ≠ t2 := fun {b o} e => ne_of_none e nt2
      refine ⟨acc, by rw [upd_ne tD]; exact eD3, ?_, acc ++ [.ref t2], upd_same, ?_, ?_⟩
      · have := hN.len
        have := List.length_take_le i S.no
        have := ok.2.2
        rw [List.length_take] at *
        omega
      · rw [List.take_add_one, em]
        refine Nts.snoc ⟨t2, hv2, cv3, rfl, ⟨sm.free (s23.free nt2), tD.symm⟩, by rw [upd_ne tD.symm]; exact upd_same, ?_, ?_, nok⟩ (hN.keep (fun b o z e => ?_) (fun _ z => z))
        · exact h2.keep (fun b o z e => by rw [upd_ne (fun y => by rw [show b = D from y, eD] at z; cases z), upd_ne (ne2 (s3 _ _ e))]; exact s3 _ _ e) (fun b z => ⟨sm.free z, fun y => by rw [show b = D from y, eD] at z; cases z⟩)
        · exact c3.keep (fun b o z e => by rw [upd_ne (fun y => by rw [show b = D from y, s2 _ _ eD] at z; cases z), upd_ne (ne2 e)]; exact e) (fun b z => ⟨sm.free (s2.free z), fun y => by rw [show b = D from y, s2 _ _ eD] at z; cases z⟩)
        · rw [upd_ne z.2, upd_ne (ne2 (s23 _ _ e))]; exact s23 _ _ e
      · intro b o e
        have bD : b ≠ D := fun y => by rw [y, nD] at e; cases e
        rw [upd_ne bD, upd_ne (ne2 (s23 _ _ (sm _ _ e)))]; exact s23 _ _ (sm _ _ e)
    · obtain ⟨acc, eD, hN, sm⟩ := hP
      rw [I.no.len, List.take_length] at hN
      exact q _ D acc _ (s1.free nD) (fun z => z.2 rfl) eD hN (fun b z => s1.free z.1) (s1.trans sm)

theorem ok_olog (T : Tx K mg) : FnOk P w K mg base CX0 3 T.f_olog T.fd_olog P_olog (spLogO (PipeAt T.C_Pipe T.C_IntoEnd T.C_OutEnd)) := by
  have G_ologb := ok_ologb (P := P) (w := w) (base := base) T
  have sz : sizeLine = 16777216 := sizeLine_eq
  refine T.D_olog.F.ok sc_olog (fun vs H Q E h => ?_) (fun cdv A outer s H vs Q E hr h => ?_)
  · obtain ⟨A, F, S, rfl, _⟩ := h
    rfl
  · obtain ⟨A, F, S, rfl, hPA, ok, q⟩ := h
    refine ⟨_, (pss_one (ps_ret (pe_meth (pv 0) T.cl_OutEnd T.D_ologb.m G_ologb (hr.mono (by decide)) T.bb_ologb .nil pass0 (pa_cons pe_int pa_nil)))), ?_⟩
    have hPA2 := hPA
    obtain ⟨dp, di, dq, vi, vo, G, I, hF⟩ := hPA2
    exact ⟨.ref A.eo, rfl, A.eo, dq, _, rfl, I.ho, efs_no _ _ _ _ "log_behind" (by decide +kernel), A, F, S, rfl, hPA, ok, q⟩

theorem ok_play (T : Tx K mg) : FnOk P w K mg base CX0 2 T.f_play T.fd_play P_play (spLay (PipeAt T.C_Pipe T.C_IntoEnd T.C_OutEnd) (fun A => A.p)) := by
  have G_oshut := ok_oshut (P := P) (w := w) (base := base) T
  have sz : sizeLine = 16777216 := sizeLine_eq
  refine T.D_play.F.ok sc_play (fun vs H Q E h => ?_) (fun cdv A outer s H vs Q E hr h => ?_)
  · obtain ⟨A, d, F, S, ds, rfl, _⟩ := h
    rfl
  · obtain ⟨A, d, F, S, ds, rfl, hPA, ok, hbo, nd, hd, ld, q⟩ := h
    refine ⟨_, (pss_cons (ps_if (pt_val (pe_meth0 (pe_fld (pv 0) rfl) T.cl_OutEnd T.D_oshut.m G_oshut (hr.mono (by decide)) T.bb_oshut .nil pass0)) (pss_one ps_never) pss_nil)
      (pss_cons (ps_set (i := 2) sc_play.nd rfl (.inl rfl) (pe_slice sl_list (pv 1) po_none (po_some (pe_op op_sub (pe_fld (pv 0) rfl) (pe_callB call_len_seq (by rfl) T.m_len PySem.boot_len (pa_cons (pe_fld (pv 0) rfl) pa_nil))))))
      (pss_cons (ps_if (pt_not (pt_truth (pv 2) (by intro _; rfl))) (pss_one (ps_ret pe_non)) pss_nil)
      (pss_cons (ps_expr (pe_bm PySem.F.plainAttrs_list PySem.F.slot_list_extend PySem.F.type_list_extend mt_extend (pe_fld (pv 0) rfl) (pa_cons (pv 2) pa_nil)))
      (pss_one (ps_ret (pe_callB call_len_seq (by rfl) T.m_len PySem.boot_len (pa_cons (pv 2) pa_nil)))))))), ?_⟩
    have hPA2 := hPA
    obtain ⟨dp, di, dq, vi, vo, G, I, hF⟩ := hPA2
    refine ⟨.ref A.p, rfl, A.p, T.C_Pipe, dp, _, _, rfl, I.hp, T.cl_Pipe, T.n_Pipe_out_end, pifs_out_end _ _ _ _, A.eo, dq, _, rfl, I.ho, efs_no _ _ _ _ "is_shut" (by decide +kernel), A, F, S, rfl, hPA, ?_⟩
    rw [hbo]
    refine ⟨_, rfl, iteF ?_⟩
    have lw := ok.1
    refine ⟨.ref d, rfl, .ref A.p, rfl, A.p, T.C_Pipe, dp, _, _, rfl, I.hp, T.cl_Pipe, T.n_Pipe_room, pifs_room _ _ _ _, .ref A.p, rfl, A.p, T.C_Pipe, dp, _, _, rfl, I.hp, T.cl_Pipe, T.n_Pipe_within, pifs_within _ _ _ _, A.w, _, rfl, .inl (sq_at I.hw), _, _, rfl, rfl, _, rfl, d, _, rfl, sq_at hd, fun f nf => ?_⟩
    rw [List.length_map, show ((S.R : Int) - (S.ws.length : Int)) = ((S.R - S.ws.length : Nat) : Int) by omega, take_cut]
    have s1 : Same H (upd H f (.lst ((fitF S ds).map V.int))) := (Kp.new (ps := []) nf).same
    have ef : (upd H f (.lst ((fitF S ds).map V.int))) f = some (.lst ((fitF S ds).map V.int)) := upd_same
    rw [show List.take (S.R - S.ws.length) ds = fitF S ds from rfl]
    generalize upd H f (.lst ((fitF S ds).map V.int)) = H1 at s1 ef ⊢
    have hPA1 := hPA.same s1
    refine ⟨.ref f, rfl, _, .inl ⟨_, sq_at ef, rfl⟩, ?_⟩
    by_cases e0 : fitF S ds = []
    · have eL : laidP S ds = S := by unfold laidP; rw [e0, List.append_nil]
      rw [eL, show numV (fitF S ds) = .non from if_pos e0] at q
      exact iteTc (by rw [e0]; rfl) (q _ hPA1 (Step.of s1))
    · have em : ((fitF S ds).map V.int).isEmpty = false := by simp [e0]
      rw [show numV (fitF S ds) = .int (fitF S ds).length from if_neg e0] at q
      refine iteFc (by rw [em]; rfl) ?_
      obtain ⟨dp1, di1, dq1, vi1, vo1, G1, I1, hF1⟩ := hPA1
      have lf : (fitF S ds).length ≤ 64 := by
        unfold fitF
        rw [List.length_take]
        have := ok.2.1
        omega
      have fw : f ≠ A.w := fun z => hPA.new nf ((hF f).mpr (.inl (.inr (.inl z))))
      refine ⟨.ref A.p, rfl, A.p, T.C_Pipe, dp1, _, _, rfl, I1.hp, T.cl_Pipe, T.n_Pipe_within, pifs_within _ _ _ _, .inl ⟨rfl, _, sq_at I1.hw⟩, .ref f, rfl, A.w, f, _, _, rfl, rfl, I1.hw, ef, ?_, ?_⟩
      · have := ok.2.1
        rw [List.length_map, List.length_map]; omega
      rw [← List.map_append]
      refine ⟨.ref f, rfl, f, _, rfl, .inl (sq_at (by rw [upd_ne fw]; exact ef)), ?_⟩
      rw [List.length_map]
      exact q _ ⟨dp1, di1, dq1, vi1, vo1, G1, I1.setw _, hF1⟩ ((Step.of s1).trans (own_one hF1 (.inr (.inl rfl))))

theorem ok_plift (T : Tx K mg) : FnOk P w K mg base CX0 2 T.f_plift T.fd_plift P_plift (spLift (PipeAt T.C_Pipe T.C_IntoEnd T.C_OutEnd) (fun A => A.p)) := by
  have G_ishut := ok_ishut (P := P) (w := w) (base := base) T
  have sz : sizeLine = 16777216 := sizeLine_eq
  refine T.D_plift.F.ok sc_plift (fun vs H Q E h => ?_) (fun cdv A outer s H vs Q E hr h => ?_)
  · obtain ⟨A, n, F, S, rfl, _⟩ := h
    rfl
  · obtain ⟨A, n, F, S, rfl, hPA, q⟩ := h
    refine ⟨_, (pss_cons (ps_set (i := 2) sc_plift.nd rfl (.inl rfl) (pe_slice sl_list (pe_fld (pv 0) rfl) po_none (po_some (pv 1))))
      (pss_cons (Sip.ps_delS (pe_fld (pv 0) rfl) po_none (po_some (pv 1)))
      (pss_cons (ps_if (PW.pt (pw_or (pt_truth (pv 2) (by intro _; rfl)) (pw_or1 (pt_val (pe_meth0 (pe_fld (pv 0) rfl) T.cl_IntoEnd T.D_ishut.m G_ishut (hr.mono (by decide)) T.bb_ishut .nil pass0))))) (pss_one (ps_ret (pv 2))) pss_nil)
      (pss_one (ps_ret pe_non))))), ?_⟩
    have hPA2 := hPA
    obtain ⟨dp, di, dq, vi, vo, G, I, hF⟩ := hPA2
    refine ⟨.ref A.p, rfl, A.p, T.C_Pipe, dp, _, _, rfl, I.hp, T.cl_Pipe, T.n_Pipe_within, pifs_within _ _ _ _, ?_⟩
    refine ⟨_, rfl, _, rfl, A.w, _, rfl, sq_at I.hw, fun f nf => ?_⟩
    rw [take_cut]
    have s1 : Same H (upd H f (.lst ((S.ws.take n).map V.int))) := (Kp.new (ps := []) nf).same
    have ef : (upd H f (.lst ((S.ws.take n).map V.int))) f = some (.lst ((S.ws.take n).map V.int)) := upd_same
    generalize upd H f (.lst ((S.ws.take n).map V.int)) = H1 at s1 ef ⊢
    obtain ⟨dp1, di1, dq1, vi1, vo1, G1, I1, hF1⟩ := hPA.same s1
    have wf : f ≠ A.w := (ne_of_none I.hw nf).symm
    refine ⟨.ref A.p, rfl, A.p, T.C_Pipe, dp1, _, _, rfl, I1.hp, T.cl_Pipe, T.n_Pipe_within, pifs_within _ _ _ _, .int n, rfl, _, rfl, A.w, _, rfl, I1.hw, ?_⟩
    rw [del_to]
    have hPA3 : PipeAt T.C_Pipe T.C_IntoEnd T.C_OutEnd (upd H1 A.w (.lst ((S.ws.drop n).map V.int))) A F (liftP S n) := ⟨dp1, di1, dq1, vi1, vo1, G1, I1.setw _, hF1⟩
    have st : Step F H F (upd H1 A.w (.lst ((S.ws.drop n).map V.int))) := (Step.of s1).trans (own_one hF1 (.inr (.inl rfl)))
    have ef3 : (upd H1 A.w (.lst ((S.ws.drop n).map V.int))) f = some (.lst ((S.ws.take n).map V.int)) := by rw [upd_ne wf]; exact ef
    have q' := q _ f hPA3 nf ef3 st
    generalize upd H1 A.w (.lst ((S.ws.drop n).map V.int)) = H3 at hPA3 ef3 st q' ⊢
    have hPA4 := hPA3
    obtain ⟨dp3, di3, dq3, vi3, vo3, G3, I3, hF3⟩ := hPA4
    refine ⟨.ref f, rfl, _, .inl ⟨_, sq_at ef3, rfl⟩, ?_⟩
    by_cases e0 : S.ws.take n = []
    · refine iteFc (by rw [e0]; rfl) ?_
      refine ⟨.ref A.p, rfl, A.p, T.C_Pipe, dp3, _, _, rfl, I3.hp, T.cl_Pipe, T.n_Pipe_into_end, pifs_into_end _ _ _ _, A.ei, di3, _, rfl, I3.hi, efs_no _ _ _ _ "is_shut" (by decide +kernel), A, F, _, rfl, hPA3, _, rfl, ?_⟩
      cases hb : S.bi with
      | true =>
        rw [show stallB S n = false by unfold stallB; rw [hb]; simp] at q'
        exact iteTc hb ⟨_, rfl, q'⟩
      | false =>
        rw [show stallB S n = true by unfold stallB; rw [hb, decide_eq_true e0]; rfl] at q'
        exact iteFc hb q'
    · have em : ((S.ws.take n).map V.int).isEmpty = false := by simpa using e0
      rw [show stallB S n = false by unfold stallB; rw [decide_eq_false e0]; rfl] at q'
      exact iteTc (by rw [em]; rfl) (iteT ⟨_, rfl, q'⟩)

theorem ok_iaccept (T : Tx K mg) : FnOk P w K mg base CX0 3 T.f_iaccept T.fd_iaccept P_iaccept (spLay (PipeAt T.C_Pipe T.C_IntoEnd T.C_OutEnd) (fun A => A.ei)) := by
  have G_play := ok_play (P := P) (w := w) (base := base) T
  have sz : sizeLine = 16777216 := sizeLine_eq
  refine T.D_iaccept.F.ok sc_iaccept (fun vs H Q E h => ?_) (fun cdv A outer s H vs Q E hr h => ?_)
  · obtain ⟨A, d, F, S, ds, rfl, _⟩ := h
    rfl
  · obtain ⟨A, d, F, S, ds, rfl, hPA, ok, hbo, nd, hd, ld, q⟩ := h
    refine ⟨_, (pss_one (ps_ret (pe_meth (pe_fld (pv 0) rfl) T.cl_Pipe T.D_play.m G_play (hr.mono (by decide)) T.bb_play .nil pass0 (pa_cons (pv 1) pa_nil)))), ?_⟩
    have hPA2 := hPA
    obtain ⟨dp, di, dq, vi, vo, G, I, hF⟩ := hPA2
    exact ⟨.ref A.ei, rfl, A.ei, T.C_IntoEnd, di, _, _, rfl, I.hi, T.cl_IntoEnd, T.n_IntoEnd_pipe, efs_pipe _ _ _ _, A.p, dp, _, rfl, I.hp, pifs_no _ _ _ _ "lay" (by decide +kernel), .ref d, rfl, A, d, F, S, ds, rfl, hPA, ok, hbo, nd, hd, ld, q⟩

theorem ok_ogive (T : Tx K mg) : FnOk P w K mg base CX0 3 T.f_ogive T.fd_ogive P_ogive (spLift (PipeAt T.C_Pipe T.C_IntoEnd T.C_OutEnd) (fun A => A.eo)) := by
  have G_plift := ok_plift (P := P) (w := w) (base := base) T
  have sz : sizeLine = 16777216 := sizeLine_eq
  refine T.D_ogive.F.ok sc_ogive (fun vs H Q E h => ?_) (fun cdv A outer s H vs Q E hr h => ?_)
  · obtain ⟨A, n, F, S, rfl, _⟩ := h
    rfl
  · obtain ⟨A, n, F, S, rfl, hPA, q⟩ := h
    refine ⟨_, (pss_one (ps_ret (pe_meth (pe_fld (pv 0) rfl) T.cl_Pipe T.D_plift.m G_plift (hr.mono (by decide)) T.bb_plift .nil pass0 (pa_cons (pv 1) pa_nil)))), ?_⟩
    have hPA2 := hPA
    obtain ⟨dp, di, dq, vi, vo, G, I, hF⟩ := hPA2
    exact ⟨.ref A.eo, rfl, A.eo, T.C_OutEnd, dq, _, _, rfl, I.ho, T.cl_OutEnd, T.n_OutEnd_pipe, efs_pipe _ _ _ _, A.p, dp, _, rfl, I.hp, pifs_no _ _ _ _ "lift" (by decide +kernel), .int n, rfl, A, n, F, S, rfl, hPA, q⟩

theorem ok_iput (T : Tx K mg) : FnOk P w K mg base CX0 4 T.f_iput T.fd_iput P_iput (spPut (PipeAt T.C_Pipe T.C_IntoEnd T.C_OutEnd)) := by
  have G_iopen := ok_iopen (P := P) (w := w) (base := base) T
  have G_imay := ok_imay (P := P) (w := w) (base := base) T
  have G_iaccept := ok_iaccept (P := P) (w := w) (base := base) T
  have C_inote := ok_inote (P := P) (w := w) (base := base) T
  have G_inote := C_inote.ok
  have sz : sizeLine = 16777216 := sizeLine_eq
  refine T.D_iput.F.ok sc_iput (fun vs H Q E h => ?_) (fun cdv A outer s H vs Q E hr h => ?_)
  · obtain ⟨A, d, F, S, ds, rfl, _⟩ := h
    rfl
  · obtain ⟨A, d, F, S, ds, rfl, hPA, ok, hbi, hbo, hd, ld, q⟩ := h
    refine ⟨_, (pss_cons (ps_expr (pe_meth0 (pv 0) T.cl_IntoEnd T.D_iopen.m G_iopen (hr.mono (by decide)) T.bb_iopen .nil pass0))
      (pss_cons (ps_expr (pe_meth (pv 0) T.cl_IntoEnd T.D_imay.m G_imay (hr.mono (by decide)) T.bb_imay .nil pass0 (pa_cons (pv 1) pa_nil)))
      (pss_cons (ps_set (i := 2) sc_iput.nd rfl (.inl rfl) (pe_callTy call_list_of (by rfl) T.m_list (by decide +kernel) (pa_cons (pv 1) pa_nil)))
      (pss_cons (Sip.ps_try_calm (fun pn xe _ => (pss_one (ps_set (i := 3) sc_iput.nd rfl (.inl rfl) (pe_meth (pv 0) T.cl_IntoEnd T.D_iaccept.m G_iaccept (hr.mono (by decide)) T.bb_iaccept .nil pass0 (pa_cons (pv 2) pa_nil))))))
      (pss_cons (ps_if (pt_cmpR op_isN (pv 3) pe_non (nomark _)) (pss_cons (ps_expr (pe_meth (pv 0) T.cl_IntoEnd T.D_inote.m G_inote (hr.mono (by decide)) T.bb_inote .nil pass0 (pa_cons pe_str (pa_cons (pv 2) (pa_cons pe_str pa_nil)))))
      (pss_one (ps_ret pe_non))) pss_nil)
      (pss_cons (ps_expr (pe_meth (pv 0) T.cl_IntoEnd T.D_inote.m G_inote (hr.mono (by decide)) T.bb_inote .nil pass0 (pa_cons pe_str (pa_cons (pv 2) (pa_cons (pv 3) pa_nil)))))
      (pss_cons (ps_fldaug (pv 0) (pv 3) in_add)
      (pss_one (ps_ret (pv 3)))))))))), ?_⟩
    have hPA2 := hPA
    obtain ⟨dp, di, dq, vi, vo, G, I, hF⟩ := hPA2
    refine ⟨.ref A.ei, rfl, A.ei, di, _, rfl, I.hi, efs_no _ _ _ _ "check_open" (by decide +kernel), A, F, S, rfl, hPA, hbi, ?_⟩
    refine ⟨.ref A.ei, rfl, A.ei, di, _, rfl, I.hi, efs_no _ _ _ _ "may_put" (by decide +kernel), .ref d, rfl, A, _, F, S, rfl, hPA, ?_⟩
    refine ⟨.ref d, rfl, d, _, rfl, .inl (sq_at hd), fun h nh => ?_⟩
    have s1 : Same H (upd H h (.lst (ds.map V.int))) := (Kp.new (ps := []) nh).same
    have eh : (upd H h (.lst (ds.map V.int))) h = some (.lst (ds.map V.int)) := upd_same
    have nF := hPA.new nh
    generalize upd H h (.lst (ds.map V.int)) = H1 at s1 eh ⊢
    have hPA1 := hPA.same s1
    refine ⟨.ref A.ei, rfl, A.ei, di, _, rfl, s1 _ _ I.hi, efs_no _ _ _ _ "accept" (by decide +kernel), .ref h, rfl, A, h, F, S, ds, rfl, hPA1, ok, hbo, nF, eh, ld, fun H2 hPA2 st2 => ?_⟩
    have eh2 := (st2.keep nF eh).1
    have hPA2b := hPA2
    obtain ⟨dp2, di2, dq2, vi2, vo2, G2, I2, hF2⟩ := hPA2b
    have ok2 : PstOk (laidP S ds) := by
      obtain ⟨o1, o2, o3, o4⟩ := ok
      refine ⟨?_, o2, o3, o4⟩
      show (S.ws ++ fitF S ds).length ≤ S.R
      unfold fitF
      rw [List.length_append, List.length_take]; omega
    have stp := (Step.of (F := F) s1).trans st2
    by_cases e0 : fitF S ds = []
    · have eP : putP S ds = { laidP S ds with ni := S.ni ++ [⟨Str.ofString "put", S.si, .l ds, .s (Str.ofString "stall")⟩] } := by
        unfold putP laidP numT; rw [if_pos e0, e0]; rfl
      rw [eP, show numV (fitF S ds) = .non from if_pos e0] at q
      rw [show numV (fitF S ds) = .non from if_pos e0]
      refine ⟨.non, rfl, rfl, _, rfl, iteT ?_⟩
      refine ⟨.ref A.ei, rfl, A.ei, di2, _, rfl, I2.hi, efs_no _ _ _ _ "note" (by decide +kernel), .ref h, rfl, A, _, _, _, F, (fun b => b = h), laidP S ds, .l ds, .s (Str.ofString "stall"), rfl, hPA2, ok2, ⟨h, rfl, rfl, eh2⟩, rfl, ⟨(by decide +kernel : PyData.strOk (Str.ofString "put") = true), trivial, (by decide +kernel : PyData.strOk (Str.ofString "stall") = true)⟩, fun b z => by rw [show b = h from z]; exact nF, fun b z => ⟨.lst (ds.map V.int), by rw [show b = h from z]; exact eh2⟩, fun H3 F3 hPA3 k3 f3 => ?_⟩
      refine q _ F3 hPA3 ⟨fun b o nb e => k3 b o nb (stp.1 b o nb e), fun b z => ?_⟩
      rcases f3 b z with y | y | y
      · exact .inl y
      · exact .inr (by rw [show b = h from y]; exact nh)
      · by_cases fb : F b
        · exact .inl fb
        · cases e : H b with
          | none => exact .inr rfl
          | some o => rw [stp.1 b o fb e] at y; cases y
    · have eP : putP S ds = { laidP S ds with si := S.si + (fitF S ds).length, ni := S.ni ++ [⟨Str.ofString "put", S.si, .l ds, .i (fitF S ds).length⟩] } := by
        unfold putP laidP numT; rw [if_neg e0]
      rw [eP, show numV (fitF S ds) = .int (fitF S ds).length from if_neg e0] at q
      rw [show numV (fitF S ds) = .int (fitF S ds).length from if_neg e0]
      refine ⟨.int (fitF S ds).length, rfl, rfl, _, rfl, iteFc (by rfl) ?_⟩
      refine ⟨.ref A.ei, rfl, A.ei, di2, _, rfl, I2.hi, efs_no _ _ _ _ "note" (by decide +kernel), .ref h, rfl, .int (fitF S ds).length, rfl, A, _, _, _, F, (fun b => b = h), laidP S ds, .l ds, .i (fitF S ds).length, rfl, hPA2, ok2, ⟨h, rfl, rfl, eh2⟩, rfl, ⟨(by decide +kernel : PyData.strOk (Str.ofString "put") = true), trivial, trivial⟩, fun b z => by rw [show b = h from z]; exact nF, fun b z => ⟨.lst (ds.map V.int), by rw [show b = h from z]; exact eh2⟩, fun H3 F3 hPA3 k3 f3 => ?_⟩
      obtain ⟨dp3, di3, dq3, vi3, vo3, G3, I3, hF3⟩ := hPA3
      refine ⟨.ref A.ei, rfl, A.ei, T.C_IntoEnd, di3, _, _, rfl, I3.hi, T.cl_IntoEnd, T.n_IntoEnd_spot, efs_spot _ _ _ _, .int (fitF S ds).length, rfl, _, _, rfl, rfl, di3, _, I3.hi, efs_few _ _ _ _, ?_⟩
      rw [show (V.int (((laidP S ds).si : Int) + ((fitF S ds).length : Int))) = V.int ((S.si + (fitF S ds).length : Nat) : Int) from rfl, efs_put_s]
      refine ⟨_, rfl, q _ F3 ⟨dp3, di3, dq3, vi3, vo3, G3, I3.seti _ _, hF3⟩ ?_⟩
      have own : Own6 A A.ei := .inr (.inr (.inl rfl))
      refine ⟨fun b o nb e => ?_, fun b z => ?_⟩
      · have nb2 : ¬ F3 b := fun z => by
          rcases f3 b z with y | y | y
          · exact nb y
          · rw [show b = h from y, nh] at e; cases e
          · rw [stp.1 b o nb e] at y; cases y
        rw [upd_ne (fun z => nb2 ((hF3 b).mpr (.inl (by rw [z]; exact own))))]
        exact k3 b o nb (stp.1 b o nb e)
      · rcases f3 b z with y | y | y
        · exact .inl y
        · exact .inr (by rw [show b = h from y]; exact nh)
        · by_cases fb : F b
          · exact .inl fb
          · cases e : H b with
            | none => exact .inr rfl
            | some o => rw [stp.1 b o fb e] at y; cases y

theorem ok_otake (T : Tx K mg) : FnOk P w K mg base CX0 4 T.f_otake T.fd_otake P_otake (spTakeO (PipeAt T.C_Pipe T.C_IntoEnd T.C_OutEnd)) := by
  have G_oopen := ok_oopen (P := P) (w := w) (base := base) T
  have G_omay := ok_omay (P := P) (w := w) (base := base) T
  have G_ogive := ok_ogive (P := P) (w := w) (base := base) T
  have C_onote := ok_onote (P := P) (w := w) (base := base) T
  have G_onote := C_onote.ok
  have sz : sizeLine = 16777216 := sizeLine_eq
  refine T.D_otake.F.ok sc_otake (fun vs H Q E h => ?_) (fun cdv A outer s H vs Q E hr h => ?_)
  · obtain ⟨A, n, F, S, rfl, _⟩ := h
    rfl
  · obtain ⟨A, n, F, S, rfl, hPA, ok, hbo, q⟩ := h
    refine ⟨_, (pss_cons (ps_expr (pe_meth0 (pv 0) T.cl_OutEnd T.D_oopen.m G_oopen (hr.mono (by decide)) T.bb_oopen .nil pass0))
      (pss_cons (ps_expr (pe_meth0 (pv 0) T.cl_OutEnd T.D_omay.m G_omay (hr.mono (by decide)) T.bb_omay .nil pass0))
      (pss_cons (Sip.ps_try_calm (fun pn xe _ => (pss_one (ps_set (i := 2) sc_otake.nd rfl (.inl rfl) (pe_meth (pv 0) T.cl_OutEnd T.D_ogive.m G_ogive (hr.mono (by decide)) T.bb_ogive .nil pass0 (pa_cons (pv 1) pa_nil))))))
      (pss_cons (ps_if (pt_cmpR op_isN (pv 2) pe_non (nomark _)) (pss_cons (ps_expr (pe_meth (pv 0) T.cl_OutEnd T.D_onote.m G_onote (hr.mono (by decide)) T.bb_onote .nil pass0 (pa_cons pe_str (pa_cons (pv 1) (pa_cons pe_str pa_nil)))))
      (pss_one (ps_ret pe_non))) pss_nil)
      (pss_cons (ps_expr (pe_meth (pv 0) T.cl_OutEnd T.D_onote.m G_onote (hr.mono (by decide)) T.bb_onote .nil pass0 (pa_cons pe_str (pa_cons (pv 1) (pa_cons (pe_callTy call_list_of (by rfl) T.m_list (by decide +kernel) (pa_cons (pv 2) pa_nil)) pa_nil)))))
      (pss_cons (ps_fldaug (pv 0) (pe_callB call_len_seq (by rfl) T.m_len PySem.boot_len (pa_cons (pv 2) pa_nil)) in_add)
      (pss_one (ps_ret (pv 2))))))))), ?_⟩
    have hPA2 := hPA
    obtain ⟨dp, di, dq, vi, vo, G, I, hF⟩ := hPA2
    refine ⟨.ref A.eo, rfl, A.eo, dq, _, rfl, I.ho, efs_no _ _ _ _ "check_open" (by decide +kernel), A, F, S, rfl, hPA, hbo, ?_⟩
    refine ⟨.ref A.eo, rfl, A.eo, dq, _, rfl, I.ho, efs_no _ _ _ _ "may_take" (by decide +kernel), A, F, S, rfl, hPA, ?_⟩
    refine ⟨.ref A.eo, rfl, A.eo, dq, _, rfl, I.ho, efs_no _ _ _ _ "give" (by decide +kernel), .int n, rfl, A, n, F, S, rfl, hPA, fun H2 q2 hPA2 nq2 eq2 st2 => ?_⟩
    have hPA2b := hPA2
    obtain ⟨dp2, di2, dq2, vi2, vo2, G2, I2, hF2⟩ := hPA2b
    have ok2 : PstOk (liftP S n) := by
      obtain ⟨o1, o2, o3, o4⟩ := ok
      refine ⟨?_, o2, o3, o4⟩
      show (S.ws.drop n).length ≤ S.R
      rw [List.length_drop]; omega
    have nF2 := hPA.new nq2
    cases hs : stallB S n with
    | true =>
      have e0 : S.ws.take n = [] := by
        unfold stallB at hs
        rw [Bool.and_eq_true] at hs
        exact of_decide_eq_true hs.1
      have eP : takeP S n = { liftP S n with no := S.no ++ [⟨Str.ofString "take", S.so, .i n, .s (Str.ofString "stall")⟩] } := by
        unfold takeP liftP; rw [hs, e0]; rfl
      rw [eP, hs] at q
      refine ⟨.non, rfl, rfl, _, rfl, iteT ?_⟩
      refine ⟨.ref A.eo, rfl, A.eo, dq2, _, rfl, I2.ho, efs_no _ _ _ _ "note" (by decide +kernel), .int n, rfl, A, _, _, _, F, (fun _ => False), liftP S n, .i n, .s (Str.ofString "stall"), rfl, hPA2, ok2, rfl, rfl, ⟨(by decide +kernel : PyData.strOk (Str.ofString "take") = true), trivial, (by decide +kernel : PyData.strOk (Str.ofString "stall") = true)⟩, fun b z => z.elim, fun b z => z.elim, fun H3 F3 hPA3 k3 f3 => ?_⟩
      refine q _ F3 q2 hPA3 nq2 (k3 _ _ nF2 eq2) (fun z => ?_) ⟨fun b o nb e => k3 b o nb (st2.1 b o nb e), fun b z => ?_⟩
      · rcases f3 q2 z with y | y | y
        · exact nF2 y
        · exact y
        · rw [eq2] at y; cases y
      · rcases f3 b z with y | y | y
        · exact .inl y
        · exact y.elim
        · by_cases fb : F b
          · exact .inl fb
          · cases e : H b with
            | none => exact .inr rfl
            | some o => rw [st2.1 b o fb e] at y; cases y
    | false =>
      have eP : takeP S n = { liftP S n with so := S.so + (S.ws.take n).length, no := S.no ++ [⟨Str.ofString "take", S.so, .i n, .l (S.ws.take n)⟩] } := by
        unfold takeP liftP; rw [hs]; rfl
      rw [eP, hs] at q
      refine ⟨.ref q2, rfl, rfl, _, rfl, iteFc (by rfl) ?_⟩
      refine ⟨.ref A.eo, rfl, A.eo, dq2, _, rfl, I2.ho, efs_no _ _ _ _ "note" (by decide +kernel), .int n, rfl, .ref q2, rfl, q2, _, rfl, .inl (sq_at eq2), fun z nz => ?_⟩
      have s3 : Same H2 (upd H2 z (.lst ((S.ws.take n).map V.int))) := (Kp.new (ps := []) nz).same
      have ez : (upd H2 z (.lst ((S.ws.take n).map V.int))) z = some (.lst ((S.ws.take n).map V.int)) := upd_same
      generalize upd H2 z (.lst ((S.ws.take n).map V.int)) = Hz at s3 ez ⊢
      have nFz := hPA2.new nz
      have zq : q2 ≠ z := ne_of_none eq2 nz
      have stz := st2.trans (Step.of s3)
      refine ⟨A, _, _, _, F, (fun b => b = z), liftP S n, .i n, .l (S.ws.take n), rfl, hPA2.same s3, ok2, rfl, ⟨z, rfl, rfl, ez⟩, ⟨(by decide +kernel : PyData.strOk (Str.ofString "take") = true), trivial, trivial⟩, fun b y => by rw [show b = z from y]; exact nFz, fun b y => ⟨.lst ((S.ws.take n).map V.int), by rw [show b = z from y]; exact ez⟩, fun H3 F3 hPA3 k3 f3 => ?_⟩
      obtain ⟨dp3, di3, dq3, vi3, vo3, G3, I3, hF3⟩ := hPA3
      have nF3 : ¬ F3 q2 := fun y => by
        rcases f3 q2 y with y | y | y
        · exact nF2 y
        · exact zq y
        · rw [s3 _ _ eq2] at y; cases y
      have own : Own6 A A.eo := .inr (.inr (.inr (.inl rfl)))
      have qe : q2 ≠ A.eo := fun y => nF3 ((hF3 q2).mpr (.inl (by rw [y]; exact own)))
      have eq3 := k3 _ _ nF2 (s3 _ _ eq2)
      refine ⟨.ref A.eo, rfl, A.eo, T.C_OutEnd, dq3, _, _, rfl, I3.ho, T.cl_OutEnd, T.n_OutEnd_spot, efs_spot _ _ _ _, .ref q2, rfl, q2, _, rfl, .inl (sq_at eq3), _, _, rfl, rfl, dq3, _, I3.ho, efs_few _ _ _ _, ?_⟩
      rw [List.length_map, show (V.int (((liftP S n).so : Int) + ((S.ws.take n).length : Int))) = V.int ((S.so + (S.ws.take n).length : Nat) : Int) from rfl, efs_put_s]
      refine ⟨_, rfl, q _ F3 q2 ⟨dp3, di3, dq3, vi3, vo3, G3, I3.seto _ _, hF3⟩ nq2 (by rw [upd_ne qe]; exact eq3) nF3 ⟨fun b o nb e => ?_, fun b y => ?_⟩⟩
      · have nb2 : ¬ F3 b := fun y => by
          rcases f3 b y with y | y | y
          · exact nb y
          · rw [show b = z from y] at e nb; rw [st2.1 z o nb e] at nz; cases nz
          · rw [stz.1 b o nb e] at y; cases y
        rw [upd_ne (fun y => nb2 ((hF3 b).mpr (.inl (by rw [y]; exact own))))]
        exact k3 b o nb (stz.1 b o nb e)
      · have nw : ∀ x, H2 x = none → F x ∨ H x = none := fun x y => by
          by_cases fb : F x
          · exact .inl fb
          · cases e : H x with
            | none => exact .inr rfl
            | some o => rw [st2.1 x o fb e] at y; cases y
        rcases f3 b y with y | y | y
        · exact .inl y
        · rw [show b = z from y]; exact nw z nz
        · exact nw b (s3.free y)

theorem ok_pinit (T : Tx K mg) : FnOk P w K mg base CX0 4 T.f_pinit T.fd_pinit P_pinit (spPiInit T.C_Pipe (PipeAt T.C_Pipe T.C_IntoEnd T.C_OutEnd)) := by
  have G_croom := ok_croom (P := P) (w := w) (base := base) T
  have G_iinit := ok_iinit (P := P) (w := w) (base := base) T
  have G_oinit := ok_oinit (P := P) (w := w) (base := base) T
  have sz : sizeLine = 16777216 := sizeLine_eq
  refine T.D_pinit.F.ok sc_pinit (fun vs H Q E h => ?_) (fun cdv A outer s H vs Q E hr h => ?_)
  · obtain ⟨p, dx, R, rfl, _⟩ := h
    rfl
  · obtain ⟨p, dx, R, rfl, hp, r1, r2, q⟩ := h
    refine ⟨_, (pss_cons (ps_expr (pe_call G_croom (hr.mono (by decide)) (by rfl) T.D_croom.g T.D_croom.F.kp T.bb_croom .nil pass0 (pa_cons (pv 1) pa_nil)))
      (pss_cons (ps_fld (pv 0) (pv 1) rfl)
      (pss_cons (ps_fld (pv 0) (pe_lst pa_nil) rfl)
      (pss_cons (ps_fld (pv 0) (pe_make T.mk_IntoEnd G_iinit (hr.mono (by decide)) (by rfl) T.g_IntoEnd T.bb_iinit .nil pass0 (pa_cons (pv 0) pa_nil)) rfl)
      (pss_one (ps_fld (pv 0) (pe_make T.mk_OutEnd G_oinit (hr.mono (by decide)) (by rfl) T.g_OutEnd T.bb_oinit .nil pass0 (pa_cons (pv 0) pa_nil)) rfl)))))), ?_⟩
    refine ⟨.int R, rfl, R, rfl, by omega, by omega, ?_⟩
    refine ⟨.int R, rfl, .ref p, rfl, p, T.C_Pipe, dx, [], rfl, hp, T.cl_Pipe, T.n_Pipe_room, by show 0 < 1000; decide, ?_⟩
    refine ⟨by show (0 : Nat) ≤ sizeLine; omega, fun w nw => ?_⟩
    have pw : w ≠ p := fun z => by rw [z, upd_same] at nw; cases nw
    have nw0 : H w = none := by rw [upd_ne pw] at nw; exact nw
    refine ⟨.ref p, rfl, p, T.C_Pipe, dx, _, rfl, by rw [upd_ne pw.symm]; exact upd_same, T.cl_Pipe, T.n_Pipe_within, by show 1 < 1000; decide, ?_⟩
    generalize hA : upd (upd (upd H p _) w _) p _ = Ha
    have epa : Ha p = some (.ins T.C_Pipe dx (putF ("within" : Str) (.ref w) (putF ("room" : Str) (.int R) []))) := by rw [← hA]; exact upd_same
    have ewa : Ha w = some (.lst []) := by rw [← hA, upd_ne pw]; exact upd_same
    have ka : Kp [p] H Ha := fun b o nb e => by rw [← hA, upd_ne (by simpa using nb), upd_ne (ne_of_none e nw0), upd_ne (by simpa using nb)]; exact e
    clear hA
    have back : ∀ {b}, Ha b = none → H b = none := fun {b} e => by
      cases h : H b with
      | none => rfl
      | some o =>
        by_cases z : b = p
        · rw [z, epa] at e; cases e
        · rw [ka b o (by simpa using z) h] at e; cases e
    refine ⟨.ref p, rfl, fun ei di nei ndi nde => ?_⟩
    have pe : p ≠ ei := ne_of_none epa nei
    have pd : p ≠ di := ne_of_none epa ndi
    have we : w ≠ ei := ne_of_none ewa nei
    have wd : w ≠ di := ne_of_none ewa ndi
    refine ⟨ei, p, di, rfl, upd_same, fun H1 li nli eli eei k1 => ⟨rfl, ?_⟩⟩
    have le : li ≠ ei := fun z => by rw [z, upd_same] at nli; cases nli
    have ld : li ≠ di := fun z => by rw [z, upd_ne nde, upd_same] at nli; cases nli
    have nlia : Ha li = none := by rw [upd_ne le, upd_ne ld] at nli; exact nli
    have s1 : Same Ha H1 := fun b o e => k1 b o (by simpa using ne_of_none e nei) (by rw [upd_ne (ne_of_none e nei), upd_ne (ne_of_none e ndi)]; exact e)
    refine ⟨.ref p, rfl, p, T.C_Pipe, dx, _, rfl, s1 _ _ epa, T.cl_Pipe, T.n_Pipe_into_end, by show 2 < 1000; decide, ?_⟩
    have lp : li ≠ p := (ne_of_none epa nlia).symm
    have lw : li ≠ w := (ne_of_none ewa nlia).symm
    generalize hB : upd H1 p _ = Hb
    have epb : Hb p = some (.ins T.C_Pipe dx (putF ("into_end" : Str) (.ref ei) (putF ("within" : Str) (.ref w) (putF ("room" : Str) (.int R) [])))) := by rw [← hB]; exact upd_same
    have kb : Kp [p] Ha Hb := fun b o nb e => by rw [← hB, upd_ne (by simpa using nb)]; exact s1 b o e
    have ewb : Hb w = some (.lst []) := kb _ _ (by simpa using pw) ewa
    have elb : Hb li = some (.lst []) := by rw [← hB, upd_ne lp]; exact eli
    have eeb : Hb ei = some (.ins T.C_IntoEnd di (efs 0 false li p)) := by rw [← hB, upd_ne pe.symm]; exact eei
    clear hB
    have backb : ∀ {b}, Hb b = none → Ha b = none := fun {b} e => by
      cases h : Ha b with
      | none => rfl
      | some o =>
        by_cases z : b = p
        · rw [z, epb] at e; cases e
        · rw [kb b o (by simpa using z) h] at e; cases e
    refine ⟨.ref p, rfl, fun eo dq neo ndq ndo => ?_⟩
    have pe2 : p ≠ eo := ne_of_none epb neo
    have we2 : w ≠ eo := ne_of_none ewb neo
    have le2 : li ≠ eo := ne_of_none elb neo
    have ee2 : ei ≠ eo := ne_of_none eeb neo
    refine ⟨eo, p, dq, rfl, upd_same, fun H2 lo nlo elo eeo k2 => ⟨rfl, ?_⟩⟩
    have loe : lo ≠ eo := fun z => by rw [z, upd_same] at nlo; cases nlo
    have lod : lo ≠ dq := fun z => by rw [z, upd_ne ndo, upd_same] at nlo; cases nlo
    have nlob : Hb lo = none := by rw [upd_ne loe, upd_ne lod] at nlo; exact nlo
    have s2 : Same Hb H2 := fun b o e => k2 b o (by simpa using ne_of_none e neo) (by rw [upd_ne (ne_of_none e neo), upd_ne (ne_of_none e ndq)]; exact e)
    refine ⟨.ref p, rfl, p, T.C_Pipe, dx, _, rfl, s2 _ _ epb, T.cl_Pipe, T.n_Pipe_out_end, by show 3 < 1000; decide, ?_⟩
    rw [pifs_new]
    have lop : lo ≠ p := (ne_of_none epb nlob).symm
    refine q _ ⟨p, w, ei, eo, li, lo⟩ _ rfl ⟨dx, di, dq, [], [], fun _ => False, ⟨upd_same, by show (upd H2 p _) w = _; rw [upd_ne pw]; exact s2 _ _ ewb, by show (upd H2 p _) ei = _; rw [upd_ne pe.symm]; exact s2 _ _ eeb, by show (upd H2 p _) eo = _; rw [upd_ne pe2.symm]; exact eeo, by show (upd H2 p _) li = _; rw [upd_ne lp]; exact s2 _ _ elb, by show (upd H2 p _) lo = _; rw [upd_ne lop]; exact elo, trivial, trivial, fun _ z => z.elim, fun _ z => z.elim, pe, pe2, ee2, lw.symm, (ne_of_none ewb nlob), (ne_of_none elb nlob)⟩, fun b => Iff.rfl⟩ ⟨fun b o nb e => ?_, fun b z => ?_⟩
    · have bp : b ≠ p := fun y => nb (.inl y)
      rw [upd_ne bp]
      exact s2 _ _ (kb b o (by simpa using bp) (ka b o (by simpa using bp) e))
    · rcases z with (z | z | z | z | z | z) | z
      · exact .inl (.inl z)
      · exact .inr (by rw [show b = w from z]; exact nw0)
      · exact .inr (by rw [show b = ei from z]; exact back nei)
      · exact .inr (by rw [show b = eo from z]; exact back (backb neo))
      · exact .inr (by rw [show b = li from z]; exact back nlia)
      · exact .inr (by rw [show b = lo from z]; exact back (backb nlob))
      · exact z.elim

theorem ok_lrow (T : Tx K mg) : FnOk P w K mg base CX0 2 T.f_lrow T.fd_lrow P_lrow (spRowL) := by
  have G_take := ok_take (P := P) (w := w) (base := base) T
  have sz : sizeLine = 16777216 := sizeLine_eq
  refine T.D_lrow.F.ok sc_lrow (fun vs H Q E h => ?_) (fun cdv A outer s H vs Q E hr h => ?_)
  · obtain ⟨p, n, N, o, rfl, _⟩ := h
    rfl
  · obtain ⟨p, n, N, o, rfl, hp, hP, n9, N0, N1, q⟩ := h
    refine ⟨_, (pss_cons (ps_set (i := 2) sc_lrow.nd rfl (.inl rfl) (pe_lst pa_nil))
      (pss_cons (ps_for PassesOwn.never rfl (pi_range1 (by rfl) T.m_range (pa_cons (pe_call G_take (hr.mono (by decide)) (by rfl) T.D_take.g T.D_take.F.kp T.bb_take .nil pass0 (pa_cons (pv 0) (pa_cons (pe_op op_add (pv 1) pe_int) pa_nil))) pa_nil)) (pg_name (i := 3) sc_lrow.nd rfl (.inl rfl)) (pss_cons (ps_set (i := 4) sc_lrow.nd rfl (.inl rfl) (pe_call G_take (hr.mono (by decide)) (by rfl) T.D_take.g T.D_take.F.kp T.bb_take .nil pass0 (pa_cons (pv 0) (pa_cons pe_int pa_nil))))
      (pss_one (ps_if (pt_cmpR op_lt (pv 4) pe_int (nomark _)) (pss_one (ps_expr (pe_bm PySem.F.plainAttrs_list PySem.F.slot_list_append PySem.F.type_list_append mt_append (pv 2) (pa_cons (pe_ix ix_list (pe_lst (pa_cons pe_int (pa_cons pe_int (pa_cons pe_int (pa_cons pe_int (pa_cons pe_int pa_nil)))))) (pv 4) (fun _ _ => rfl)) pa_nil)))) (pss_one (ps_expr (pe_bm PySem.F.plainAttrs_list PySem.F.slot_list_append PySem.F.type_list_append mt_append (pv 2) (pa_cons (pe_call G_take (hr.mono (by decide)) (by rfl) T.D_take.g T.D_take.F.kp T.bb_take .nil pass0 (pa_cons (pv 0) (pa_cons pe_int pa_nil))) pa_nil))))))))
      (pss_one (ps_ret (pv 2))))), ?_⟩
    refine ⟨Nat.zero_le _, fun a na => ?_⟩
    have pa : p ≠ a := ne_of_none hp na
    have s1 : Same H (upd H a (.lst [])) := (Kp.new (ps := []) na).same
    refine ⟨.ref p, rfl, .int N, rfl, _, _, rfl, rfl, p, n, _, o, rfl, s1 _ _ hp, hP, by omega, by omega, by omega, fun z o1 r0 r1 hP1 => ?_⟩
    have k2 : Kp [p] H (upd (upd H a (.lst [])) p o1) := (Kp.new na).trans (Kp.at (by simp))
    refine ⟨z, rfl, by omega, by omega, for_range (lo := 0) (n := z.toNat) (fun i σ H' => ∃ (bs : List Int) (o2 : HO) (y y' : Option V), σ = [some (.ref p), some (.int N), some (.ref a), y, y'] ∧ H' a = some (.lst (bs.map V.int)) ∧ bs.length = i ∧ Bytes bs ∧ H' p = some o2 ∧ PoolO (n + 1 + 2 * i) o2 ∧ Kp [p] H H') ?_ (fun i σ H' hi hW => ?_) (fun σ H' hW => ?_)⟩
    · exact ⟨[], o1, none, none, rfl, by rw [upd_ne pa.symm]; exact upd_same, rfl, fun b hb => by simp at hb, upd_same, hP1.up (by omega), k2⟩
    · obtain ⟨bs, o2, y, y', rfl, ea, eb, hb, ep, hP2, kk⟩ := hW
      have fit : (bs.map V.int).length < sizeLine := by rw [List.length_map]; exact small1000 (by omega)
      refine ⟨.ref p, rfl, p, _, 8, o2, rfl, ep, hP2, by omega, by decide, by decide, fun r2 o3 w0 w1 hP3 => ?_⟩
      have ea3 : (upd H' p o3) a = some (.lst (bs.map V.int)) := by rw [upd_ne pa.symm]; exact ea
      have k3 : Kp [p] H (upd H' p o3) := kk.trans (Kp.at (by simp))
      refine ⟨.int r2, rfl, _, _, rfl, rfl, _, rfl, ite2 (fun e => ?_) (fun e => ?_)⟩
      · have e5 : r2 < 5 := of_decide_eq_true e
        refine ⟨.ref a, rfl, .inl ⟨rfl, _, sq_at ea3⟩, by show (5 : Nat) ≤ sizeLine; decide, fun l2 nl2 => ?_⟩
        have pl2 : p ≠ l2 := ne_of_none (upd_same : (upd H' p o3) p = some o3) nl2
        have al2 : a ≠ l2 := ne_of_none ea3 nl2
        obtain ⟨v, mv, ev, _⟩ := atI_int (ms := [0, 10, 10, 13, 255]) (i := r2) w0 e5
        have vb : 0 ≤ v ∧ v ≤ 255 := (show ∀ y ∈ ([0, 10, 10, 13, 255] : List Int), 0 ≤ y ∧ y ≤ 255 by decide) v mv
        refine ⟨_, rfl, l2, _, r2, .int v, rfl, rfl, .inl (.inl (by rw [upd_same]; rfl)), ev, a, bs.map V.int, .int v, rfl, rfl, by rw [upd_ne al2]; exact ea3, fit, ?_⟩
        refine ⟨bs ++ [v], o3, _, _, rfl, by rw [upd_same, List.map_append]; rfl, by rw [List.length_append, eb]; rfl, ?_, by rw [upd_ne pa, upd_ne pl2]; exact upd_same, hP3.up (by omega), (k3.trans (Kp.new nl2)).put na⟩
        intro b hb2
        rcases List.mem_append.mp hb2 with hb3 | hb3
        · exact hb b hb3
        · rw [List.mem_singleton.mp hb3]; exact vb
      · refine ⟨.ref a, rfl, .inl ⟨rfl, _, sq_at ea3⟩, .ref p, rfl, p, _, 256, o3, rfl, upd_same, hP3, by omega, by decide, by decide, fun v o4 t0 t1 hP4 => ?_⟩
        refine ⟨a, bs.map V.int, .int v, rfl, rfl, by rw [upd_ne pa.symm]; exact ea3, fit, ?_⟩
        refine ⟨bs ++ [v], o4, _, _, rfl, by rw [upd_same, List.map_append]; rfl, by rw [List.length_append, eb]; rfl, ?_, by rw [upd_ne pa]; exact upd_same, hP4.up (by omega), (k3.trans (Kp.at (by simp))).put na⟩
        intro b hb2
        rcases List.mem_append.mp hb2 with hb3 | hb3
        · exact hb b hb3
        · rw [List.mem_singleton.mp hb3]; exact ⟨t0, by omega⟩
    · obtain ⟨bs, o2, y, y', rfl, ea, eb, hb, ep, hP2, kk⟩ := hW
      exact ⟨.ref a, rfl, q H' a bs o2 na ea ep (hP2.up (by omega)) kk (by omega) hb⟩

theorem ok_rshut (T : Tx K mg) : FnOk P w K mg base CX0 1 T.f_rshut T.fd_rshut P_rshut (spRShut K) := by
  have sz : sizeLine = 16777216 := sizeLine_eq
  refine T.D_rshut.F.ok sc_rshut (fun vs H Q E h => ?_) (fun cdv A outer s H vs Q E hr h => ?_)
  · obtain ⟨e, C, dx, fs, rfl, _⟩ := h
    rfl
  · obtain ⟨e, C, dx, fs, rfl, he, hC, n3, l, q⟩ := h
    refine ⟨_, (pss_one (ps_fld (pv 0) pe_bl rfl)), ?_⟩
    exact ⟨.ref e, rfl, e, C, dx, fs, rfl, he, hC, n3, l, q⟩

theorem ok_ibar (T : Tx K mg) : FnOk P w K mg base CX0 1 T.f_ibar T.fd_ibar P_ibar (spBarI (PipeAt T.C_Pipe T.C_IntoEnd T.C_OutEnd)) := by
  have sz : sizeLine = 16777216 := sizeLine_eq
  refine T.D_ibar.F.ok sc_ibar (fun vs H Q E h => ?_) (fun cdv A outer s H vs Q E hr h => ?_)
  · obtain ⟨A, F, S, rfl, _⟩ := h
    rfl
  · obtain ⟨A, F, S, rfl, hPA, q⟩ := h
    refine ⟨_, (pss_one (ps_fld (pv 0) pe_bl rfl)), ?_⟩
    obtain ⟨dp, di, dq, vi, vo, G, I, hF⟩ := hPA
    refine ⟨.ref A.ei, rfl, A.ei, T.C_IntoEnd, di, _, rfl, I.hi, T.cl_IntoEnd, T.n_IntoEnd_barred, efs_few _ _ _ _, ?_⟩
    rw [efs_put_b]
    exact q _ ⟨dp, di, dq, vi, vo, G, I.seti S.si true, hF⟩ (own_one hF (.inr (.inr (.inl rfl))))

theorem ok_pdrop (T : Tx K mg) : FnOk P w K mg base CX0 1 T.f_pdrop T.fd_pdrop P_pdrop (spDropP (PipeAt T.C_Pipe T.C_IntoEnd T.C_OutEnd)) := by
  have sz : sizeLine = 16777216 := sizeLine_eq
  refine T.D_pdrop.F.ok sc_pdrop (fun vs H Q E h => ?_) (fun cdv A outer s H vs Q E hr h => ?_)
  · obtain ⟨A, F, S, rfl, _⟩ := h
    rfl
  · obtain ⟨A, F, S, rfl, hPA, q⟩ := h
    refine ⟨_, (pss_one (ps_fld (pv 0) (pe_lst pa_nil) rfl)), ?_⟩
    obtain ⟨dp, di, dq, vi, vo, G, I, hF⟩ := hPA
    refine ⟨by show (0 : Nat) ≤ sizeLine; omega, fun l nl => ?_⟩
    have ne : ∀ {b o}, H b = some o → b ≠ l := fun {b o} e => ne_of_none e nl
    refine ⟨.ref A.p, rfl, A.p, T.C_Pipe, dp, _, rfl, by rw [upd_ne (ne I.hp)]; exact I.hp, T.cl_Pipe, T.n_Pipe_within, pifs_few _ _ _ _, ?_⟩
    rw [pifs_put_w]
    refine q _ l (fun b => Own6 { A with w := l } b ∨ G b) ⟨dp, di, dq, vi, vo, G, I.neww nl, fun b => Iff.rfl⟩ ⟨fun b o nf e => ?_, fun b z => ?_⟩
    · rw [upd_ne (fun z => nf ((hF b).mpr (.inl (.inl z)))), upd_ne (ne e)]; exact e
    · rcases z with (z | z | z | z | z | z) | z
      · exact .inl ((hF b).mpr (.inl (.inl z)))
      · exact .inr (by rw [show b = l from z]; exact nl)
      · exact .inl ((hF b).mpr (.inl (.inr (.inr (.inl z)))))
      · exact .inl ((hF b).mpr (.inl (.inr (.inr (.inr (.inl z))))))
      · exact .inl ((hF b).mpr (.inl (.inr (.inr (.inr (.inr (.inl z)))))))
      · exact .inl ((hF b).mpr (.inl (.inr (.inr (.inr (.inr (.inr z)))))))
      · exact .inl ((hF b).mpr (.inr z))

theorem ok_osup (T : Tx K mg) : FnOk P w K mg base CX0 4 T.f_osup T.fd_osup P_osup (spSupO (PipeAt T.C_Pipe T.C_IntoEnd T.C_OutEnd)) := by
  have G_rshut := ok_rshut (P := P) (w := w) (base := base) T
  have G_pdrop := ok_pdrop (P := P) (w := w) (base := base) T
  refine T.U_osup.ok T.M_osup sc_osup rfl (by decide) (by first | rfl | kernel_rfl) rfl rfl rfl rfl (fun _ => rfl) (fun _ => rfl) (fun _ => ⟨_, rfl⟩) (fun vs H Q E h => ?_) (G_rshut.mono (by decide)) T.bb_rshut (fun A outer s H vs Q E hr h => ?_)
  · obtain ⟨A, F, S, rfl, _⟩ := h
    rfl
  · obtain ⟨A, F, S, rfl, hPA, q⟩ := h
    obtain ⟨dp, di, dq, vi, vo, G, I, hF⟩ := hPA
    refine ⟨_, _, _, rfl, I.ho, A.eo, T.C_OutEnd, dq, _, rfl, I.ho, T.cl_OutEnd, T.n_OutEnd_barred, efs_few _ _ _ _, ?_⟩
    refine ⟨_, ((pss_one (ps_expr (pe_meth0 (pe_fld (pv 0) rfl) T.cl_Pipe T.D_pdrop.m G_pdrop (hr.mono (by decide)) T.bb_pdrop .nil pass0)))).nox, ?_⟩
    rw [efs_put_b]
    have I1 := I.seto S.so true
    have st := own_one (H := H) (o := .ins T.C_OutEnd dq (efs S.so true A.lo A.p)) hF (.inr (.inr (.inr (.inl rfl))))
    exact ⟨.ref A.eo, rfl, A.eo, T.C_OutEnd, dq, _, _, rfl, I1.ho, T.cl_OutEnd, T.n_OutEnd_pipe, efs_pipe _ _ _ _, A.p, dp, _, rfl, I1.hp, pifs_no _ _ _ _ "drop" (by decide +kernel), A, F, _, rfl, ⟨dp, di, dq, vi, vo, G, I1, hF⟩, fun H2 l F2 h2 st2 => q H2 l F2 h2 (st.trans st2)⟩

theorem ok_iopenB (T : Tx K mg) : FnOk P w K mg base (L2.CX P w) 1 T.f_iopen T.fd_iopen P_iopen (spOpenB (PipeAt T.C_Pipe T.C_IntoEnd T.C_OutEnd) (fun A => A.ei) (fun S => S.bi) T.C_Closed) := by
  have sz : sizeLine = 16777216 := sizeLine_eq
  refine T.D_iopen.F.okX sc_iopen (fun vs H Q E h => ?_) (fun cdv A outer s H vs Q E hr h => ?_)
  · obtain ⟨A, F, S, rfl, _⟩ := h
    rfl
  · obtain ⟨A, F, S, rfl, hPA, hb, q⟩ := h
    refine ⟨_, (pss_one (ps_if (pt_val (pe_fld (pv 0) rfl)) (pss_one (ps_raise rfl (takes_of rfl rfl rfl rfl) (Sip.pmk_own0 PySem.F.excBase_ValueError T.x_Closed T.g_Closed T.kk_Closed (raises_own T.bx_Closed T.tx_Closed) (by rfl)))) pss_nil)), ?_⟩
    obtain ⟨dp, di, dq, vi, vo, G, I, hF⟩ := hPA
    refine ⟨.ref A.ei, rfl, A.ei, T.C_IntoEnd, di, _, _, rfl, I.hi, T.cl_IntoEnd, T.n_IntoEnd_barred, efs_barred _ _ _ _, ?_⟩
    have hb : S.bi = true := hb
    rw [hb]
    exact ⟨_, rfl, iteT (q _ (Same.refl _))⟩

theorem ok_oopenB (T : Tx K mg) : FnOk P w K mg base (L2.CX P w) 1 T.f_oopen T.fd_oopen P_oopen (spOpenB (PipeAt T.C_Pipe T.C_IntoEnd T.C_OutEnd) (fun A => A.eo) (fun S => S.bo) T.C_Closed) := by
  have sz : sizeLine = 16777216 := sizeLine_eq
  refine T.D_oopen.F.okX sc_oopen (fun vs H Q E h => ?_) (fun cdv A outer s H vs Q E hr h => ?_)
  · obtain ⟨A, F, S, rfl, _⟩ := h
    rfl
  · obtain ⟨A, F, S, rfl, hPA, hb, q⟩ := h
    refine ⟨_, (pss_one (ps_if (pt_val (pe_fld (pv 0) rfl)) (pss_one (ps_raise rfl (takes_of rfl rfl rfl rfl) (Sip.pmk_own0 PySem.F.excBase_ValueError T.x_Closed T.g_Closed T.kk_Closed (raises_own T.bx_Closed T.tx_Closed) (by rfl)))) pss_nil)), ?_⟩
    obtain ⟨dp, di, dq, vi, vo, G, I, hF⟩ := hPA
    refine ⟨.ref A.eo, rfl, A.eo, T.C_OutEnd, dq, _, _, rfl, I.ho, T.cl_OutEnd, T.n_OutEnd_barred, efs_barred _ _ _ _, ?_⟩
    have hb : S.bo = true := hb
    rw [hb]
    exact ⟨_, rfl, iteT (q _ (Same.refl _))⟩

theorem ok_lrefusal (T : Tx K mg) : FnC P w K mg base  2 T.f_lrefusal T.fd_lrefusal P_lrefusal (spRefusal K T.C_Closed T.C_NoSeek T.C_NoReads T.C_NoWrites) := by
  have sz : sizeLine = 16777216 := sizeLine_eq
  refine T.D_lrefusal.F.okC sc_lrefusal (fun vs H Q E h => ?_) (fun cdv A outer s H vs Q E hr h => ?_)
  · obtain ⟨a, o, j, rfl, _⟩ := h
    rfl
  · obtain ⟨a, o, j, rfl, j4, eo, hz, hf, q⟩ := h
    refine ⟨_, (pss_cons (ps_set (i := 1) sc_lrefusal.nd rfl (.inl rfl) (pe_lst (pa_cons (pe_callB (id := "isinstance") (r := Sip.rIsL K) Sip.call_isL (by rfl) T.m_isinstance (by decide +kernel) (pa_cons (pv 0) (pa_cons (pe_glob (v := .ref T.C_Closed) (by rfl) T.g_Closed rfl) pa_nil))) (pa_cons (pe_callB (id := "isinstance") (r := Sip.rIsL K) Sip.call_isL (by rfl) T.m_isinstance (by decide +kernel) (pa_cons (pv 0) (pa_cons (pe_glob (v := .ref T.C_NoSeek) (by rfl) T.g_NoSeek rfl) pa_nil))) (pa_cons (pe_callB (id := "isinstance") (r := Sip.rIsL K) Sip.call_isL (by rfl) T.m_isinstance (by decide +kernel) (pa_cons (pv 0) (pa_cons (pe_glob (v := .ref T.C_NoReads) (by rfl) T.g_NoReads rfl) pa_nil))) (pa_cons (pe_callB (id := "isinstance") (r := Sip.rIsL K) Sip.call_isL (by rfl) T.m_isinstance (by decide +kernel) (pa_cons (pv 0) (pa_cons (pe_glob (v := .ref T.C_NoWrites) (by rfl) T.g_NoWrites rfl) pa_nil))) pa_nil))))))
      (pss_cons (ps_expr (pe_bm PySem.F.plainAttrs_list PySem.F.slot_list_append PySem.F.type_list_append mt_append (pv 1) (pa_cons (pe_callB (id := "isinstance") (r := Sip.rIsL K) Sip.call_isL (by rfl) T.m_isinstance (by decide +kernel) (pa_cons (pv 0) (pa_cons (pe_glob (v := .ref T.C_Fault) (by rfl) T.g_Fault rfl) pa_nil))) pa_nil)))
      (pss_cons (ps_if (PW.pt (pw_or (pt_cmpR op_ne (pe_bm PySem.F.plainAttrs_list PySem.F.slot_list_count PySem.F.type_list_count Sip.mt_countV (pv 1) (pa_cons pe_bl pa_nil)) pe_int (nomark _)) (pw_or1 (pt_not (pt_val (pe_callB (id := "isinstance") (r := Sip.rIsL K) Sip.call_isL (by rfl) T.m_isinstance (by decide +kernel) (pa_cons (pv 0) (pa_cons (pe_bltn (v := .ty "ValueError") (by rfl) T.m_ValueError (by decide +kernel) rfl) pa_nil)))))))) (pss_one (ps_ret pe_str)) pss_nil)
      (pss_one (ps_ret (pe_ix ix_list (pe_lst (pa_cons pe_str (pa_cons pe_str (pa_cons pe_str (pa_cons pe_str (pa_cons pe_str pa_nil)))))) (pe_bm PySem.F.plainAttrs_list PySem.F.slot_list_index PySem.F.type_list_index mt_index (pv 1) (pa_cons pe_bl pa_nil)) (fun _ _ => rfl))))))), ?_⟩
    have hd : (none : Option Addr) = none ∨ ∃ dd fs, none = some dd ∧ H dd = some (.xd fs) := .inl rfl
    rcases (show j = 0 ∨ j = 1 ∨ j = 2 ∨ j = 3 by omega) with rfl | rfl | rfl | rfl
    · have hz : Zc (.ref T.C_Closed) none o := hz
      refine ⟨.ref a, rfl, a, T.C_Closed, o, none, eo, hz, hf, T.e_Closed, hd, .ref T.C_Closed, .ref T.C_Closed, true, rfl, fun w h => h, T.k_Closed_Closed, ?_⟩
      refine ⟨.ref a, rfl, a, T.C_Closed, o, none, eo, hz, hf, T.e_Closed, hd, .ref T.C_NoSeek, .ref T.C_NoSeek, false, rfl, fun w h => h, T.k_Closed_NoSeek, ?_⟩
      refine ⟨.ref a, rfl, a, T.C_Closed, o, none, eo, hz, hf, T.e_Closed, hd, .ref T.C_NoReads, .ref T.C_NoReads, false, rfl, fun w h => h, T.k_Closed_NoReads, ?_⟩
      refine ⟨.ref a, rfl, a, T.C_Closed, o, none, eo, hz, hf, T.e_Closed, hd, .ref T.C_NoWrites, .ref T.C_NoWrites, false, rfl, fun w h => h, T.k_Closed_NoWrites, ?_⟩
      refine ⟨by show (4 : Nat) ≤ sizeLine; omega, fun l nl => ?_⟩
      have s1 : Same H (upd H l (.lst [V.bl true, V.bl false, V.bl false, V.bl false])) := (Kp.new (ps := []) nl).same
      have el1 : (upd H l (.lst [V.bl true, V.bl false, V.bl false, V.bl false])) l = some (.lst [V.bl true, V.bl false, V.bl false, V.bl false]) := upd_same
      have eo1 := s1 _ _ eo
      refine ⟨.ref l, rfl, .inl ⟨rfl, _, sq_at el1⟩, .ref a, rfl, a, T.C_Closed, o, none, eo1, hz, hf, T.e_Closed, (.inl rfl), .ref T.C_Fault, .ref T.C_Fault, false, rfl, fun w h => h, T.k_Closed_Fault, ?_⟩
      refine ⟨l, _, _, rfl, rfl, el1, by show (4 : Nat) < sizeLine; omega, ?_⟩
      rw [upd_upd]
      have s2 : Same H (upd H l (.lst [V.bl true, V.bl false, V.bl false, V.bl false, V.bl false])) := (Kp.new (ps := []) nl).same
      have el2 : (upd H l (.lst [V.bl true, V.bl false, V.bl false, V.bl false, V.bl false])) l = some (.lst [V.bl true, V.bl false, V.bl false, V.bl false, V.bl false]) := upd_same
      have eo2 := s2 _ _ eo
      show _
      generalize hG : upd H l (.lst [V.bl true, V.bl false, V.bl false, V.bl false, V.bl false]) = H2 at s2 el2 eo2
      rw [show upd H l (.lst ([V.bl true, V.bl false, V.bl false, V.bl false] ++ [V.bl false])) = H2 from hG]
      refine ⟨.ref l, rfl, .inl ⟨rfl, _, sq_at el2⟩, l, _, _, rfl, rfl, sq_at el2, rfl, rfl, ?_⟩
      refine ⟨rfl, _, rfl, iteFc (by decide +kernel) ?_⟩
      refine ⟨.ref a, rfl, a, T.C_Closed, o, none, eo2, hz, hf, T.e_Closed, (.inl rfl), .ty "ValueError", .type "ValueError", true, rfl, fun w h => h, T.kV_Closed, ?_⟩
      refine ⟨true, rfl, iteF ?_⟩
      refine ⟨by show (5 : Nat) ≤ sizeLine; omega, fun l2 nl2 => ?_⟩
      have s3 : Same H2 (upd H2 l2 (.lst [V.str (Str.ofString "Closed"), V.str (Str.ofString "NoSeek"), V.str (Str.ofString "NoReads"), V.str (Str.ofString "NoWrites"), V.str (Str.ofString "Fault")])) := (Kp.new (ps := []) nl2).same
      refine ⟨.ref l, rfl, .inl ⟨rfl, _, sq_at (s3 _ _ el2)⟩, l, _, .bl true, 0, .bl true, rfl, rfl, sq_at (s3 _ _ el2), rfl, rfl, rfl, rfl, fun m z hm e => absurd hm (Nat.not_lt_zero m), ?_⟩
      exact ⟨l2, _, 0, _, rfl, rfl, sq_at upd_same, rfl, q _ (s2.trans s3)⟩
    · have hz : Zc (.ref T.C_NoSeek) none o := hz
      refine ⟨.ref a, rfl, a, T.C_NoSeek, o, none, eo, hz, hf, T.e_NoSeek, hd, .ref T.C_Closed, .ref T.C_Closed, false, rfl, fun w h => h, T.k_NoSeek_Closed, ?_⟩
      refine ⟨.ref a, rfl, a, T.C_NoSeek, o, none, eo, hz, hf, T.e_NoSeek, hd, .ref T.C_NoSeek, .ref T.C_NoSeek, true, rfl, fun w h => h, T.k_NoSeek_NoSeek, ?_⟩
      refine ⟨.ref a, rfl, a, T.C_NoSeek, o, none, eo, hz, hf, T.e_NoSeek, hd, .ref T.C_NoReads, .ref T.C_NoReads, false, rfl, fun w h => h, T.k_NoSeek_NoReads, ?_⟩
      refine ⟨.ref a, rfl, a, T.C_NoSeek, o, none, eo, hz, hf, T.e_NoSeek, hd, .ref T.C_NoWrites, .ref T.C_NoWrites, false, rfl, fun w h => h, T.k_NoSeek_NoWrites, ?_⟩
      refine ⟨by show (4 : Nat) ≤ sizeLine; omega, fun l nl => ?_⟩
      have s1 : Same H (upd H l (.lst [V.bl false, V.bl true, V.bl false, V.bl false])) := (Kp.new (ps := []) nl).same
      have el1 : (upd H l (.lst [V.bl false, V.bl true, V.bl false, V.bl false])) l = some (.lst [V.bl false, V.bl true, V.bl false, V.bl false]) := upd_same
      have eo1 := s1 _ _ eo
      refine ⟨.ref l, rfl, .inl ⟨rfl, _, sq_at el1⟩, .ref a, rfl, a, T.C_NoSeek, o, none, eo1, hz, hf, T.e_NoSeek, (.inl rfl), .ref T.C_Fault, .ref T.C_Fault, false, rfl, fun w h => h, T.k_NoSeek_Fault, ?_⟩
      refine ⟨l, _, _, rfl, rfl, el1, by show (4 : Nat) < sizeLine; omega, ?_⟩
      rw [upd_upd]
      have s2 : Same H (upd H l (.lst [V.bl false, V.bl true, V.bl false, V.bl false, V.bl false])) := (Kp.new (ps := []) nl).same
      have el2 : (upd H l (.lst [V.bl false, V.bl true, V.bl false, V.bl false, V.bl false])) l = some (.lst [V.bl false, V.bl true, V.bl false, V.bl false, V.bl false]) := upd_same
      have eo2 := s2 _ _ eo
      show _
      generalize hG : upd H l (.lst [V.bl false, V.bl true, V.bl false, V.bl false, V.bl false]) = H2 at s2 el2 eo2
      rw [show upd H l (.lst ([V.bl false, V.bl true, V.bl false, V.bl false] ++ [V.bl false])) = H2 from hG]
      refine ⟨.ref l, rfl, .inl ⟨rfl, _, sq_at el2⟩, l, _, _, rfl, rfl, sq_at el2, rfl, rfl, ?_⟩
      refine ⟨rfl, _, rfl, iteFc (by decide +kernel) ?_⟩
      refine ⟨.ref a, rfl, a, T.C_NoSeek, o, none, eo2, hz, hf, T.e_NoSeek, (.inl rfl), .ty "ValueError", .type "ValueError", true, rfl, fun w h => h, T.kV_NoSeek, ?_⟩
      refine ⟨true, rfl, iteF ?_⟩
      refine ⟨by show (5 : Nat) ≤ sizeLine; omega, fun l2 nl2 => ?_⟩
      have s3 : Same H2 (upd H2 l2 (.lst [V.str (Str.ofString "Closed"), V.str (Str.ofString "NoSeek"), V.str (Str.ofString "NoReads"), V.str (Str.ofString "NoWrites"), V.str (Str.ofString "Fault")])) := (Kp.new (ps := []) nl2).same
      refine ⟨.ref l, rfl, .inl ⟨rfl, _, sq_at (s3 _ _ el2)⟩, l, _, .bl true, 1, .bl true, rfl, rfl, sq_at (s3 _ _ el2), rfl, rfl, rfl, rfl, fun m z hm e => by rcases (show m = 0 ∨ m = 0 by omega) with rfl | rfl <;> (cases e; rfl), ?_⟩
      exact ⟨l2, _, 1, _, rfl, rfl, sq_at upd_same, rfl, q _ (s2.trans s3)⟩
    · have hz : Zc (.ref T.C_NoReads) none o := hz
      refine ⟨.ref a, rfl, a, T.C_NoReads, o, none, eo, hz, hf, T.e_NoReads, hd, .ref T.C_Closed, .ref T.C_Closed, false, rfl, fun w h => h, T.k_NoReads_Closed, ?_⟩
      refine ⟨.ref a, rfl, a, T.C_NoReads, o, none, eo, hz, hf, T.e_NoReads, hd, .ref T.C_NoSeek, .ref T.C_NoSeek, false, rfl, fun w h => h, T.k_NoReads_NoSeek, ?_⟩
      refine ⟨.ref a, rfl, a, T.C_NoReads, o, none, eo, hz, hf, T.e_NoReads, hd, .ref T.C_NoReads, .ref T.C_NoReads, true, rfl, fun w h => h, T.k_NoReads_NoReads, ?_⟩
      refine ⟨.ref a, rfl, a, T.C_NoReads, o, none, eo, hz, hf, T.e_NoReads, hd, .ref T.C_NoWrites, .ref T.C_NoWrites, false, rfl, fun w h => h, T.k_NoReads_NoWrites, ?_⟩
      refine ⟨by show (4 : Nat) ≤ sizeLine; omega, fun l nl => ?_⟩
      have s1 : Same H (upd H l (.lst [V.bl false, V.bl false, V.bl true, V.bl false])) := (Kp.new (ps := []) nl).same
      have el1 : (upd H l (.lst [V.bl false, V.bl false, V.bl true, V.bl false])) l = some (.lst [V.bl false, V.bl false, V.bl true, V.bl false]) := upd_same
      have eo1 := s1 _ _ eo
      refine ⟨.ref l, rfl, .inl ⟨rfl, _, sq_at el1⟩, .ref a, rfl, a, T.C_NoReads, o, none, eo1, hz, hf, T.e_NoReads, (.inl rfl), .ref T.C_Fault, .ref T.C_Fault, false, rfl, fun w h => h, T.k_NoReads_Fault, ?_⟩
      refine ⟨l, _, _, rfl, rfl, el1, by show (4 : Nat) < sizeLine; omega, ?_⟩
      rw [upd_upd]
      have s2 : Same H (upd H l (.lst [V.bl false, V.bl false, V.bl true, V.bl false, V.bl false])) := (Kp.new (ps := []) nl).same
      have el2 : (upd H l (.lst [V.bl false, V.bl false, V.bl true, V.bl false, V.bl false])) l = some (.lst [V.bl false, V.bl false, V.bl true, V.bl false, V.bl false]) := upd_same
      have eo2 := s2 _ _ eo
      show _
      generalize hG : upd H l (.lst [V.bl false, V.bl false, V.bl true, V.bl false, V.bl false]) = H2 at s2 el2 eo2
      rw [show upd H l (.lst ([V.bl false, V.bl false, V.bl true, V.bl false] ++ [V.bl false])) = H2 from hG]
      refine ⟨.ref l, rfl, .inl ⟨rfl, _, sq_at el2⟩, l, _, _, rfl, rfl, sq_at el2, rfl, rfl, ?_⟩
      refine ⟨rfl, _, rfl, iteFc (by decide +kernel) ?_⟩
      refine ⟨.ref a, rfl, a, T.C_NoReads, o, none, eo2, hz, hf, T.e_NoReads, (.inl rfl), .ty "ValueError", .type "ValueError", true, rfl, fun w h => h, T.kV_NoReads, ?_⟩
      refine ⟨true, rfl, iteF ?_⟩
      refine ⟨by show (5 : Nat) ≤ sizeLine; omega, fun l2 nl2 => ?_⟩
      have s3 : Same H2 (upd H2 l2 (.lst [V.str (Str.ofString "Closed"), V.str (Str.ofString "NoSeek"), V.str (Str.ofString "NoReads"), V.str (Str.ofString "NoWrites"), V.str (Str.ofString "Fault")])) := (Kp.new (ps := []) nl2).same
      refine ⟨.ref l, rfl, .inl ⟨rfl, _, sq_at (s3 _ _ el2)⟩, l, _, .bl true, 2, .bl true, rfl, rfl, sq_at (s3 _ _ el2), rfl, rfl, rfl, rfl, fun m z hm e => by rcases (show m = 0 ∨ m = 1 by omega) with rfl | rfl <;> (cases e; rfl), ?_⟩
      exact ⟨l2, _, 2, _, rfl, rfl, sq_at upd_same, rfl, q _ (s2.trans s3)⟩
    · have hz : Zc (.ref T.C_NoWrites) none o := hz
      refine ⟨.ref a, rfl, a, T.C_NoWrites, o, none, eo, hz, hf, T.e_NoWrites, hd, .ref T.C_Closed, .ref T.C_Closed, false, rfl, fun w h => h, T.k_NoWrites_Closed, ?_⟩
      refine ⟨.ref a, rfl, a, T.C_NoWrites, o, none, eo, hz, hf, T.e_NoWrites, hd, .ref T.C_NoSeek, .ref T.C_NoSeek, false, rfl, fun w h => h, T.k_NoWrites_NoSeek, ?_⟩
      refine ⟨.ref a, rfl, a, T.C_NoWrites, o, none, eo, hz, hf, T.e_NoWrites, hd, .ref T.C_NoReads, .ref T.C_NoReads, false, rfl, fun w h => h, T.k_NoWrites_NoReads, ?_⟩
      refine ⟨.ref a, rfl, a, T.C_NoWrites, o, none, eo, hz, hf, T.e_NoWrites, hd, .ref T.C_NoWrites, .ref T.C_NoWrites, true, rfl, fun w h => h, T.k_NoWrites_NoWrites, ?_⟩
      refine ⟨by show (4 : Nat) ≤ sizeLine; omega, fun l nl => ?_⟩
      have s1 : Same H (upd H l (.lst [V.bl false, V.bl false, V.bl false, V.bl true])) := (Kp.new (ps := []) nl).same
      have el1 : (upd H l (.lst [V.bl false, V.bl false, V.bl false, V.bl true])) l = some (.lst [V.bl false, V.bl false, V.bl false, V.bl true]) := upd_same
      have eo1 := s1 _ _ eo
      refine ⟨.ref l, rfl, .inl ⟨rfl, _, sq_at el1⟩, .ref a, rfl, a, T.C_NoWrites, o, none, eo1, hz, hf, T.e_NoWrites, (.inl rfl), .ref T.C_Fault, .ref T.C_Fault, false, rfl, fun w h => h, T.k_NoWrites_Fault, ?_⟩
      refine ⟨l, _, _, rfl, rfl, el1, by show (4 : Nat) < sizeLine; omega, ?_⟩
      rw [upd_upd]
      have s2 : Same H (upd H l (.lst [V.bl false, V.bl false, V.bl false, V.bl true, V.bl false])) := (Kp.new (ps := []) nl).same
      have el2 : (upd H l (.lst [V.bl false, V.bl false, V.bl false, V.bl true, V.bl false])) l = some (.lst [V.bl false, V.bl false, V.bl false, V.bl true, V.bl false]) := upd_same
      have eo2 := s2 _ _ eo
      show _
      generalize hG : upd H l (.lst [V.bl false, V.bl false, V.bl false, V.bl true, V.bl false]) = H2 at s2 el2 eo2
      rw [show upd H l (.lst ([V.bl false, V.bl false, V.bl false, V.bl true] ++ [V.bl false])) = H2 from hG]
      refine ⟨.ref l, rfl, .inl ⟨rfl, _, sq_at el2⟩, l, _, _, rfl, rfl, sq_at el2, rfl, rfl, ?_⟩
      refine ⟨rfl, _, rfl, iteFc (by decide +kernel) ?_⟩
      refine ⟨.ref a, rfl, a, T.C_NoWrites, o, none, eo2, hz, hf, T.e_NoWrites, (.inl rfl), .ty "ValueError", .type "ValueError", true, rfl, fun w h => h, T.kV_NoWrites, ?_⟩
      refine ⟨true, rfl, iteF ?_⟩
      refine ⟨by show (5 : Nat) ≤ sizeLine; omega, fun l2 nl2 => ?_⟩
      have s3 : Same H2 (upd H2 l2 (.lst [V.str (Str.ofString "Closed"), V.str (Str.ofString "NoSeek"), V.str (Str.ofString "NoReads"), V.str (Str.ofString "NoWrites"), V.str (Str.ofString "Fault")])) := (Kp.new (ps := []) nl2).same
      refine ⟨.ref l, rfl, .inl ⟨rfl, _, sq_at (s3 _ _ el2)⟩, l, _, .bl true, 3, .bl true, rfl, rfl, sq_at (s3 _ _ el2), rfl, rfl, rfl, rfl, fun m z hm e => by rcases (show m = 0 ∨ m = 1 ∨ m = 2 by omega) with rfl | rfl | rfl <;> (cases e; rfl), ?_⟩
      exact ⟨l2, _, 3, _, rfl, rfl, sq_at upd_same, rfl, q _ (s2.trans s3)⟩

theorem ok_isk (T : Tx K mg) : FnOk P w K mg base CX0 1 T.f_isk T.fd_isk P_isk (spSk (PipeAt T.C_Pipe T.C_IntoEnd T.C_OutEnd) (fun A => A.ei)) := by
  have sz : sizeLine = 16777216 := sizeLine_eq
  refine T.D_isk.F.ok sc_isk (fun vs H Q E h => ?_) (fun cdv A outer s H vs Q E hr h => ?_)
  · obtain ⟨A, F, S, rfl, _⟩ := h
    rfl
  · obtain ⟨A, F, S, rfl, hPA, q⟩ := h
    refine ⟨_, (pss_one (ps_ret (pe_fld (pv 0) rfl))), ?_⟩
    obtain ⟨dp, di, dq, vi, vo, G, I, hF⟩ := id hPA
    exact ⟨.ref A.ei, rfl, A.ei, T.C_IntoEnd, di, _, _, rfl, I.hi, T.cl_IntoEnd, T.n_IntoEnd_can_seek, efs_seek _ _ _ _, q⟩

theorem ok_iseek (T : Tx K mg) : FnOk P w K mg base (L2.CX P w) 1 T.f_iseek T.fd_iseek P_iseek (spNo0 (PipeAt T.C_Pipe T.C_IntoEnd T.C_OutEnd) (fun A => A.ei) T.C_NoSeek) := by
  have sz : sizeLine = 16777216 := sizeLine_eq
  refine T.D_iseek.F.okX sc_iseek (fun vs H Q E h => ?_) (fun cdv A outer s H vs Q E hr h => ?_)
  · obtain ⟨A, F, S, rfl, _⟩ := h
    rfl
  · obtain ⟨A, F, S, rfl, hPA, q⟩ := h
    refine ⟨_, (pss_one (ps_if (pt_not (pt_val (pe_fld (pv 0) rfl))) (pss_one (ps_raise rfl (takes_of rfl rfl rfl rfl) (Sip.pmk_own0 PySem.F.excBase_ValueError T.x_NoSeek T.g_NoSeek T.kk_NoSeek (raises_own T.bx_NoSeek T.tx_NoSeek) (by rfl)))) pss_nil)), ?_⟩
    obtain ⟨dp, di, dq, vi, vo, G, I, hF⟩ := id hPA
    exact ⟨.ref A.ei, rfl, A.ei, T.C_IntoEnd, di, _, _, rfl, I.hi, T.cl_IntoEnd, T.n_IntoEnd_can_seek, efs_seek _ _ _ _, _, rfl, iteT (q _ (Same.refl _))⟩

theorem ok_iplace (T : Tx K mg) : FnOk P w K mg base (L2.CX P w) 2 T.f_iplace T.fd_iplace P_iplace (spNo0 (PipeAt T.C_Pipe T.C_IntoEnd T.C_OutEnd) (fun A => A.ei) T.C_NoSeek) := by
  have G_iseek := ok_iseek (P := P) (w := w) (base := base) T
  have sz : sizeLine = 16777216 := sizeLine_eq
  refine T.D_iplace.F.okX sc_iplace (fun vs H Q E h => ?_) (fun cdv A outer s H vs Q E hr h => ?_)
  · obtain ⟨A, F, S, rfl, _⟩ := h
    rfl
  · obtain ⟨A, F, S, rfl, hPA, q⟩ := h
    refine ⟨_, (pss_cons (ps_expr (pe_meth0 (pv 0) T.cl_IntoEnd T.D_iseek.m G_iseek (hr.mono (by decide)) T.bb_iseek .nil (Sip.passX (takes_of rfl rfl rfl rfl))))
      (pss_one (ps_ret (pe_fld (pv 0) rfl)))), ?_⟩
    obtain ⟨dp, di, dq, vi, vo, G, I, hF⟩ := id hPA
    exact ⟨.ref A.ei, rfl, A.ei, di, _, rfl, I.hi, efs_no _ _ _ _ "check_seeks" (by decide +kernel), A, F, S, rfl, hPA, q⟩

theorem ok_isize (T : Tx K mg) : FnOk P w K mg base (L2.CX P w) 2 T.f_isize T.fd_isize P_isize (spNo0 (PipeAt T.C_Pipe T.C_IntoEnd T.C_OutEnd) (fun A => A.ei) T.C_NoSeek) := by
  have G_iseek := ok_iseek (P := P) (w := w) (base := base) T
  have sz : sizeLine = 16777216 := sizeLine_eq
  refine T.D_isize.F.okX sc_isize (fun vs H Q E h => ?_) (fun cdv A outer s H vs Q E hr h => ?_)
  · obtain ⟨A, F, S, rfl, _⟩ := h
    rfl
  · obtain ⟨A, F, S, rfl, hPA, q⟩ := h
    refine ⟨_, (pss_cons (ps_expr (pe_meth0 (pv 0) T.cl_IntoEnd T.D_iseek.m G_iseek (hr.mono (by decide)) T.bb_iseek .nil (Sip.passX (takes_of rfl rfl rfl rfl))))
      (pss_one ps_never)), ?_⟩
    obtain ⟨dp, di, dq, vi, vo, G, I, hF⟩ := id hPA
    exact ⟨.ref A.ei, rfl, A.ei, di, _, rfl, I.hi, efs_no _ _ _ _ "check_seeks" (by decide +kernel), A, F, S, rfl, hPA, q⟩

theorem ok_imayC (T : Tx K mg) : FnOk P w K mg base (L2.CX P w) 2 T.f_imayC T.fd_imayC P_imayC (spNo0 (PipeAt T.C_Pipe T.C_IntoEnd T.C_OutEnd) (fun A => A.ei) T.C_NoSeek) := by
  have G_iseek := ok_iseek (P := P) (w := w) (base := base) T
  have sz : sizeLine = 16777216 := sizeLine_eq
  refine T.D_imayC.F.okX sc_imayC (fun vs H Q E h => ?_) (fun cdv A outer s H vs Q E hr h => ?_)
  · obtain ⟨A, F, S, rfl, _⟩ := h
    rfl
  · obtain ⟨A, F, S, rfl, hPA, q⟩ := h
    refine ⟨_, (pss_one (ps_expr (pe_meth0 (pv 0) T.cl_IntoEnd T.D_iseek.m G_iseek (hr.mono (by decide)) T.bb_iseek .nil (Sip.passX (takes_of rfl rfl rfl rfl))))), ?_⟩
    obtain ⟨dp, di, dq, vi, vo, G, I, hF⟩ := id hPA
    exact ⟨.ref A.ei, rfl, A.ei, di, _, rfl, I.hi, efs_no _ _ _ _ "check_seeks" (by decide +kernel), A, F, S, rfl, hPA, q⟩

theorem ok_imayT (T : Tx K mg) : FnOk P w K mg base (L2.CX P w) 1 T.f_imayT T.fd_imayT P_imayT (spNo0 (PipeAt T.C_Pipe T.C_IntoEnd T.C_OutEnd) (fun A => A.ei) T.C_NoReads) := by
  have sz : sizeLine = 16777216 := sizeLine_eq
  refine T.D_imayT.F.okX sc_imayT (fun vs H Q E h => ?_) (fun cdv A outer s H vs Q E hr h => ?_)
  · obtain ⟨A, F, S, rfl, _⟩ := h
    rfl
  · obtain ⟨A, F, S, rfl, hPA, q⟩ := h
    refine ⟨_, (pss_one (ps_raise rfl (takes_of rfl rfl rfl rfl) (Sip.pmk_own0 PySem.F.excBase_ValueError T.x_NoReads T.g_NoReads T.kk_NoReads (raises_own T.bx_NoReads T.tx_NoReads) (by rfl)))), ?_⟩
    exact q _ (Same.refl _)

theorem ok_igo (T : Tx K mg) : FnOk P w K mg base (L2.CX P w) 5 T.f_igo T.fd_igo P_igo (spRf1 (PipeAt T.C_Pipe T.C_IntoEnd T.C_OutEnd) (fun A => A.ei) (fun S => S.bi) T.C_Closed T.C_NoSeek) := by
  have G_iopen := Sip.FnOk.or (Sip.FnOk.lift (ok_iopen (P := P) (w := w) (base := base) T)) (ok_iopenB (P := P) (w := w) (base := base) T)
  have G_iseek := ok_iseek (P := P) (w := w) (base := base) T
  have C_inote := ok_inote (P := P) (w := w) (base := base) T
  have G_inote := C_inote.ok
  have sz : sizeLine = 16777216 := sizeLine_eq
  refine T.D_igo.F.okX sc_igo (fun vs H Q E h => ?_) (fun cdv A outer s H vs Q E hr h => ?_)
  · obtain ⟨A, v, F, S, rfl, _⟩ := h
    rfl
  · obtain ⟨A, v, F, S, rfl, hPA, q⟩ := h
    refine ⟨_, (pss_cons (ps_expr (pe_meth0 (pv 0) T.cl_IntoEnd T.D_iopen.m G_iopen (hr.mono (by decide)) T.bb_iopen .nil (Sip.passX (takes_of rfl rfl rfl rfl))))
      (pss_cons (ps_expr (pe_meth0 (pv 0) T.cl_IntoEnd T.D_iseek.m G_iseek (hr.mono (by decide)) T.bb_iseek .nil (Sip.passX (takes_of rfl rfl rfl rfl))))
      (pss_cons ps_never
      (pss_cons (Sip.ps_try_again rfl rfl ⟨rfl, by decide, .inl T.g_Fault⟩ (fun hd => L2H.passesAt_of rfl hd) (takes_of rfl rfl rfl rfl) (fun W pn xe tk _ => (pss_one ps_never)) (fun a oe T9 oT cls d pn ag => (pss_cons (ps_expr (Sip.pe_methC (E := fun _ _ _ => False) (pv 0) T.cl_IntoEnd T.D_inote.m C_inote (Sip.roomM (hr.mono (by decide))) T.bb_inote .nil (pa_cons pe_str (pa_cons (pv 1) (pa_cons pe_str pa_nil)))))
      (pss_one (Sip.ps_again rfl rfl (takes_of rfl rfl rfl rfl) ag)))))
      (pss_cons (ps_expr (pe_meth (pv 0) T.cl_IntoEnd T.D_inote.m G_inote (hr.mono (by decide)) T.bb_inote .nil pass0 (pa_cons pe_str (pa_cons (pv 1) (pa_cons pe_int pa_nil)))))
      (pss_one (ps_fld (pv 0) (pv 1) rfl))))))), ?_⟩
    obtain ⟨dp, di, dq, vi, vo, G, I, hF⟩ := id hPA
    have q : errN H E (if S.bi = true then T.C_Closed else T.C_NoSeek) := q
    cases hb : S.bi with
    | true =>
      rw [if_pos hb] at q
      exact ⟨.ref A.ei, rfl, A.ei, di, _, rfl, I.hi, efs_no _ _ _ _ "check_open" (by decide +kernel), .inr ⟨A, F, S, rfl, hPA, hb, q⟩⟩
    | false =>
      rw [if_neg (by rw [hb]; simp)] at q
      exact ⟨.ref A.ei, rfl, A.ei, di, _, rfl, I.hi, efs_no _ _ _ _ "check_open" (by decide +kernel), .inl ⟨A, F, S, rfl, hPA, hb, .ref A.ei, rfl, A.ei, di, _, rfl, I.hi, efs_no _ _ _ _ "check_seeks" (by decide +kernel), A, F, S, rfl, hPA, q⟩⟩

theorem ok_icut (T : Tx K mg) : FnOk P w K mg base (L2.CX P w) 5 T.f_icut T.fd_icut P_icut (spRf1 (PipeAt T.C_Pipe T.C_IntoEnd T.C_OutEnd) (fun A => A.ei) (fun S => S.bi) T.C_Closed T.C_NoSeek) := by
  have G_iopen := Sip.FnOk.or (Sip.FnOk.lift (ok_iopen (P := P) (w := w) (base := base) T)) (ok_iopenB (P := P) (w := w) (base := base) T)
  have G_imayC := ok_imayC (P := P) (w := w) (base := base) T
  have C_inote := ok_inote (P := P) (w := w) (base := base) T
  have G_inote := C_inote.ok
  have sz : sizeLine = 16777216 := sizeLine_eq
  refine T.D_icut.F.okX sc_icut (fun vs H Q E h => ?_) (fun cdv A outer s H vs Q E hr h => ?_)
  · obtain ⟨A, v, F, S, rfl, _⟩ := h
    rfl
  · obtain ⟨A, v, F, S, rfl, hPA, q⟩ := h
    refine ⟨_, (pss_cons (ps_expr (pe_meth0 (pv 0) T.cl_IntoEnd T.D_iopen.m G_iopen (hr.mono (by decide)) T.bb_iopen .nil (Sip.passX (takes_of rfl rfl rfl rfl))))
      (pss_cons (ps_expr (pe_meth0 (pv 0) T.cl_IntoEnd T.D_imayC.m G_imayC (hr.mono (by decide)) T.bb_imayC .nil (Sip.passX (takes_of rfl rfl rfl rfl))))
      (pss_cons ps_never
      (pss_cons (Sip.ps_try_again rfl rfl ⟨rfl, by decide, .inl T.g_Fault⟩ (fun hd => L2H.passesAt_of rfl hd) (takes_of rfl rfl rfl rfl) (fun W pn xe tk _ => (pss_one ps_never)) (fun a oe T9 oT cls d pn ag => (pss_cons (ps_expr (Sip.pe_methC (E := fun _ _ _ => False) (pv 0) T.cl_IntoEnd T.D_inote.m C_inote (Sip.roomM (hr.mono (by decide))) T.bb_inote .nil (pa_cons pe_str (pa_cons (pv 1) (pa_cons pe_str pa_nil)))))
      (pss_one (Sip.ps_again rfl rfl (takes_of rfl rfl rfl rfl) ag)))))
      (pss_one (ps_expr (pe_meth (pv 0) T.cl_IntoEnd T.D_inote.m G_inote (hr.mono (by decide)) T.bb_inote .nil pass0 (pa_cons pe_str (pa_cons (pv 1) (pa_cons pe_int pa_nil)))))))))), ?_⟩
    obtain ⟨dp, di, dq, vi, vo, G, I, hF⟩ := id hPA
    have q : errN H E (if S.bi = true then T.C_Closed else T.C_NoSeek) := q
    cases hb : S.bi with
    | true =>
      rw [if_pos hb] at q
      exact ⟨.ref A.ei, rfl, A.ei, di, _, rfl, I.hi, efs_no _ _ _ _ "check_open" (by decide +kernel), .inr ⟨A, F, S, rfl, hPA, hb, q⟩⟩
    | false =>
      rw [if_neg (by rw [hb]; simp)] at q
      exact ⟨.ref A.ei, rfl, A.ei, di, _, rfl, I.hi, efs_no _ _ _ _ "check_open" (by decide +kernel), .inl ⟨A, F, S, rfl, hPA, hb, .ref A.ei, rfl, A.ei, di, _, rfl, I.hi, efs_no _ _ _ _ "may_cut" (by decide +kernel), A, F, S, rfl, hPA, q⟩⟩

theorem ok_itake (T : Tx K mg) : FnOk P w K mg base (L2.CX P w) 5 T.f_itake T.fd_itake P_itake (spRf1 (PipeAt T.C_Pipe T.C_IntoEnd T.C_OutEnd) (fun A => A.ei) (fun S => S.bi) T.C_Closed T.C_NoReads) := by
  have G_iopen := Sip.FnOk.or (Sip.FnOk.lift (ok_iopen (P := P) (w := w) (base := base) T)) (ok_iopenB (P := P) (w := w) (base := base) T)
  have G_imayT := ok_imayT (P := P) (w := w) (base := base) T
  have C_inote := ok_inote (P := P) (w := w) (base := base) T
  have G_inote := C_inote.ok
  have sz : sizeLine = 16777216 := sizeLine_eq
  refine T.D_itake.F.okX sc_itake (fun vs H Q E h => ?_) (fun cdv A outer s H vs Q E hr h => ?_)
  · obtain ⟨A, v, F, S, rfl, _⟩ := h
    rfl
  · obtain ⟨A, v, F, S, rfl, hPA, q⟩ := h
    refine ⟨_, (pss_cons (ps_expr (pe_meth0 (pv 0) T.cl_IntoEnd T.D_iopen.m G_iopen (hr.mono (by decide)) T.bb_iopen .nil (Sip.passX (takes_of rfl rfl rfl rfl))))
      (pss_cons (ps_expr (pe_meth0 (pv 0) T.cl_IntoEnd T.D_imayT.m G_imayT (hr.mono (by decide)) T.bb_imayT .nil (Sip.passX (takes_of rfl rfl rfl rfl))))
      (pss_cons (Sip.ps_try_again rfl rfl ⟨rfl, by decide, .inl T.g_Fault⟩ (fun hd => L2H.passesAt_of rfl hd) (takes_of rfl rfl rfl rfl) (fun W pn xe tk _ => (pss_one ps_never)) (fun a oe T9 oT cls d pn ag => (pss_cons (ps_expr (Sip.pe_methC (E := fun _ _ _ => False) (pv 0) T.cl_IntoEnd T.D_inote.m C_inote (Sip.roomM (hr.mono (by decide))) T.bb_inote .nil (pa_cons pe_str (pa_cons (pv 1) (pa_cons pe_str pa_nil)))))
      (pss_one (Sip.ps_again rfl rfl (takes_of rfl rfl rfl rfl) ag)))))
      (pss_cons (ps_if (pt_cmpR op_isN (pv 2) pe_non (nomark _)) (pss_cons (ps_expr (pe_meth (pv 0) T.cl_IntoEnd T.D_inote.m G_inote (hr.mono (by decide)) T.bb_inote .nil pass0 (pa_cons pe_str (pa_cons (pv 1) (pa_cons pe_str pa_nil)))))
      (pss_one (ps_ret pe_non))) pss_nil)
      (pss_cons (ps_expr (pe_meth (pv 0) T.cl_IntoEnd T.D_inote.m G_inote (hr.mono (by decide)) T.bb_inote .nil pass0 (pa_cons pe_str (pa_cons (pv 1) (pa_cons (pe_callTy call_list_of (by rfl) T.m_list (by decide +kernel) (pa_cons (pv 2) pa_nil)) pa_nil)))))
      (pss_cons (ps_fldaug (pv 0) (pe_callB call_len_seq (by rfl) T.m_len PySem.boot_len (pa_cons (pv 2) pa_nil)) in_add)
      (pss_one (ps_ret (pv 2))))))))), ?_⟩
    obtain ⟨dp, di, dq, vi, vo, G, I, hF⟩ := id hPA
    have q : errN H E (if S.bi = true then T.C_Closed else T.C_NoReads) := q
    cases hb : S.bi with
    | true =>
      rw [if_pos hb] at q
      exact ⟨.ref A.ei, rfl, A.ei, di, _, rfl, I.hi, efs_no _ _ _ _ "check_open" (by decide +kernel), .inr ⟨A, F, S, rfl, hPA, hb, q⟩⟩
    | false =>
      rw [if_neg (by rw [hb]; simp)] at q
      exact ⟨.ref A.ei, rfl, A.ei, di, _, rfl, I.hi, efs_no _ _ _ _ "check_open" (by decide +kernel), .inl ⟨A, F, S, rfl, hPA, hb, .ref A.ei, rfl, A.ei, di, _, rfl, I.hi, efs_no _ _ _ _ "may_take" (by decide +kernel), A, F, S, rfl, hPA, q⟩⟩

theorem ok_osk (T : Tx K mg) : FnOk P w K mg base CX0 1 T.f_osk T.fd_osk P_osk (spSk (PipeAt T.C_Pipe T.C_IntoEnd T.C_OutEnd) (fun A => A.eo)) := by
  have sz : sizeLine = 16777216 := sizeLine_eq
  refine T.D_osk.F.ok sc_osk (fun vs H Q E h => ?_) (fun cdv A outer s H vs Q E hr h => ?_)
  · obtain ⟨A, F, S, rfl, _⟩ := h
    rfl
  · obtain ⟨A, F, S, rfl, hPA, q⟩ := h
    refine ⟨_, (pss_one (ps_ret (pe_fld (pv 0) rfl))), ?_⟩
    obtain ⟨dp, di, dq, vi, vo, G, I, hF⟩ := id hPA
    exact ⟨.ref A.eo, rfl, A.eo, T.C_OutEnd, dq, _, _, rfl, I.ho, T.cl_OutEnd, T.n_OutEnd_can_seek, efs_seek _ _ _ _, q⟩

theorem ok_oseek (T : Tx K mg) : FnOk P w K mg base (L2.CX P w) 1 T.f_oseek T.fd_oseek P_oseek (spNo0 (PipeAt T.C_Pipe T.C_IntoEnd T.C_OutEnd) (fun A => A.eo) T.C_NoSeek) := by
  have sz : sizeLine = 16777216 := sizeLine_eq
  refine T.D_oseek.F.okX sc_oseek (fun vs H Q E h => ?_) (fun cdv A outer s H vs Q E hr h => ?_)
  · obtain ⟨A, F, S, rfl, _⟩ := h
    rfl
  · obtain ⟨A, F, S, rfl, hPA, q⟩ := h
    refine ⟨_, (pss_one (ps_if (pt_not (pt_val (pe_fld (pv 0) rfl))) (pss_one (ps_raise rfl (takes_of rfl rfl rfl rfl) (Sip.pmk_own0 PySem.F.excBase_ValueError T.x_NoSeek T.g_NoSeek T.kk_NoSeek (raises_own T.bx_NoSeek T.tx_NoSeek) (by rfl)))) pss_nil)), ?_⟩
    obtain ⟨dp, di, dq, vi, vo, G, I, hF⟩ := id hPA
    exact ⟨.ref A.eo, rfl, A.eo, T.C_OutEnd, dq, _, _, rfl, I.ho, T.cl_OutEnd, T.n_OutEnd_can_seek, efs_seek _ _ _ _, _, rfl, iteT (q _ (Same.refl _))⟩

theorem ok_oplace (T : Tx K mg) : FnOk P w K mg base (L2.CX P w) 2 T.f_oplace T.fd_oplace P_oplace (spNo0 (PipeAt T.C_Pipe T.C_IntoEnd T.C_OutEnd) (fun A => A.eo) T.C_NoSeek) := by
  have G_oseek := ok_oseek (P := P) (w := w) (base := base) T
  have sz : sizeLine = 16777216 := sizeLine_eq
  refine T.D_oplace.F.okX sc_oplace (fun vs H Q E h => ?_) (fun cdv A outer s H vs Q E hr h => ?_)
  · obtain ⟨A, F, S, rfl, _⟩ := h
    rfl
  · obtain ⟨A, F, S, rfl, hPA, q⟩ := h
    refine ⟨_, (pss_cons (ps_expr (pe_meth0 (pv 0) T.cl_OutEnd T.D_oseek.m G_oseek (hr.mono (by decide)) T.bb_oseek .nil (Sip.passX (takes_of rfl rfl rfl rfl))))
      (pss_one (ps_ret (pe_fld (pv 0) rfl)))), ?_⟩
    obtain ⟨dp, di, dq, vi, vo, G, I, hF⟩ := id hPA
    exact ⟨.ref A.eo, rfl, A.eo, dq, _, rfl, I.ho, efs_no _ _ _ _ "check_seeks" (by decide +kernel), A, F, S, rfl, hPA, q⟩

theorem ok_osize (T : Tx K mg) : FnOk P w K mg base (L2.CX P w) 2 T.f_osize T.fd_osize P_osize (spNo0 (PipeAt T.C_Pipe T.C_IntoEnd T.C_OutEnd) (fun A => A.eo) T.C_NoSeek) := by
  have G_oseek := ok_oseek (P := P) (w := w) (base := base) T
  have sz : sizeLine = 16777216 := sizeLine_eq
  refine T.D_osize.F.okX sc_osize (fun vs H Q E h => ?_) (fun cdv A outer s H vs Q E hr h => ?_)
  · obtain ⟨A, F, S, rfl, _⟩ := h
    rfl
  · obtain ⟨A, F, S, rfl, hPA, q⟩ := h
    refine ⟨_, (pss_cons (ps_expr (pe_meth0 (pv 0) T.cl_OutEnd T.D_oseek.m G_oseek (hr.mono (by decide)) T.bb_oseek .nil (Sip.passX (takes_of rfl rfl rfl rfl))))
      (pss_one ps_never)), ?_⟩
    obtain ⟨dp, di, dq, vi, vo, G, I, hF⟩ := id hPA
    exact ⟨.ref A.eo, rfl, A.eo, dq, _, rfl, I.ho, efs_no _ _ _ _ "check_seeks" (by decide +kernel), A, F, S, rfl, hPA, q⟩

theorem ok_omayC (T : Tx K mg) : FnOk P w K mg base (L2.CX P w) 2 T.f_omayC T.fd_omayC P_omayC (spNo0 (PipeAt T.C_Pipe T.C_IntoEnd T.C_OutEnd) (fun A => A.eo) T.C_NoSeek) := by
  have G_oseek := ok_oseek (P := P) (w := w) (base := base) T
  have sz : sizeLine = 16777216 := sizeLine_eq
  refine T.D_omayC.F.okX sc_omayC (fun vs H Q E h => ?_) (fun cdv A outer s H vs Q E hr h => ?_)
  · obtain ⟨A, F, S, rfl, _⟩ := h
    rfl
  · obtain ⟨A, F, S, rfl, hPA, q⟩ := h
    refine ⟨_, (pss_one (ps_expr (pe_meth0 (pv 0) T.cl_OutEnd T.D_oseek.m G_oseek (hr.mono (by decide)) T.bb_oseek .nil (Sip.passX (takes_of rfl rfl rfl rfl))))), ?_⟩
    obtain ⟨dp, di, dq, vi, vo, G, I, hF⟩ := id hPA
    exact ⟨.ref A.eo, rfl, A.eo, dq, _, rfl, I.ho, efs_no _ _ _ _ "check_seeks" (by decide +kernel), A, F, S, rfl, hPA, q⟩

theorem ok_omayP (T : Tx K mg) : FnOk P w K mg base (L2.CX P w) 1 T.f_omayP T.fd_omayP P_omayP (spNo1 (PipeAt T.C_Pipe T.C_IntoEnd T.C_OutEnd) (fun A => A.eo) T.C_NoWrites) := by
  have sz : sizeLine = 16777216 := sizeLine_eq
  refine T.D_omayP.F.okX sc_omayP (fun vs H Q E h => ?_) (fun cdv A outer s H vs Q E hr h => ?_)
  · obtain ⟨A, v, F, S, rfl, _⟩ := h
    rfl
  · obtain ⟨A, v, F, S, rfl, hPA, q⟩ := h
    refine ⟨_, (pss_one (ps_raise rfl (takes_of rfl rfl rfl rfl) (Sip.pmk_own0 PySem.F.excBase_ValueError T.x_NoWrites T.g_NoWrites T.kk_NoWrites (raises_own T.bx_NoWrites T.tx_NoWrites) (by rfl)))), ?_⟩
    exact q _ (Same.refl _)

theorem ok_ogo (T : Tx K mg) : FnOk P w K mg base (L2.CX P w) 5 T.f_ogo T.fd_ogo P_ogo (spRf1 (PipeAt T.C_Pipe T.C_IntoEnd T.C_OutEnd) (fun A => A.eo) (fun S => S.bo) T.C_Closed T.C_NoSeek) := by
  have G_oopen := Sip.FnOk.or (Sip.FnOk.lift (ok_oopen (P := P) (w := w) (base := base) T)) (ok_oopenB (P := P) (w := w) (base := base) T)
  have G_oseek := ok_oseek (P := P) (w := w) (base := base) T
  have C_onote := ok_onote (P := P) (w := w) (base := base) T
  have G_onote := C_onote.ok
  have sz : sizeLine = 16777216 := sizeLine_eq
  refine T.D_ogo.F.okX sc_ogo (fun vs H Q E h => ?_) (fun cdv A outer s H vs Q E hr h => ?_)
  · obtain ⟨A, v, F, S, rfl, _⟩ := h
    rfl
  · obtain ⟨A, v, F, S, rfl, hPA, q⟩ := h
    refine ⟨_, (pss_cons (ps_expr (pe_meth0 (pv 0) T.cl_OutEnd T.D_oopen.m G_oopen (hr.mono (by decide)) T.bb_oopen .nil (Sip.passX (takes_of rfl rfl rfl rfl))))
      (pss_cons (ps_expr (pe_meth0 (pv 0) T.cl_OutEnd T.D_oseek.m G_oseek (hr.mono (by decide)) T.bb_oseek .nil (Sip.passX (takes_of rfl rfl rfl rfl))))
      (pss_cons ps_never
      (pss_cons (Sip.ps_try_again rfl rfl ⟨rfl, by decide, .inl T.g_Fault⟩ (fun hd => L2H.passesAt_of rfl hd) (takes_of rfl rfl rfl rfl) (fun W pn xe tk _ => (pss_one ps_never)) (fun a oe T9 oT cls d pn ag => (pss_cons (ps_expr (Sip.pe_methC (E := fun _ _ _ => False) (pv 0) T.cl_OutEnd T.D_onote.m C_onote (Sip.roomM (hr.mono (by decide))) T.bb_onote .nil (pa_cons pe_str (pa_cons (pv 1) (pa_cons pe_str pa_nil)))))
      (pss_one (Sip.ps_again rfl rfl (takes_of rfl rfl rfl rfl) ag)))))
      (pss_cons (ps_expr (pe_meth (pv 0) T.cl_OutEnd T.D_onote.m G_onote (hr.mono (by decide)) T.bb_onote .nil pass0 (pa_cons pe_str (pa_cons (pv 1) (pa_cons pe_int pa_nil)))))
      (pss_one (ps_fld (pv 0) (pv 1) rfl))))))), ?_⟩
    obtain ⟨dp, di, dq, vi, vo, G, I, hF⟩ := id hPA
    have q : errN H E (if S.bo = true then T.C_Closed else T.C_NoSeek) := q
    cases hb : S.bo with
    | true =>
      rw [if_pos hb] at q
      exact ⟨.ref A.eo, rfl, A.eo, dq, _, rfl, I.ho, efs_no _ _ _ _ "check_open" (by decide +kernel), .inr ⟨A, F, S, rfl, hPA, hb, q⟩⟩
    | false =>
      rw [if_neg (by rw [hb]; simp)] at q
      exact ⟨.ref A.eo, rfl, A.eo, dq, _, rfl, I.ho, efs_no _ _ _ _ "check_open" (by decide +kernel), .inl ⟨A, F, S, rfl, hPA, hb, .ref A.eo, rfl, A.eo, dq, _, rfl, I.ho, efs_no _ _ _ _ "check_seeks" (by decide +kernel), A, F, S, rfl, hPA, q⟩⟩

theorem ok_ocut (T : Tx K mg) : FnOk P w K mg base (L2.CX P w) 5 T.f_ocut T.fd_ocut P_ocut (spRf1 (PipeAt T.C_Pipe T.C_IntoEnd T.C_OutEnd) (fun A => A.eo) (fun S => S.bo) T.C_Closed T.C_NoSeek) := by
  have G_oopen := Sip.FnOk.or (Sip.FnOk.lift (ok_oopen (P := P) (w := w) (base := base) T)) (ok_oopenB (P := P) (w := w) (base := base) T)
  have G_omayC := ok_omayC (P := P) (w := w) (base := base) T
  have C_onote := ok_onote (P := P) (w := w) (base := base) T
  have G_onote := C_onote.ok
  have sz : sizeLine = 16777216 := sizeLine_eq
  refine T.D_ocut.F.okX sc_ocut (fun vs H Q E h => ?_) (fun cdv A outer s H vs Q E hr h => ?_)
  · obtain ⟨A, v, F, S, rfl, _⟩ := h
    rfl
  · obtain ⟨A, v, F, S, rfl, hPA, q⟩ := h
    refine ⟨_, (pss_cons (ps_expr (pe_meth0 (pv 0) T.cl_OutEnd T.D_oopen.m G_oopen (hr.mono (by decide)) T.bb_oopen .nil (Sip.passX (takes_of rfl rfl rfl rfl))))
      (pss_cons (ps_expr (pe_meth0 (pv 0) T.cl_OutEnd T.D_omayC.m G_omayC (hr.mono (by decide)) T.bb_omayC .nil (Sip.passX (takes_of rfl rfl rfl rfl))))
      (pss_cons ps_never
      (pss_cons (Sip.ps_try_again rfl rfl ⟨rfl, by decide, .inl T.g_Fault⟩ (fun hd => L2H.passesAt_of rfl hd) (takes_of rfl rfl rfl rfl) (fun W pn xe tk _ => (pss_one ps_never)) (fun a oe T9 oT cls d pn ag => (pss_cons (ps_expr (Sip.pe_methC (E := fun _ _ _ => False) (pv 0) T.cl_OutEnd T.D_onote.m C_onote (Sip.roomM (hr.mono (by decide))) T.bb_onote .nil (pa_cons pe_str (pa_cons (pv 1) (pa_cons pe_str pa_nil)))))
      (pss_one (Sip.ps_again rfl rfl (takes_of rfl rfl rfl rfl) ag)))))
      (pss_one (ps_expr (pe_meth (pv 0) T.cl_OutEnd T.D_onote.m G_onote (hr.mono (by decide)) T.bb_onote .nil pass0 (pa_cons pe_str (pa_cons (pv 1) (pa_cons pe_int pa_nil)))))))))), ?_⟩
    obtain ⟨dp, di, dq, vi, vo, G, I, hF⟩ := id hPA
    have q : errN H E (if S.bo = true then T.C_Closed else T.C_NoSeek) := q
    cases hb : S.bo with
    | true =>
      rw [if_pos hb] at q
      exact ⟨.ref A.eo, rfl, A.eo, dq, _, rfl, I.ho, efs_no _ _ _ _ "check_open" (by decide +kernel), .inr ⟨A, F, S, rfl, hPA, hb, q⟩⟩
    | false =>
      rw [if_neg (by rw [hb]; simp)] at q
      exact ⟨.ref A.eo, rfl, A.eo, dq, _, rfl, I.ho, efs_no _ _ _ _ "check_open" (by decide +kernel), .inl ⟨A, F, S, rfl, hPA, hb, .ref A.eo, rfl, A.eo, dq, _, rfl, I.ho, efs_no _ _ _ _ "may_cut" (by decide +kernel), A, F, S, rfl, hPA, q⟩⟩

theorem ok_oput (T : Tx K mg) : FnOk P w K mg base (L2.CX P w) 5 T.f_oput T.fd_oput P_oput (spRf1 (PipeAt T.C_Pipe T.C_IntoEnd T.C_OutEnd) (fun A => A.eo) (fun S => S.bo) T.C_Closed T.C_NoWrites) := by
  have G_oopen := Sip.FnOk.or (Sip.FnOk.lift (ok_oopen (P := P) (w := w) (base := base) T)) (ok_oopenB (P := P) (w := w) (base := base) T)
  have G_omayP := ok_omayP (P := P) (w := w) (base := base) T
  have C_onote := ok_onote (P := P) (w := w) (base := base) T
  have G_onote := C_onote.ok
  have sz : sizeLine = 16777216 := sizeLine_eq
  refine T.D_oput.F.okX sc_oput (fun vs H Q E h => ?_) (fun cdv A outer s H vs Q E hr h => ?_)
  · obtain ⟨A, v, F, S, rfl, _⟩ := h
    rfl
  · obtain ⟨A, v, F, S, rfl, hPA, q⟩ := h
    refine ⟨_, (pss_cons (ps_expr (pe_meth0 (pv 0) T.cl_OutEnd T.D_oopen.m G_oopen (hr.mono (by decide)) T.bb_oopen .nil (Sip.passX (takes_of rfl rfl rfl rfl))))
      (pss_cons (ps_expr (pe_meth (pv 0) T.cl_OutEnd T.D_omayP.m G_omayP (hr.mono (by decide)) T.bb_omayP .nil (Sip.passX (takes_of rfl rfl rfl rfl)) (pa_cons (pv 1) pa_nil)))
      (pss_cons (ps_set (i := 2) sc_oput.nd rfl (.inl rfl) (pe_callTy call_list_of (by rfl) T.m_list (by decide +kernel) (pa_cons (pv 1) pa_nil)))
      (pss_cons (Sip.ps_try_again rfl rfl ⟨rfl, by decide, .inl T.g_Fault⟩ (fun hd => L2H.passesAt_of rfl hd) (takes_of rfl rfl rfl rfl) (fun W pn xe tk _ => (pss_one ps_never)) (fun a oe T9 oT cls d pn ag => (pss_cons (ps_expr (Sip.pe_methC (E := fun _ _ _ => False) (pv 0) T.cl_OutEnd T.D_onote.m C_onote (Sip.roomM (hr.mono (by decide))) T.bb_onote .nil (pa_cons pe_str (pa_cons (pv 2) (pa_cons pe_str pa_nil)))))
      (pss_one (Sip.ps_again rfl rfl (takes_of rfl rfl rfl rfl) ag)))))
      (pss_cons (ps_if (pt_cmpR op_isN (pv 3) pe_non (nomark _)) (pss_cons (ps_expr (pe_meth (pv 0) T.cl_OutEnd T.D_onote.m G_onote (hr.mono (by decide)) T.bb_onote .nil pass0 (pa_cons pe_str (pa_cons (pv 2) (pa_cons pe_str pa_nil)))))
      (pss_one (ps_ret pe_non))) pss_nil)
      (pss_cons (ps_expr (pe_meth (pv 0) T.cl_OutEnd T.D_onote.m G_onote (hr.mono (by decide)) T.bb_onote .nil pass0 (pa_cons pe_str (pa_cons (pv 2) (pa_cons (pv 3) pa_nil)))))
      (pss_cons (ps_fldaug (pv 0) (pv 3) in_add)
      (pss_one (ps_ret (pv 3)))))))))), ?_⟩
    obtain ⟨dp, di, dq, vi, vo, G, I, hF⟩ := id hPA
    have q : errN H E (if S.bo = true then T.C_Closed else T.C_NoWrites) := q
    cases hb : S.bo with
    | true =>
      rw [if_pos hb] at q
      exact ⟨.ref A.eo, rfl, A.eo, dq, _, rfl, I.ho, efs_no _ _ _ _ "check_open" (by decide +kernel), .inr ⟨A, F, S, rfl, hPA, hb, q⟩⟩
    | false =>
      rw [if_neg (by rw [hb]; simp)] at q
      exact ⟨.ref A.eo, rfl, A.eo, dq, _, rfl, I.ho, efs_no _ _ _ _ "check_open" (by decide +kernel), .inl ⟨A, F, S, rfl, hPA, hb, .ref A.eo, rfl, A.eo, dq, _, rfl, I.ho, efs_no _ _ _ _ "may_put" (by decide +kernel), v, rfl, A, v, F, S, rfl, hPA, q⟩⟩

theorem ok_ltriedO (T : Tx K mg) : FnOk P w K mg base CX0 9 T.f_ltried T.fd_ltried P_ltried (spTried false T.C_Pipe T.C_IntoEnd T.C_OutEnd) := by
  have G_oput := (ok_oput (P := P) (w := w) (base := base) T).imp fun _ _ _ _ => spRfOS.to
  have G_ogo := (ok_ogo (P := P) (w := w) (base := base) T).imp fun _ _ _ _ => spRfOS.to
  have G_ocut := (ok_ocut (P := P) (w := w) (base := base) T).imp fun _ _ _ _ => spRfOS.to
  have G_oplace := (ok_oplace (P := P) (w := w) (base := base) T).imp fun _ _ _ _ => spNoOS.to
  have G_osize := (ok_osize (P := P) (w := w) (base := base) T).imp fun _ _ _ _ => spNoOS.to
  have G_otake := Sip.FnOk.lift (CX := L2.CX P w) (ok_otake (P := P) (w := w) (base := base) T)
  have C_lrefusal := ok_lrefusal (P := P) (w := w) (base := base) T
  have G_lrefusal := C_lrefusal.ok
  have sz : sizeLine = 16777216 := sizeLine_eq
  refine T.D_ltried.F.ok sc_ltried (fun vs H Q E h => ?_) (fun cdv A outer s H vs Q E hr h => ?_)
  · obtain ⟨p, ei, eo, j, n, S, R, rfl, _⟩ := h
    rfl
  · obtain ⟨p, ei, eo, j, n, S, R, rfl, j5, hS, q⟩ := h
    refine ⟨_, (pss_cons (ps_set (i := 3) sc_ltried.nd rfl (.inl rfl) pe_str)
      (pss_cons (Sip.ps_try_mixB rfl rfl takes0 (fun W pn xe tk _ => (pss_one (ps_if (pt_cmpR op_eq (pv 1) pe_str (nomark _)) (pss_one (ps_expr (by exact (Sip.pe_methT (pv 0) T.cl_OutEnd T.D_otake.m G_otake (hr.mono (by decide)) T.bb_otake (fun σ => passAt tk σ) (by exact (pa_cons (pv 2) pa_nil)))))) (pss_one (ps_if (pt_cmpR op_eq (pv 1) pe_str (nomark _)) (pss_one (ps_expr (by exact (Sip.pe_methT (pv 0) T.cl_OutEnd T.D_oput.m G_oput (hr.mono (by decide)) T.bb_oput (fun σ => passAt tk σ) (by exact (pa_cons (pe_lst (pa_cons (pe_op op_mod (pv 2) pe_int) pa_nil)) pa_nil)))))) (pss_one (ps_if (pt_cmpR op_eq (pv 1) pe_str (nomark _)) (pss_one (ps_expr (by exact (Sip.pe_methT (pv 0) T.cl_OutEnd T.D_ogo.m G_ogo (hr.mono (by decide)) T.bb_ogo (fun σ => passAt tk σ) (by exact (pa_cons (pv 2) pa_nil)))))) (pss_one (ps_if (pt_cmpR op_eq (pv 1) pe_str (nomark _)) (pss_one (ps_expr (by exact (Sip.pe_methT (pv 0) T.cl_OutEnd T.D_ocut.m G_ocut (hr.mono (by decide)) T.bb_ocut (fun σ => passAt tk σ) (by exact (pa_cons (pv 2) pa_nil)))))) (pss_one (ps_if (pt_cmpR op_eq (pv 1) pe_str (nomark _)) (pss_one (ps_expr (by exact (Sip.pe_meth0T (pv 0) T.cl_OutEnd T.D_oplace.m G_oplace (hr.mono (by decide)) T.bb_oplace .nil (fun σ => passAt tk σ))))) (pss_one (ps_expr (by exact (Sip.pe_meth0T (pv 0) T.cl_OutEnd T.D_osize.m G_osize (hr.mono (by decide)) T.bb_osize .nil (fun σ => passAt tk σ)))))))))))))))) (Sip.ClsOkB.cons (o := some 4) ⟨rfl, by decide, .inl T.g_SipError⟩ ⟨sc_ltried.nd, rfl, rfl⟩ (fun a oe cls d pn hz hf hnb => (pss_one (ps_set (i := 3) sc_ltried.nd rfl (.inl rfl) (show PE _ _ (Sip.tCallE _ a cls d _) from Sip.pe_callE C_lrefusal (Sip.roomM (hr.mono (by decide))) (by rfl) T.D_lrefusal.g T.D_lrefusal.F.kp T.bb_lrefusal hz hf hnb (pv 4))))) Sip.ClsOkB.nil))
      (pss_one (ps_ret (pv 3))))), ?_⟩
    have hQ : ∀ (i : Nat) (x : Addr) (o : Obj), True := fun _ _ _ => trivial
    rcases (show j = 0 ∨ j = 1 ∨ j = 2 ∨ j = 3 ∨ j = 4 by omega) with rfl | rfl | rfl | rfl | rfl
    · refine ⟨_, rfl, rfl, _, rfl, iteFc (by decide +kernel) ?_⟩
      refine ⟨_, rfl, rfl, _, rfl, iteTc (decide_eq_true rfl) ?_⟩
      refine ⟨.ref eo, rfl, meth_po hS (by walk_at "pu") (by decide +kernel) ?_⟩
      refine ⟨_, rfl, _, _, rfl, rfl, (show (0 : Int) < 256 from by decide), by show (1 : Nat) ≤ sizeLine; omega, ?_⟩
      intro d nl_
      generalize hG_ : upd _ d _ = H
      have hS := Sat.alloc hS nl_ hG_
      clear nl_ hG_
      refine ⟨p, ei, eo, _, S, _, rfl, (hS.pk (by walk_at "pk")), fun H hS => ?_⟩
      cases hb : S.bo with
      | true =>
        rw [if_pos (show true = true from rfl)]
        rw [hb] at q
        refine ⟨true, T.te_Closed_SipError, fun _ x nx => ?_, fun h => nomatch h⟩
        refine ⟨.ref x, rfl, rfl, fun na o hz hf => ?_⟩
        refine ⟨x, o, 0, rfl, by decide, upd_same, hz, hf, fun H1 s1 => ?_⟩
        have hS := Sat.lentB hS na s1
        refine ⟨_, rfl, ?_⟩
        exact q _ (hS.pk (by walk_at "pk"))
      | false =>
        rw [if_neg (show ¬ (false = true) by simp)]
        rw [hb] at q
        refine ⟨true, T.te_NoWrites_SipError, fun _ x nx => ?_, fun h => nomatch h⟩
        refine ⟨.ref x, rfl, rfl, fun na o hz hf => ?_⟩
        refine ⟨x, o, 3, rfl, by decide, upd_same, hz, hf, fun H1 s1 => ?_⟩
        have hS := Sat.lentB hS na s1
        refine ⟨_, rfl, ?_⟩
        exact q _ (hS.pk (by walk_at "pk"))
    · refine ⟨_, rfl, rfl, _, rfl, iteFc (by decide +kernel) ?_⟩
      refine ⟨_, rfl, rfl, _, rfl, iteFc (by decide +kernel) ?_⟩
      refine ⟨_, rfl, rfl, _, rfl, iteTc (decide_eq_true rfl) ?_⟩
      refine ⟨.ref eo, rfl, meth_po hS (by walk_at "pu") (by decide +kernel) ?_⟩
      refine ⟨_, rfl, p, ei, eo, _, S, _, rfl, (hS.pk (by walk_at "pk")), fun H hS => ?_⟩
      cases hb : S.bo with
      | true =>
        rw [if_pos (show true = true from rfl)]
        rw [hb] at q
        refine ⟨true, T.te_Closed_SipError, fun _ x nx => ?_, fun h => nomatch h⟩
        refine ⟨.ref x, rfl, rfl, fun na o hz hf => ?_⟩
        refine ⟨x, o, 0, rfl, by decide, upd_same, hz, hf, fun H1 s1 => ?_⟩
        have hS := Sat.lentB hS na s1
        refine ⟨_, rfl, ?_⟩
        exact q _ (hS.pk (by walk_at "pk"))
      | false =>
        rw [if_neg (show ¬ (false = true) by simp)]
        rw [hb] at q
        refine ⟨true, T.te_NoSeek_SipError, fun _ x nx => ?_, fun h => nomatch h⟩
        refine ⟨.ref x, rfl, rfl, fun na o hz hf => ?_⟩
        refine ⟨x, o, 1, rfl, by decide, upd_same, hz, hf, fun H1 s1 => ?_⟩
        have hS := Sat.lentB hS na s1
        refine ⟨_, rfl, ?_⟩
        exact q _ (hS.pk (by walk_at "pk"))
    · refine ⟨_, rfl, rfl, _, rfl, iteFc (by decide +kernel) ?_⟩
      refine ⟨_, rfl, rfl, _, rfl, iteFc (by decide +kernel) ?_⟩
      refine ⟨_, rfl, rfl, _, rfl, iteFc (by decide +kernel) ?_⟩
      refine ⟨_, rfl, rfl, _, rfl, iteTc (decide_eq_true rfl) ?_⟩
      refine ⟨.ref eo, rfl, meth_po hS (by walk_at "pu") (by decide +kernel) ?_⟩
      refine ⟨_, rfl, p, ei, eo, _, S, _, rfl, (hS.pk (by walk_at "pk")), fun H hS => ?_⟩
      cases hb : S.bo with
      | true =>
        rw [if_pos (show true = true from rfl)]
        rw [hb] at q
        refine ⟨true, T.te_Closed_SipError, fun _ x nx => ?_, fun h => nomatch h⟩
        refine ⟨.ref x, rfl, rfl, fun na o hz hf => ?_⟩
        refine ⟨x, o, 0, rfl, by decide, upd_same, hz, hf, fun H1 s1 => ?_⟩
        have hS := Sat.lentB hS na s1
        refine ⟨_, rfl, ?_⟩
        exact q _ (hS.pk (by walk_at "pk"))
      | false =>
        rw [if_neg (show ¬ (false = true) by simp)]
        rw [hb] at q
        refine ⟨true, T.te_NoSeek_SipError, fun _ x nx => ?_, fun h => nomatch h⟩
        refine ⟨.ref x, rfl, rfl, fun na o hz hf => ?_⟩
        refine ⟨x, o, 1, rfl, by decide, upd_same, hz, hf, fun H1 s1 => ?_⟩
        have hS := Sat.lentB hS na s1
        refine ⟨_, rfl, ?_⟩
        exact q _ (hS.pk (by walk_at "pk"))
    · refine ⟨_, rfl, rfl, _, rfl, iteFc (by decide +kernel) ?_⟩
      refine ⟨_, rfl, rfl, _, rfl, iteFc (by decide +kernel) ?_⟩
      refine ⟨_, rfl, rfl, _, rfl, iteFc (by decide +kernel) ?_⟩
      refine ⟨_, rfl, rfl, _, rfl, iteFc (by decide +kernel) ?_⟩
      refine ⟨_, rfl, rfl, _, rfl, iteTc (decide_eq_true rfl) ?_⟩
      refine ⟨.ref eo, rfl, meth_po hS (by walk_at "pu") (by decide +kernel) ⟨p, ei, eo, S, _, rfl, (hS.pk (by walk_at "pk")), fun H hS => ?_⟩⟩
      refine ⟨true, T.te_NoSeek_SipError, fun _ x nx => ?_, fun h => nomatch h⟩
      refine ⟨.ref x, rfl, rfl, fun na o hz hf => ?_⟩
      refine ⟨x, o, 1, rfl, by decide, upd_same, hz, hf, fun H1 s1 => ?_⟩
      have hS := Sat.lentB hS na s1
      refine ⟨_, rfl, ?_⟩
      exact q _ (hS.pk (by walk_at "pk"))
    · refine ⟨_, rfl, rfl, _, rfl, iteFc (by decide +kernel) ?_⟩
      refine ⟨_, rfl, rfl, _, rfl, iteFc (by decide +kernel) ?_⟩
      refine ⟨_, rfl, rfl, _, rfl, iteFc (by decide +kernel) ?_⟩
      refine ⟨_, rfl, rfl, _, rfl, iteFc (by decide +kernel) ?_⟩
      refine ⟨_, rfl, rfl, _, rfl, iteFc (by decide +kernel) ?_⟩
      refine ⟨.ref eo, rfl, meth_po hS (by walk_at "pu") (by decide +kernel) ⟨p, ei, eo, S, _, rfl, (hS.pk (by walk_at "pk")), fun H hS => ?_⟩⟩
      refine ⟨true, T.te_NoSeek_SipError, fun _ x nx => ?_, fun h => nomatch h⟩
      refine ⟨.ref x, rfl, rfl, fun na o hz hf => ?_⟩
      refine ⟨x, o, 1, rfl, by decide, upd_same, hz, hf, fun H1 s1 => ?_⟩
      have hS := Sat.lentB hS na s1
      refine ⟨_, rfl, ?_⟩
      exact q _ (hS.pk (by walk_at "pk"))

theorem ok_ltriedI (T : Tx K mg) : FnOk P w K mg base CX0 9 T.f_ltried T.fd_ltried P_ltried (spTried true T.C_Pipe T.C_IntoEnd T.C_OutEnd) := by
  have G_itake := (ok_itake (P := P) (w := w) (base := base) T).imp fun _ _ _ _ => spRfIS.to
  have G_igo := (ok_igo (P := P) (w := w) (base := base) T).imp fun _ _ _ _ => spRfIS.to
  have G_icut := (ok_icut (P := P) (w := w) (base := base) T).imp fun _ _ _ _ => spRfIS.to
  have G_iplace := (ok_iplace (P := P) (w := w) (base := base) T).imp fun _ _ _ _ => spNoIS.to
  have G_isize := (ok_isize (P := P) (w := w) (base := base) T).imp fun _ _ _ _ => spNoIS.to
  have G_iput := Sip.FnOk.lift (CX := L2.CX P w) (ok_iput (P := P) (w := w) (base := base) T)
  have C_lrefusal := ok_lrefusal (P := P) (w := w) (base := base) T
  have G_lrefusal := C_lrefusal.ok
  have sz : sizeLine = 16777216 := sizeLine_eq
  refine T.D_ltried.F.ok sc_ltried (fun vs H Q E h => ?_) (fun cdv A outer s H vs Q E hr h => ?_)
  · obtain ⟨p, ei, eo, j, n, S, R, rfl, _⟩ := h
    rfl
  · obtain ⟨p, ei, eo, j, n, S, R, rfl, j5, hS, q⟩ := h
    refine ⟨_, (pss_cons (ps_set (i := 3) sc_ltried.nd rfl (.inl rfl) pe_str)
      (pss_cons (Sip.ps_try_mixB rfl rfl takes0 (fun W pn xe tk _ => (pss_one (ps_if (pt_cmpR op_eq (pv 1) pe_str (nomark _)) (pss_one (ps_expr (by exact (Sip.pe_methT (pv 0) T.cl_IntoEnd T.D_itake.m G_itake (hr.mono (by decide)) T.bb_itake (fun σ => passAt tk σ) (by exact (pa_cons (pv 2) pa_nil)))))) (pss_one (ps_if (pt_cmpR op_eq (pv 1) pe_str (nomark _)) (pss_one (ps_expr (by exact (Sip.pe_methT (pv 0) T.cl_IntoEnd T.D_iput.m G_iput (hr.mono (by decide)) T.bb_iput (fun σ => passAt tk σ) (by exact (pa_cons (pe_lst (pa_cons (pe_op op_mod (pv 2) pe_int) pa_nil)) pa_nil)))))) (pss_one (ps_if (pt_cmpR op_eq (pv 1) pe_str (nomark _)) (pss_one (ps_expr (by exact (Sip.pe_methT (pv 0) T.cl_IntoEnd T.D_igo.m G_igo (hr.mono (by decide)) T.bb_igo (fun σ => passAt tk σ) (by exact (pa_cons (pv 2) pa_nil)))))) (pss_one (ps_if (pt_cmpR op_eq (pv 1) pe_str (nomark _)) (pss_one (ps_expr (by exact (Sip.pe_methT (pv 0) T.cl_IntoEnd T.D_icut.m G_icut (hr.mono (by decide)) T.bb_icut (fun σ => passAt tk σ) (by exact (pa_cons (pv 2) pa_nil)))))) (pss_one (ps_if (pt_cmpR op_eq (pv 1) pe_str (nomark _)) (pss_one (ps_expr (by exact (Sip.pe_meth0T (pv 0) T.cl_IntoEnd T.D_iplace.m G_iplace (hr.mono (by decide)) T.bb_iplace .nil (fun σ => passAt tk σ))))) (pss_one (ps_expr (by exact (Sip.pe_meth0T (pv 0) T.cl_IntoEnd T.D_isize.m G_isize (hr.mono (by decide)) T.bb_isize .nil (fun σ => passAt tk σ)))))))))))))))) (Sip.ClsOkB.cons (o := some 4) ⟨rfl, by decide, .inl T.g_SipError⟩ ⟨sc_ltried.nd, rfl, rfl⟩ (fun a oe cls d pn hz hf hnb => (pss_one (ps_set (i := 3) sc_ltried.nd rfl (.inl rfl) (show PE _ _ (Sip.tCallE _ a cls d _) from Sip.pe_callE C_lrefusal (Sip.roomM (hr.mono (by decide))) (by rfl) T.D_lrefusal.g T.D_lrefusal.F.kp T.bb_lrefusal hz hf hnb (pv 4))))) Sip.ClsOkB.nil))
      (pss_one (ps_ret (pv 3))))), ?_⟩
    have hQ : ∀ (i : Nat) (x : Addr) (o : Obj), True := fun _ _ _ => trivial
    rcases (show j = 0 ∨ j = 1 ∨ j = 2 ∨ j = 3 ∨ j = 4 by omega) with rfl | rfl | rfl | rfl | rfl
    · refine ⟨_, rfl, rfl, _, rfl, iteTc (decide_eq_true rfl) ?_⟩
      refine ⟨.ref ei, rfl, meth_pi hS (by walk_at "pu") (by decide +kernel) ?_⟩
      refine ⟨_, rfl, p, ei, eo, _, S, _, rfl, (hS.pk (by walk_at "pk")), fun H hS => ?_⟩
      cases hb : S.bi with
      | true =>
        rw [if_pos (show true = true from rfl)]
        rw [hb] at q
        refine ⟨true, T.te_Closed_SipError, fun _ x nx => ?_, fun h => nomatch h⟩
        refine ⟨.ref x, rfl, rfl, fun na o hz hf => ?_⟩
        refine ⟨x, o, 0, rfl, by decide, upd_same, hz, hf, fun H1 s1 => ?_⟩
        have hS := Sat.lentB hS na s1
        refine ⟨_, rfl, ?_⟩
        exact q _ (hS.pk (by walk_at "pk"))
      | false =>
        rw [if_neg (show ¬ (false = true) by simp)]
        rw [hb] at q
        refine ⟨true, T.te_NoReads_SipError, fun _ x nx => ?_, fun h => nomatch h⟩
        refine ⟨.ref x, rfl, rfl, fun na o hz hf => ?_⟩
        refine ⟨x, o, 2, rfl, by decide, upd_same, hz, hf, fun H1 s1 => ?_⟩
        have hS := Sat.lentB hS na s1
        refine ⟨_, rfl, ?_⟩
        exact q _ (hS.pk (by walk_at "pk"))
    · refine ⟨_, rfl, rfl, _, rfl, iteFc (by decide +kernel) ?_⟩
      refine ⟨_, rfl, rfl, _, rfl, iteFc (by decide +kernel) ?_⟩
      refine ⟨_, rfl, rfl, _, rfl, iteTc (decide_eq_true rfl) ?_⟩
      refine ⟨.ref ei, rfl, meth_pi hS (by walk_at "pu") (by decide +kernel) ?_⟩
      refine ⟨_, rfl, p, ei, eo, _, S, _, rfl, (hS.pk (by walk_at "pk")), fun H hS => ?_⟩
      cases hb : S.bi with
      | true =>
        rw [if_pos (show true = true from rfl)]
        rw [hb] at q
        refine ⟨true, T.te_Closed_SipError, fun _ x nx => ?_, fun h => nomatch h⟩
        refine ⟨.ref x, rfl, rfl, fun na o hz hf => ?_⟩
        refine ⟨x, o, 0, rfl, by decide, upd_same, hz, hf, fun H1 s1 => ?_⟩
        have hS := Sat.lentB hS na s1
        refine ⟨_, rfl, ?_⟩
        exact q _ (hS.pk (by walk_at "pk"))
      | false =>
        rw [if_neg (show ¬ (false = true) by simp)]
        rw [hb] at q
        refine ⟨true, T.te_NoSeek_SipError, fun _ x nx => ?_, fun h => nomatch h⟩
        refine ⟨.ref x, rfl, rfl, fun na o hz hf => ?_⟩
        refine ⟨x, o, 1, rfl, by decide, upd_same, hz, hf, fun H1 s1 => ?_⟩
        have hS := Sat.lentB hS na s1
        refine ⟨_, rfl, ?_⟩
        exact q _ (hS.pk (by walk_at "pk"))
    · refine ⟨_, rfl, rfl, _, rfl, iteFc (by decide +kernel) ?_⟩
      refine ⟨_, rfl, rfl, _, rfl, iteFc (by decide +kernel) ?_⟩
      refine ⟨_, rfl, rfl, _, rfl, iteFc (by decide +kernel) ?_⟩
      refine ⟨_, rfl, rfl, _, rfl, iteTc (decide_eq_true rfl) ?_⟩
      refine ⟨.ref ei, rfl, meth_pi hS (by walk_at "pu") (by decide +kernel) ?_⟩
      refine ⟨_, rfl, p, ei, eo, _, S, _, rfl, (hS.pk (by walk_at "pk")), fun H hS => ?_⟩
      cases hb : S.bi with
      | true =>
        rw [if_pos (show true = true from rfl)]
        rw [hb] at q
        refine ⟨true, T.te_Closed_SipError, fun _ x nx => ?_, fun h => nomatch h⟩
        refine ⟨.ref x, rfl, rfl, fun na o hz hf => ?_⟩
        refine ⟨x, o, 0, rfl, by decide, upd_same, hz, hf, fun H1 s1 => ?_⟩
        have hS := Sat.lentB hS na s1
        refine ⟨_, rfl, ?_⟩
        exact q _ (hS.pk (by walk_at "pk"))
      | false =>
        rw [if_neg (show ¬ (false = true) by simp)]
        rw [hb] at q
        refine ⟨true, T.te_NoSeek_SipError, fun _ x nx => ?_, fun h => nomatch h⟩
        refine ⟨.ref x, rfl, rfl, fun na o hz hf => ?_⟩
        refine ⟨x, o, 1, rfl, by decide, upd_same, hz, hf, fun H1 s1 => ?_⟩
        have hS := Sat.lentB hS na s1
        refine ⟨_, rfl, ?_⟩
        exact q _ (hS.pk (by walk_at "pk"))
    · refine ⟨_, rfl, rfl, _, rfl, iteFc (by decide +kernel) ?_⟩
      refine ⟨_, rfl, rfl, _, rfl, iteFc (by decide +kernel) ?_⟩
      refine ⟨_, rfl, rfl, _, rfl, iteFc (by decide +kernel) ?_⟩
      refine ⟨_, rfl, rfl, _, rfl, iteFc (by decide +kernel) ?_⟩
      refine ⟨_, rfl, rfl, _, rfl, iteTc (decide_eq_true rfl) ?_⟩
      refine ⟨.ref ei, rfl, meth_pi hS (by walk_at "pu") (by decide +kernel) ⟨p, ei, eo, S, _, rfl, (hS.pk (by walk_at "pk")), fun H hS => ?_⟩⟩
      refine ⟨true, T.te_NoSeek_SipError, fun _ x nx => ?_, fun h => nomatch h⟩
      refine ⟨.ref x, rfl, rfl, fun na o hz hf => ?_⟩
      refine ⟨x, o, 1, rfl, by decide, upd_same, hz, hf, fun H1 s1 => ?_⟩
      have hS := Sat.lentB hS na s1
      refine ⟨_, rfl, ?_⟩
      exact q _ (hS.pk (by walk_at "pk"))
    · refine ⟨_, rfl, rfl, _, rfl, iteFc (by decide +kernel) ?_⟩
      refine ⟨_, rfl, rfl, _, rfl, iteFc (by decide +kernel) ?_⟩
      refine ⟨_, rfl, rfl, _, rfl, iteFc (by decide +kernel) ?_⟩
      refine ⟨_, rfl, rfl, _, rfl, iteFc (by decide +kernel) ?_⟩
      refine ⟨_, rfl, rfl, _, rfl, iteFc (by decide +kernel) ?_⟩
      refine ⟨.ref ei, rfl, meth_pi hS (by walk_at "pu") (by decide +kernel) ⟨p, ei, eo, S, _, rfl, (hS.pk (by walk_at "pk")), fun H hS => ?_⟩⟩
      refine ⟨true, T.te_NoSeek_SipError, fun _ x nx => ?_, fun h => nomatch h⟩
      refine ⟨.ref x, rfl, rfl, fun na o hz hf => ?_⟩
      refine ⟨x, o, 1, rfl, by decide, upd_same, hz, hf, fun H1 s1 => ?_⟩
      have hS := Sat.lentB hS na s1
      refine ⟨_, rfl, ?_⟩
      exact q _ (hS.pk (by walk_at "pk"))

theorem ok_croomB (T : Tx K mg) : FnOk P w K mg base (L2.CX P w) 2 T.f_croom T.fd_croom P_croom (spRoomB T.C_BadRoom) := by
  have G_whole := ok_whole (P := P) (w := w) (base := base) T
  have sz : sizeLine = 16777216 := sizeLine_eq
  refine T.D_croom.F.okX sc_croom (fun vs H Q E h => ?_) (fun cdv A outer s H vs Q E hr h => ?_)
  · obtain ⟨R, rfl, _⟩ := h
    rfl
  · obtain ⟨R, rfl, hR, q⟩ := h
    refine ⟨_, (pss_one (ps_if (PW.pt (pw_or (pt_not (pt_val (pe_call G_whole (hr.mono (by decide)) (by rfl) T.D_whole.g T.D_whole.F.kp T.bb_whole .nil pass0 (pa_cons (pv 0) pa_nil)))) (pw_or1 (pt_not (pt_chain op_le op_le pe_int (pv 0) (pe_glob (v := .int 64) (by rfl) T.c_GREATEST_ROOM ⟨_, rfl⟩)))))) (pss_one (ps_raise rfl (takes_of rfl rfl rfl rfl) (Sip.pmk_own0 PySem.F.excBase_ValueError T.x_BadRoom T.g_BadRoom T.kk_BadRoom (raises_own T.bx_BadRoom T.tx_BadRoom) (by rfl)))) pss_nil)), ?_⟩
    refine ⟨.int R, rfl, R, rfl, true, rfl, iteF ?_⟩
    refine ⟨.int R, rfl, _, _, rfl, rfl, _, rfl, ?_⟩
    by_cases r1 : 1 ≤ R
    · rw [if_pos (decide_eq_true r1)]
      refine ⟨_, _, rfl, rfl, _, rfl, ?_⟩
      rw [decide_eq_false (show ¬ R ≤ 64 by omega)]
      exact iteT (q _ (Same.refl _))
    · rw [if_neg (by rw [decide_eq_false r1]; simp)]
      exact ⟨_, rfl, iteT (q _ (Same.refl _))⟩

theorem ok_pinitB (T : Tx K mg) : FnOk P w K mg base (L2.CX P w) 4 T.f_pinit T.fd_pinit P_pinit (spPiB T.C_BadRoom) := by
  have G_croom := ok_croomB (P := P) (w := w) (base := base) T
  have G_iinit := ok_iinit (P := P) (w := w) (base := base) T
  have G_oinit := ok_oinit (P := P) (w := w) (base := base) T
  have sz : sizeLine = 16777216 := sizeLine_eq
  refine T.D_pinit.F.okX sc_pinit (fun vs H Q E h => ?_) (fun cdv A outer s H vs Q E hr h => ?_)
  · obtain ⟨p, R, rfl, _⟩ := h
    rfl
  · obtain ⟨p, R, rfl, hR, q⟩ := h
    refine ⟨_, (pss_cons (ps_expr (pe_call G_croom (hr.mono (by decide)) (by rfl) T.D_croom.g T.D_croom.F.kp T.bb_croom .nil (Sip.passX (takes_of rfl rfl rfl rfl)) (pa_cons (pv 1) pa_nil)))
      (pss_cons (ps_fld (pv 0) (pv 1) rfl)
      (pss_cons (ps_fld (pv 0) (pe_lst pa_nil) rfl)
      (pss_cons (ps_fld (pv 0) (pe_make T.mk_IntoEnd G_iinit (hr.mono (by decide)) (by rfl) T.g_IntoEnd T.bb_iinit .nil pass0 (pa_cons (pv 0) pa_nil)) rfl)
      (pss_one (ps_fld (pv 0) (pe_make T.mk_OutEnd G_oinit (hr.mono (by decide)) (by rfl) T.g_OutEnd T.bb_oinit .nil pass0 (pa_cons (pv 0) pa_nil)) rfl)))))), ?_⟩
    exact ⟨.int R, rfl, R, rfl, hR, q⟩

theorem ok_lbad (T : Tx K mg) : FnOk P w K mg base CX0 6 T.f_lbad T.fd_lbad P_lbad (spBad13) := by
  have G_pinit := ok_pinitB (P := P) (w := w) (base := base) T
  have sz : sizeLine = 16777216 := sizeLine_eq
  refine T.D_lbad.F.ok sc_lbad (fun vs H Q E h => ?_) (fun cdv A outer s H vs Q E hr h => ?_)
  · obtain ⟨R, cs, rfl, _⟩ := h
    rfl
  · obtain ⟨R, cs, rfl, hR, hS, q⟩ := h
    refine ⟨_, (pss_cons (ps_set (i := 1) sc_lbad.nd rfl (.inl rfl) pe_bl)
      (pss_cons (Sip.ps_try_mixB rfl rfl takes0 (fun W pn xe tk _ => (pss_one (ps_expr (by exact (Sip.pe_makeK0T T.mk_Pipe G_pinit (hr.mono (by decide)) (by rfl) T.g_Pipe T.kb_pinit_0_room (fun σ => passAt tk σ) (by exact (pk_cons (pv 0) pk_nil))))))) (Sip.ClsOkB.cons (o := some 2) ⟨rfl, by decide, .inl T.g_BadRoom⟩ ⟨sc_lbad.nd, rfl, rfl⟩ (fun a oe cls d pn hz hf hnb => (pss_one (ps_set (i := 1) sc_lbad.nd rfl (.inl rfl) (pe_and (pe_callB (id := "isinstance") (r := Sip.rIsO K cls d a) (Sip.call_isO hz hf) (by rfl) T.m_isinstance (by decide +kernel) (pa_cons (pv 2) (pa_cons (pe_glob (v := .ref T.C_SipError) (by rfl) T.g_SipError rfl) pa_nil))) (pe_one (pe_callB (id := "isinstance") (r := Sip.rIsO K cls d a) (Sip.call_isO hz hf) (by rfl) T.m_isinstance (by decide +kernel) (pa_cons (pv 2) (pa_cons (pe_bltn (v := .ty "ValueError") (by rfl) T.m_ValueError (by decide +kernel) rfl) pa_nil)))))))) Sip.ClsOkB.nil))
      (pss_one (ps_ret (pv 1))))), ?_⟩
    refine ⟨.int R, rfl, rfl, rfl, fun x dx nx ndx ne => ?_⟩
    generalize hG : upd (upd _ dx _) x _ = H
    have hS := Sat.make hS nx ndx ne hG
    clear hG nx ndx ne
    refine ⟨x, R, rfl, hR, fun H s => ?_⟩
    have hS := hS.same s
    refine ⟨true, T.te_BadRoom_BadRoom, fun _ x nx => ?_, fun h => nomatch h⟩
    refine ⟨.ref x, rfl, T.C_BadRoom, rfl, T.e_BadRoom, .inl rfl, .ref T.C_SipError, .ref T.C_SipError, true, rfl, fun w h => h, T.k_BadRoom_SipError, ?_⟩
    refine ⟨true, rfl, iteT ?_⟩
    refine ⟨.ref x, rfl, T.C_BadRoom, rfl, T.e_BadRoom, .inl rfl, .ty "ValueError", .type "ValueError", true, rfl, fun w h => h, T.kV_BadRoom, ?_⟩
    exact ⟨_, rfl, q _ hS.tl.tl⟩

theorem ok_ldue (T : Tx K mg) : FnOk P w K mg base CX0 2 T.f_ldue T.fd_ldue P_ldue (spDue13) := by
  have sz : sizeLine = 16777216 := sizeLine_eq
  refine T.D_ldue.F.ok sc_ldue (fun vs H Q E h => ?_) (fun cdv A outer s H vs Q E hr h => ?_)
  · obtain ⟨h, l, j, rfl, _⟩ := h
    rfl
  · obtain ⟨h, l, j, rfl, j5, q⟩ := h
    refine ⟨_, (pss_cons (ps_if (pt_cmpR op_in_seq (pv 2) (pe_lst (pa_cons pe_str (pa_cons pe_str pa_nil))) rfl) (pss_one (ps_ret pe_str)) pss_nil)
      (pss_cons (ps_if (pt_not (pt_val (pv 1))) (pss_one (ps_ret pe_str)) pss_nil)
      (pss_cons (ps_if (pt_cmpR op_in_seq (pv 2) (pe_lst (pa_cons pe_str (pa_cons pe_str pa_nil))) rfl) (pss_one (ps_ret pe_str)) pss_nil)
      (pss_one (ps_ret (pe_ix ix_list (pe_lst (pa_cons pe_str (pa_cons pe_str pa_nil))) (pe_callTy call_int1 (by rfl) T.m_int (by decide +kernel) (pa_cons (pv 0) pa_nil)) (fun _ _ => rfl))))))), ?_⟩
    cases h <;> cases l
    · rcases (show j = 0 ∨ j = 1 ∨ j = 2 ∨ j = 3 ∨ j = 4 by omega) with rfl | rfl | rfl | rfl | rfl
      · refine ⟨_, rfl, by show (2 : Nat) ≤ sizeLine; omega, fun l1 nl1 => ?_⟩
        generalize hG : upd H l1 _ = H1
        have s1 : Same H H1 := by rw [← hG]; exact (Kp.new (ps := []) nl1).same
        have e1 : H1 l1 = some (.lst [.str (Str.ofString "place"), .str (Str.ofString "size")]) := by rw [← hG]; exact upd_same
        refine ⟨l1, _, rfl, .inl (sq_at e1), rfl, rfl, _, rfl, ?_⟩
        exact iteFc (by decide +kernel) ⟨_, rfl, _, rfl, iteT (q _ s1)⟩
      · refine ⟨_, rfl, by show (2 : Nat) ≤ sizeLine; omega, fun l1 nl1 => ?_⟩
        generalize hG : upd H l1 _ = H1
        have s1 : Same H H1 := by rw [← hG]; exact (Kp.new (ps := []) nl1).same
        have e1 : H1 l1 = some (.lst [.str (Str.ofString "place"), .str (Str.ofString "size")]) := by rw [← hG]; exact upd_same
        refine ⟨l1, _, rfl, .inl (sq_at e1), rfl, rfl, _, rfl, ?_⟩
        exact iteFc (by decide +kernel) ⟨_, rfl, _, rfl, iteT (q _ s1)⟩
      · refine ⟨_, rfl, by show (2 : Nat) ≤ sizeLine; omega, fun l1 nl1 => ?_⟩
        generalize hG : upd H l1 _ = H1
        have s1 : Same H H1 := by rw [← hG]; exact (Kp.new (ps := []) nl1).same
        have e1 : H1 l1 = some (.lst [.str (Str.ofString "place"), .str (Str.ofString "size")]) := by rw [← hG]; exact upd_same
        refine ⟨l1, _, rfl, .inl (sq_at e1), rfl, rfl, _, rfl, ?_⟩
        exact iteFc (by decide +kernel) ⟨_, rfl, _, rfl, iteT (q _ s1)⟩
      · refine ⟨_, rfl, by show (2 : Nat) ≤ sizeLine; omega, fun l1 nl1 => ?_⟩
        generalize hG : upd H l1 _ = H1
        have s1 : Same H H1 := by rw [← hG]; exact (Kp.new (ps := []) nl1).same
        have e1 : H1 l1 = some (.lst [.str (Str.ofString "place"), .str (Str.ofString "size")]) := by rw [← hG]; exact upd_same
        refine ⟨l1, _, rfl, .inl (sq_at e1), rfl, rfl, _, rfl, ?_⟩
        exact iteTc (by decide +kernel) (q _ s1)
      · refine ⟨_, rfl, by show (2 : Nat) ≤ sizeLine; omega, fun l1 nl1 => ?_⟩
        generalize hG : upd H l1 _ = H1
        have s1 : Same H H1 := by rw [← hG]; exact (Kp.new (ps := []) nl1).same
        have e1 : H1 l1 = some (.lst [.str (Str.ofString "place"), .str (Str.ofString "size")]) := by rw [← hG]; exact upd_same
        refine ⟨l1, _, rfl, .inl (sq_at e1), rfl, rfl, _, rfl, ?_⟩
        exact iteTc (by decide +kernel) (q _ s1)
    · rcases (show j = 0 ∨ j = 1 ∨ j = 2 ∨ j = 3 ∨ j = 4 by omega) with rfl | rfl | rfl | rfl | rfl
      · refine ⟨_, rfl, by show (2 : Nat) ≤ sizeLine; omega, fun l1 nl1 => ?_⟩
        generalize hG : upd H l1 _ = H1
        have s1 : Same H H1 := by rw [← hG]; exact (Kp.new (ps := []) nl1).same
        have e1 : H1 l1 = some (.lst [.str (Str.ofString "place"), .str (Str.ofString "size")]) := by rw [← hG]; exact upd_same
        refine ⟨l1, _, rfl, .inl (sq_at e1), rfl, rfl, _, rfl, ?_⟩
        refine iteFc (by decide +kernel) ⟨_, rfl, _, rfl, iteF ?_⟩
        refine ⟨_, rfl, by show (2 : Nat) ≤ sizeLine; omega, fun l2 nl2 => ?_⟩
        generalize hG2 : upd H1 l2 _ = H2
        have s2 : Same H1 H2 := by rw [← hG2]; exact (Kp.new (ps := []) nl2).same
        have e2 : H2 l2 = some (.lst [.str (Str.ofString "go"), .str (Str.ofString "cut")]) := by rw [← hG2]; exact upd_same
        refine ⟨l2, _, rfl, .inl (sq_at e2), rfl, rfl, _, rfl, ?_⟩
        refine iteFc (by decide +kernel) ⟨by show (2 : Nat) ≤ sizeLine; omega, fun l3 nl3 => ?_⟩
        generalize hG3 : upd H2 l3 _ = H3
        have s3 : Same H2 H3 := by rw [← hG3]; exact (Kp.new (ps := []) nl3).same
        have e3 : H3 l3 = some (.lst [.str (Str.ofString "NoWrites"), .str (Str.ofString "NoReads")]) := by rw [← hG3]; exact upd_same
        refine ⟨_, rfl, .inr ⟨_, rfl, l3, _, 0, _, rfl, rfl, sq_at e3, rfl, q _ ((s1.trans s2).trans s3)⟩⟩
      · refine ⟨_, rfl, by show (2 : Nat) ≤ sizeLine; omega, fun l1 nl1 => ?_⟩
        generalize hG : upd H l1 _ = H1
        have s1 : Same H H1 := by rw [← hG]; exact (Kp.new (ps := []) nl1).same
        have e1 : H1 l1 = some (.lst [.str (Str.ofString "place"), .str (Str.ofString "size")]) := by rw [← hG]; exact upd_same
        refine ⟨l1, _, rfl, .inl (sq_at e1), rfl, rfl, _, rfl, ?_⟩
        refine iteFc (by decide +kernel) ⟨_, rfl, _, rfl, iteF ?_⟩
        refine ⟨_, rfl, by show (2 : Nat) ≤ sizeLine; omega, fun l2 nl2 => ?_⟩
        generalize hG2 : upd H1 l2 _ = H2
        have s2 : Same H1 H2 := by rw [← hG2]; exact (Kp.new (ps := []) nl2).same
        have e2 : H2 l2 = some (.lst [.str (Str.ofString "go"), .str (Str.ofString "cut")]) := by rw [← hG2]; exact upd_same
        refine ⟨l2, _, rfl, .inl (sq_at e2), rfl, rfl, _, rfl, ?_⟩
        exact iteTc (by decide +kernel) (q _ (s1.trans s2))
      · refine ⟨_, rfl, by show (2 : Nat) ≤ sizeLine; omega, fun l1 nl1 => ?_⟩
        generalize hG : upd H l1 _ = H1
        have s1 : Same H H1 := by rw [← hG]; exact (Kp.new (ps := []) nl1).same
        have e1 : H1 l1 = some (.lst [.str (Str.ofString "place"), .str (Str.ofString "size")]) := by rw [← hG]; exact upd_same
        refine ⟨l1, _, rfl, .inl (sq_at e1), rfl, rfl, _, rfl, ?_⟩
        refine iteFc (by decide +kernel) ⟨_, rfl, _, rfl, iteF ?_⟩
        refine ⟨_, rfl, by show (2 : Nat) ≤ sizeLine; omega, fun l2 nl2 => ?_⟩
        generalize hG2 : upd H1 l2 _ = H2
        have s2 : Same H1 H2 := by rw [← hG2]; exact (Kp.new (ps := []) nl2).same
        have e2 : H2 l2 = some (.lst [.str (Str.ofString "go"), .str (Str.ofString "cut")]) := by rw [← hG2]; exact upd_same
        refine ⟨l2, _, rfl, .inl (sq_at e2), rfl, rfl, _, rfl, ?_⟩
        exact iteTc (by decide +kernel) (q _ (s1.trans s2))
      · refine ⟨_, rfl, by show (2 : Nat) ≤ sizeLine; omega, fun l1 nl1 => ?_⟩
        generalize hG : upd H l1 _ = H1
        have s1 : Same H H1 := by rw [← hG]; exact (Kp.new (ps := []) nl1).same
        have e1 : H1 l1 = some (.lst [.str (Str.ofString "place"), .str (Str.ofString "size")]) := by rw [← hG]; exact upd_same
        refine ⟨l1, _, rfl, .inl (sq_at e1), rfl, rfl, _, rfl, ?_⟩
        exact iteTc (by decide +kernel) (q _ s1)
      · refine ⟨_, rfl, by show (2 : Nat) ≤ sizeLine; omega, fun l1 nl1 => ?_⟩
        generalize hG : upd H l1 _ = H1
        have s1 : Same H H1 := by rw [← hG]; exact (Kp.new (ps := []) nl1).same
        have e1 : H1 l1 = some (.lst [.str (Str.ofString "place"), .str (Str.ofString "size")]) := by rw [← hG]; exact upd_same
        refine ⟨l1, _, rfl, .inl (sq_at e1), rfl, rfl, _, rfl, ?_⟩
        exact iteTc (by decide +kernel) (q _ s1)
    · rcases (show j = 0 ∨ j = 1 ∨ j = 2 ∨ j = 3 ∨ j = 4 by omega) with rfl | rfl | rfl | rfl | rfl
      · refine ⟨_, rfl, by show (2 : Nat) ≤ sizeLine; omega, fun l1 nl1 => ?_⟩
        generalize hG : upd H l1 _ = H1
        have s1 : Same H H1 := by rw [← hG]; exact (Kp.new (ps := []) nl1).same
        have e1 : H1 l1 = some (.lst [.str (Str.ofString "place"), .str (Str.ofString "size")]) := by rw [← hG]; exact upd_same
        refine ⟨l1, _, rfl, .inl (sq_at e1), rfl, rfl, _, rfl, ?_⟩
        exact iteFc (by decide +kernel) ⟨_, rfl, _, rfl, iteT (q _ s1)⟩
      · refine ⟨_, rfl, by show (2 : Nat) ≤ sizeLine; omega, fun l1 nl1 => ?_⟩
        generalize hG : upd H l1 _ = H1
        have s1 : Same H H1 := by rw [← hG]; exact (Kp.new (ps := []) nl1).same
        have e1 : H1 l1 = some (.lst [.str (Str.ofString "place"), .str (Str.ofString "size")]) := by rw [← hG]; exact upd_same
        refine ⟨l1, _, rfl, .inl (sq_at e1), rfl, rfl, _, rfl, ?_⟩
        exact iteFc (by decide +kernel) ⟨_, rfl, _, rfl, iteT (q _ s1)⟩
      · refine ⟨_, rfl, by show (2 : Nat) ≤ sizeLine; omega, fun l1 nl1 => ?_⟩
        generalize hG : upd H l1 _ = H1
        have s1 : Same H H1 := by rw [← hG]; exact (Kp.new (ps := []) nl1).same
        have e1 : H1 l1 = some (.lst [.str (Str.ofString "place"), .str (Str.ofString "size")]) := by rw [← hG]; exact upd_same
        refine ⟨l1, _, rfl, .inl (sq_at e1), rfl, rfl, _, rfl, ?_⟩
        exact iteFc (by decide +kernel) ⟨_, rfl, _, rfl, iteT (q _ s1)⟩
      · refine ⟨_, rfl, by show (2 : Nat) ≤ sizeLine; omega, fun l1 nl1 => ?_⟩
        generalize hG : upd H l1 _ = H1
        have s1 : Same H H1 := by rw [← hG]; exact (Kp.new (ps := []) nl1).same
        have e1 : H1 l1 = some (.lst [.str (Str.ofString "place"), .str (Str.ofString "size")]) := by rw [← hG]; exact upd_same
        refine ⟨l1, _, rfl, .inl (sq_at e1), rfl, rfl, _, rfl, ?_⟩
        exact iteTc (by decide +kernel) (q _ s1)
      · refine ⟨_, rfl, by show (2 : Nat) ≤ sizeLine; omega, fun l1 nl1 => ?_⟩
        generalize hG : upd H l1 _ = H1
        have s1 : Same H H1 := by rw [← hG]; exact (Kp.new (ps := []) nl1).same
        have e1 : H1 l1 = some (.lst [.str (Str.ofString "place"), .str (Str.ofString "size")]) := by rw [← hG]; exact upd_same
        refine ⟨l1, _, rfl, .inl (sq_at e1), rfl, rfl, _, rfl, ?_⟩
        exact iteTc (by decide +kernel) (q _ s1)
    · rcases (show j = 0 ∨ j = 1 ∨ j = 2 ∨ j = 3 ∨ j = 4 by omega) with rfl | rfl | rfl | rfl | rfl
      · refine ⟨_, rfl, by show (2 : Nat) ≤ sizeLine; omega, fun l1 nl1 => ?_⟩
        generalize hG : upd H l1 _ = H1
        have s1 : Same H H1 := by rw [← hG]; exact (Kp.new (ps := []) nl1).same
        have e1 : H1 l1 = some (.lst [.str (Str.ofString "place"), .str (Str.ofString "size")]) := by rw [← hG]; exact upd_same
        refine ⟨l1, _, rfl, .inl (sq_at e1), rfl, rfl, _, rfl, ?_⟩
        refine iteFc (by decide +kernel) ⟨_, rfl, _, rfl, iteF ?_⟩
        refine ⟨_, rfl, by show (2 : Nat) ≤ sizeLine; omega, fun l2 nl2 => ?_⟩
        generalize hG2 : upd H1 l2 _ = H2
        have s2 : Same H1 H2 := by rw [← hG2]; exact (Kp.new (ps := []) nl2).same
        have e2 : H2 l2 = some (.lst [.str (Str.ofString "go"), .str (Str.ofString "cut")]) := by rw [← hG2]; exact upd_same
        refine ⟨l2, _, rfl, .inl (sq_at e2), rfl, rfl, _, rfl, ?_⟩
        refine iteFc (by decide +kernel) ⟨by show (2 : Nat) ≤ sizeLine; omega, fun l3 nl3 => ?_⟩
        generalize hG3 : upd H2 l3 _ = H3
        have s3 : Same H2 H3 := by rw [← hG3]; exact (Kp.new (ps := []) nl3).same
        have e3 : H3 l3 = some (.lst [.str (Str.ofString "NoWrites"), .str (Str.ofString "NoReads")]) := by rw [← hG3]; exact upd_same
        refine ⟨_, rfl, .inr ⟨_, rfl, l3, _, 1, _, rfl, rfl, sq_at e3, rfl, q _ ((s1.trans s2).trans s3)⟩⟩
      · refine ⟨_, rfl, by show (2 : Nat) ≤ sizeLine; omega, fun l1 nl1 => ?_⟩
        generalize hG : upd H l1 _ = H1
        have s1 : Same H H1 := by rw [← hG]; exact (Kp.new (ps := []) nl1).same
        have e1 : H1 l1 = some (.lst [.str (Str.ofString "place"), .str (Str.ofString "size")]) := by rw [← hG]; exact upd_same
        refine ⟨l1, _, rfl, .inl (sq_at e1), rfl, rfl, _, rfl, ?_⟩
        refine iteFc (by decide +kernel) ⟨_, rfl, _, rfl, iteF ?_⟩
        refine ⟨_, rfl, by show (2 : Nat) ≤ sizeLine; omega, fun l2 nl2 => ?_⟩
        generalize hG2 : upd H1 l2 _ = H2
        have s2 : Same H1 H2 := by rw [← hG2]; exact (Kp.new (ps := []) nl2).same
        have e2 : H2 l2 = some (.lst [.str (Str.ofString "go"), .str (Str.ofString "cut")]) := by rw [← hG2]; exact upd_same
        refine ⟨l2, _, rfl, .inl (sq_at e2), rfl, rfl, _, rfl, ?_⟩
        exact iteTc (by decide +kernel) (q _ (s1.trans s2))
      · refine ⟨_, rfl, by show (2 : Nat) ≤ sizeLine; omega, fun l1 nl1 => ?_⟩
        generalize hG : upd H l1 _ = H1
        have s1 : Same H H1 := by rw [← hG]; exact (Kp.new (ps := []) nl1).same
        have e1 : H1 l1 = some (.lst [.str (Str.ofString "place"), .str (Str.ofString "size")]) := by rw [← hG]; exact upd_same
        refine ⟨l1, _, rfl, .inl (sq_at e1), rfl, rfl, _, rfl, ?_⟩
        refine iteFc (by decide +kernel) ⟨_, rfl, _, rfl, iteF ?_⟩
        refine ⟨_, rfl, by show (2 : Nat) ≤ sizeLine; omega, fun l2 nl2 => ?_⟩
        generalize hG2 : upd H1 l2 _ = H2
        have s2 : Same H1 H2 := by rw [← hG2]; exact (Kp.new (ps := []) nl2).same
        have e2 : H2 l2 = some (.lst [.str (Str.ofString "go"), .str (Str.ofString "cut")]) := by rw [← hG2]; exact upd_same
        refine ⟨l2, _, rfl, .inl (sq_at e2), rfl, rfl, _, rfl, ?_⟩
        exact iteTc (by decide +kernel) (q _ (s1.trans s2))
      · refine ⟨_, rfl, by show (2 : Nat) ≤ sizeLine; omega, fun l1 nl1 => ?_⟩
        generalize hG : upd H l1 _ = H1
        have s1 : Same H H1 := by rw [← hG]; exact (Kp.new (ps := []) nl1).same
        have e1 : H1 l1 = some (.lst [.str (Str.ofString "place"), .str (Str.ofString "size")]) := by rw [← hG]; exact upd_same
        refine ⟨l1, _, rfl, .inl (sq_at e1), rfl, rfl, _, rfl, ?_⟩
        exact iteTc (by decide +kernel) (q _ s1)
      · refine ⟨_, rfl, by show (2 : Nat) ≤ sizeLine; omega, fun l1 nl1 => ?_⟩
        generalize hG : upd H l1 _ = H1
        have s1 : Same H H1 := by rw [← hG]; exact (Kp.new (ps := []) nl1).same
        have e1 : H1 l1 = some (.lst [.str (Str.ofString "place"), .str (Str.ofString "size")]) := by rw [← hG]; exact upd_same
        refine ⟨l1, _, rfl, .inl (sq_at e1), rfl, rfl, _, rfl, ?_⟩
        exact iteTc (by decide +kernel) (q _ s1)

theorem ok_lasked (T : Tx K mg) : FnOk P w K mg base CX0 11 T.f_lasked T.fd_lasked P_lasked (spAsked13 T.C_Pipe T.C_IntoEnd T.C_OutEnd) := by
  have G_take := (ok_take (P := P) (w := w) (base := base) T).imp fun _ _ _ _ => spTakeS.to
  have G_pinto := (ok_pinto (P := P) (w := w) (base := base) T).imp fun _ _ _ _ => spIntoS.to
  have G_pout := (ok_pout (P := P) (w := w) (base := base) T).imp fun _ _ _ _ => spOutS.to
  have G_pheld := (ok_pheld (P := P) (w := w) (base := base) T).imp fun _ _ _ _ => spHeldS.to
  have G_ishut := (ok_ishut (P := P) (w := w) (base := base) T).imp fun _ _ _ _ => spIsI.to
  have G_oshut := (ok_oshut (P := P) (w := w) (base := base) T).imp fun _ _ _ _ => spIsO.to
  have G_ilog := (ok_ilog (P := P) (w := w) (base := base) T).imp fun _ _ _ _ => spLogIS.to
  have G_olog := (ok_olog (P := P) (w := w) (base := base) T).imp fun _ _ _ _ => spLogOS.to
  have G_isk := (ok_isk (P := P) (w := w) (base := base) T).imp fun _ _ _ _ => spSkIS.to
  have G_osk := (ok_osk (P := P) (w := w) (base := base) T).imp fun _ _ _ _ => spSkOS.to
  have G_ltried := Sip.FnOk.or (ok_ltriedO (P := P) (w := w) (base := base) T) (ok_ltriedI (P := P) (w := w) (base := base) T)
  have G_ldue := ok_ldue (P := P) (w := w) (base := base) T
  have sz : sizeLine = 16777216 := sizeLine_eq
  refine T.D_lasked.F.ok sc_lasked (fun vs H Q E h => ?_) (fun cdv A outer s H vs Q E hr h => ?_)
  · obtain ⟨p, pp, ei, eo, lv, nn, li, n0, n1, n, v0, v1, S, M, R, rfl, _⟩ := h
    rfl
  · obtain ⟨p, pp, ei, eo, lv, nn, li, n0, n1, n, v0, v1, S, M, R, rfl, hS, n7, ok, enn, en0, en1, N0, N1, eli, q⟩ := h
    refine ⟨_, (pss_cons (ps_for PassesOwn.never rfl (pi_range1 (by rfl) T.m_range (pa_cons pe_int pa_nil)) (pg_name (i := 5) sc_lasked.nd rfl (.inl rfl)) (pss_cons (ps_set (i := 6) sc_lasked.nd rfl (.inl rfl) (pe_cmpR op_eq (pe_call G_take (hr.mono (by decide)) (by rfl) T.D_take.g T.D_take.F.kp T.bb_take .nil pass0 (pa_cons (pv 0) (pa_cons pe_int pa_nil))) pe_int (nomark _)))
      (pss_cons (ps_set (i := 7) sc_lasked.nd rfl (.inl rfl) (pe_ix ix_list (pe_lst (pa_cons (pe_meth0 (pv 1) T.cl_Pipe T.D_pout.m G_pout (hr.mono (by decide)) T.bb_pout .nil pass0) (pa_cons (pe_meth0 (pv 1) T.cl_Pipe T.D_pinto.m G_pinto (hr.mono (by decide)) T.bb_pinto .nil pass0) pa_nil))) (pe_callTy call_int1 (by rfl) T.m_int (by decide +kernel) (pa_cons (pv 6) pa_nil)) (fun _ _ => rfl)))
      (pss_cons (ps_set (i := 8) sc_lasked.nd rfl (.inl rfl) (pe_ix ix_list (pe_lst (pa_cons (pe_ix ix_list (pe_lst (pa_cons pe_str (pa_cons pe_str pa_nil))) (pe_callTy call_int1 (by rfl) T.m_int (by decide +kernel) (pa_cons (pv 6) pa_nil)) (fun _ _ => rfl)) (pa_cons pe_str (pa_cons pe_str (pa_cons pe_str (pa_cons pe_str pa_nil)))))) (pe_call G_take (hr.mono (by decide)) (by rfl) T.D_take.g T.D_take.F.kp T.bb_take .nil pass0 (pa_cons (pv 0) (pa_cons pe_int pa_nil))) (fun _ _ => rfl)))
      (pss_cons (ps_if (pt_cmpR op_ne (pe_call G_ltried (hr.mono (by decide)) (by rfl) T.D_ltried.g T.D_ltried.F.kp T.bb_ltried .nil pass0 (pa_cons (pv 7) (pa_cons (pv 8) (pa_cons (pe_op op_add pe_int (pe_call G_take (hr.mono (by decide)) (by rfl) T.D_take.g T.D_take.F.kp T.bb_take .nil pass0 (pa_cons (pv 0) (pa_cons pe_int pa_nil)))) pa_nil)))) (pe_call G_ldue (hr.mono (by decide)) (by rfl) T.D_ldue.g T.D_ldue.F.kp T.bb_ldue .nil pass0 (pa_cons (pv 6) (pa_cons (pe_ix ix_list (pv 2) (pe_callTy call_int1 (by rfl) T.m_int (by decide +kernel) (pa_cons (pv 6) pa_nil)) (fun _ _ => rfl)) (pa_cons (pv 8) pa_nil)))) (nomark _)) (pss_one (ps_ret pe_bl)) pss_nil)
      (pss_cons (ps_if (PW.pt (pw_or (pt_cmpR (Sip.op_neS hr.units) (pe_lst (pa_cons (pe_meth0 (pe_meth0 (pv 1) T.cl_Pipe T.D_pout.m G_pout (hr.mono (by decide)) T.bb_pout .nil pass0) T.cl_OutEnd T.D_olog.m G_olog (hr.mono (by decide)) T.bb_olog .nil pass0) (pa_cons (pe_meth0 (pe_meth0 (pv 1) T.cl_Pipe T.D_pinto.m G_pinto (hr.mono (by decide)) T.bb_pinto .nil pass0) T.cl_IntoEnd T.D_ilog.m G_ilog (hr.mono (by decide)) T.bb_ilog .nil pass0) pa_nil))) (pv 3) (nomark _)) (pw_or1 (pt_cmpR (op_neI hr.units) (pe_meth0 (pv 1) T.cl_Pipe T.D_pheld.m G_pheld (hr.mono (by decide)) T.bb_pheld .nil pass0) (pv 4) (nomark _))))) (pss_one (ps_ret pe_bl)) pss_nil)
      (pss_one (ps_if (pt_cmpR (Sip.op_neS hr.units) (pe_lst (pa_cons (pe_meth0 (pe_meth0 (pv 1) T.cl_Pipe T.D_pout.m G_pout (hr.mono (by decide)) T.bb_pout .nil pass0) T.cl_OutEnd T.D_oshut.m G_oshut (hr.mono (by decide)) T.bb_oshut .nil pass0) (pa_cons (pe_meth0 (pe_meth0 (pv 1) T.cl_Pipe T.D_pinto.m G_pinto (hr.mono (by decide)) T.bb_pinto .nil pass0) T.cl_IntoEnd T.D_ishut.m G_ishut (hr.mono (by decide)) T.bb_ishut .nil pass0) pa_nil))) (pe_lst (pa_cons (pe_not (pe_ix ix_list (pv 2) pe_int (fun _ _ => rfl))) (pa_cons (pe_not (pe_ix ix_list (pv 2) pe_int (fun _ _ => rfl))) pa_nil))) (nomark _)) (pss_one (ps_ret pe_bl)) pss_nil))))))))
      (pss_one (ps_ret (pe_and (pe_not (pe_meth0 (pe_meth0 (pv 1) T.cl_Pipe T.D_pout.m G_pout (hr.mono (by decide)) T.bb_pout .nil pass0) T.cl_OutEnd T.D_osk.m G_osk (hr.mono (by decide)) T.bb_osk .nil pass0)) (pe_one (pe_not (pe_meth0 (pe_meth0 (pv 1) T.cl_Pipe T.D_pinto.m G_pinto (hr.mono (by decide)) T.bb_pinto .nil pass0) T.cl_IntoEnd T.D_isk.m G_isk (hr.mono (by decide)) T.bb_isk .nil pass0))))))), ?_⟩
    have hS := Sat.poolup (p := p) (m := n + 3 * ((0 : Nat) : Int)) hS (by omega)
    refine ⟨4, rfl, by decide, by decide, for_range (lo := 0) (n := (4 : Int).toNat) (fun i σ H' => ∃ (y5 y6 y7 y8 : Option V), σ = [some (.ref p), some (.ref pp), some (.ref lv), some (.ref nn), some (.ref li), y5, y6, y7, y8] ∧ Sat H' (poolC p (n + 3 * i) :: pipC T.C_Pipe T.C_IntoEnd T.C_OutEnd pp ei eo S :: .pt lv (.lst [.bl (!S.bo), .bl (!S.bi)]) :: frC M :: R)) ⟨none, none, none, none, rfl, (hS.pk (by walk_at "pk"))⟩ (fun i σ H' hi hW => ?_) (fun σ H' hW => ?_)⟩
    · obtain ⟨y5, y6, y7, y8, rfl, hS⟩ := hW
      have hi : i < 4 := hi
      refine ⟨.ref p, rfl, p, _, 2, _, rfl, (hS.pk (by walk_at "pk")), by omega, by decide, by decide, fun x H x2 hS => ?_⟩
      refine ⟨rfl, ?_⟩
      rcases (show x = 0 ∨ x = 1 by omega) with rfl | rfl
      · rw [eq_bl0]
        refine ⟨.ref pp, rfl, meth_pp hS (by walk_at "pu") (by decide +kernel) ⟨pp, ei, eo, S, _, rfl, (hS.pk (by walk_at "pk")), .ref pp, rfl, meth_pp hS (by walk_at "pu") (by decide +kernel) ⟨pp, ei, eo, S, _, rfl, (hS.pk (by walk_at "pk")), by show (2 : Nat) ≤ sizeLine; omega, ?_⟩⟩⟩
        intro l0 nl_
        generalize hG_ : upd _ l0 _ = H
        have hS := Sat.alloc hS nl_ hG_
        clear nl_ hG_
        refine ⟨_, rfl, .inr ⟨_, rfl, l0, _, 0, .ref eo, rfl, rfl, sq_at (hS.get (by walk_at "pu")), rfl, ?_⟩⟩
        refine ⟨by show (2 : Nat) ≤ sizeLine; omega, ?_⟩
        intro l1 nl_
        generalize hG_ : upd _ l1 _ = H
        have hS := Sat.alloc hS nl_ hG_
        clear nl_ hG_
        refine ⟨_, rfl, .inr ⟨_, rfl, l1, _, 0, _, rfl, rfl, sq_at (hS.get (by walk_at "pu")), rfl, by show (5 : Nat) ≤ sizeLine; omega, ?_⟩⟩
        intro l2 nl_
        generalize hG_ : upd _ l2 _ = H
        have hS := Sat.alloc hS nl_ hG_
        clear nl_ hG_
        refine ⟨.ref p, rfl, p, _, 5, _, rfl, (hS.pk (by walk_at "pk")), by omega, by decide, by decide, fun j H j5 hS => ?_⟩
        have j5 : j < 5 := by omega
        refine ⟨l2, _, j, .str (wdS false j), rfl, rfl, sq_at (hS.get (by walk_at "pu")), wd_atF j j5, ?_⟩
        refine ⟨_, rfl, _, rfl, .ref p, rfl, p, _, 4100, _, rfl, (hS.pk (by walk_at "pk")), by omega, by decide, by decide, fun k H k9 hS => ?_⟩
        refine ⟨_, _, rfl, rfl, .inl ⟨pp, ei, eo, j, 1 + k, S, _, by rw [show ((1 + k : Nat) : Int) = 1 + (k : Int) from by omega]; rfl, j5, (hS.pk (by walk_at "pk")), fun H hS => ?_⟩⟩
        refine ⟨_, rfl, _, rfl, _, rfl, .inr ⟨_, rfl, lv, _, 0, .bl (!S.bo), rfl, rfl, sq_at (hS.get (by walk_at "pu")), rfl, ?_⟩⟩
        refine ⟨_, rfl, false, !S.bo, j, rfl, j5, fun H' s9 => ?_⟩
        have hS := hS.same s9
        clear s9
        refine ⟨rfl, _, rfl, iteFc (congrArg not (decide_eq_true rfl)) ?_⟩
        refine ⟨.ref pp, rfl, meth_pp hS (by walk_at "pu") (by decide +kernel) ⟨pp, ei, eo, S, _, rfl, (hS.pk (by walk_at "pk")), meth_po hS (by walk_at "pu") (by decide +kernel) ⟨pp, ei, eo, S, _, rfl, (hS.pk (by walk_at "pk")), ok, fun H a0 hS => ?_⟩⟩⟩
        refine ⟨.ref pp, rfl, meth_pp hS (by walk_at "pu") (by decide +kernel) ⟨pp, ei, eo, S, _, rfl, (hS.pk (by walk_at "pk")), meth_pi hS (by walk_at "pu") (by decide +kernel) ⟨pp, ei, eo, S, _, rfl, (hS.pk (by walk_at "pk")), ok, fun H a1 hS => ?_⟩⟩⟩
        refine ⟨by show (2 : Nat) ≤ sizeLine; omega, ?_⟩
        intro l3 nl_
        generalize hG_ : upd _ l3 _ = H
        have hS := Sat.alloc hS nl_ hG_
        clear nl_ hG_
        obtain ⟨u0, G0, e0, E0⟩ := hS.nts (q := a0) (by walk_at "pu")
        obtain ⟨u1, G1, e1, E1⟩ := hS.nts (q := a1) (by walk_at "pu")
        have sM := hS.frs (M := M) (by walk_at "pu")
        have K0 := NtsM.same N0 sM
        have K1 := NtsM.same N1 sM
        have hnn := hS.fr (by walk_at "pu") enn
        have hn0 := hS.fr (by walk_at "pu") en0
        have hn1 := hS.fr (by walk_at "pu") en1
        refine ⟨_, rfl, .list [ntsD S.no, ntsD S.ni], .lst (sq_at (hS.get (by walk_at "pu"))) (.cons (E0.dp e0) (.cons (E1.dp e1) .nil)), .lst (sq_at hnn) (.cons (Nts.dp K0 hn0) (.cons (Nts.dp K1 hn1) .nil)), two_nts E0.ok E1.ok, _, rfl, iteF ?_⟩
        clear hnn hn0 hn1
        refine ⟨.ref pp, rfl, meth_pp hS (by walk_at "pu") (by decide +kernel) ⟨pp, ei, eo, S, _, rfl, (hS.pk (by walk_at "pk")), fun H z hS => ?_⟩⟩
        have hli := hS.fr (by walk_at "pu") eli
        refine ⟨_, rfl, z, li, _, _, rfl, rfl, sq_at (hS.get (by walk_at "pu")), sq_at hli, _, rfl, iteNS rfl ?_⟩
        refine ⟨.ref pp, rfl, meth_pp hS (by walk_at "pu") (by decide +kernel) ⟨pp, ei, eo, S, _, rfl, (hS.pk (by walk_at "pk")), meth_po hS (by walk_at "pu") (by decide +kernel) ⟨pp, ei, eo, S, _, rfl, (hS.pk (by walk_at "pk")), ?_⟩⟩⟩
        refine ⟨.ref pp, rfl, meth_pp hS (by walk_at "pu") (by decide +kernel) ⟨pp, ei, eo, S, _, rfl, (hS.pk (by walk_at "pk")), meth_pi hS (by walk_at "pu") (by decide +kernel) ⟨pp, ei, eo, S, _, rfl, (hS.pk (by walk_at "pk")), ?_⟩⟩⟩
        refine ⟨by show (2 : Nat) ≤ sizeLine; omega, ?_⟩
        intro l4 nl_
        generalize hG_ : upd _ l4 _ = H
        have hS := Sat.alloc hS nl_ hG_
        clear nl_ hG_
        refine ⟨_, rfl, lv, _, 0, .bl (!S.bo), rfl, rfl, sq_at (hS.get (by walk_at "pu")), rfl, _, rfl, _, rfl, lv, _, 1, .bl (!S.bi), rfl, rfl, sq_at (hS.get (by walk_at "pu")), rfl, _, rfl, by show (2 : Nat) ≤ sizeLine; omega, ?_⟩
        intro l5 nl_
        generalize hG_ : upd _ l5 _ = H
        have hS := Sat.alloc hS nl_ hG_
        clear nl_ hG_
        have hS : Sat H (.pt l5 (.lst [.bl (!(!S.bo)), .bl (!(!S.bi))]) :: _) := hS
        rw [Bool.not_not, Bool.not_not] at hS
        refine ⟨.list [.bool S.bo, .bool S.bi], .lst (sq_at (hS.get (by walk_at "pu"))) (.cons (.bl _) (.cons (.bl _) .nil)), .lst (sq_at (hS.get (by walk_at "pu"))) (.cons (.bl _) (.cons (.bl _) .nil)), by cases S.bo <;> cases S.bi <;> rfl, _, rfl, iteF ?_⟩
        have hS := Sat.poolup (p := p) (m := n + 3 * ((i + 1 : Nat) : Int)) (show Sat H (poolC p _ :: pipC T.C_Pipe T.C_IntoEnd T.C_OutEnd pp ei eo S :: .pt lv (.lst [.bl (!S.bo), .bl (!S.bi)]) :: frC M :: R) from (hS.pk (by walk_at "pk"))) (by omega)
        exact ⟨_, _, _, _, rfl, (hS.pk (by walk_at "pk"))⟩
      · rw [eq_bl1]
        refine ⟨.ref pp, rfl, meth_pp hS (by walk_at "pu") (by decide +kernel) ⟨pp, ei, eo, S, _, rfl, (hS.pk (by walk_at "pk")), .ref pp, rfl, meth_pp hS (by walk_at "pu") (by decide +kernel) ⟨pp, ei, eo, S, _, rfl, (hS.pk (by walk_at "pk")), by show (2 : Nat) ≤ sizeLine; omega, ?_⟩⟩⟩
        intro l0 nl_
        generalize hG_ : upd _ l0 _ = H
        have hS := Sat.alloc hS nl_ hG_
        clear nl_ hG_
        refine ⟨_, rfl, .inr ⟨_, rfl, l0, _, 1, .ref ei, rfl, rfl, sq_at (hS.get (by walk_at "pu")), rfl, ?_⟩⟩
        refine ⟨by show (2 : Nat) ≤ sizeLine; omega, ?_⟩
        intro l1 nl_
        generalize hG_ : upd _ l1 _ = H
        have hS := Sat.alloc hS nl_ hG_
        clear nl_ hG_
        refine ⟨_, rfl, .inr ⟨_, rfl, l1, _, 1, _, rfl, rfl, sq_at (hS.get (by walk_at "pu")), rfl, by show (5 : Nat) ≤ sizeLine; omega, ?_⟩⟩
        intro l2 nl_
        generalize hG_ : upd _ l2 _ = H
        have hS := Sat.alloc hS nl_ hG_
        clear nl_ hG_
        refine ⟨.ref p, rfl, p, _, 5, _, rfl, (hS.pk (by walk_at "pk")), by omega, by decide, by decide, fun j H j5 hS => ?_⟩
        have j5 : j < 5 := by omega
        refine ⟨l2, _, j, .str (wdS true j), rfl, rfl, sq_at (hS.get (by walk_at "pu")), wd_atT j j5, ?_⟩
        refine ⟨_, rfl, _, rfl, .ref p, rfl, p, _, 4100, _, rfl, (hS.pk (by walk_at "pk")), by omega, by decide, by decide, fun k H k9 hS => ?_⟩
        refine ⟨_, _, rfl, rfl, .inr ⟨pp, ei, eo, j, 1 + k, S, _, by rw [show ((1 + k : Nat) : Int) = 1 + (k : Int) from by omega]; rfl, j5, (hS.pk (by walk_at "pk")), fun H hS => ?_⟩⟩
        refine ⟨_, rfl, _, rfl, _, rfl, .inr ⟨_, rfl, lv, _, 1, .bl (!S.bi), rfl, rfl, sq_at (hS.get (by walk_at "pu")), rfl, ?_⟩⟩
        refine ⟨_, rfl, true, !S.bi, j, rfl, j5, fun H' s9 => ?_⟩
        have hS := hS.same s9
        clear s9
        refine ⟨rfl, _, rfl, iteFc (congrArg not (decide_eq_true rfl)) ?_⟩
        refine ⟨.ref pp, rfl, meth_pp hS (by walk_at "pu") (by decide +kernel) ⟨pp, ei, eo, S, _, rfl, (hS.pk (by walk_at "pk")), meth_po hS (by walk_at "pu") (by decide +kernel) ⟨pp, ei, eo, S, _, rfl, (hS.pk (by walk_at "pk")), ok, fun H a0 hS => ?_⟩⟩⟩
        refine ⟨.ref pp, rfl, meth_pp hS (by walk_at "pu") (by decide +kernel) ⟨pp, ei, eo, S, _, rfl, (hS.pk (by walk_at "pk")), meth_pi hS (by walk_at "pu") (by decide +kernel) ⟨pp, ei, eo, S, _, rfl, (hS.pk (by walk_at "pk")), ok, fun H a1 hS => ?_⟩⟩⟩
        refine ⟨by show (2 : Nat) ≤ sizeLine; omega, ?_⟩
        intro l3 nl_
        generalize hG_ : upd _ l3 _ = H
        have hS := Sat.alloc hS nl_ hG_
        clear nl_ hG_
        obtain ⟨u0, G0, e0, E0⟩ := hS.nts (q := a0) (by walk_at "pu")
        obtain ⟨u1, G1, e1, E1⟩ := hS.nts (q := a1) (by walk_at "pu")
        have sM := hS.frs (M := M) (by walk_at "pu")
        have K0 := NtsM.same N0 sM
        have K1 := NtsM.same N1 sM
        have hnn := hS.fr (by walk_at "pu") enn
        have hn0 := hS.fr (by walk_at "pu") en0
        have hn1 := hS.fr (by walk_at "pu") en1
        refine ⟨_, rfl, .list [ntsD S.no, ntsD S.ni], .lst (sq_at (hS.get (by walk_at "pu"))) (.cons (E0.dp e0) (.cons (E1.dp e1) .nil)), .lst (sq_at hnn) (.cons (Nts.dp K0 hn0) (.cons (Nts.dp K1 hn1) .nil)), two_nts E0.ok E1.ok, _, rfl, iteF ?_⟩
        clear hnn hn0 hn1
        refine ⟨.ref pp, rfl, meth_pp hS (by walk_at "pu") (by decide +kernel) ⟨pp, ei, eo, S, _, rfl, (hS.pk (by walk_at "pk")), fun H z hS => ?_⟩⟩
        have hli := hS.fr (by walk_at "pu") eli
        refine ⟨_, rfl, z, li, _, _, rfl, rfl, sq_at (hS.get (by walk_at "pu")), sq_at hli, _, rfl, iteNS rfl ?_⟩
        refine ⟨.ref pp, rfl, meth_pp hS (by walk_at "pu") (by decide +kernel) ⟨pp, ei, eo, S, _, rfl, (hS.pk (by walk_at "pk")), meth_po hS (by walk_at "pu") (by decide +kernel) ⟨pp, ei, eo, S, _, rfl, (hS.pk (by walk_at "pk")), ?_⟩⟩⟩
        refine ⟨.ref pp, rfl, meth_pp hS (by walk_at "pu") (by decide +kernel) ⟨pp, ei, eo, S, _, rfl, (hS.pk (by walk_at "pk")), meth_pi hS (by walk_at "pu") (by decide +kernel) ⟨pp, ei, eo, S, _, rfl, (hS.pk (by walk_at "pk")), ?_⟩⟩⟩
        refine ⟨by show (2 : Nat) ≤ sizeLine; omega, ?_⟩
        intro l4 nl_
        generalize hG_ : upd _ l4 _ = H
        have hS := Sat.alloc hS nl_ hG_
        clear nl_ hG_
        refine ⟨_, rfl, lv, _, 0, .bl (!S.bo), rfl, rfl, sq_at (hS.get (by walk_at "pu")), rfl, _, rfl, _, rfl, lv, _, 1, .bl (!S.bi), rfl, rfl, sq_at (hS.get (by walk_at "pu")), rfl, _, rfl, by show (2 : Nat) ≤ sizeLine; omega, ?_⟩
        intro l5 nl_
        generalize hG_ : upd _ l5 _ = H
        have hS := Sat.alloc hS nl_ hG_
        clear nl_ hG_
        have hS : Sat H (.pt l5 (.lst [.bl (!(!S.bo)), .bl (!(!S.bi))]) :: _) := hS
        rw [Bool.not_not, Bool.not_not] at hS
        refine ⟨.list [.bool S.bo, .bool S.bi], .lst (sq_at (hS.get (by walk_at "pu"))) (.cons (.bl _) (.cons (.bl _) .nil)), .lst (sq_at (hS.get (by walk_at "pu"))) (.cons (.bl _) (.cons (.bl _) .nil)), by cases S.bo <;> cases S.bi <;> rfl, _, rfl, iteF ?_⟩
        have hS := Sat.poolup (p := p) (m := n + 3 * ((i + 1 : Nat) : Int)) (show Sat H (poolC p _ :: pipC T.C_Pipe T.C_IntoEnd T.C_OutEnd pp ei eo S :: .pt lv (.lst [.bl (!S.bo), .bl (!S.bi)]) :: frC M :: R) from (hS.pk (by walk_at "pk"))) (by omega)
        exact ⟨_, _, _, _, rfl, (hS.pk (by walk_at "pk"))⟩
    · clear hS
      obtain ⟨y5, y6, y7, y8, rfl, hS⟩ := hW
      refine ⟨.ref pp, rfl, meth_pp hS (by walk_at "pu") (by decide +kernel) ⟨pp, ei, eo, S, _, rfl, (hS.pk (by walk_at "pk")), meth_po hS (by walk_at "pu") (by decide +kernel) ⟨pp, ei, eo, S, _, rfl, (hS.pk (by walk_at "pk")), ?_⟩⟩⟩
      have hS := Sat.poolup (p := p) (m := n + 12) hS (by omega)
      exact ⟨_, rfl, _, rfl, iteT ⟨.ref pp, rfl, meth_pp hS (by walk_at "pu") (by decide +kernel) ⟨pp, ei, eo, S, _, rfl, (hS.pk (by walk_at "pk")), meth_pi hS (by walk_at "pu") (by decide +kernel) ⟨pp, ei, eo, S, _, rfl, (hS.pk (by walk_at "pk")), _, rfl, q _ (hS.pk (by walk_at "pk"))⟩⟩⟩⟩

set_option maxHeartbeats 0 in
theorem ok_law (T : Tx K mg) : FnOk P w K mg base CX0 12 T.f_law T.fd_law P_law (spLaw K) := by
  have G_pool := (ok_pool (P := P) (w := w) (base := base) T).imp fun _ _ _ _ => spPoolS.to
  have G_take := (ok_take (P := P) (w := w) (base := base) T).imp fun _ _ _ _ => spTakeS.to
  have G_lrow := (ok_lrow (P := P) (w := w) (base := base) T).imp fun _ _ _ _ => spRowS.to
  have G_pinit := (ok_pinit (P := P) (w := w) (base := base) T).imp fun _ _ _ _ => spPiInitS.to
  have G_pinto := (ok_pinto (P := P) (w := w) (base := base) T).imp fun _ _ _ _ => spIntoS.to
  have G_pout := (ok_pout (P := P) (w := w) (base := base) T).imp fun _ _ _ _ => spOutS.to
  have G_lbad := ok_lbad (P := P) (w := w) (base := base) T
  have G_iput := (ok_iput (P := P) (w := w) (base := base) T).imp fun _ _ _ _ => spPutS.to
  have G_osup := (ok_osup (P := P) (w := w) (base := base) T).imp fun _ _ _ _ => spSupS.to
  have G_ibar := (ok_ibar (P := P) (w := w) (base := base) T).imp fun _ _ _ _ => spBarS.to
  have G_lasked := ok_lasked (P := P) (w := w) (base := base) T
  have sz : sizeLine = 16777216 := sizeLine_eq
  refine T.D_law.F.ok sc_law (fun vs H Q E h => ?_) (fun cdv A outer s H vs Q E hr h => ?_)
  · obtain ⟨a, ns, rfl, _⟩ := h
    rfl
  · obtain ⟨a, ns, rfl, hS, h63, q⟩ := h
    refine ⟨_, (pss_cons (ps_set (i := 1) sc_law.nd rfl (.inl rfl) (pe_call G_pool (hr.mono (by decide)) (by rfl) T.D_pool.g T.D_pool.F.kp T.bb_pool .nil pass0 (pa_cons (pv 0) (pa_cons pe_int pa_nil))))
      (pss_cons (ps_set (i := 2) sc_law.nd rfl (.inl rfl) (pe_op op_add pe_int (pe_call G_take (hr.mono (by decide)) (by rfl) T.D_take.g T.D_take.F.kp T.bb_take .nil pass0 (pa_cons (pv 1) (pa_cons pe_int pa_nil)))))
      (pss_cons (ps_set (i := 3) sc_law.nd rfl (.inl rfl) (pe_op op_cat (pe_call G_lrow (hr.mono (by decide)) (by rfl) T.D_lrow.g T.D_lrow.F.kp T.bb_lrow .nil pass0 (pa_cons (pv 1) (pa_cons pe_int pa_nil))) (pe_lst (pa_cons (pe_call G_take (hr.mono (by decide)) (by rfl) T.D_take.g T.D_take.F.kp T.bb_take .nil pass0 (pa_cons (pv 1) (pa_cons pe_int pa_nil))) pa_nil))))
      (pss_cons (ps_for PassesOwn.never rfl (pi_list (pe_lst (pa_cons pe_int (pa_cons (pe_un un_neg pe_int) (pa_cons pe_int (pa_cons (pe_un un_neg (pe_call G_take (hr.mono (by decide)) (by rfl) T.D_take.g T.D_take.F.kp T.bb_take .nil pass0 (pa_cons (pv 1) (pa_cons (pe_op op_pow pe_int pe_int) pa_nil)))) (pa_cons (pe_op op_add pe_int (pe_call G_take (hr.mono (by decide)) (by rfl) T.D_take.g T.D_take.F.kp T.bb_take .nil pass0 (pa_cons (pv 1) (pa_cons (pe_op op_pow pe_int pe_int) pa_nil)))) pa_nil))))))) (pg_name (i := 4) sc_law.nd rfl (.inl rfl)) (pss_one (ps_if (pt_not (pt_val (pe_call G_lbad (hr.mono (by decide)) (by rfl) T.D_lbad.g T.D_lbad.F.kp T.bb_lbad .nil pass0 (pa_cons (pv 4) pa_nil)))) (pss_one (ps_ret pe_bl)) pss_nil)))
      (pss_cons (ps_set (i := 5) sc_law.nd rfl (.inl rfl) (pe_makeK0 T.mk_Pipe G_pinit (hr.mono (by decide)) (by rfl) T.g_Pipe T.kb_pinit_0_room pass0 (pk_cons (pv 2) pk_nil)))
      (pss_cons (ps_if (PW.pt (pw_or (pt_cmpR op_ne (pe_meth (pe_meth0 (pe_make0 T.mk_Pipe G_pinit (hr.mono (by decide)) (by rfl) T.g_Pipe T.b_pinit_0 T.v_pinit_0 pass0) T.cl_Pipe T.D_pinto.m G_pinto (hr.mono (by decide)) T.bb_pinto .nil pass0) T.cl_IntoEnd T.D_iput.m G_iput (hr.mono (by decide)) T.bb_iput .nil pass0 (pa_cons (pe_op op_rep (pe_lst (pa_cons pe_int pa_nil)) pe_int) pa_nil)) (pe_glob (v := .int 8) (by rfl) T.c_ROOM ⟨_, rfl⟩) (nomark _)) (pw_or1 (pt_not (pt_val (pe_call G_lasked (hr.mono (by decide)) (by rfl) T.D_lasked.g T.D_lasked.F.kp T.bb_lasked .nil pass0 (pa_cons (pv 1) (pa_cons (pv 5) (pa_cons (pe_lst (pa_cons pe_bl (pa_cons pe_bl pa_nil))) (pa_cons (pe_lst (pa_cons (pe_lst pa_nil) (pa_cons (pe_lst pa_nil) pa_nil))) (pa_cons (pe_lst pa_nil) pa_nil))))))))))) (pss_one (ps_ret pe_bl)) pss_nil)
      (pss_cons (ps_set (i := 6) sc_law.nd rfl (.inl rfl) (pe_callB (call_min2 rfl) (by rfl) T.m_min (by decide +kernel) (pa_cons (pv 2) (pa_cons (pe_callB call_len_seq (by rfl) T.m_len PySem.boot_len (pa_cons (pv 3) pa_nil)) pa_nil))))
      (pss_cons (ps_if (pt_cmpR op_ne (pe_meth (pe_meth0 (pv 5) T.cl_Pipe T.D_pinto.m G_pinto (hr.mono (by decide)) T.bb_pinto .nil pass0) T.cl_IntoEnd T.D_iput.m G_iput (hr.mono (by decide)) T.bb_iput .nil pass0 (pa_cons (pe_callTy call_list_of (by rfl) T.m_list (by decide +kernel) (pa_cons (pv 3) pa_nil)) pa_nil)) (pv 6) (nomark _)) (pss_one (ps_ret pe_bl)) pss_nil)
      (pss_cons (ps_set (i := 7) sc_law.nd rfl (.inl rfl) (pe_lst (pa_cons (pe_lst pa_nil) (pa_cons (pe_lst (pa_cons (pe_tup (pa_cons pe_str (pa_cons pe_int (pa_cons (pv 3) (pa_cons (pv 6) pa_nil))))) pa_nil)) pa_nil))))
      (pss_cons (ps_set (i := 8) sc_law.nd rfl (.inl rfl) (pe_slice sl_list (pv 3) po_none (po_some (pv 6))))
      (pss_cons (ps_set (i := 1) sc_law.nd rfl (.inl rfl) (pe_call G_pool (hr.mono (by decide)) (by rfl) T.D_pool.g T.D_pool.F.kp T.bb_pool .nil pass0 (pa_cons (pv 0) (pa_cons pe_int pa_nil))))
      (pss_cons (ps_set (i := 9) sc_law.nd rfl (.inl rfl) (pe_call G_take (hr.mono (by decide)) (by rfl) T.D_take.g T.D_take.F.kp T.bb_take .nil pass0 (pa_cons (pv 1) (pa_cons pe_int pa_nil))))
      (pss_cons (ps_set (i := 10) sc_law.nd rfl (.inl rfl) (pe_lst (pa_cons pe_bl (pa_cons pe_bl pa_nil))))
      (pss_cons (ps_for PassesOwn.never rfl (pi_list (pe_lst (pa_cons (pv 9) (pa_cons (pv 9) (pa_cons (pe_op op_sub pe_int (pv 9)) (pa_cons (pv 9) pa_nil)))))) (pg_name (i := 11) sc_law.nd rfl (.inl rfl)) (pss_cons (ps_if (pt_not (pt_val (pe_call G_lasked (hr.mono (by decide)) (by rfl) T.D_lasked.g T.D_lasked.F.kp T.bb_lasked .nil pass0 (pa_cons (pv 1) (pa_cons (pv 5) (pa_cons (pv 10) (pa_cons (pv 7) (pa_cons (pv 8) pa_nil)))))))) (pss_one (ps_ret pe_bl)) pss_nil)
      (pss_cons (ps_expr (Sip.pe_meth0or (pe_ix ix_list (pe_lst (pa_cons (pe_meth0 (pv 5) T.cl_Pipe T.D_pout.m G_pout (hr.mono (by decide)) T.bb_pout .nil pass0) (pa_cons (pe_meth0 (pv 5) T.cl_Pipe T.D_pinto.m G_pinto (hr.mono (by decide)) T.bb_pinto .nil pass0) pa_nil))) (pv 11) (fun _ _ => rfl)) T.cl_OutEnd T.D_osup.m G_osup (hr.mono (by decide)) T.bb_osup .nil T.cl_IntoEnd T.D_ibar.m G_ibar (hr.mono (by decide)) T.bb_ibar .nil pass0))
      (pss_cons (ps_asg pe_bl (pg_sub (pv 10) (pv 11) set_list))
      (pss_one (ps_if (pt_cmpR op_eq (pv 11) pe_int (nomark _)) (pss_one (ps_set (i := 8) sc_law.nd rfl (.inl rfl) (pe_lst pa_nil))) pss_nil))))))
      (pss_one (ps_ret (pe_call G_lasked (hr.mono (by decide)) (by rfl) T.D_lasked.g T.D_lasked.F.kp T.bb_lasked .nil pass0 (pa_cons (pv 1) (pa_cons (pv 5) (pa_cons (pv 10) (pa_cons (pv 7) (pa_cons (pv 8) pa_nil)))))))))))))))))))))), ?_⟩
    have hS := Sat.scr0 hS
    refine ⟨.ref a, rfl, a, ns, 0, _, rfl, hS, h63, by decide, by decide, fun p H hS => ?_⟩
    refine ⟨.ref p, rfl, p, _, 64, _, rfl, (hS.pk (by walk_at "pk")), by decide, by decide, by decide, fun r H r64 hS => ?_⟩
    refine ⟨_, _, rfl, rfl, ?_⟩
    refine ⟨.ref p, rfl, p, _, 20, _, rfl, (hS.pk (by walk_at "pk")), by decide, by decide, by decide, fun H b bs hS lb _ => ?_⟩
    refine ⟨.ref p, rfl, p, _, 256, _, rfl, (hS.pk (by walk_at "pk")), by decide, by decide, by decide, fun v H _ hS => ?_⟩
    refine ⟨by show (1 : Nat) ≤ sizeLine; omega, ?_⟩
    intro l1 nl_
    generalize hG_ : upd _ l1 _ = H
    have hS := Sat.alloc hS nl_ hG_
    clear nl_ hG_
    refine ⟨b, l1, _, _, rfl, rfl, (hS.get (by walk_at "pu")), (hS.get (by walk_at "pu")), by rw [List.length_map]; show _ + 1 ≤ _; omega, ?_⟩
    rw [show bs.map V.int ++ [V.int (v : Int)] = (bs ++ [(v : Int)]).map V.int by rw [List.map_append]; rfl]
    have ld : (bs ++ [(v : Int)]).length ≤ 40 := by rw [List.length_append]; show _ + 1 ≤ 40; omega
    have dne : 1 ≤ (bs ++ [(v : Int)]).length := by rw [List.length_append]; exact Nat.le_add_left _ _
    generalize bs ++ [(v : Int)] = ds at ld dne ⊢
    intro d nl_
    generalize hG_ : upd _ d _ = H
    have hS := Sat.alloc hS nl_ hG_
    clear nl_ hG_
    refine ⟨1, rfl, .ref p, rfl, _, _, rfl, rfl, ⟨by decide, by decide, by decide⟩, p, _, 1000000000, _, rfl, (hS.pk (by walk_at "pk")), by decide, by decide, by decide, fun t1 H t1b hS => ?_⟩
    refine ⟨_, rfl, .ref p, rfl, _, _, rfl, rfl, ⟨by decide, by decide, by decide⟩, p, _, 1000000000, _, rfl, (hS.pk (by walk_at "pk")), by decide, by decide, by decide, fun t2 H t2b hS => ?_⟩
    refine ⟨_, _, rfl, rfl, by show (5 : Nat) ≤ sizeLine; omega, ?_⟩
    intro lq nl_
    generalize hG_ : upd _ lq _ = H
    have hS := Sat.alloc hS nl_ hG_
    clear nl_ hG_
    refine ⟨lq, rfl, ⟨_, sq_at (hS.get (by walk_at "pu"))⟩, ?_⟩
    refine for_list (K := K) (a := lq) (xs := [V.int 0, V.int (-1), V.int 65, V.int (-(t1 : Int)), V.int (65 + (t2 : Int))]) (fun i σ H' => ∃ (y4 : Option V), σ = [some (.ref a), some (.ref p), some (.int (1 + (r : Int))), some (.ref d), y4, none, none, none, none, none, none, none] ∧ Sat H' (.pt lq (.lst [V.int 0, V.int (-1), V.int 65, V.int (-(t1 : Int)), V.int (65 + (t2 : Int))]) :: .pt d (.lst (ds.map V.int)) :: poolC p 3000 :: [scrC K a (ns.map V.int)])) ⟨none, rfl, ?_⟩ (fun i σ H' _ hW => by obtain ⟨y4, rfl, hS⟩ := hW; exact sq_at (hS.get (by walk_at "pu"))) (fun i x σ H' hx hW => ?_) (fun σ H' hW => ?_)
    · have hS := Sat.poolup (p := p) (m := 3000) (show Sat H (poolC p _ :: .pt lq _ :: .pt d (.lst (ds.map V.int)) :: [scrC K a (ns.map V.int)]) from (hS.pk (by walk_at "pk"))) (by decide)
      exact (hS.pk (by walk_at "pk"))
    · clear hS
      obtain ⟨y4, rfl, hS⟩ := hW
      obtain ⟨R, rfl, hR⟩ : ∃ R : Int, x = .int R ∧ (R < 1 ∨ 64 < R) := by
        have hm := List.mem_of_getElem? hx
        simp only [List.mem_cons, List.mem_nil_iff, or_false] at hm
        rcases hm with rfl | rfl | rfl | rfl | rfl <;> exact ⟨_, rfl, by omega⟩
      refine ⟨_, rfl, R, _, rfl, hR, hS, fun H hS => ⟨_, rfl, iteF ?_⟩⟩
      exact ⟨_, rfl, hS⟩
    clear hS
    obtain ⟨y4, rfl, hS⟩ := hW
    obtain ⟨N, eN, N0, N1⟩ : ∃ N : Nat, (1 + (r : Int)) = (N : Int) ∧ 1 ≤ N ∧ N ≤ 64 := ⟨1 + r, by omega, by omega, by omega⟩
    rw [eN]
    refine ⟨.int N, rfl, rfl, rfl, fun pp pd npp npd ne => ?_⟩
    generalize hG : upd (upd _ pd _) pp _ = H
    have hS := Sat.make hS npp npd ne hG
    clear hG npp npd ne
    refine ⟨pp, pd, N, _, rfl, (hS.pk (by walk_at "pk")), N0, N1, fun H ei eo hS => ⟨rfl, ?_⟩⟩
    intro pp2 pd2 npp npd ne
    generalize hG : upd (upd _ pd2 _) pp2 _ = H
    have hS := Sat.make hS npp npd ne hG
    clear hG npp npd ne
    refine ⟨pp2, pd2, 8, _, rfl, (hS.pk (by walk_at "pk")), by decide, by decide, fun H ei2 eo2 hS => ⟨rfl, ?_⟩⟩
    refine meth_pp hS (by walk_at "pu") (by decide +kernel) ⟨pp2, ei2, eo2, _, _, rfl, (hS.pk (by walk_at "pk")), meth_pi hS (by walk_at "pu") (by decide +kernel) ?_⟩
    refine ⟨by show (1 : Nat) ≤ sizeLine; omega, ?_⟩
    intro l7 nl_
    generalize hG_ : upd _ l7 _ = H
    have hS := Sat.alloc hS nl_ hG_
    clear nl_ hG_
    refine ⟨l7, 60, _, rfl, rfl, (hS.get (by walk_at "pu")), by decide, by decide, by show (1 : Nat) * 60 ≤ sizeLine; omega, ?_⟩
    intro r7 nl_
    generalize hG_ : upd _ r7 _ = H
    have hS := Sat.alloc hS nl_ hG_
    clear nl_ hG_
    have hS : Sat H (.pt r7 (.lst ((List.replicate 60 (7 : Int)).map V.int)) :: _) := hS
    refine ⟨pp2, ei2, eo2, r7, pst0 8, List.replicate 60 7, _, rfl, (hS.pk (by walk_at "pk")), ⟨Nat.zero_le _, by decide, Nat.zero_le _, Nat.zero_le _⟩, rfl, rfl, (hS.get (by walk_at "pu")), by decide, fun H hS => ?_⟩
    have e8 : numV (fitF (pst0 8) (List.replicate 60 7)) = .int 8 := if_neg (by decide)
    rw [e8]
    refine ⟨rfl, _, rfl, iteFc (congrArg not (decide_eq_true rfl)) ?_⟩
    have hS : Sat H (pipC T.C_Pipe T.C_IntoEnd T.C_OutEnd pp ei eo (pst0 N) :: .pt d (.lst (ds.map V.int)) :: poolC p 3000 :: [scrC K a (ns.map V.int)]) := (hS.pk (by walk_at "pk"))
    refine ⟨_, rfl, _, rfl, by show (2 : Nat) ≤ sizeLine; omega, ?_⟩
    intro lv nl_
    generalize hG_ : upd _ lv _ = H
    have hS := Sat.alloc hS nl_ hG_
    clear nl_ hG_
    have hS : Sat H (.pt lv (.lst [.bl (!(pst0 N).bo), .bl (!(pst0 N).bi)]) :: _) := hS
    refine ⟨Nat.zero_le _, ?_⟩
    intro n0 nl_
    generalize hG_ : upd _ n0 _ = H
    have hS := Sat.alloc hS nl_ hG_
    clear nl_ hG_
    refine ⟨Nat.zero_le _, ?_⟩
    intro n1 nl_
    generalize hG_ : upd _ n1 _ = H
    have hS := Sat.alloc hS nl_ hG_
    clear nl_ hG_
    refine ⟨by show (2 : Nat) ≤ sizeLine; omega, ?_⟩
    intro nn nl_
    generalize hG_ : upd _ nn _ = H
    have hS := Sat.alloc hS nl_ hG_
    clear nl_ hG_
    refine ⟨Nat.zero_le _, ?_⟩
    intro li nl_
    generalize hG_ : upd _ li _ = H
    have hS := Sat.alloc hS nl_ hG_
    clear nl_ hG_
    have hS := hS.fr0
    have e0 : (fun _ => none : Hp) = fun _ => none := rfl
    obtain ⟨U1, hS, s1, e1⟩ := Sat.ptfr (a := nn) (M := fun _ => none) (hS.pk (by walk_at "pk"))
    obtain ⟨U2, hS, s2, e2⟩ := Sat.ptfr (a := n0) (M := U1) (hS.pk (by walk_at "pk"))
    obtain ⟨U3, hS, s3, e3⟩ := Sat.ptfr (a := n1) (M := U2) (hS.pk (by walk_at "pk"))
    obtain ⟨U4, hS, s4, e4⟩ := Sat.ptfr (a := li) (M := U3) (hS.pk (by walk_at "pk"))
    obtain ⟨U, hS, s5, e5⟩ := Sat.ptfr (a := d) (M := U4) (hS.pk (by walk_at "pk"))
    have ok0 : PstOk (pst0 N) := ⟨Nat.zero_le _, N1, Nat.zero_le _, Nat.zero_le _⟩
    refine ⟨p, pp, ei, eo, lv, nn, li, n0, n1, _, [], [], pst0 N, U, _, rfl, (hS.pk (by walk_at "pk")), by omega, ok0, s5 _ _ (s4 _ _ (s3 _ _ (s2 _ _ e1))), s5 _ _ (s4 _ _ (s3 _ _ e2)), s5 _ _ (s4 _ _ e3), trivial, trivial, s5 _ _ e4, fun H hS => ⟨_, rfl, iteF ?_⟩⟩
    have hS : Sat H (pipC T.C_Pipe T.C_IntoEnd T.C_OutEnd pp ei eo (pst0 N) :: frC U :: [scrC K a (ns.map V.int)]) := (hS.pk (by walk_at "pk"))
    have hd := hS.fr (by walk_at "pu") e5
    clear e0 e1 e2 e3 e4 s1 s2 s3 s4 s5
    refine ⟨_, rfl, _, rfl, d, _, rfl, .inl (sq_at hd), _, _, rfl, ?_⟩
    obtain ⟨z, ez⟩ : ∃ z, z = min N ds.length := ⟨_, rfl⟩
    have e1 : (if ((ds.map V.int).length : Int) < (N : Int) then ((ds.map V.int).length : Int) else (N : Int)) = (z : Int) := by rw [List.length_map]; split <;> omega
    rw [e1]
    refine ⟨_, rfl, meth_pp hS (by walk_at "pu") (by decide +kernel) ⟨pp, ei, eo, pst0 N, _, rfl, (hS.pk (by walk_at "pk")), meth_pi hS (by walk_at "pu") (by decide +kernel) ⟨_, rfl, d, _, rfl, .inl (sq_at hd), ?_⟩⟩⟩
    intro d2 nl_
    generalize hG_ : upd _ d2 _ = H
    have hS := Sat.alloc hS nl_ hG_
    clear nl_ hG_
    refine ⟨pp, ei, eo, d2, pst0 N, ds, _, rfl, (hS.pk (by walk_at "pk")), ok0, rfl, rfl, (hS.get (by walk_at "pu")), by omega, fun H hS => ?_⟩
    have ef : fitF (pst0 N) ds = ds.take z := by
      unfold fitF
      show ds.take (N - 0) = _
      rw [ez, Nat.sub_zero]
      by_cases h : N ≤ ds.length
      · rw [Nat.min_eq_left h]
      · rw [Nat.min_eq_right (by omega), List.take_of_length_le (by omega), List.take_of_length_le (Nat.le_refl _)]
    have lz : (ds.take z).length = z := by rw [List.length_take]; omega
    have fne : ¬ ds.take z = [] := fun h => by rw [h] at lz; have : z = 0 := lz.symm; omega
    have ev : numV (fitF (pst0 N) ds) = .int z := by unfold numV; rw [ef, if_neg fne, lz]
    have et : numT (fitF (pst0 N) ds) = .i z := by unfold numT; rw [ef, if_neg fne, lz]
    rw [ev]
    refine ⟨_, rfl, rfl, _, rfl, iteFc (congrArg not (decide_eq_true rfl)) ?_⟩
    have hd := hS.fr (by walk_at "pu") e5
    refine ⟨Nat.zero_le _, ?_⟩
    intro n0 nl_
    generalize hG_ : upd _ n0 _ = H
    have hS := Sat.alloc hS nl_ hG_
    clear nl_ hG_
    refine ⟨_, rfl, _, rfl, by show (4 : Nat) ≤ sizeLine; omega, ?_⟩
    intro tt nl_
    generalize hG_ : upd _ tt _ = H
    have hS := Sat.alloc hS nl_ hG_
    clear nl_ hG_
    refine ⟨by show (1 : Nat) ≤ sizeLine; omega, ?_⟩
    intro n1 nl_
    generalize hG_ : upd _ n1 _ = H
    have hS := Sat.alloc hS nl_ hG_
    clear nl_ hG_
    refine ⟨by show (2 : Nat) ≤ sizeLine; omega, ?_⟩
    intro nn nl_
    generalize hG_ : upd _ nn _ = H
    have hS := Sat.alloc hS nl_ hG_
    clear nl_ hG_
    have hd := hS.fr (by walk_at "pu") e5
    refine ⟨_, rfl, _, rfl, _, rfl, d, _, rfl, sq_at hd, ?_⟩
    rw [take_cut]
    intro li nl_
    generalize hG_ : upd _ li _ = H
    have hS := Sat.alloc hS nl_ hG_
    clear nl_ hG_
    obtain ⟨U1, hS, s1, e1⟩ := Sat.ptfr (a := tt) (M := U) (hS.pk (by walk_at "pk"))
    obtain ⟨U2, hS, s2, e2⟩ := Sat.ptfr (a := n0) (M := U1) (hS.pk (by walk_at "pk"))
    obtain ⟨U3, hS, s3, e3⟩ := Sat.ptfr (a := n1) (M := U2) (hS.pk (by walk_at "pk"))
    obtain ⟨U4, hS, s4, e4⟩ := Sat.ptfr (a := nn) (M := U3) (hS.pk (by walk_at "pk"))
    obtain ⟨M0, hS, s5, e6⟩ := Sat.ptfr (a := li) (M := U4) (hS.pk (by walk_at "pk"))
    have hnt : NtAt M0 (fun _ => True) (V.ref tt) ⟨Str.ofString "put", 0, .l ds, .i z⟩ := ⟨tt, .ref d, .int z, rfl, trivial, s5 _ _ (s4 _ _ (s3 _ _ (s2 _ _ e1))), ⟨d, rfl, trivial, s5 _ _ (s4 _ _ (s3 _ _ (s2 _ _ (s1 _ _ e5))))⟩, rfl, (by decide +kernel : PyData.strOk (Str.ofString "put") = true), trivial, trivial⟩
    have N1' : NtsM M0 [V.ref tt] (putP (pst0 N) ds).ni := by
      show NtsM M0 [V.ref tt] ([] ++ [⟨Str.ofString "put", 0, .l ds, numT (fitF (pst0 N) ds)⟩])
      rw [et]
      exact ⟨hnt, trivial⟩
    have ew : M0 li = some (.lst ((putP (pst0 N) ds).ws.map V.int)) := by
      show M0 li = some (.lst (([] ++ fitF (pst0 N) ds).map V.int))
      rw [List.nil_append, ef]
      exact e6
    have ok1 : PstOk (putP (pst0 N) ds) := by
      refine ⟨?_, N1, by show 1 ≤ 100000; decide, Nat.zero_le _⟩
      show ([] ++ fitF (pst0 N) ds).length ≤ N
      rw [List.nil_append, ef, lz]; omega
    have eo0 : (putP (pst0 N) ds).bo = false := rfl
    have ei0 : (putP (pst0 N) ds).bi = false := rfl
    have g1 := s5 _ _ e4
    have g2 := s5 _ _ (s4 _ _ (s3 _ _ e2))
    have g3 := s5 _ _ (s4 _ _ e3)
    have N0' : NtsM M0 [] (putP (pst0 N) ds).no := trivial
    obtain ⟨S0, eS0⟩ : ∃ S0, S0 = putP (pst0 N) ds := ⟨_, rfl⟩
    rw [← eS0] at N1' N0' ew ok1 eo0 ei0 hS
    have hS : Sat H (pipC T.C_Pipe T.C_IntoEnd T.C_OutEnd pp ei eo S0 :: frC M0 :: [scrC K a (ns.map V.int)]) := (hS.pk (by walk_at "pk"))
    clear eS0 e1 e2 e3 e4 s1 s2 s3 s4 s5 hnt e6 hd ef lz fne ev et
    refine ⟨_, rfl, a, ns, 1, _, rfl, (hS.pk (by walk_at "pk")), h63, by decide, by decide, fun p H hS => ?_⟩
    refine ⟨_, rfl, p, _, 2, _, rfl, (hS.pk (by walk_at "pk")), by decide, by decide, by decide, fun f H f2 hS => ?_⟩
    have f2 : f < 2 := by omega
    refine ⟨by show (2 : Nat) ≤ sizeLine; omega, ?_⟩
    intro lv nl_
    generalize hG_ : upd _ lv _ = H
    have hS := Sat.alloc hS nl_ hG_
    clear nl_ hG_
    have hS : Sat H (.pt lv (.lst [.bl (!S0.bo), .bl (!S0.bi)]) :: poolC p (1000 * 1 + 1) :: scrC K a (ns.map V.int) :: pipC T.C_Pipe T.C_IntoEnd T.C_OutEnd pp ei eo S0 :: frC M0 :: []) := by rw [eo0, ei0]; exact hS
    refine ⟨_, rfl, _, rfl, _, rfl, _, _, rfl, rfl, _, rfl, by show (4 : Nat) ≤ sizeLine; omega, ?_⟩
    intro lq nl_
    generalize hG_ : upd _ lq _ = H
    have hS := Sat.alloc hS nl_ hG_
    clear nl_ hG_
    have hS := Sat.poolup (p := p) (m := 3000 + 12 * ((0 : Nat) : Int)) (show Sat H (poolC p _ :: .pt lq _ :: .pt lv _ :: pipC T.C_Pipe T.C_IntoEnd T.C_OutEnd pp ei eo S0 :: frC M0 :: []) from (hS.pk (by walk_at "pk"))) (by decide)
    refine ⟨lq, rfl, ⟨_, sq_at (hS.get (by walk_at "pu"))⟩, ?_⟩
    refine for_list (K := K) (a := lq) (xs := [V.int (f : Int), V.int (f : Int), V.int (1 - (f : Int)), V.int (f : Int)]) (fun i σ H' => ∃ (S : Pst) (M : Hp) (li : Addr) (y11 : Option V), σ = [some (.ref a), some (.ref p), some (.int (N : Int)), some (.ref d), y4, some (.ref pp), some (.int (z : Int)), some (.ref nn), some (.ref li), some (.int (f : Int)), some (.ref lv), y11] ∧ Sat H' (poolC p (3000 + 12 * (i : Int)) :: .pt lq (.lst [V.int (f : Int), V.int (f : Int), V.int (1 - (f : Int)), V.int (f : Int)]) :: .pt lv (.lst [.bl (!S.bo), .bl (!S.bi)]) :: pipC T.C_Pipe T.C_IntoEnd T.C_OutEnd pp ei eo S :: frC M :: []) ∧ PstOk S ∧ M nn = some (.lst [.ref n0, .ref n1]) ∧ M n0 = some (.lst []) ∧ M n1 = some (.lst [.ref tt]) ∧ NtsM M [] S.no ∧ NtsM M [.ref tt] S.ni ∧ M li = some (.lst (S.ws.map V.int))) ⟨S0, M0, li, none, rfl, (hS.pk (by walk_at "pk")), ok1, g1, g2, g3, N0', N1', ew⟩ (fun i σ H' _ hW => by obtain ⟨S, M, li, y11, rfl, hS, _⟩ := hW; exact sq_at (hS.get (by walk_at "pu"))) (fun i x σ H' hx hW => ?_) (fun σ H' hW => ?_)
    · clear hS ew g1 g2 g3 N0' N1' ok1 eo0 ei0 hd
      obtain ⟨k, rfl, k2⟩ : ∃ k : Nat, x = .int k ∧ k < 2 := by
        have hm := List.mem_of_getElem? hx
        simp only [List.mem_cons, List.mem_nil_iff, or_false] at hm
        rcases hm with rfl | rfl | rfl | rfl
        · exact ⟨f, rfl, f2⟩
        · exact ⟨f, rfl, f2⟩
        · exact ⟨1 - f, by rw [show ((1 - f : Nat) : Int) = 1 - (f : Int) by omega], by omega⟩
        · exact ⟨f, rfl, f2⟩
      have i4 : i < 4 := by have := (List.getElem?_eq_some_iff.mp hx).1; exact this
      clear hx
      obtain ⟨S, M, li, y11, rfl, hS, ok, enn, en0, en1, N0, N1, eli⟩ := hW
      refine ⟨_, rfl, _, rfl, _, rfl, _, rfl, _, rfl, p, pp, ei, eo, lv, nn, li, n0, n1, _, _, _, S, M, _, rfl, (hS.pk (by walk_at "pk")), by omega, ok, enn, en0, en1, N0, N1, eli, fun H hS => ⟨_, rfl, iteF ?_⟩⟩
      refine ⟨_, rfl, meth_pp hS (by walk_at "pu") (by decide +kernel) ⟨pp, ei, eo, S, _, rfl, (hS.pk (by walk_at "pk")), _, rfl, meth_pp hS (by walk_at "pu") (by decide +kernel) ⟨pp, ei, eo, S, _, rfl, (hS.pk (by walk_at "pk")), by show (2 : Nat) ≤ sizeLine; omega, ?_⟩⟩⟩
      intro l0 nl_
      generalize hG_ : upd _ l0 _ = H
      have hS := Sat.alloc hS nl_ hG_
      clear nl_ hG_
      rcases (show k = 0 ∨ k = 1 by omega) with rfl | rfl
      · refine ⟨_, rfl, l0, _, 0, .ref eo, rfl, rfl, sq_at (hS.get (by walk_at "pu")), rfl, .inl (meth_po hS (by walk_at "pu") (by decide +kernel) ⟨pp, ei, eo, S, _, rfl, (hS.pk (by walk_at "pk")), fun H hS => ?_⟩)⟩
        refine ⟨_, rfl, _, rfl, lv, _, 0, 0, rfl, rfl, (hS.get (by walk_at "pu")), (by rfl), ?_⟩
        generalize hG_ : upd _ lv _ = H
        have hS := Sat.put (a := lv) (hS.pk (by walk_at "pk")) hG_
        clear hG_
        have hS : Sat H (.pt lv (.lst [.bl (!true), .bl (!S.bi)]) :: _) := hS
        refine ⟨_, rfl, rfl, _, rfl, iteTc (decide_eq_true rfl) ⟨by show (0 : Nat) ≤ sizeLine; omega, ?_⟩⟩
        intro li2 nl_
        generalize hG_ : upd _ li2 _ = H
        have hS := Sat.alloc hS nl_ hG_
        clear nl_ hG_
        obtain ⟨M2, hS, s1, e1⟩ := Sat.ptfr (a := li2) (M := M) (hS.pk (by walk_at "pk"))
        have hS := Sat.poolup (p := p) (m := 3000 + 12 * ((i + 1 : Nat) : Int)) (show Sat H (poolC p _ :: .pt lq _ :: .pt lv _ :: pipC T.C_Pipe T.C_IntoEnd T.C_OutEnd pp ei eo _ :: frC M2 :: []) from (hS.pk (by walk_at "pk"))) (by omega)
        exact ⟨{ S with ws := [], bo := true }, M2, li2, _, rfl, (hS.pk (by walk_at "pk")), ⟨Nat.zero_le _, ok.2⟩, s1 _ _ enn, s1 _ _ en0, s1 _ _ en1, N0.same s1, N1.same s1, e1⟩
      · refine ⟨_, rfl, l0, _, 1, .ref ei, rfl, rfl, sq_at (hS.get (by walk_at "pu")), rfl, .inr (meth_pi hS (by walk_at "pu") (by decide +kernel) ⟨pp, ei, eo, S, _, rfl, (hS.pk (by walk_at "pk")), fun H hS => ?_⟩)⟩
        refine ⟨_, rfl, _, rfl, lv, _, 1, 1, rfl, rfl, (hS.get (by walk_at "pu")), (by rfl), ?_⟩
        generalize hG_ : upd _ lv _ = H
        have hS := Sat.put (a := lv) (hS.pk (by walk_at "pk")) hG_
        clear hG_
        have hS : Sat H (.pt lv (.lst [.bl (!S.bo), .bl (!true)]) :: _) := hS
        have hS := Sat.poolup (p := p) (m := 3000 + 12 * ((i + 1 : Nat) : Int)) (show Sat H (poolC p _ :: .pt lq _ :: .pt lv _ :: pipC T.C_Pipe T.C_IntoEnd T.C_OutEnd pp ei eo _ :: frC M :: []) from (hS.pk (by walk_at "pk"))) (by omega)
        refine ⟨_, rfl, rfl, _, rfl, iteFc (by decide +kernel) ?_⟩
        exact ⟨{ S with bi := true }, M, li, _, rfl, (hS.pk (by walk_at "pk")), ok, enn, en0, en1, N0, N1, eli⟩
    clear hS ew g1 g2 g3 N0' N1' ok1 eo0 ei0 hd
    obtain ⟨S, M, li, y11, rfl, hS, ok, enn, en0, en1, N0, N1, eli⟩ := hW
    refine ⟨_, rfl, _, rfl, _, rfl, _, rfl, _, rfl, p, pp, ei, eo, lv, nn, li, n0, n1, _, _, _, S, M, _, rfl, (hS.pk (by walk_at "pk")), by show (3000 : Int) + 12 * 4 ≤ 700000000; decide, ok, enn, en0, en1, N0, N1, eli, fun H hS => q _⟩
end
set_option maxHeartbeats 0 in
theorem all_mk {l : PySem.W.OpenLaw} [Sip.SupProg l.prog supFl] {w : World} {K : PySem.W.Frag} {h : Heap} {mg : Str → Option Value} {fa C_IntoEnd C_OutEnd C_Pipe C_Raw C_SipError C_Fault C_Closed C_NoSeek C_NoReads C_NoWrites C_BadRoom f_whole f_croom f_ocopy f_rinit f_iinit f_oinit f_pinit f_pinto f_pout f_pheld f_play f_plift f_iaccept f_ogive f_iput f_iopen f_imay f_inote f_ishut f_ilog f_ilogb f_otake f_oopen f_omay f_onote f_oshut f_olog f_ologb f_iFault f_rshut f_pdrop f_osup f_ibar f_itake f_imayT f_igo f_icut f_iplace f_isize f_iseek f_imayC f_isk f_oput f_omayP f_ogo f_ocut f_oplace f_osize f_oseek f_omayC f_osk f_pool f_take f_lrow f_lrefusal f_ltried f_lbad f_ldue f_lasked f_law : Addr} (X : K.In h) (G : h.Ns mainGlobals mg) (hfa : mg "law" = some (.ref fa))
    (qa_IntoEnd : PySem.W.nsIn K mainGlobals "IntoEnd" = some (some (.ref C_IntoEnd)))
    (qa_OutEnd : PySem.W.nsIn K mainGlobals "OutEnd" = some (some (.ref C_OutEnd)))
    (qa_Pipe : PySem.W.nsIn K mainGlobals "Pipe" = some (some (.ref C_Pipe)))
    (qa_Raw : PySem.W.nsIn K mainGlobals "Raw" = some (some (.ref C_Raw)))
    (rd_Raw : PySem.W.readsIn K C_Raw (.type "type") = true)
    (ga_Raw : PySem.W.specialIn K (.ref C_Raw) "__getattribute__" = some (some (.builtin "type.__getattribute__")))
    (qa_SipError : PySem.W.nsIn K mainGlobals "SipError" = some (some (.ref C_SipError)))
    (qa_Fault : PySem.W.nsIn K mainGlobals "Fault" = some (some (.ref C_Fault)))
    (qa_Closed : PySem.W.nsIn K mainGlobals "Closed" = some (some (.ref C_Closed)))
    (qa_NoSeek : PySem.W.nsIn K mainGlobals "NoSeek" = some (some (.ref C_NoSeek)))
    (qa_NoReads : PySem.W.nsIn K mainGlobals "NoReads" = some (some (.ref C_NoReads)))
    (qa_NoWrites : PySem.W.nsIn K mainGlobals "NoWrites" = some (some (.ref C_NoWrites)))
    (qa_BadRoom : PySem.W.nsIn K mainGlobals "BadRoom" = some (some (.ref C_BadRoom)))
    (sb_SipError : PySem.W.subIn K (.ref C_SipError) (.type "BaseException") = some true)
    (sh_SipError : PySem.W.hasDictIn K C_SipError = true)
    (st_SipError : PySem.W.typeIn K (.ref C_SipError) = some (.type "type"))
    (jc_Closed : PySem.W.isClsIn K C_Closed = true)
    (jt_Closed : PySem.W.typeIn K (.ref C_Closed) = some (.type "type"))
    (jc_NoSeek : PySem.W.isClsIn K C_NoSeek = true)
    (jt_NoSeek : PySem.W.typeIn K (.ref C_NoSeek) = some (.type "type"))
    (jc_NoReads : PySem.W.isClsIn K C_NoReads = true)
    (jt_NoReads : PySem.W.typeIn K (.ref C_NoReads) = some (.type "type"))
    (jc_NoWrites : PySem.W.isClsIn K C_NoWrites = true)
    (jt_NoWrites : PySem.W.typeIn K (.ref C_NoWrites) = some (.type "type"))
    (jc_Fault : PySem.W.isClsIn K C_Fault = true)
    (jt_Fault : PySem.W.typeIn K (.ref C_Fault) = some (.type "type"))
    (jc_SipError : PySem.W.isClsIn K C_SipError = true)
    (jt_SipError : PySem.W.typeIn K (.ref C_SipError) = some (.type "type"))
    (qx_Closed : PySem.W.excIn K C_Closed [.type "ValueError", .type "Exception", .type "BaseException", .type "object"] "ValueError.__new__" = true)
    (qk_Closed : PySem.W.keepIn K (.ref C_Closed) = true)
    (qb_Closed : PySem.W.subIn K (.ref C_Closed) (.type "BaseException") = some true)
    (qt_Closed : PySem.W.typeIn K (.ref C_Closed) = some (.type "type"))
    (qx_NoSeek : PySem.W.excIn K C_NoSeek [.type "ValueError", .type "Exception", .type "BaseException", .type "object"] "ValueError.__new__" = true)
    (qk_NoSeek : PySem.W.keepIn K (.ref C_NoSeek) = true)
    (qb_NoSeek : PySem.W.subIn K (.ref C_NoSeek) (.type "BaseException") = some true)
    (qt_NoSeek : PySem.W.typeIn K (.ref C_NoSeek) = some (.type "type"))
    (qx_NoReads : PySem.W.excIn K C_NoReads [.type "ValueError", .type "Exception", .type "BaseException", .type "object"] "ValueError.__new__" = true)
    (qk_NoReads : PySem.W.keepIn K (.ref C_NoReads) = true)
    (qb_NoReads : PySem.W.subIn K (.ref C_NoReads) (.type "BaseException") = some true)
    (qt_NoReads : PySem.W.typeIn K (.ref C_NoReads) = some (.type "type"))
    (qx_NoWrites : PySem.W.excIn K C_NoWrites [.type "ValueError", .type "Exception", .type "BaseException", .type "object"] "ValueError.__new__" = true)
    (qk_NoWrites : PySem.W.keepIn K (.ref C_NoWrites) = true)
    (qb_NoWrites : PySem.W.subIn K (.ref C_NoWrites) (.type "BaseException") = some true)
    (qt_NoWrites : PySem.W.typeIn K (.ref C_NoWrites) = some (.type "type"))
    (qx_BadRoom : PySem.W.excIn K C_BadRoom [.type "ValueError", .type "Exception", .type "BaseException", .type "object"] "ValueError.__new__" = true)
    (qk_BadRoom : PySem.W.keepIn K (.ref C_BadRoom) = true)
    (qb_BadRoom : PySem.W.subIn K (.ref C_BadRoom) (.type "BaseException") = some true)
    (qt_BadRoom : PySem.W.typeIn K (.ref C_BadRoom) = some (.type "type"))
    (hb_Fault : PySem.W.subIn K (.ref C_Fault) (.type "BaseException") = some true)
    (hh_Fault : PySem.W.hasDictIn K C_Fault = true)
    (hy_Fault : PySem.W.typeIn K (.ref C_Fault) = some (.type "type"))
    (hs_Fault_Fault : PySem.W.subIn K (.ref C_Fault) (.ref C_Fault) = some true)
    (hs_Closed_Fault : PySem.W.subIn K (.ref C_Closed) (.ref C_Fault) = some false)
    (hs_NoSeek_Fault : PySem.W.subIn K (.ref C_NoSeek) (.ref C_Fault) = some false)
    (hs_NoReads_Fault : PySem.W.subIn K (.ref C_NoReads) (.ref C_Fault) = some false)
    (hs_NoWrites_Fault : PySem.W.subIn K (.ref C_NoWrites) (.ref C_Fault) = some false)
    (hs_BadRoom_Fault : PySem.W.subIn K (.ref C_BadRoom) (.ref C_Fault) = some false)
    (hb_SipError : PySem.W.subIn K (.ref C_SipError) (.type "BaseException") = some true)
    (hh_SipError : PySem.W.hasDictIn K C_SipError = true)
    (hy_SipError : PySem.W.typeIn K (.ref C_SipError) = some (.type "type"))
    (hs_Fault_SipError : PySem.W.subIn K (.ref C_Fault) (.ref C_SipError) = some true)
    (hs_Closed_SipError : PySem.W.subIn K (.ref C_Closed) (.ref C_SipError) = some true)
    (hs_NoSeek_SipError : PySem.W.subIn K (.ref C_NoSeek) (.ref C_SipError) = some true)
    (hs_NoReads_SipError : PySem.W.subIn K (.ref C_NoReads) (.ref C_SipError) = some true)
    (hs_NoWrites_SipError : PySem.W.subIn K (.ref C_NoWrites) (.ref C_SipError) = some true)
    (hs_BadRoom_SipError : PySem.W.subIn K (.ref C_BadRoom) (.ref C_SipError) = some true)
    (hb_BadRoom : PySem.W.subIn K (.ref C_BadRoom) (.type "BaseException") = some true)
    (hh_BadRoom : PySem.W.hasDictIn K C_BadRoom = true)
    (hy_BadRoom : PySem.W.typeIn K (.ref C_BadRoom) = some (.type "type"))
    (hs_Fault_BadRoom : PySem.W.subIn K (.ref C_Fault) (.ref C_BadRoom) = some false)
    (hs_Closed_BadRoom : PySem.W.subIn K (.ref C_Closed) (.ref C_BadRoom) = some false)
    (hs_NoSeek_BadRoom : PySem.W.subIn K (.ref C_NoSeek) (.ref C_BadRoom) = some false)
    (hs_NoReads_BadRoom : PySem.W.subIn K (.ref C_NoReads) (.ref C_BadRoom) = some false)
    (hs_NoWrites_BadRoom : PySem.W.subIn K (.ref C_NoWrites) (.ref C_BadRoom) = some false)
    (hs_BadRoom_BadRoom : PySem.W.subIn K (.ref C_BadRoom) (.ref C_BadRoom) = some true)
    (ex_Closed : PySem.W.subIn K (.ref C_Closed) (.type "BaseException") = some true)
    (hg_Closed : PySem.W.findIn K (.ref C_Closed) "__getattribute__" = some (some (.builtin "BaseException.__getattribute__")))
    (hk_Closed : PySem.W.findIn K (.ref C_Closed) "__getattr__" = some none)
    (hd_Closed : PySem.W.hasDictIn K C_Closed = true)
    (ha_Closed : PySem.W.findIn K (.ref C_Closed) "__class__" = some (some (.builtin "object.__class__")))
    (hn_Closed : PySem.W.specialIn K (.builtin "object.__class__") "__get__" = some (some (.builtin "getset_descriptor.__get__")))
    (ht_Closed : PySem.W.takesIn K (.builtin "object.__class__") = some true)
    (hm_Closed : PySem.W.mroIn K C_Closed (.type "object") = some true)
    (sv_Closed : PySem.W.subIn K (.ref C_Closed) (.type "ValueError") = some true)
    (se_Closed : PySem.W.subIn K (.ref C_Closed) (.ref C_Closed) = some true)
    (ss_Closed : PySem.W.subIn K (.ref C_Closed) (.ref C_SipError) = some true)
    (su_Closed_NoSeek : PySem.W.subIn K (.ref C_Closed) (.ref C_NoSeek) = some false)
    (su_Closed_NoReads : PySem.W.subIn K (.ref C_Closed) (.ref C_NoReads) = some false)
    (su_Closed_NoWrites : PySem.W.subIn K (.ref C_Closed) (.ref C_NoWrites) = some false)
    (su_Closed_Fault : PySem.W.subIn K (.ref C_Closed) (.ref C_Fault) = some false)
    (ex_NoSeek : PySem.W.subIn K (.ref C_NoSeek) (.type "BaseException") = some true)
    (hg_NoSeek : PySem.W.findIn K (.ref C_NoSeek) "__getattribute__" = some (some (.builtin "BaseException.__getattribute__")))
    (hk_NoSeek : PySem.W.findIn K (.ref C_NoSeek) "__getattr__" = some none)
    (hd_NoSeek : PySem.W.hasDictIn K C_NoSeek = true)
    (ha_NoSeek : PySem.W.findIn K (.ref C_NoSeek) "__class__" = some (some (.builtin "object.__class__")))
    (hn_NoSeek : PySem.W.specialIn K (.builtin "object.__class__") "__get__" = some (some (.builtin "getset_descriptor.__get__")))
    (ht_NoSeek : PySem.W.takesIn K (.builtin "object.__class__") = some true)
    (hm_NoSeek : PySem.W.mroIn K C_NoSeek (.type "object") = some true)
    (sv_NoSeek : PySem.W.subIn K (.ref C_NoSeek) (.type "ValueError") = some true)
    (se_NoSeek : PySem.W.subIn K (.ref C_NoSeek) (.ref C_NoSeek) = some true)
    (ss_NoSeek : PySem.W.subIn K (.ref C_NoSeek) (.ref C_SipError) = some true)
    (su_NoSeek_Closed : PySem.W.subIn K (.ref C_NoSeek) (.ref C_Closed) = some false)
    (su_NoSeek_NoReads : PySem.W.subIn K (.ref C_NoSeek) (.ref C_NoReads) = some false)
    (su_NoSeek_NoWrites : PySem.W.subIn K (.ref C_NoSeek) (.ref C_NoWrites) = some false)
    (su_NoSeek_Fault : PySem.W.subIn K (.ref C_NoSeek) (.ref C_Fault) = some false)
    (ex_NoReads : PySem.W.subIn K (.ref C_NoReads) (.type "BaseException") = some true)
    (hg_NoReads : PySem.W.findIn K (.ref C_NoReads) "__getattribute__" = some (some (.builtin "BaseException.__getattribute__")))
    (hk_NoReads : PySem.W.findIn K (.ref C_NoReads) "__getattr__" = some none)
    (hd_NoReads : PySem.W.hasDictIn K C_NoReads = true)
    (ha_NoReads : PySem.W.findIn K (.ref C_NoReads) "__class__" = some (some (.builtin "object.__class__")))
    (hn_NoReads : PySem.W.specialIn K (.builtin "object.__class__") "__get__" = some (some (.builtin "getset_descriptor.__get__")))
    (ht_NoReads : PySem.W.takesIn K (.builtin "object.__class__") = some true)
    (hm_NoReads : PySem.W.mroIn K C_NoReads (.type "object") = some true)
    (sv_NoReads : PySem.W.subIn K (.ref C_NoReads) (.type "ValueError") = some true)
    (se_NoReads : PySem.W.subIn K (.ref C_NoReads) (.ref C_NoReads) = some true)
    (ss_NoReads : PySem.W.subIn K (.ref C_NoReads) (.ref C_SipError) = some true)
    (su_NoReads_Closed : PySem.W.subIn K (.ref C_NoReads) (.ref C_Closed) = some false)
    (su_NoReads_NoSeek : PySem.W.subIn K (.ref C_NoReads) (.ref C_NoSeek) = some false)
    (su_NoReads_NoWrites : PySem.W.subIn K (.ref C_NoReads) (.ref C_NoWrites) = some false)
    (su_NoReads_Fault : PySem.W.subIn K (.ref C_NoReads) (.ref C_Fault) = some false)
    (ex_NoWrites : PySem.W.subIn K (.ref C_NoWrites) (.type "BaseException") = some true)
    (hg_NoWrites : PySem.W.findIn K (.ref C_NoWrites) "__getattribute__" = some (some (.builtin "BaseException.__getattribute__")))
    (hk_NoWrites : PySem.W.findIn K (.ref C_NoWrites) "__getattr__" = some none)
    (hd_NoWrites : PySem.W.hasDictIn K C_NoWrites = true)
    (ha_NoWrites : PySem.W.findIn K (.ref C_NoWrites) "__class__" = some (some (.builtin "object.__class__")))
    (hn_NoWrites : PySem.W.specialIn K (.builtin "object.__class__") "__get__" = some (some (.builtin "getset_descriptor.__get__")))
    (ht_NoWrites : PySem.W.takesIn K (.builtin "object.__class__") = some true)
    (hm_NoWrites : PySem.W.mroIn K C_NoWrites (.type "object") = some true)
    (sv_NoWrites : PySem.W.subIn K (.ref C_NoWrites) (.type "ValueError") = some true)
    (se_NoWrites : PySem.W.subIn K (.ref C_NoWrites) (.ref C_NoWrites) = some true)
    (ss_NoWrites : PySem.W.subIn K (.ref C_NoWrites) (.ref C_SipError) = some true)
    (su_NoWrites_Closed : PySem.W.subIn K (.ref C_NoWrites) (.ref C_Closed) = some false)
    (su_NoWrites_NoSeek : PySem.W.subIn K (.ref C_NoWrites) (.ref C_NoSeek) = some false)
    (su_NoWrites_NoReads : PySem.W.subIn K (.ref C_NoWrites) (.ref C_NoReads) = some false)
    (su_NoWrites_Fault : PySem.W.subIn K (.ref C_NoWrites) (.ref C_Fault) = some false)
    (ex_BadRoom : PySem.W.subIn K (.ref C_BadRoom) (.type "BaseException") = some true)
    (hg_BadRoom : PySem.W.findIn K (.ref C_BadRoom) "__getattribute__" = some (some (.builtin "BaseException.__getattribute__")))
    (hk_BadRoom : PySem.W.findIn K (.ref C_BadRoom) "__getattr__" = some none)
    (hd_BadRoom : PySem.W.hasDictIn K C_BadRoom = true)
    (ha_BadRoom : PySem.W.findIn K (.ref C_BadRoom) "__class__" = some (some (.builtin "object.__class__")))
    (hn_BadRoom : PySem.W.specialIn K (.builtin "object.__class__") "__get__" = some (some (.builtin "getset_descriptor.__get__")))
    (ht_BadRoom : PySem.W.takesIn K (.builtin "object.__class__") = some true)
    (hm_BadRoom : PySem.W.mroIn K C_BadRoom (.type "object") = some true)
    (sv_BadRoom : PySem.W.subIn K (.ref C_BadRoom) (.type "ValueError") = some true)
    (se_BadRoom : PySem.W.subIn K (.ref C_BadRoom) (.ref C_BadRoom) = some true)
    (ss_BadRoom : PySem.W.subIn K (.ref C_BadRoom) (.ref C_SipError) = some true)
    (su_BadRoom_Closed : PySem.W.subIn K (.ref C_BadRoom) (.ref C_Closed) = some false)
    (su_BadRoom_NoSeek : PySem.W.subIn K (.ref C_BadRoom) (.ref C_NoSeek) = some false)
    (su_BadRoom_NoReads : PySem.W.subIn K (.ref C_BadRoom) (.ref C_NoReads) = some false)
    (su_BadRoom_NoWrites : PySem.W.subIn K (.ref C_BadRoom) (.ref C_NoWrites) = some false)
    (su_BadRoom_Fault : PySem.W.subIn K (.ref C_BadRoom) (.ref C_Fault) = some false)
    (xo_Fault : Sip.IsExcObj K C_Fault C_SipError)
    (sa_Fault : PySem.W.findIn K (.ref C_Fault) "__setattr__" = some (some (.builtin "object.__setattr__")))
    (ex_Fault : PySem.W.subIn K (.ref C_Fault) (.type "BaseException") = some true)
    (ty_Fault : PySem.W.typeIn K (.ref C_Fault) = some (.type "type"))
    (kx_Fault : PySem.W.keepIn K (.ref C_Fault) = true)
    (hg_Fault : PySem.W.findIn K (.ref C_Fault) "__getattribute__" = some (some (.builtin "BaseException.__getattribute__")))
    (hk_Fault : PySem.W.findIn K (.ref C_Fault) "__getattr__" = some none)
    (hd_Fault : PySem.W.hasDictIn K C_Fault = true)
    (ha_Fault : PySem.W.findIn K (.ref C_Fault) "__class__" = some (some (.builtin "object.__class__")))
    (hn_Fault : PySem.W.specialIn K (.builtin "object.__class__") "__get__" = some (some (.builtin "getset_descriptor.__get__")))
    (ht_Fault : PySem.W.takesIn K (.builtin "object.__class__") = some true)
    (hm_Fault : PySem.W.mroIn K C_Fault (.type "object") = some true)
    (no_Fault : PySem.W.findIn K (.ref C_Fault) "number" = some none)
    (ss_Fault : PySem.W.subIn K (.ref C_Fault) (.ref C_SipError) = some true)
    (se_Fault : PySem.W.subIn K (.ref C_Fault) (.ref C_Fault) = some true)
    (no2_Fault : PySem.W.findIn K (.ref C_Fault) "taken" = some none)
    (sv_Fault : PySem.W.subIn K (.ref C_Fault) (.type "ValueError") = some true)
    (su_Fault_Closed : PySem.W.subIn K (.ref C_Fault) (.ref C_Closed) = some false)
    (su_Fault_NoSeek : PySem.W.subIn K (.ref C_Fault) (.ref C_NoSeek) = some false)
    (su_Fault_NoReads : PySem.W.subIn K (.ref C_Fault) (.ref C_NoReads) = some false)
    (su_Fault_NoWrites : PySem.W.subIn K (.ref C_Fault) (.ref C_NoWrites) = some false)
    (a_whole : PySem.W.nsIn K mainGlobals "is_whole" = some (some (.ref f_whole)))
    (FX_whole : ∃ fd, FunD K "is_whole" "is_whole" (defArgs s_whole) (defBody s_whole) (defScope s_whole) ([] : List V) ([] : List (Str × V)) f_whole fd)
    (a_croom : PySem.W.nsIn K mainGlobals "check_room" = some (some (.ref f_croom)))
    (FX_croom : ∃ fd, FunD K "check_room" "check_room" (defArgs s_croom) (defBody s_croom) (defScope s_croom) ([] : List V) ([] : List (Str × V)) f_croom fd)
    (a_ocopy : PySem.W.nsIn K mainGlobals "own_copy" = some (some (.ref f_ocopy)))
    (FX_ocopy : ∃ fd, FunD K "own_copy" "own_copy" (defArgs s_ocopy) (defBody s_ocopy) (defScope s_ocopy) ([] : List V) ([] : List (Str × V)) f_ocopy fd)
    (a_rinit : PySem.W.findIn K (.ref C_Raw) "__init__" = some (some (.ref f_rinit)))
    (i_rinit : PySem.W.isFn K (.ref f_rinit) = true)
    (cv_rinit : PySem.W.findCls K (.ref C_Raw) (.type "type") "__init__" = some (.val (.ref f_rinit)))
    (FX_rinit : ∃ fd, FunD K "__init__" "Raw.__init__" (defArgs s_rinit) (defBody s_rinit) (defScope s_rinit) ([] : List V) ([] : List (Str × V)) f_rinit fd)
    (a_iinit : PySem.W.findIn K (.ref C_IntoEnd) "__init__" = some (some (.ref f_iinit)))
    (i_iinit : PySem.W.isFn K (.ref f_iinit) = true)
    (FX_iinit : ∃ fd, FunD K "__init__" "IntoEnd.__init__" (defArgs s_iinit) (defBody s_iinit) (defScope s_iinit) ([] : List V) ([] : List (Str × V)) f_iinit fd)
    (a_oinit : PySem.W.findIn K (.ref C_OutEnd) "__init__" = some (some (.ref f_oinit)))
    (i_oinit : PySem.W.isFn K (.ref f_oinit) = true)
    (FX_oinit : ∃ fd, FunD K "__init__" "OutEnd.__init__" (defArgs s_oinit) (defBody s_oinit) (defScope s_oinit) ([] : List V) ([] : List (Str × V)) f_oinit fd)
    (a_pinit : PySem.W.findIn K (.ref C_Pipe) "__init__" = some (some (.ref f_pinit)))
    (i_pinit : PySem.W.isFn K (.ref f_pinit) = true)
    (FX_pinit : ∃ fd, FunD K "__init__" "Pipe.__init__" (defArgs s_pinit) (defBody s_pinit) (defScope s_pinit) ([] : List V) ([("room", .int 8)] : List (Str × V)) f_pinit fd)
    (a_pinto : PySem.W.findIn K (.ref C_Pipe) "into" = some (some (.ref f_pinto)))
    (i_pinto : PySem.W.isFn K (.ref f_pinto) = true)
    (FX_pinto : ∃ fd, FunD K "into" "Pipe.into" (defArgs s_pinto) (defBody s_pinto) (defScope s_pinto) ([] : List V) ([] : List (Str × V)) f_pinto fd)
    (a_pout : PySem.W.findIn K (.ref C_Pipe) "out" = some (some (.ref f_pout)))
    (i_pout : PySem.W.isFn K (.ref f_pout) = true)
    (FX_pout : ∃ fd, FunD K "out" "Pipe.out" (defArgs s_pout) (defBody s_pout) (defScope s_pout) ([] : List V) ([] : List (Str × V)) f_pout fd)
    (a_pheld : PySem.W.findIn K (.ref C_Pipe) "held" = some (some (.ref f_pheld)))
    (i_pheld : PySem.W.isFn K (.ref f_pheld) = true)
    (FX_pheld : ∃ fd, FunD K "held" "Pipe.held" (defArgs s_pheld) (defBody s_pheld) (defScope s_pheld) ([] : List V) ([] : List (Str × V)) f_pheld fd)
    (a_play : PySem.W.findIn K (.ref C_Pipe) "lay" = some (some (.ref f_play)))
    (i_play : PySem.W.isFn K (.ref f_play) = true)
    (FX_play : ∃ fd, FunD K "lay" "Pipe.lay" (defArgs s_play) (defBody s_play) (defScope s_play) ([] : List V) ([] : List (Str × V)) f_play fd)
    (a_plift : PySem.W.findIn K (.ref C_Pipe) "lift" = some (some (.ref f_plift)))
    (i_plift : PySem.W.isFn K (.ref f_plift) = true)
    (FX_plift : ∃ fd, FunD K "lift" "Pipe.lift" (defArgs s_plift) (defBody s_plift) (defScope s_plift) ([] : List V) ([] : List (Str × V)) f_plift fd)
    (a_iaccept : PySem.W.findIn K (.ref C_IntoEnd) "accept" = some (some (.ref f_iaccept)))
    (i_iaccept : PySem.W.isFn K (.ref f_iaccept) = true)
    (FX_iaccept : ∃ fd, FunD K "accept" "IntoEnd.accept" (defArgs s_iaccept) (defBody s_iaccept) (defScope s_iaccept) ([] : List V) ([] : List (Str × V)) f_iaccept fd)
    (a_ogive : PySem.W.findIn K (.ref C_OutEnd) "give" = some (some (.ref f_ogive)))
    (i_ogive : PySem.W.isFn K (.ref f_ogive) = true)
    (FX_ogive : ∃ fd, FunD K "give" "OutEnd.give" (defArgs s_ogive) (defBody s_ogive) (defScope s_ogive) ([] : List V) ([] : List (Str × V)) f_ogive fd)
    (a_iput : PySem.W.findIn K (.ref C_IntoEnd) "put" = some (some (.ref f_iput)))
    (i_iput : PySem.W.isFn K (.ref f_iput) = true)
    (FX_iput : ∃ fd, FunD K "put" "Raw.put" (defArgs s_iput) (defBody s_iput) (defScope s_iput) ([] : List V) ([] : List (Str × V)) f_iput fd)
    (a_iopen : PySem.W.findIn K (.ref C_IntoEnd) "check_open" = some (some (.ref f_iopen)))
    (i_iopen : PySem.W.isFn K (.ref f_iopen) = true)
    (FX_iopen : ∃ fd, FunD K "check_open" "Raw.check_open" (defArgs s_iopen) (defBody s_iopen) (defScope s_iopen) ([] : List V) ([] : List (Str × V)) f_iopen fd)
    (a_imay : PySem.W.findIn K (.ref C_IntoEnd) "may_put" = some (some (.ref f_imay)))
    (i_imay : PySem.W.isFn K (.ref f_imay) = true)
    (FX_imay : ∃ fd, FunD K "may_put" "Raw.may_put" (defArgs s_imay) (defBody s_imay) (defScope s_imay) ([] : List V) ([] : List (Str × V)) f_imay fd)
    (a_inote : PySem.W.findIn K (.ref C_IntoEnd) "note" = some (some (.ref f_inote)))
    (i_inote : PySem.W.isFn K (.ref f_inote) = true)
    (FX_inote : ∃ fd, FunD K "note" "Raw.note" (defArgs s_inote) (defBody s_inote) (defScope s_inote) ([] : List V) ([] : List (Str × V)) f_inote fd)
    (a_ishut : PySem.W.findIn K (.ref C_IntoEnd) "is_shut" = some (some (.ref f_ishut)))
    (i_ishut : PySem.W.isFn K (.ref f_ishut) = true)
    (FX_ishut : ∃ fd, FunD K "is_shut" "Raw.is_shut" (defArgs s_ishut) (defBody s_ishut) (defScope s_ishut) ([] : List V) ([] : List (Str × V)) f_ishut fd)
    (a_ilog : PySem.W.findIn K (.ref C_IntoEnd) "log" = some (some (.ref f_ilog)))
    (i_ilog : PySem.W.isFn K (.ref f_ilog) = true)
    (FX_ilog : ∃ fd, FunD K "log" "Raw.log" (defArgs s_ilog) (defBody s_ilog) (defScope s_ilog) ([] : List V) ([] : List (Str × V)) f_ilog fd)
    (a_ilogb : PySem.W.findIn K (.ref C_IntoEnd) "log_behind" = some (some (.ref f_ilogb)))
    (i_ilogb : PySem.W.isFn K (.ref f_ilogb) = true)
    (FX_ilogb : ∃ fd, FunD K "log_behind" "Raw.log_behind" (defArgs s_ilogb) (defBody s_ilogb) (defScope s_ilogb) ([] : List V) ([] : List (Str × V)) f_ilogb fd)
    (a_otake : PySem.W.findIn K (.ref C_OutEnd) "take" = some (some (.ref f_otake)))
    (i_otake : PySem.W.isFn K (.ref f_otake) = true)
    (FX_otake : ∃ fd, FunD K "take" "Raw.take" (defArgs s_otake) (defBody s_otake) (defScope s_otake) ([] : List V) ([] : List (Str × V)) f_otake fd)
    (a_oopen : PySem.W.findIn K (.ref C_OutEnd) "check_open" = some (some (.ref f_oopen)))
    (i_oopen : PySem.W.isFn K (.ref f_oopen) = true)
    (FX_oopen : ∃ fd, FunD K "check_open" "Raw.check_open" (defArgs s_oopen) (defBody s_oopen) (defScope s_oopen) ([] : List V) ([] : List (Str × V)) f_oopen fd)
    (a_omay : PySem.W.findIn K (.ref C_OutEnd) "may_take" = some (some (.ref f_omay)))
    (i_omay : PySem.W.isFn K (.ref f_omay) = true)
    (FX_omay : ∃ fd, FunD K "may_take" "Raw.may_take" (defArgs s_omay) (defBody s_omay) (defScope s_omay) ([] : List V) ([] : List (Str × V)) f_omay fd)
    (a_onote : PySem.W.findIn K (.ref C_OutEnd) "note" = some (some (.ref f_onote)))
    (i_onote : PySem.W.isFn K (.ref f_onote) = true)
    (FX_onote : ∃ fd, FunD K "note" "Raw.note" (defArgs s_onote) (defBody s_onote) (defScope s_onote) ([] : List V) ([] : List (Str × V)) f_onote fd)
    (a_oshut : PySem.W.findIn K (.ref C_OutEnd) "is_shut" = some (some (.ref f_oshut)))
    (i_oshut : PySem.W.isFn K (.ref f_oshut) = true)
    (FX_oshut : ∃ fd, FunD K "is_shut" "Raw.is_shut" (defArgs s_oshut) (defBody s_oshut) (defScope s_oshut) ([] : List V) ([] : List (Str × V)) f_oshut fd)
    (a_olog : PySem.W.findIn K (.ref C_OutEnd) "log" = some (some (.ref f_olog)))
    (i_olog : PySem.W.isFn K (.ref f_olog) = true)
    (FX_olog : ∃ fd, FunD K "log" "Raw.log" (defArgs s_olog) (defBody s_olog) (defScope s_olog) ([] : List V) ([] : List (Str × V)) f_olog fd)
    (a_ologb : PySem.W.findIn K (.ref C_OutEnd) "log_behind" = some (some (.ref f_ologb)))
    (i_ologb : PySem.W.isFn K (.ref f_ologb) = true)
    (FX_ologb : ∃ fd, FunD K "log_behind" "Raw.log_behind" (defArgs s_ologb) (defBody s_ologb) (defScope s_ologb) ([] : List V) ([] : List (Str × V)) f_ologb fd)
    (a_iFault : PySem.W.findIn K (.ref C_Fault) "__init__" = some (some (.ref f_iFault)))
    (i_iFault : PySem.W.typeIn K (.ref f_iFault) = some (.type "function"))
    (FX_iFault : ∃ fd, FunD K "__init__" "Fault.__init__" (defArgs s_iFault) (defBody s_iFault) (defScope s_iFault) ([] : List V) ([("taken", .int 0)] : List (Str × V)) f_iFault fd)
    (a_rshut : PySem.W.findIn K (.ref C_Raw) "shut" = some (some (.ref f_rshut)))
    (i_rshut : PySem.W.isFn K (.ref f_rshut) = true)
    (cv_rshut : PySem.W.findCls K (.ref C_Raw) (.type "type") "shut" = some (.val (.ref f_rshut)))
    (FX_rshut : ∃ fd, FunD K "shut" "Raw.shut" (defArgs s_rshut) (defBody s_rshut) (defScope s_rshut) ([] : List V) ([] : List (Str × V)) f_rshut fd)
    (a_pdrop : PySem.W.findIn K (.ref C_Pipe) "drop" = some (some (.ref f_pdrop)))
    (i_pdrop : PySem.W.isFn K (.ref f_pdrop) = true)
    (FX_pdrop : ∃ fd, FunD K "drop" "Pipe.drop" (defArgs s_pdrop) (defBody s_pdrop) (defScope s_pdrop) ([] : List V) ([] : List (Str × V)) f_pdrop fd)
    (a_osup : PySem.W.findIn K (.ref C_OutEnd) "shut" = some (some (.ref f_osup)))
    (i_osup : PySem.W.isFn K (.ref f_osup) = true)
    (sB_osup : Sip.supB K ("OutEnd", some "shut") "OutEnd.shut" C_OutEnd supFl = true)
    (u0_osup : (PySem.W.clsIn K C_OutEnd).isSome = true)
    (u1_osup : PySem.W.mroIn K C_OutEnd (.ref C_OutEnd) = some true)
    (u2_osup : PySem.W.ks_superIn K C_OutEnd C_OutEnd "shut" = some (some (.ref f_rshut)))
    (u3_osup : PySem.W.typeIn K (.ref f_rshut) = some (.type "function"))
    (u4_osup : PySem.W.fnIn K f_rshut = true)
    (u5_osup : PySem.W.nsIn K PySem.cStatics "thirdparty.any" = some none)
    (UX_osup : ∃ fd, Sip.SupF K C_OutEnd "shut" "OutEnd.shut" (defArgs s_osup) (defBody s_osup) (defScope s_osup) f_osup fd (Sip.supC K ("OutEnd", some "shut")) (Sip.supK K ("OutEnd", some "shut")) supFl)
    (a_ibar : PySem.W.findIn K (.ref C_IntoEnd) "shut" = some (some (.ref f_ibar)))
    (i_ibar : PySem.W.isFn K (.ref f_ibar) = true)
    (FX_ibar : ∃ fd, FunD K "shut" "Raw.shut" (defArgs s_ibar) (defBody s_ibar) (defScope s_ibar) ([] : List V) ([] : List (Str × V)) f_ibar fd)
    (a_itake : PySem.W.findIn K (.ref C_IntoEnd) "take" = some (some (.ref f_itake)))
    (i_itake : PySem.W.isFn K (.ref f_itake) = true)
    (FX_itake : ∃ fd, FunD K "take" "Raw.take" (defArgs s_itake) (defBody s_itake) (defScope s_itake) ([] : List V) ([] : List (Str × V)) f_itake fd)
    (a_imayT : PySem.W.findIn K (.ref C_IntoEnd) "may_take" = some (some (.ref f_imayT)))
    (i_imayT : PySem.W.isFn K (.ref f_imayT) = true)
    (FX_imayT : ∃ fd, FunD K "may_take" "IntoEnd.may_take" (defArgs s_imayT) (defBody s_imayT) (defScope s_imayT) ([] : List V) ([] : List (Str × V)) f_imayT fd)
    (a_igo : PySem.W.findIn K (.ref C_IntoEnd) "go" = some (some (.ref f_igo)))
    (i_igo : PySem.W.isFn K (.ref f_igo) = true)
    (FX_igo : ∃ fd, FunD K "go" "Raw.go" (defArgs s_igo) (defBody s_igo) (defScope s_igo) ([] : List V) ([] : List (Str × V)) f_igo fd)
    (a_icut : PySem.W.findIn K (.ref C_IntoEnd) "cut" = some (some (.ref f_icut)))
    (i_icut : PySem.W.isFn K (.ref f_icut) = true)
    (FX_icut : ∃ fd, FunD K "cut" "Raw.cut" (defArgs s_icut) (defBody s_icut) (defScope s_icut) ([] : List V) ([] : List (Str × V)) f_icut fd)
    (a_iplace : PySem.W.findIn K (.ref C_IntoEnd) "place" = some (some (.ref f_iplace)))
    (i_iplace : PySem.W.isFn K (.ref f_iplace) = true)
    (FX_iplace : ∃ fd, FunD K "place" "Raw.place" (defArgs s_iplace) (defBody s_iplace) (defScope s_iplace) ([] : List V) ([] : List (Str × V)) f_iplace fd)
    (a_isize : PySem.W.findIn K (.ref C_IntoEnd) "size" = some (some (.ref f_isize)))
    (i_isize : PySem.W.isFn K (.ref f_isize) = true)
    (FX_isize : ∃ fd, FunD K "size" "Raw.size" (defArgs s_isize) (defBody s_isize) (defScope s_isize) ([] : List V) ([] : List (Str × V)) f_isize fd)
    (a_iseek : PySem.W.findIn K (.ref C_IntoEnd) "check_seeks" = some (some (.ref f_iseek)))
    (i_iseek : PySem.W.isFn K (.ref f_iseek) = true)
    (FX_iseek : ∃ fd, FunD K "check_seeks" "Raw.check_seeks" (defArgs s_iseek) (defBody s_iseek) (defScope s_iseek) ([] : List V) ([] : List (Str × V)) f_iseek fd)
    (a_imayC : PySem.W.findIn K (.ref C_IntoEnd) "may_cut" = some (some (.ref f_imayC)))
    (i_imayC : PySem.W.isFn K (.ref f_imayC) = true)
    (FX_imayC : ∃ fd, FunD K "may_cut" "Raw.may_cut" (defArgs s_imayC) (defBody s_imayC) (defScope s_imayC) ([] : List V) ([] : List (Str × V)) f_imayC fd)
    (a_isk : PySem.W.findIn K (.ref C_IntoEnd) "seeks" = some (some (.ref f_isk)))
    (i_isk : PySem.W.isFn K (.ref f_isk) = true)
    (FX_isk : ∃ fd, FunD K "seeks" "Raw.seeks" (defArgs s_isk) (defBody s_isk) (defScope s_isk) ([] : List V) ([] : List (Str × V)) f_isk fd)
    (a_oput : PySem.W.findIn K (.ref C_OutEnd) "put" = some (some (.ref f_oput)))
    (i_oput : PySem.W.isFn K (.ref f_oput) = true)
    (FX_oput : ∃ fd, FunD K "put" "Raw.put" (defArgs s_oput) (defBody s_oput) (defScope s_oput) ([] : List V) ([] : List (Str × V)) f_oput fd)
    (a_omayP : PySem.W.findIn K (.ref C_OutEnd) "may_put" = some (some (.ref f_omayP)))
    (i_omayP : PySem.W.isFn K (.ref f_omayP) = true)
    (FX_omayP : ∃ fd, FunD K "may_put" "OutEnd.may_put" (defArgs s_omayP) (defBody s_omayP) (defScope s_omayP) ([] : List V) ([] : List (Str × V)) f_omayP fd)
    (a_ogo : PySem.W.findIn K (.ref C_OutEnd) "go" = some (some (.ref f_ogo)))
    (i_ogo : PySem.W.isFn K (.ref f_ogo) = true)
    (FX_ogo : ∃ fd, FunD K "go" "Raw.go" (defArgs s_ogo) (defBody s_ogo) (defScope s_ogo) ([] : List V) ([] : List (Str × V)) f_ogo fd)
    (a_ocut : PySem.W.findIn K (.ref C_OutEnd) "cut" = some (some (.ref f_ocut)))
    (i_ocut : PySem.W.isFn K (.ref f_ocut) = true)
    (FX_ocut : ∃ fd, FunD K "cut" "Raw.cut" (defArgs s_ocut) (defBody s_ocut) (defScope s_ocut) ([] : List V) ([] : List (Str × V)) f_ocut fd)
    (a_oplace : PySem.W.findIn K (.ref C_OutEnd) "place" = some (some (.ref f_oplace)))
    (i_oplace : PySem.W.isFn K (.ref f_oplace) = true)
    (FX_oplace : ∃ fd, FunD K "place" "Raw.place" (defArgs s_oplace) (defBody s_oplace) (defScope s_oplace) ([] : List V) ([] : List (Str × V)) f_oplace fd)
    (a_osize : PySem.W.findIn K (.ref C_OutEnd) "size" = some (some (.ref f_osize)))
    (i_osize : PySem.W.isFn K (.ref f_osize) = true)
    (FX_osize : ∃ fd, FunD K "size" "Raw.size" (defArgs s_osize) (defBody s_osize) (defScope s_osize) ([] : List V) ([] : List (Str × V)) f_osize fd)
    (a_oseek : PySem.W.findIn K (.ref C_OutEnd) "check_seeks" = some (some (.ref f_oseek)))
    (i_oseek : PySem.W.isFn K (.ref f_oseek) = true)
    (FX_oseek : ∃ fd, FunD K "check_seeks" "Raw.check_seeks" (defArgs s_oseek) (defBody s_oseek) (defScope s_oseek) ([] : List V) ([] : List (Str × V)) f_oseek fd)
    (a_omayC : PySem.W.findIn K (.ref C_OutEnd) "may_cut" = some (some (.ref f_omayC)))
    (i_omayC : PySem.W.isFn K (.ref f_omayC) = true)
    (FX_omayC : ∃ fd, FunD K "may_cut" "Raw.may_cut" (defArgs s_omayC) (defBody s_omayC) (defScope s_omayC) ([] : List V) ([] : List (Str × V)) f_omayC fd)
    (a_osk : PySem.W.findIn K (.ref C_OutEnd) "seeks" = some (some (.ref f_osk)))
    (i_osk : PySem.W.isFn K (.ref f_osk) = true)
    (FX_osk : ∃ fd, FunD K "seeks" "Raw.seeks" (defArgs s_osk) (defBody s_osk) (defScope s_osk) ([] : List V) ([] : List (Str × V)) f_osk fd)
    (a_pool : PySem.W.nsIn K mainGlobals "_law_pool" = some (some (.ref f_pool)))
    (FX_pool : ∃ fd, FunD K "_law_pool" "_law_pool" (defArgs s_pool) (defBody s_pool) (defScope s_pool) ([] : List V) ([] : List (Str × V)) f_pool fd)
    (a_take : PySem.W.nsIn K mainGlobals "_law_take" = some (some (.ref f_take)))
    (FX_take : ∃ fd, FunD K "_law_take" "_law_take" (defArgs s_take) (defBody s_take) (defScope s_take) ([] : List V) ([] : List (Str × V)) f_take fd)
    (a_lrow : PySem.W.nsIn K mainGlobals "_law_row" = some (some (.ref f_lrow)))
    (FX_lrow : ∃ fd, FunD K "_law_row" "_law_row" (defArgs s_lrow) (defBody s_lrow) (defScope s_lrow) ([] : List V) ([] : List (Str × V)) f_lrow fd)
    (a_lrefusal : PySem.W.nsIn K mainGlobals "_law_refusal" = some (some (.ref f_lrefusal)))
    (FX_lrefusal : ∃ fd, FunD K "_law_refusal" "_law_refusal" (defArgs s_lrefusal) (defBody s_lrefusal) (defScope s_lrefusal) ([] : List V) ([] : List (Str × V)) f_lrefusal fd)
    (a_ltried : PySem.W.nsIn K mainGlobals "_law_tried" = some (some (.ref f_ltried)))
    (FX_ltried : ∃ fd, FunD K "_law_tried" "_law_tried" (defArgs s_ltried) (defBody s_ltried) (defScope s_ltried) ([] : List V) ([] : List (Str × V)) f_ltried fd)
    (a_lbad : PySem.W.nsIn K mainGlobals "_law_bad_room" = some (some (.ref f_lbad)))
    (FX_lbad : ∃ fd, FunD K "_law_bad_room" "_law_bad_room" (defArgs s_lbad) (defBody s_lbad) (defScope s_lbad) ([] : List V) ([] : List (Str × V)) f_lbad fd)
    (a_ldue : PySem.W.nsIn K mainGlobals "_law_due" = some (some (.ref f_ldue)))
    (FX_ldue : ∃ fd, FunD K "_law_due" "_law_due" (defArgs s_ldue) (defBody s_ldue) (defScope s_ldue) ([] : List V) ([] : List (Str × V)) f_ldue fd)
    (a_lasked : PySem.W.nsIn K mainGlobals "_law_asked" = some (some (.ref f_lasked)))
    (FX_lasked : ∃ fd, FunD K "_law_asked" "_law_asked" (defArgs s_lasked) (defBody s_lasked) (defScope s_lasked) ([] : List V) ([] : List (Str × V)) f_lasked fd)
    (a_law : PySem.W.nsIn K mainGlobals "law" = some (some (.ref f_law)))
    (FX_law : ∃ fd, FunD K "law" "law" (defArgs s_law) (defBody s_law) (defScope s_law) ([] : List V) ([] : List (Str × V)) f_law fd)
    (pg_IntoEnd : PySem.W.plainGet K C_IntoEnd Str.empty = true)
    (hd_IntoEnd : PySem.W.hasDictIn K C_IntoEnd = true)
    (po_IntoEnd : PySem.W.plainOver K C_IntoEnd = true)
    (sa_IntoEnd : PySem.W.findIn K (.ref C_IntoEnd) "__setattr__" = some (some (.builtin "object.__setattr__")))
    (mk_IntoEnd : PySem.W.makesIn K C_IntoEnd = true)
    (kc_IntoEnd : PySem.W.keepIn K (.ref C_IntoEnd) = true)
    (n_IntoEnd_can_seek : PySem.W.findIn K (.ref C_IntoEnd) "can_seek" = some none)
    (n_IntoEnd_spot : PySem.W.findIn K (.ref C_IntoEnd) "spot" = some none)
    (n_IntoEnd_barred : PySem.W.findIn K (.ref C_IntoEnd) "barred" = some none)
    (n_IntoEnd_notes : PySem.W.findIn K (.ref C_IntoEnd) "notes" = some none)
    (n_IntoEnd_pipe : PySem.W.findIn K (.ref C_IntoEnd) "pipe" = some none)
    (pg_OutEnd : PySem.W.plainGet K C_OutEnd Str.empty = true)
    (hd_OutEnd : PySem.W.hasDictIn K C_OutEnd = true)
    (po_OutEnd : PySem.W.plainOver K C_OutEnd = true)
    (sa_OutEnd : PySem.W.findIn K (.ref C_OutEnd) "__setattr__" = some (some (.builtin "object.__setattr__")))
    (mk_OutEnd : PySem.W.makesIn K C_OutEnd = true)
    (kc_OutEnd : PySem.W.keepIn K (.ref C_OutEnd) = true)
    (n_OutEnd_can_seek : PySem.W.findIn K (.ref C_OutEnd) "can_seek" = some none)
    (n_OutEnd_spot : PySem.W.findIn K (.ref C_OutEnd) "spot" = some none)
    (n_OutEnd_barred : PySem.W.findIn K (.ref C_OutEnd) "barred" = some none)
    (n_OutEnd_notes : PySem.W.findIn K (.ref C_OutEnd) "notes" = some none)
    (n_OutEnd_pipe : PySem.W.findIn K (.ref C_OutEnd) "pipe" = some none)
    (pg_Pipe : PySem.W.plainGet K C_Pipe Str.empty = true)
    (hd_Pipe : PySem.W.hasDictIn K C_Pipe = true)
    (po_Pipe : PySem.W.plainOver K C_Pipe = true)
    (sa_Pipe : PySem.W.findIn K (.ref C_Pipe) "__setattr__" = some (some (.builtin "object.__setattr__")))
    (mk_Pipe : PySem.W.makesIn K C_Pipe = true)
    (kc_Pipe : PySem.W.keepIn K (.ref C_Pipe) = true)
    (n_Pipe_room : PySem.W.findIn K (.ref C_Pipe) "room" = some none)
    (n_Pipe_within : PySem.W.findIn K (.ref C_Pipe) "within" = some none)
    (n_Pipe_into_end : PySem.W.findIn K (.ref C_Pipe) "into_end" = some none)
    (n_Pipe_out_end : PySem.W.findIn K (.ref C_Pipe) "out_end" = some none)
    (cq_ROOM : ∃ u, PySem.W.nsIn K mainGlobals "ROOM" = some (some u) ∧ RelV (.int 8) u)
    (cq_GREATEST_ROOM : ∃ u, PySem.W.nsIn K mainGlobals "GREATEST_ROOM" = some (some u) ∧ RelV (.int 64) u)
    (cq_BROKEN : ∃ u, PySem.W.nsIn K mainGlobals "BROKEN" = some (some u) ∧ RelV (.int 99) u)
    (z_list : PySem.W.nsIn K mainGlobals "list" = some none)
    (z_len : PySem.W.nsIn K mainGlobals "len" = some none)
    (z_range : PySem.W.nsIn K mainGlobals "range" = some none)
    (z_max : PySem.W.nsIn K mainGlobals "max" = some none)
    (z_min : PySem.W.nsIn K mainGlobals "min" = some none)
    (z_isinstance : PySem.W.nsIn K mainGlobals "isinstance" = some none)
    (z_int : PySem.W.nsIn K mainGlobals "int" = some none)
    (z_bool : PySem.W.nsIn K mainGlobals "bool" = some none)
    (z_super : PySem.W.nsIn K mainGlobals "super" = some none)
    (z_ValueError : PySem.W.nsIn K mainGlobals "ValueError" = some none) :
    ∃ fd : FuncData, (∀ (s : Shared) (v : Value), BindsTo s fd ⟨[v], []⟩ [("_law_script", v)]) ∧ ∀ base : Heap, K.In base → base.Ns mainGlobals mg → FnOk l.prog w K mg base CX0 12 fa fd ["_law_script"] (spLaw K) := by
  have e := hfa.symm.trans (PySem.W.mg_of X G a_law)
  cases e
  obtain ⟨_, ⟨oc_whole, od_whole, dV_whole, kV_whole, dc_whole, pm_whole, an_whole, cd_whole, ct_whole, sl_whole, rfl, l_whole, c_whole, df_whole, kw_whole⟩, k_whole⟩ := FX_whole
  obtain rfl := Sip.dfl_none df_whole
  have F_whole := funA_mk (st := s_whole) l_whole c_whole k_whole
  obtain ⟨_, ⟨oc_croom, od_croom, dV_croom, kV_croom, dc_croom, pm_croom, an_croom, cd_croom, ct_croom, sl_croom, rfl, l_croom, c_croom, df_croom, kw_croom⟩, k_croom⟩ := FX_croom
  obtain rfl := Sip.dfl_none df_croom
  have F_croom := funA_mk (st := s_croom) l_croom c_croom k_croom
  obtain ⟨_, ⟨oc_ocopy, od_ocopy, dV_ocopy, kV_ocopy, dc_ocopy, pm_ocopy, an_ocopy, cd_ocopy, ct_ocopy, sl_ocopy, rfl, l_ocopy, c_ocopy, df_ocopy, kw_ocopy⟩, k_ocopy⟩ := FX_ocopy
  obtain rfl := Sip.dfl_none df_ocopy
  have F_ocopy := funA_mk (st := s_ocopy) l_ocopy c_ocopy k_ocopy
  obtain ⟨_, ⟨oc_rinit, od_rinit, dV_rinit, kV_rinit, dc_rinit, pm_rinit, an_rinit, cd_rinit, ct_rinit, sl_rinit, rfl, l_rinit, c_rinit, df_rinit, kw_rinit⟩, k_rinit⟩ := FX_rinit
  obtain rfl := Sip.dfl_none df_rinit
  have F_rinit := funA_mk (st := s_rinit) l_rinit c_rinit k_rinit
  obtain ⟨_, ⟨oc_iinit, od_iinit, dV_iinit, kV_iinit, dc_iinit, pm_iinit, an_iinit, cd_iinit, ct_iinit, sl_iinit, rfl, l_iinit, c_iinit, df_iinit, kw_iinit⟩, k_iinit⟩ := FX_iinit
  obtain rfl := Sip.dfl_none df_iinit
  have F_iinit := funA_mk (st := s_iinit) l_iinit c_iinit k_iinit
  obtain ⟨_, ⟨oc_oinit, od_oinit, dV_oinit, kV_oinit, dc_oinit, pm_oinit, an_oinit, cd_oinit, ct_oinit, sl_oinit, rfl, l_oinit, c_oinit, df_oinit, kw_oinit⟩, k_oinit⟩ := FX_oinit
  obtain rfl := Sip.dfl_none df_oinit
  have F_oinit := funA_mk (st := s_oinit) l_oinit c_oinit k_oinit
  obtain ⟨_, ⟨oc_pinit, od_pinit, dV_pinit, kV_pinit, dc_pinit, pm_pinit, an_pinit, cd_pinit, ct_pinit, sl_pinit, rfl, l_pinit, c_pinit, df_pinit, kw_pinit⟩, k_pinit⟩ := FX_pinit
  obtain rfl := Sip.dfl_none df_pinit
  have F_pinit := funA_mk (st := s_pinit) l_pinit c_pinit k_pinit
  obtain ⟨_, ⟨oc_pinto, od_pinto, dV_pinto, kV_pinto, dc_pinto, pm_pinto, an_pinto, cd_pinto, ct_pinto, sl_pinto, rfl, l_pinto, c_pinto, df_pinto, kw_pinto⟩, k_pinto⟩ := FX_pinto
  obtain rfl := Sip.dfl_none df_pinto
  have F_pinto := funA_mk (st := s_pinto) l_pinto c_pinto k_pinto
  obtain ⟨_, ⟨oc_pout, od_pout, dV_pout, kV_pout, dc_pout, pm_pout, an_pout, cd_pout, ct_pout, sl_pout, rfl, l_pout, c_pout, df_pout, kw_pout⟩, k_pout⟩ := FX_pout
  obtain rfl := Sip.dfl_none df_pout
  have F_pout := funA_mk (st := s_pout) l_pout c_pout k_pout
  obtain ⟨_, ⟨oc_pheld, od_pheld, dV_pheld, kV_pheld, dc_pheld, pm_pheld, an_pheld, cd_pheld, ct_pheld, sl_pheld, rfl, l_pheld, c_pheld, df_pheld, kw_pheld⟩, k_pheld⟩ := FX_pheld
  obtain rfl := Sip.dfl_none df_pheld
  have F_pheld := funA_mk (st := s_pheld) l_pheld c_pheld k_pheld
  obtain ⟨_, ⟨oc_play, od_play, dV_play, kV_play, dc_play, pm_play, an_play, cd_play, ct_play, sl_play, rfl, l_play, c_play, df_play, kw_play⟩, k_play⟩ := FX_play
  obtain rfl := Sip.dfl_none df_play
  have F_play := funA_mk (st := s_play) l_play c_play k_play
  obtain ⟨_, ⟨oc_plift, od_plift, dV_plift, kV_plift, dc_plift, pm_plift, an_plift, cd_plift, ct_plift, sl_plift, rfl, l_plift, c_plift, df_plift, kw_plift⟩, k_plift⟩ := FX_plift
  obtain rfl := Sip.dfl_none df_plift
  have F_plift := funA_mk (st := s_plift) l_plift c_plift k_plift
  obtain ⟨_, ⟨oc_iaccept, od_iaccept, dV_iaccept, kV_iaccept, dc_iaccept, pm_iaccept, an_iaccept, cd_iaccept, ct_iaccept, sl_iaccept, rfl, l_iaccept, c_iaccept, df_iaccept, kw_iaccept⟩, k_iaccept⟩ := FX_iaccept
  obtain rfl := Sip.dfl_none df_iaccept
  have F_iaccept := funA_mk (st := s_iaccept) l_iaccept c_iaccept k_iaccept
  obtain ⟨_, ⟨oc_ogive, od_ogive, dV_ogive, kV_ogive, dc_ogive, pm_ogive, an_ogive, cd_ogive, ct_ogive, sl_ogive, rfl, l_ogive, c_ogive, df_ogive, kw_ogive⟩, k_ogive⟩ := FX_ogive
  obtain rfl := Sip.dfl_none df_ogive
  have F_ogive := funA_mk (st := s_ogive) l_ogive c_ogive k_ogive
  obtain ⟨_, ⟨oc_iput, od_iput, dV_iput, kV_iput, dc_iput, pm_iput, an_iput, cd_iput, ct_iput, sl_iput, rfl, l_iput, c_iput, df_iput, kw_iput⟩, k_iput⟩ := FX_iput
  obtain rfl := Sip.dfl_none df_iput
  have F_iput := funA_mk (st := s_iput) l_iput c_iput k_iput
  obtain ⟨_, ⟨oc_iopen, od_iopen, dV_iopen, kV_iopen, dc_iopen, pm_iopen, an_iopen, cd_iopen, ct_iopen, sl_iopen, rfl, l_iopen, c_iopen, df_iopen, kw_iopen⟩, k_iopen⟩ := FX_iopen
  obtain rfl := Sip.dfl_none df_iopen
  have F_iopen := funA_mk (st := s_iopen) l_iopen c_iopen k_iopen
  obtain ⟨_, ⟨oc_imay, od_imay, dV_imay, kV_imay, dc_imay, pm_imay, an_imay, cd_imay, ct_imay, sl_imay, rfl, l_imay, c_imay, df_imay, kw_imay⟩, k_imay⟩ := FX_imay
  obtain rfl := Sip.dfl_none df_imay
  have F_imay := funA_mk (st := s_imay) l_imay c_imay k_imay
  obtain ⟨_, ⟨oc_inote, od_inote, dV_inote, kV_inote, dc_inote, pm_inote, an_inote, cd_inote, ct_inote, sl_inote, rfl, l_inote, c_inote, df_inote, kw_inote⟩, k_inote⟩ := FX_inote
  obtain rfl := Sip.dfl_none df_inote
  have F_inote := funA_mk (st := s_inote) l_inote c_inote k_inote
  obtain ⟨_, ⟨oc_ishut, od_ishut, dV_ishut, kV_ishut, dc_ishut, pm_ishut, an_ishut, cd_ishut, ct_ishut, sl_ishut, rfl, l_ishut, c_ishut, df_ishut, kw_ishut⟩, k_ishut⟩ := FX_ishut
  obtain rfl := Sip.dfl_none df_ishut
  have F_ishut := funA_mk (st := s_ishut) l_ishut c_ishut k_ishut
  obtain ⟨_, ⟨oc_ilog, od_ilog, dV_ilog, kV_ilog, dc_ilog, pm_ilog, an_ilog, cd_ilog, ct_ilog, sl_ilog, rfl, l_ilog, c_ilog, df_ilog, kw_ilog⟩, k_ilog⟩ := FX_ilog
  obtain rfl := Sip.dfl_none df_ilog
  have F_ilog := funA_mk (st := s_ilog) l_ilog c_ilog k_ilog
  obtain ⟨_, ⟨oc_ilogb, od_ilogb, dV_ilogb, kV_ilogb, dc_ilogb, pm_ilogb, an_ilogb, cd_ilogb, ct_ilogb, sl_ilogb, rfl, l_ilogb, c_ilogb, df_ilogb, kw_ilogb⟩, k_ilogb⟩ := FX_ilogb
  obtain rfl := Sip.dfl_none df_ilogb
  have F_ilogb := funA_mk (st := s_ilogb) l_ilogb c_ilogb k_ilogb
  obtain ⟨_, ⟨oc_otake, od_otake, dV_otake, kV_otake, dc_otake, pm_otake, an_otake, cd_otake, ct_otake, sl_otake, rfl, l_otake, c_otake, df_otake, kw_otake⟩, k_otake⟩ := FX_otake
  obtain rfl := Sip.dfl_none df_otake
  have F_otake := funA_mk (st := s_otake) l_otake c_otake k_otake
  obtain ⟨_, ⟨oc_oopen, od_oopen, dV_oopen, kV_oopen, dc_oopen, pm_oopen, an_oopen, cd_oopen, ct_oopen, sl_oopen, rfl, l_oopen, c_oopen, df_oopen, kw_oopen⟩, k_oopen⟩ := FX_oopen
  obtain rfl := Sip.dfl_none df_oopen
  have F_oopen := funA_mk (st := s_oopen) l_oopen c_oopen k_oopen
  obtain ⟨_, ⟨oc_omay, od_omay, dV_omay, kV_omay, dc_omay, pm_omay, an_omay, cd_omay, ct_omay, sl_omay, rfl, l_omay, c_omay, df_omay, kw_omay⟩, k_omay⟩ := FX_omay
  obtain rfl := Sip.dfl_none df_omay
  have F_omay := funA_mk (st := s_omay) l_omay c_omay k_omay
  obtain ⟨_, ⟨oc_onote, od_onote, dV_onote, kV_onote, dc_onote, pm_onote, an_onote, cd_onote, ct_onote, sl_onote, rfl, l_onote, c_onote, df_onote, kw_onote⟩, k_onote⟩ := FX_onote
  obtain rfl := Sip.dfl_none df_onote
  have F_onote := funA_mk (st := s_onote) l_onote c_onote k_onote
  obtain ⟨_, ⟨oc_oshut, od_oshut, dV_oshut, kV_oshut, dc_oshut, pm_oshut, an_oshut, cd_oshut, ct_oshut, sl_oshut, rfl, l_oshut, c_oshut, df_oshut, kw_oshut⟩, k_oshut⟩ := FX_oshut
  obtain rfl := Sip.dfl_none df_oshut
  have F_oshut := funA_mk (st := s_oshut) l_oshut c_oshut k_oshut
  obtain ⟨_, ⟨oc_olog, od_olog, dV_olog, kV_olog, dc_olog, pm_olog, an_olog, cd_olog, ct_olog, sl_olog, rfl, l_olog, c_olog, df_olog, kw_olog⟩, k_olog⟩ := FX_olog
  obtain rfl := Sip.dfl_none df_olog
  have F_olog := funA_mk (st := s_olog) l_olog c_olog k_olog
  obtain ⟨_, ⟨oc_ologb, od_ologb, dV_ologb, kV_ologb, dc_ologb, pm_ologb, an_ologb, cd_ologb, ct_ologb, sl_ologb, rfl, l_ologb, c_ologb, df_ologb, kw_ologb⟩, k_ologb⟩ := FX_ologb
  obtain rfl := Sip.dfl_none df_ologb
  have F_ologb := funA_mk (st := s_ologb) l_ologb c_ologb k_ologb
  obtain ⟨_, ⟨oc_iFault, od_iFault, dV_iFault, kV_iFault, dc_iFault, pm_iFault, an_iFault, cd_iFault, ct_iFault, sl_iFault, rfl, l_iFault, c_iFault, df_iFault, kw_iFault⟩, k_iFault⟩ := FX_iFault
  obtain rfl := Sip.dfl_none df_iFault
  have F_iFault := funA_mk (st := s_iFault) l_iFault c_iFault k_iFault
  obtain ⟨_, ⟨oc_rshut, od_rshut, dV_rshut, kV_rshut, dc_rshut, pm_rshut, an_rshut, cd_rshut, ct_rshut, sl_rshut, rfl, l_rshut, c_rshut, df_rshut, kw_rshut⟩, k_rshut⟩ := FX_rshut
  obtain rfl := Sip.dfl_none df_rshut
  have F_rshut := funA_mk (st := s_rshut) l_rshut c_rshut k_rshut
  obtain ⟨_, ⟨oc_pdrop, od_pdrop, dV_pdrop, kV_pdrop, dc_pdrop, pm_pdrop, an_pdrop, cd_pdrop, ct_pdrop, sl_pdrop, rfl, l_pdrop, c_pdrop, df_pdrop, kw_pdrop⟩, k_pdrop⟩ := FX_pdrop
  obtain rfl := Sip.dfl_none df_pdrop
  have F_pdrop := funA_mk (st := s_pdrop) l_pdrop c_pdrop k_pdrop
  obtain ⟨fdx_osup, U_osup⟩ := UX_osup
  have bb_osup : Binds K fdx_osup P_osup [] := by obtain ⟨_, _, _, _, _, _, e_, _⟩ := U_osup.ex; rw [e_]; exact .all fun us hl => match us, hl with | [_], _ => rfl
  obtain ⟨_, ⟨oc_ibar, od_ibar, dV_ibar, kV_ibar, dc_ibar, pm_ibar, an_ibar, cd_ibar, ct_ibar, sl_ibar, rfl, l_ibar, c_ibar, df_ibar, kw_ibar⟩, k_ibar⟩ := FX_ibar
  obtain rfl := Sip.dfl_none df_ibar
  have F_ibar := funA_mk (st := s_ibar) l_ibar c_ibar k_ibar
  obtain ⟨_, ⟨oc_itake, od_itake, dV_itake, kV_itake, dc_itake, pm_itake, an_itake, cd_itake, ct_itake, sl_itake, rfl, l_itake, c_itake, df_itake, kw_itake⟩, k_itake⟩ := FX_itake
  obtain rfl := Sip.dfl_none df_itake
  have F_itake := funA_mk (st := s_itake) l_itake c_itake k_itake
  obtain ⟨_, ⟨oc_imayT, od_imayT, dV_imayT, kV_imayT, dc_imayT, pm_imayT, an_imayT, cd_imayT, ct_imayT, sl_imayT, rfl, l_imayT, c_imayT, df_imayT, kw_imayT⟩, k_imayT⟩ := FX_imayT
  obtain rfl := Sip.dfl_none df_imayT
  have F_imayT := funA_mk (st := s_imayT) l_imayT c_imayT k_imayT
  obtain ⟨_, ⟨oc_igo, od_igo, dV_igo, kV_igo, dc_igo, pm_igo, an_igo, cd_igo, ct_igo, sl_igo, rfl, l_igo, c_igo, df_igo, kw_igo⟩, k_igo⟩ := FX_igo
  obtain rfl := Sip.dfl_none df_igo
  have F_igo := funA_mk (st := s_igo) l_igo c_igo k_igo
  obtain ⟨_, ⟨oc_icut, od_icut, dV_icut, kV_icut, dc_icut, pm_icut, an_icut, cd_icut, ct_icut, sl_icut, rfl, l_icut, c_icut, df_icut, kw_icut⟩, k_icut⟩ := FX_icut
  obtain rfl := Sip.dfl_none df_icut
  have F_icut := funA_mk (st := s_icut) l_icut c_icut k_icut
  obtain ⟨_, ⟨oc_iplace, od_iplace, dV_iplace, kV_iplace, dc_iplace, pm_iplace, an_iplace, cd_iplace, ct_iplace, sl_iplace, rfl, l_iplace, c_iplace, df_iplace, kw_iplace⟩, k_iplace⟩ := FX_iplace
  obtain rfl := Sip.dfl_none df_iplace
  have F_iplace := funA_mk (st := s_iplace) l_iplace c_iplace k_iplace
  obtain ⟨_, ⟨oc_isize, od_isize, dV_isize, kV_isize, dc_isize, pm_isize, an_isize, cd_isize, ct_isize, sl_isize, rfl, l_isize, c_isize, df_isize, kw_isize⟩, k_isize⟩ := FX_isize
  obtain rfl := Sip.dfl_none df_isize
  have F_isize := funA_mk (st := s_isize) l_isize c_isize k_isize
  obtain ⟨_, ⟨oc_iseek, od_iseek, dV_iseek, kV_iseek, dc_iseek, pm_iseek, an_iseek, cd_iseek, ct_iseek, sl_iseek, rfl, l_iseek, c_iseek, df_iseek, kw_iseek⟩, k_iseek⟩ := FX_iseek
  obtain rfl := Sip.dfl_none df_iseek
  have F_iseek := funA_mk (st := s_iseek) l_iseek c_iseek k_iseek
  obtain ⟨_, ⟨oc_imayC, od_imayC, dV_imayC, kV_imayC, dc_imayC, pm_imayC, an_imayC, cd_imayC, ct_imayC, sl_imayC, rfl, l_imayC, c_imayC, df_imayC, kw_imayC⟩, k_imayC⟩ := FX_imayC
  obtain rfl := Sip.dfl_none df_imayC
  have F_imayC := funA_mk (st := s_imayC) l_imayC c_imayC k_imayC
  obtain ⟨_, ⟨oc_isk, od_isk, dV_isk, kV_isk, dc_isk, pm_isk, an_isk, cd_isk, ct_isk, sl_isk, rfl, l_isk, c_isk, df_isk, kw_isk⟩, k_isk⟩ := FX_isk
  obtain rfl := Sip.dfl_none df_isk
  have F_isk := funA_mk (st := s_isk) l_isk c_isk k_isk
  obtain ⟨_, ⟨oc_oput, od_oput, dV_oput, kV_oput, dc_oput, pm_oput, an_oput, cd_oput, ct_oput, sl_oput, rfl, l_oput, c_oput, df_oput, kw_oput⟩, k_oput⟩ := FX_oput
  obtain rfl := Sip.dfl_none df_oput
  have F_oput := funA_mk (st := s_oput) l_oput c_oput k_oput
  obtain ⟨_, ⟨oc_omayP, od_omayP, dV_omayP, kV_omayP, dc_omayP, pm_omayP, an_omayP, cd_omayP, ct_omayP, sl_omayP, rfl, l_omayP, c_omayP, df_omayP, kw_omayP⟩, k_omayP⟩ := FX_omayP
  obtain rfl := Sip.dfl_none df_omayP
  have F_omayP := funA_mk (st := s_omayP) l_omayP c_omayP k_omayP
  obtain ⟨_, ⟨oc_ogo, od_ogo, dV_ogo, kV_ogo, dc_ogo, pm_ogo, an_ogo, cd_ogo, ct_ogo, sl_ogo, rfl, l_ogo, c_ogo, df_ogo, kw_ogo⟩, k_ogo⟩ := FX_ogo
  obtain rfl := Sip.dfl_none df_ogo
  have F_ogo := funA_mk (st := s_ogo) l_ogo c_ogo k_ogo
  obtain ⟨_, ⟨oc_ocut, od_ocut, dV_ocut, kV_ocut, dc_ocut, pm_ocut, an_ocut, cd_ocut, ct_ocut, sl_ocut, rfl, l_ocut, c_ocut, df_ocut, kw_ocut⟩, k_ocut⟩ := FX_ocut
  obtain rfl := Sip.dfl_none df_ocut
  have F_ocut := funA_mk (st := s_ocut) l_ocut c_ocut k_ocut
  obtain ⟨_, ⟨oc_oplace, od_oplace, dV_oplace, kV_oplace, dc_oplace, pm_oplace, an_oplace, cd_oplace, ct_oplace, sl_oplace, rfl, l_oplace, c_oplace, df_oplace, kw_oplace⟩, k_oplace⟩ := FX_oplace
  obtain rfl := Sip.dfl_none df_oplace
  have F_oplace := funA_mk (st := s_oplace) l_oplace c_oplace k_oplace
  obtain ⟨_, ⟨oc_osize, od_osize, dV_osize, kV_osize, dc_osize, pm_osize, an_osize, cd_osize, ct_osize, sl_osize, rfl, l_osize, c_osize, df_osize, kw_osize⟩, k_osize⟩ := FX_osize
  obtain rfl := Sip.dfl_none df_osize
  have F_osize := funA_mk (st := s_osize) l_osize c_osize k_osize
  obtain ⟨_, ⟨oc_oseek, od_oseek, dV_oseek, kV_oseek, dc_oseek, pm_oseek, an_oseek, cd_oseek, ct_oseek, sl_oseek, rfl, l_oseek, c_oseek, df_oseek, kw_oseek⟩, k_oseek⟩ := FX_oseek
  obtain rfl := Sip.dfl_none df_oseek
  have F_oseek := funA_mk (st := s_oseek) l_oseek c_oseek k_oseek
  obtain ⟨_, ⟨oc_omayC, od_omayC, dV_omayC, kV_omayC, dc_omayC, pm_omayC, an_omayC, cd_omayC, ct_omayC, sl_omayC, rfl, l_omayC, c_omayC, df_omayC, kw_omayC⟩, k_omayC⟩ := FX_omayC
  obtain rfl := Sip.dfl_none df_omayC
  have F_omayC := funA_mk (st := s_omayC) l_omayC c_omayC k_omayC
  obtain ⟨_, ⟨oc_osk, od_osk, dV_osk, kV_osk, dc_osk, pm_osk, an_osk, cd_osk, ct_osk, sl_osk, rfl, l_osk, c_osk, df_osk, kw_osk⟩, k_osk⟩ := FX_osk
  obtain rfl := Sip.dfl_none df_osk
  have F_osk := funA_mk (st := s_osk) l_osk c_osk k_osk
  obtain ⟨_, ⟨oc_pool, od_pool, dV_pool, kV_pool, dc_pool, pm_pool, an_pool, cd_pool, ct_pool, sl_pool, rfl, l_pool, c_pool, df_pool, kw_pool⟩, k_pool⟩ := FX_pool
  obtain rfl := Sip.dfl_none df_pool
  have F_pool := funA_mk (st := s_pool) l_pool c_pool k_pool
  obtain ⟨_, ⟨oc_take, od_take, dV_take, kV_take, dc_take, pm_take, an_take, cd_take, ct_take, sl_take, rfl, l_take, c_take, df_take, kw_take⟩, k_take⟩ := FX_take
  obtain rfl := Sip.dfl_none df_take
  have F_take := funA_mk (st := s_take) l_take c_take k_take
  obtain ⟨_, ⟨oc_lrow, od_lrow, dV_lrow, kV_lrow, dc_lrow, pm_lrow, an_lrow, cd_lrow, ct_lrow, sl_lrow, rfl, l_lrow, c_lrow, df_lrow, kw_lrow⟩, k_lrow⟩ := FX_lrow
  obtain rfl := Sip.dfl_none df_lrow
  have F_lrow := funA_mk (st := s_lrow) l_lrow c_lrow k_lrow
  obtain ⟨_, ⟨oc_lrefusal, od_lrefusal, dV_lrefusal, kV_lrefusal, dc_lrefusal, pm_lrefusal, an_lrefusal, cd_lrefusal, ct_lrefusal, sl_lrefusal, rfl, l_lrefusal, c_lrefusal, df_lrefusal, kw_lrefusal⟩, k_lrefusal⟩ := FX_lrefusal
  obtain rfl := Sip.dfl_none df_lrefusal
  have F_lrefusal := funA_mk (st := s_lrefusal) l_lrefusal c_lrefusal k_lrefusal
  obtain ⟨_, ⟨oc_ltried, od_ltried, dV_ltried, kV_ltried, dc_ltried, pm_ltried, an_ltried, cd_ltried, ct_ltried, sl_ltried, rfl, l_ltried, c_ltried, df_ltried, kw_ltried⟩, k_ltried⟩ := FX_ltried
  obtain rfl := Sip.dfl_none df_ltried
  have F_ltried := funA_mk (st := s_ltried) l_ltried c_ltried k_ltried
  obtain ⟨_, ⟨oc_lbad, od_lbad, dV_lbad, kV_lbad, dc_lbad, pm_lbad, an_lbad, cd_lbad, ct_lbad, sl_lbad, rfl, l_lbad, c_lbad, df_lbad, kw_lbad⟩, k_lbad⟩ := FX_lbad
  obtain rfl := Sip.dfl_none df_lbad
  have F_lbad := funA_mk (st := s_lbad) l_lbad c_lbad k_lbad
  obtain ⟨_, ⟨oc_ldue, od_ldue, dV_ldue, kV_ldue, dc_ldue, pm_ldue, an_ldue, cd_ldue, ct_ldue, sl_ldue, rfl, l_ldue, c_ldue, df_ldue, kw_ldue⟩, k_ldue⟩ := FX_ldue
  obtain rfl := Sip.dfl_none df_ldue
  have F_ldue := funA_mk (st := s_ldue) l_ldue c_ldue k_ldue
  obtain ⟨_, ⟨oc_lasked, od_lasked, dV_lasked, kV_lasked, dc_lasked, pm_lasked, an_lasked, cd_lasked, ct_lasked, sl_lasked, rfl, l_lasked, c_lasked, df_lasked, kw_lasked⟩, k_lasked⟩ := FX_lasked
  obtain rfl := Sip.dfl_none df_lasked
  have F_lasked := funA_mk (st := s_lasked) l_lasked c_lasked k_lasked
  obtain ⟨_, ⟨oc_law, od_law, dV_law, kV_law, dc_law, pm_law, an_law, cd_law, ct_law, sl_law, rfl, l_law, c_law, df_law, kw_law⟩, k_law⟩ := FX_law
  obtain rfl := Sip.dfl_none df_law
  have F_law := funA_mk (st := s_law) l_law c_law k_law
  obtain ⟨_, v_ROOM, t_ROOM, rfl⟩ := cq_ROOM
  obtain ⟨_, v_GREATEST_ROOM, t_GREATEST_ROOM, rfl⟩ := cq_GREATEST_ROOM
  obtain ⟨_, v_BROKEN, t_BROKEN, rfl⟩ := cq_BROKEN
  have FD_pinit : FunD K "__init__" "Pipe.__init__" (defArgs s_pinit) (defBody s_pinit) (defScope s_pinit) ([] : List V) ([("room", .int 8)] : List (Str × V)) f_pinit (PySem.W.fnOf "__init__" "Pipe.__init__" (defArgs s_pinit) (defBody s_pinit) (defScope s_pinit) .none kV_pinit dc_pinit pm_pinit an_pinit cd_pinit ct_pinit) := ⟨⟨_, _, _, _, _, _, _, _, _, _, rfl, l_pinit, c_pinit, df_pinit, kw_pinit⟩, k_pinit⟩
  have FD_iFault : FunD K "__init__" "Fault.__init__" (defArgs s_iFault) (defBody s_iFault) (defScope s_iFault) ([] : List V) ([("taken", .int 0)] : List (Str × V)) f_iFault (PySem.W.fnOf "__init__" "Fault.__init__" (defArgs s_iFault) (defBody s_iFault) (defScope s_iFault) .none kV_iFault dc_iFault pm_iFault an_iFault cd_iFault ct_iFault) := ⟨⟨_, _, _, _, _, _, _, _, _, _, rfl, l_iFault, c_iFault, df_iFault, kw_iFault⟩, k_iFault⟩
  obtain ⟨ds_pinit_0, v_pinit_0, b_pinit_0⟩ := FD_pinit.binds0 (ps := P_pinit) 1 (by simp) rfl fun _ _ _ _ _ _ us ks h1 h2 => match us, ks, h1, h2 with | [_], [_], _, _ => ⟨_, _, _, _, _, _, rfl, rfl, rfl⟩
  have bb_croom : Binds K (PySem.W.fnOf "check_room" "check_room" (defArgs s_croom) (defBody s_croom) (defScope s_croom) .none kV_croom dc_croom pm_croom an_croom cd_croom ct_croom) P_croom [] := .all fun us hl => match us, hl with | [_], _ => rfl
  have bb_iaccept : Binds K (PySem.W.fnOf "accept" "IntoEnd.accept" (defArgs s_iaccept) (defBody s_iaccept) (defScope s_iaccept) .none kV_iaccept dc_iaccept pm_iaccept an_iaccept cd_iaccept ct_iaccept) P_iaccept [] := .all fun us hl => match us, hl with | [_, _], _ => rfl
  have bb_ibar : Binds K (PySem.W.fnOf "shut" "Raw.shut" (defArgs s_ibar) (defBody s_ibar) (defScope s_ibar) .none kV_ibar dc_ibar pm_ibar an_ibar cd_ibar ct_ibar) P_ibar [] := .all fun us hl => match us, hl with | [_], _ => rfl
  have bb_icut : Binds K (PySem.W.fnOf "cut" "Raw.cut" (defArgs s_icut) (defBody s_icut) (defScope s_icut) .none kV_icut dc_icut pm_icut an_icut cd_icut ct_icut) P_icut [] := .all fun us hl => match us, hl with | [_, _], _ => rfl
  have bb_igo : Binds K (PySem.W.fnOf "go" "Raw.go" (defArgs s_igo) (defBody s_igo) (defScope s_igo) .none kV_igo dc_igo pm_igo an_igo cd_igo ct_igo) P_igo [] := .all fun us hl => match us, hl with | [_, _], _ => rfl
  have bb_iinit : Binds K (PySem.W.fnOf "__init__" "IntoEnd.__init__" (defArgs s_iinit) (defBody s_iinit) (defScope s_iinit) .none kV_iinit dc_iinit pm_iinit an_iinit cd_iinit ct_iinit) P_iinit [] := .all fun us hl => match us, hl with | [_, _], _ => rfl
  have bb_ilog : Binds K (PySem.W.fnOf "log" "Raw.log" (defArgs s_ilog) (defBody s_ilog) (defScope s_ilog) .none kV_ilog dc_ilog pm_ilog an_ilog cd_ilog ct_ilog) P_ilog [] := .all fun us hl => match us, hl with | [_], _ => rfl
  have bb_ilogb : Binds K (PySem.W.fnOf "log_behind" "Raw.log_behind" (defArgs s_ilogb) (defBody s_ilogb) (defScope s_ilogb) .none kV_ilogb dc_ilogb pm_ilogb an_ilogb cd_ilogb ct_ilogb) P_ilogb [] := .all fun us hl => match us, hl with | [_, _], _ => rfl
  have bb_imay : Binds K (PySem.W.fnOf "may_put" "Raw.may_put" (defArgs s_imay) (defBody s_imay) (defScope s_imay) .none kV_imay dc_imay pm_imay an_imay cd_imay ct_imay) P_imay [] := .all fun us hl => match us, hl with | [_, _], _ => rfl
  have bb_imayC : Binds K (PySem.W.fnOf "may_cut" "Raw.may_cut" (defArgs s_imayC) (defBody s_imayC) (defScope s_imayC) .none kV_imayC dc_imayC pm_imayC an_imayC cd_imayC ct_imayC) P_imayC [] := .all fun us hl => match us, hl with | [_], _ => rfl
  have bb_imayT : Binds K (PySem.W.fnOf "may_take" "IntoEnd.may_take" (defArgs s_imayT) (defBody s_imayT) (defScope s_imayT) .none kV_imayT dc_imayT pm_imayT an_imayT cd_imayT ct_imayT) P_imayT [] := .all fun us hl => match us, hl with | [_], _ => rfl
  have bb_inote : Binds K (PySem.W.fnOf "note" "Raw.note" (defArgs s_inote) (defBody s_inote) (defScope s_inote) .none kV_inote dc_inote pm_inote an_inote cd_inote ct_inote) P_inote [] := .all fun us hl => match us, hl with | [_, _, _, _], _ => rfl
  have bb_iopen : Binds K (PySem.W.fnOf "check_open" "Raw.check_open" (defArgs s_iopen) (defBody s_iopen) (defScope s_iopen) .none kV_iopen dc_iopen pm_iopen an_iopen cd_iopen ct_iopen) P_iopen [] := .all fun us hl => match us, hl with | [_], _ => rfl
  have bb_iplace : Binds K (PySem.W.fnOf "place" "Raw.place" (defArgs s_iplace) (defBody s_iplace) (defScope s_iplace) .none kV_iplace dc_iplace pm_iplace an_iplace cd_iplace ct_iplace) P_iplace [] := .all fun us hl => match us, hl with | [_], _ => rfl
  have bb_iput : Binds K (PySem.W.fnOf "put" "Raw.put" (defArgs s_iput) (defBody s_iput) (defScope s_iput) .none kV_iput dc_iput pm_iput an_iput cd_iput ct_iput) P_iput [] := .all fun us hl => match us, hl with | [_, _], _ => rfl
  have bb_iseek : Binds K (PySem.W.fnOf "check_seeks" "Raw.check_seeks" (defArgs s_iseek) (defBody s_iseek) (defScope s_iseek) .none kV_iseek dc_iseek pm_iseek an_iseek cd_iseek ct_iseek) P_iseek [] := .all fun us hl => match us, hl with | [_], _ => rfl
  have bb_ishut : Binds K (PySem.W.fnOf "is_shut" "Raw.is_shut" (defArgs s_ishut) (defBody s_ishut) (defScope s_ishut) .none kV_ishut dc_ishut pm_ishut an_ishut cd_ishut ct_ishut) P_ishut [] := .all fun us hl => match us, hl with | [_], _ => rfl
  have bb_isize : Binds K (PySem.W.fnOf "size" "Raw.size" (defArgs s_isize) (defBody s_isize) (defScope s_isize) .none kV_isize dc_isize pm_isize an_isize cd_isize ct_isize) P_isize [] := .all fun us hl => match us, hl with | [_], _ => rfl
  have bb_isk : Binds K (PySem.W.fnOf "seeks" "Raw.seeks" (defArgs s_isk) (defBody s_isk) (defScope s_isk) .none kV_isk dc_isk pm_isk an_isk cd_isk ct_isk) P_isk [] := .all fun us hl => match us, hl with | [_], _ => rfl
  have bb_itake : Binds K (PySem.W.fnOf "take" "Raw.take" (defArgs s_itake) (defBody s_itake) (defScope s_itake) .none kV_itake dc_itake pm_itake an_itake cd_itake ct_itake) P_itake [] := .all fun us hl => match us, hl with | [_, _], _ => rfl
  have bb_lasked : Binds K (PySem.W.fnOf "_law_asked" "_law_asked" (defArgs s_lasked) (defBody s_lasked) (defScope s_lasked) .none kV_lasked dc_lasked pm_lasked an_lasked cd_lasked ct_lasked) P_lasked [] := .all fun us hl => match us, hl with | [_, _, _, _, _], _ => rfl
  have bb_lbad : Binds K (PySem.W.fnOf "_law_bad_room" "_law_bad_room" (defArgs s_lbad) (defBody s_lbad) (defScope s_lbad) .none kV_lbad dc_lbad pm_lbad an_lbad cd_lbad ct_lbad) P_lbad [] := .all fun us hl => match us, hl with | [_], _ => rfl
  have bb_ldue : Binds K (PySem.W.fnOf "_law_due" "_law_due" (defArgs s_ldue) (defBody s_ldue) (defScope s_ldue) .none kV_ldue dc_ldue pm_ldue an_ldue cd_ldue ct_ldue) P_ldue [] := .all fun us hl => match us, hl with | [_, _, _], _ => rfl
  have bb_lrefusal : Binds K (PySem.W.fnOf "_law_refusal" "_law_refusal" (defArgs s_lrefusal) (defBody s_lrefusal) (defScope s_lrefusal) .none kV_lrefusal dc_lrefusal pm_lrefusal an_lrefusal cd_lrefusal ct_lrefusal) P_lrefusal [] := .all fun us hl => match us, hl with | [_], _ => rfl
  have bb_lrow : Binds K (PySem.W.fnOf "_law_row" "_law_row" (defArgs s_lrow) (defBody s_lrow) (defScope s_lrow) .none kV_lrow dc_lrow pm_lrow an_lrow cd_lrow ct_lrow) P_lrow [] := .all fun us hl => match us, hl with | [_, _], _ => rfl
  have bb_ltried : Binds K (PySem.W.fnOf "_law_tried" "_law_tried" (defArgs s_ltried) (defBody s_ltried) (defScope s_ltried) .none kV_ltried dc_ltried pm_ltried an_ltried cd_ltried ct_ltried) P_ltried [] := .all fun us hl => match us, hl with | [_, _, _], _ => rfl
  have bb_ocopy : Binds K (PySem.W.fnOf "own_copy" "own_copy" (defArgs s_ocopy) (defBody s_ocopy) (defScope s_ocopy) .none kV_ocopy dc_ocopy pm_ocopy an_ocopy cd_ocopy ct_ocopy) P_ocopy [] := .all fun us hl => match us, hl with | [_], _ => rfl
  have bb_ocut : Binds K (PySem.W.fnOf "cut" "Raw.cut" (defArgs s_ocut) (defBody s_ocut) (defScope s_ocut) .none kV_ocut dc_ocut pm_ocut an_ocut cd_ocut ct_ocut) P_ocut [] := .all fun us hl => match us, hl with | [_, _], _ => rfl
  have bb_ogive : Binds K (PySem.W.fnOf "give" "OutEnd.give" (defArgs s_ogive) (defBody s_ogive) (defScope s_ogive) .none kV_ogive dc_ogive pm_ogive an_ogive cd_ogive ct_ogive) P_ogive [] := .all fun us hl => match us, hl with | [_, _], _ => rfl
  have bb_ogo : Binds K (PySem.W.fnOf "go" "Raw.go" (defArgs s_ogo) (defBody s_ogo) (defScope s_ogo) .none kV_ogo dc_ogo pm_ogo an_ogo cd_ogo ct_ogo) P_ogo [] := .all fun us hl => match us, hl with | [_, _], _ => rfl
  have bb_oinit : Binds K (PySem.W.fnOf "__init__" "OutEnd.__init__" (defArgs s_oinit) (defBody s_oinit) (defScope s_oinit) .none kV_oinit dc_oinit pm_oinit an_oinit cd_oinit ct_oinit) P_oinit [] := .all fun us hl => match us, hl with | [_, _], _ => rfl
  have bb_olog : Binds K (PySem.W.fnOf "log" "Raw.log" (defArgs s_olog) (defBody s_olog) (defScope s_olog) .none kV_olog dc_olog pm_olog an_olog cd_olog ct_olog) P_olog [] := .all fun us hl => match us, hl with | [_], _ => rfl
  have bb_ologb : Binds K (PySem.W.fnOf "log_behind" "Raw.log_behind" (defArgs s_ologb) (defBody s_ologb) (defScope s_ologb) .none kV_ologb dc_ologb pm_ologb an_ologb cd_ologb ct_ologb) P_ologb [] := .all fun us hl => match us, hl with | [_, _], _ => rfl
  have bb_omay : Binds K (PySem.W.fnOf "may_take" "Raw.may_take" (defArgs s_omay) (defBody s_omay) (defScope s_omay) .none kV_omay dc_omay pm_omay an_omay cd_omay ct_omay) P_omay [] := .all fun us hl => match us, hl with | [_], _ => rfl
  have bb_omayC : Binds K (PySem.W.fnOf "may_cut" "Raw.may_cut" (defArgs s_omayC) (defBody s_omayC) (defScope s_omayC) .none kV_omayC dc_omayC pm_omayC an_omayC cd_omayC ct_omayC) P_omayC [] := .all fun us hl => match us, hl with | [_], _ => rfl
  have bb_omayP : Binds K (PySem.W.fnOf "may_put" "OutEnd.may_put" (defArgs s_omayP) (defBody s_omayP) (defScope s_omayP) .none kV_omayP dc_omayP pm_omayP an_omayP cd_omayP ct_omayP) P_omayP [] := .all fun us hl => match us, hl with | [_, _], _ => rfl
  have bb_onote : Binds K (PySem.W.fnOf "note" "Raw.note" (defArgs s_onote) (defBody s_onote) (defScope s_onote) .none kV_onote dc_onote pm_onote an_onote cd_onote ct_onote) P_onote [] := .all fun us hl => match us, hl with | [_, _, _, _], _ => rfl
  have bb_oopen : Binds K (PySem.W.fnOf "check_open" "Raw.check_open" (defArgs s_oopen) (defBody s_oopen) (defScope s_oopen) .none kV_oopen dc_oopen pm_oopen an_oopen cd_oopen ct_oopen) P_oopen [] := .all fun us hl => match us, hl with | [_], _ => rfl
  have bb_oplace : Binds K (PySem.W.fnOf "place" "Raw.place" (defArgs s_oplace) (defBody s_oplace) (defScope s_oplace) .none kV_oplace dc_oplace pm_oplace an_oplace cd_oplace ct_oplace) P_oplace [] := .all fun us hl => match us, hl with | [_], _ => rfl
  have bb_oput : Binds K (PySem.W.fnOf "put" "Raw.put" (defArgs s_oput) (defBody s_oput) (defScope s_oput) .none kV_oput dc_oput pm_oput an_oput cd_oput ct_oput) P_oput [] := .all fun us hl => match us, hl with | [_, _], _ => rfl
  have bb_oseek : Binds K (PySem.W.fnOf "check_seeks" "Raw.check_seeks" (defArgs s_oseek) (defBody s_oseek) (defScope s_oseek) .none kV_oseek dc_oseek pm_oseek an_oseek cd_oseek ct_oseek) P_oseek [] := .all fun us hl => match us, hl with | [_], _ => rfl
  have bb_oshut : Binds K (PySem.W.fnOf "is_shut" "Raw.is_shut" (defArgs s_oshut) (defBody s_oshut) (defScope s_oshut) .none kV_oshut dc_oshut pm_oshut an_oshut cd_oshut ct_oshut) P_oshut [] := .all fun us hl => match us, hl with | [_], _ => rfl
  have bb_osize : Binds K (PySem.W.fnOf "size" "Raw.size" (defArgs s_osize) (defBody s_osize) (defScope s_osize) .none kV_osize dc_osize pm_osize an_osize cd_osize ct_osize) P_osize [] := .all fun us hl => match us, hl with | [_], _ => rfl
  have bb_osk : Binds K (PySem.W.fnOf "seeks" "Raw.seeks" (defArgs s_osk) (defBody s_osk) (defScope s_osk) .none kV_osk dc_osk pm_osk an_osk cd_osk ct_osk) P_osk [] := .all fun us hl => match us, hl with | [_], _ => rfl
  have bb_otake : Binds K (PySem.W.fnOf "take" "Raw.take" (defArgs s_otake) (defBody s_otake) (defScope s_otake) .none kV_otake dc_otake pm_otake an_otake cd_otake ct_otake) P_otake [] := .all fun us hl => match us, hl with | [_, _], _ => rfl
  have bb_pdrop : Binds K (PySem.W.fnOf "drop" "Pipe.drop" (defArgs s_pdrop) (defBody s_pdrop) (defScope s_pdrop) .none kV_pdrop dc_pdrop pm_pdrop an_pdrop cd_pdrop ct_pdrop) P_pdrop [] := .all fun us hl => match us, hl with | [_], _ => rfl
  have bb_pheld : Binds K (PySem.W.fnOf "held" "Pipe.held" (defArgs s_pheld) (defBody s_pheld) (defScope s_pheld) .none kV_pheld dc_pheld pm_pheld an_pheld cd_pheld ct_pheld) P_pheld [] := .all fun us hl => match us, hl with | [_], _ => rfl
  have bb_pinto : Binds K (PySem.W.fnOf "into" "Pipe.into" (defArgs s_pinto) (defBody s_pinto) (defScope s_pinto) .none kV_pinto dc_pinto pm_pinto an_pinto cd_pinto ct_pinto) P_pinto [] := .all fun us hl => match us, hl with | [_], _ => rfl
  have bb_play : Binds K (PySem.W.fnOf "lay" "Pipe.lay" (defArgs s_play) (defBody s_play) (defScope s_play) .none kV_play dc_play pm_play an_play cd_play ct_play) P_play [] := .all fun us hl => match us, hl with | [_, _], _ => rfl
  have bb_plift : Binds K (PySem.W.fnOf "lift" "Pipe.lift" (defArgs s_plift) (defBody s_plift) (defScope s_plift) .none kV_plift dc_plift pm_plift an_plift cd_plift ct_plift) P_plift [] := .all fun us hl => match us, hl with | [_, _], _ => rfl
  have bb_pool : Binds K (PySem.W.fnOf "_law_pool" "_law_pool" (defArgs s_pool) (defBody s_pool) (defScope s_pool) .none kV_pool dc_pool pm_pool an_pool cd_pool ct_pool) P_pool [] := .all fun us hl => match us, hl with | [_, _], _ => rfl
  have bb_pout : Binds K (PySem.W.fnOf "out" "Pipe.out" (defArgs s_pout) (defBody s_pout) (defScope s_pout) .none kV_pout dc_pout pm_pout an_pout cd_pout ct_pout) P_pout [] := .all fun us hl => match us, hl with | [_], _ => rfl
  have bb_rinit : Binds K (PySem.W.fnOf "__init__" "Raw.__init__" (defArgs s_rinit) (defBody s_rinit) (defScope s_rinit) .none kV_rinit dc_rinit pm_rinit an_rinit cd_rinit ct_rinit) P_rinit [] := .all fun us hl => match us, hl with | [_, _], _ => rfl
  have bb_rshut : Binds K (PySem.W.fnOf "shut" "Raw.shut" (defArgs s_rshut) (defBody s_rshut) (defScope s_rshut) .none kV_rshut dc_rshut pm_rshut an_rshut cd_rshut ct_rshut) P_rshut [] := .all fun us hl => match us, hl with | [_], _ => rfl
  have bb_take : Binds K (PySem.W.fnOf "_law_take" "_law_take" (defArgs s_take) (defBody s_take) (defScope s_take) .none kV_take dc_take pm_take an_take cd_take ct_take) P_take [] := .all fun us hl => match us, hl with | [_, _], _ => rfl
  have bb_whole : Binds K (PySem.W.fnOf "is_whole" "is_whole" (defArgs s_whole) (defBody s_whole) (defScope s_whole) .none kV_whole dc_whole pm_whole an_whole cd_whole ct_whole) P_whole [] := .all fun us hl => match us, hl with | [_], _ => rfl
  have kb_pinit_0_room : KBn K (PySem.W.fnOf "__init__" "Pipe.__init__" (defArgs s_pinit) (defBody s_pinit) (defScope s_pinit) .none kV_pinit dc_pinit pm_pinit an_pinit cd_pinit ct_pinit) P_pinit 1 ["room"] (fun us ws => us ++ ws) (fun vs zs => vs ++ zs) := ⟨fun s us ws X l1 l2 => .of_eq (match us, ws, l1, l2 with | [_], [_], _, _ => rfl), fun r1 r2 => Vals.append r1 r2⟩
  let T : Tx K mg := ⟨C_IntoEnd, C_OutEnd, C_Pipe, C_Raw, C_SipError, C_Fault, C_Closed, C_NoSeek, C_NoReads, C_NoWrites, C_BadRoom, f_whole, _, ⟨F_whole, PySem.W.mg_of X G a_whole⟩, f_croom, _, ⟨F_croom, PySem.W.mg_of X G a_croom⟩, f_ocopy, _, ⟨F_ocopy, PySem.W.mg_of X G a_ocopy⟩, f_rinit, _, ⟨F_rinit, ⟨a_rinit, i_rinit, k_rinit⟩⟩, f_iinit, _, ⟨F_iinit, ⟨a_iinit, i_iinit, k_iinit⟩⟩, f_oinit, _, ⟨F_oinit, ⟨a_oinit, i_oinit, k_oinit⟩⟩, f_pinit, _, ⟨F_pinit, ⟨a_pinit, i_pinit, k_pinit⟩⟩, f_pinto, _, ⟨F_pinto, ⟨a_pinto, i_pinto, k_pinto⟩⟩, f_pout, _, ⟨F_pout, ⟨a_pout, i_pout, k_pout⟩⟩, f_pheld, _, ⟨F_pheld, ⟨a_pheld, i_pheld, k_pheld⟩⟩, f_play, _, ⟨F_play, ⟨a_play, i_play, k_play⟩⟩, f_plift, _, ⟨F_plift, ⟨a_plift, i_plift, k_plift⟩⟩, f_iaccept, _, ⟨F_iaccept, ⟨a_iaccept, i_iaccept, k_iaccept⟩⟩, f_ogive, _, ⟨F_ogive, ⟨a_ogive, i_ogive, k_ogive⟩⟩, f_iput, _, ⟨F_iput, ⟨a_iput, i_iput, k_iput⟩⟩, f_iopen, _, ⟨F_iopen, ⟨a_iopen, i_iopen, k_iopen⟩⟩, f_imay, _, ⟨F_imay, ⟨a_imay, i_imay, k_imay⟩⟩, f_inote, _, ⟨F_inote, ⟨a_inote, i_inote, k_inote⟩⟩, f_ishut, _, ⟨F_ishut, ⟨a_ishut, i_ishut, k_ishut⟩⟩, f_ilog, _, ⟨F_ilog, ⟨a_ilog, i_ilog, k_ilog⟩⟩, f_ilogb, _, ⟨F_ilogb, ⟨a_ilogb, i_ilogb, k_ilogb⟩⟩, f_otake, _, ⟨F_otake, ⟨a_otake, i_otake, k_otake⟩⟩, f_oopen, _, ⟨F_oopen, ⟨a_oopen, i_oopen, k_oopen⟩⟩, f_omay, _, ⟨F_omay, ⟨a_omay, i_omay, k_omay⟩⟩, f_onote, _, ⟨F_onote, ⟨a_onote, i_onote, k_onote⟩⟩, f_oshut, _, ⟨F_oshut, ⟨a_oshut, i_oshut, k_oshut⟩⟩, f_olog, _, ⟨F_olog, ⟨a_olog, i_olog, k_olog⟩⟩, f_ologb, _, ⟨F_ologb, ⟨a_ologb, i_ologb, k_ologb⟩⟩, f_iFault, _, F_iFault, f_rshut, _, ⟨F_rshut, ⟨a_rshut, i_rshut, k_rshut⟩⟩, f_pdrop, _, ⟨F_pdrop, ⟨a_pdrop, i_pdrop, k_pdrop⟩⟩, f_osup, fdx_osup, (Sip.supC K ("OutEnd", some "shut")), (Sip.supK K ("OutEnd", some "shut")), U_osup, ⟨⟨a_osup, i_osup, U_osup.kp⟩⟩, ⟨u0_osup, u1_osup, u2_osup, u3_osup, u4_osup, u5_osup, PySem.W.mg_none_of X G z_super⟩, f_ibar, _, ⟨F_ibar, ⟨a_ibar, i_ibar, k_ibar⟩⟩, f_itake, _, ⟨F_itake, ⟨a_itake, i_itake, k_itake⟩⟩, f_imayT, _, ⟨F_imayT, ⟨a_imayT, i_imayT, k_imayT⟩⟩, f_igo, _, ⟨F_igo, ⟨a_igo, i_igo, k_igo⟩⟩, f_icut, _, ⟨F_icut, ⟨a_icut, i_icut, k_icut⟩⟩, f_iplace, _, ⟨F_iplace, ⟨a_iplace, i_iplace, k_iplace⟩⟩, f_isize, _, ⟨F_isize, ⟨a_isize, i_isize, k_isize⟩⟩, f_iseek, _, ⟨F_iseek, ⟨a_iseek, i_iseek, k_iseek⟩⟩, f_imayC, _, ⟨F_imayC, ⟨a_imayC, i_imayC, k_imayC⟩⟩, f_isk, _, ⟨F_isk, ⟨a_isk, i_isk, k_isk⟩⟩, f_oput, _, ⟨F_oput, ⟨a_oput, i_oput, k_oput⟩⟩, f_omayP, _, ⟨F_omayP, ⟨a_omayP, i_omayP, k_omayP⟩⟩, f_ogo, _, ⟨F_ogo, ⟨a_ogo, i_ogo, k_ogo⟩⟩, f_ocut, _, ⟨F_ocut, ⟨a_ocut, i_ocut, k_ocut⟩⟩, f_oplace, _, ⟨F_oplace, ⟨a_oplace, i_oplace, k_oplace⟩⟩, f_osize, _, ⟨F_osize, ⟨a_osize, i_osize, k_osize⟩⟩, f_oseek, _, ⟨F_oseek, ⟨a_oseek, i_oseek, k_oseek⟩⟩, f_omayC, _, ⟨F_omayC, ⟨a_omayC, i_omayC, k_omayC⟩⟩, f_osk, _, ⟨F_osk, ⟨a_osk, i_osk, k_osk⟩⟩, f_pool, _, ⟨F_pool, PySem.W.mg_of X G a_pool⟩, f_take, _, ⟨F_take, PySem.W.mg_of X G a_take⟩, f_lrow, _, ⟨F_lrow, PySem.W.mg_of X G a_lrow⟩, f_lrefusal, _, ⟨F_lrefusal, PySem.W.mg_of X G a_lrefusal⟩, f_ltried, _, ⟨F_ltried, PySem.W.mg_of X G a_ltried⟩, f_lbad, _, ⟨F_lbad, PySem.W.mg_of X G a_lbad⟩, f_ldue, _, ⟨F_ldue, PySem.W.mg_of X G a_ldue⟩, f_lasked, _, ⟨F_lasked, PySem.W.mg_of X G a_lasked⟩, fa, _, ⟨F_law, PySem.W.mg_of X G a_law⟩, ⟨pg_IntoEnd, hd_IntoEnd, po_IntoEnd, sa_IntoEnd⟩, PySem.W.mg_of X G qa_IntoEnd, ⟨mk_IntoEnd, a_iinit, i_iinit, kc_IntoEnd⟩, n_IntoEnd_can_seek, n_IntoEnd_spot, n_IntoEnd_barred, n_IntoEnd_notes, n_IntoEnd_pipe, ⟨pg_OutEnd, hd_OutEnd, po_OutEnd, sa_OutEnd⟩, PySem.W.mg_of X G qa_OutEnd, ⟨mk_OutEnd, a_oinit, i_oinit, kc_OutEnd⟩, n_OutEnd_can_seek, n_OutEnd_spot, n_OutEnd_barred, n_OutEnd_notes, n_OutEnd_pipe, ⟨pg_Pipe, hd_Pipe, po_Pipe, sa_Pipe⟩, PySem.W.mg_of X G qa_Pipe, ⟨mk_Pipe, a_pinit, i_pinit, kc_Pipe⟩, n_Pipe_room, n_Pipe_within, n_Pipe_into_end, n_Pipe_out_end, PySem.W.mg_of X G qa_Raw, ⟨rd_Raw, ga_Raw⟩, cv_rinit, cv_rshut, PySem.W.mg_of X G qa_SipError, PySem.W.mg_of X G qa_Fault, PySem.W.mg_of X G qa_Closed, PySem.W.mg_of X G qa_NoSeek, PySem.W.mg_of X G qa_NoReads, PySem.W.mg_of X G qa_NoWrites, PySem.W.mg_of X G qa_BadRoom, ⟨xo_Fault, sa_Fault, ex_Fault, ty_Fault, kx_Fault⟩, ⟨hg_Fault, hk_Fault, ex_Fault, hd_Fault, ha_Fault, hn_Fault, ht_Fault, hm_Fault⟩, no_Fault, no2_Fault, a_iFault, i_iFault, PySem.W.exm_ref sb_SipError sh_SipError st_SipError ss_Fault, Sip.kit_bltn (by decide +kernel) sv_Fault, Sip.kit_ownF jc_Closed jt_Closed se_Fault su_Fault_Closed, Sip.kit_ownF jc_NoSeek jt_NoSeek se_Fault su_Fault_NoSeek, Sip.kit_ownF jc_NoReads jt_NoReads se_Fault su_Fault_NoReads, Sip.kit_ownF jc_NoWrites jt_NoWrites se_Fault su_Fault_NoWrites, Sip.kit_own jc_Fault jt_Fault se_Fault, Sip.kit_own jc_SipError jt_SipError ss_Fault, qx_Closed, qk_Closed, qb_Closed, qt_Closed, qx_NoSeek, qk_NoSeek, qb_NoSeek, qt_NoSeek, qx_NoReads, qk_NoReads, qb_NoReads, qt_NoReads, qx_NoWrites, qk_NoWrites, qb_NoWrites, qt_NoWrites, qx_BadRoom, qk_BadRoom, qb_BadRoom, qt_BadRoom, ⟨hg_Closed, hk_Closed, ex_Closed, hd_Closed, ha_Closed, hn_Closed, ht_Closed, hm_Closed⟩, Sip.kit_bltn (by decide +kernel) sv_Closed, Sip.kit_own jc_Closed jt_Closed se_Closed, Sip.kit_ownF jc_NoSeek jt_NoSeek se_Closed su_Closed_NoSeek, Sip.kit_ownF jc_NoReads jt_NoReads se_Closed su_Closed_NoReads, Sip.kit_ownF jc_NoWrites jt_NoWrites se_Closed su_Closed_NoWrites, Sip.kit_ownF jc_Fault jt_Fault se_Closed su_Closed_Fault, Sip.kit_own jc_SipError jt_SipError ss_Closed, ⟨hg_NoSeek, hk_NoSeek, ex_NoSeek, hd_NoSeek, ha_NoSeek, hn_NoSeek, ht_NoSeek, hm_NoSeek⟩, Sip.kit_bltn (by decide +kernel) sv_NoSeek, Sip.kit_ownF jc_Closed jt_Closed se_NoSeek su_NoSeek_Closed, Sip.kit_own jc_NoSeek jt_NoSeek se_NoSeek, Sip.kit_ownF jc_NoReads jt_NoReads se_NoSeek su_NoSeek_NoReads, Sip.kit_ownF jc_NoWrites jt_NoWrites se_NoSeek su_NoSeek_NoWrites, Sip.kit_ownF jc_Fault jt_Fault se_NoSeek su_NoSeek_Fault, Sip.kit_own jc_SipError jt_SipError ss_NoSeek, ⟨hg_NoReads, hk_NoReads, ex_NoReads, hd_NoReads, ha_NoReads, hn_NoReads, ht_NoReads, hm_NoReads⟩, Sip.kit_bltn (by decide +kernel) sv_NoReads, Sip.kit_ownF jc_Closed jt_Closed se_NoReads su_NoReads_Closed, Sip.kit_ownF jc_NoSeek jt_NoSeek se_NoReads su_NoReads_NoSeek, Sip.kit_own jc_NoReads jt_NoReads se_NoReads, Sip.kit_ownF jc_NoWrites jt_NoWrites se_NoReads su_NoReads_NoWrites, Sip.kit_ownF jc_Fault jt_Fault se_NoReads su_NoReads_Fault, Sip.kit_own jc_SipError jt_SipError ss_NoReads, ⟨hg_NoWrites, hk_NoWrites, ex_NoWrites, hd_NoWrites, ha_NoWrites, hn_NoWrites, ht_NoWrites, hm_NoWrites⟩, Sip.kit_bltn (by decide +kernel) sv_NoWrites, Sip.kit_ownF jc_Closed jt_Closed se_NoWrites su_NoWrites_Closed, Sip.kit_ownF jc_NoSeek jt_NoSeek se_NoWrites su_NoWrites_NoSeek, Sip.kit_ownF jc_NoReads jt_NoReads se_NoWrites su_NoWrites_NoReads, Sip.kit_own jc_NoWrites jt_NoWrites se_NoWrites, Sip.kit_ownF jc_Fault jt_Fault se_NoWrites su_NoWrites_Fault, Sip.kit_own jc_SipError jt_SipError ss_NoWrites, ⟨hg_BadRoom, hk_BadRoom, ex_BadRoom, hd_BadRoom, ha_BadRoom, hn_BadRoom, ht_BadRoom, hm_BadRoom⟩, Sip.kit_bltn (by decide +kernel) sv_BadRoom, Sip.kit_ownF jc_Closed jt_Closed se_BadRoom su_BadRoom_Closed, Sip.kit_ownF jc_NoSeek jt_NoSeek se_BadRoom su_BadRoom_NoSeek, Sip.kit_ownF jc_NoReads jt_NoReads se_BadRoom su_BadRoom_NoReads, Sip.kit_ownF jc_NoWrites jt_NoWrites se_BadRoom su_BadRoom_NoWrites, Sip.kit_ownF jc_Fault jt_Fault se_BadRoom su_BadRoom_Fault, Sip.kit_own jc_SipError jt_SipError ss_BadRoom, PySem.W.exm_ref hb_Fault hh_Fault hy_Fault hs_Fault_Fault, PySem.W.exm_ref hb_SipError hh_SipError hy_SipError hs_Fault_SipError, PySem.W.exm_ref hb_BadRoom hh_BadRoom hy_BadRoom hs_Fault_BadRoom, PySem.W.exm_ref hb_Fault hh_Fault hy_Fault hs_Closed_Fault, PySem.W.exm_ref hb_SipError hh_SipError hy_SipError hs_Closed_SipError, PySem.W.exm_ref hb_BadRoom hh_BadRoom hy_BadRoom hs_Closed_BadRoom, PySem.W.exm_ref hb_Fault hh_Fault hy_Fault hs_NoSeek_Fault, PySem.W.exm_ref hb_SipError hh_SipError hy_SipError hs_NoSeek_SipError, PySem.W.exm_ref hb_BadRoom hh_BadRoom hy_BadRoom hs_NoSeek_BadRoom, PySem.W.exm_ref hb_Fault hh_Fault hy_Fault hs_NoReads_Fault, PySem.W.exm_ref hb_SipError hh_SipError hy_SipError hs_NoReads_SipError, PySem.W.exm_ref hb_BadRoom hh_BadRoom hy_BadRoom hs_NoReads_BadRoom, PySem.W.exm_ref hb_Fault hh_Fault hy_Fault hs_NoWrites_Fault, PySem.W.exm_ref hb_SipError hh_SipError hy_SipError hs_NoWrites_SipError, PySem.W.exm_ref hb_BadRoom hh_BadRoom hy_BadRoom hs_NoWrites_BadRoom, PySem.W.exm_ref hb_Fault hh_Fault hy_Fault hs_BadRoom_Fault, PySem.W.exm_ref hb_SipError hh_SipError hy_SipError hs_BadRoom_SipError, PySem.W.exm_ref hb_BadRoom hh_BadRoom hy_BadRoom hs_BadRoom_BadRoom, bb_croom, bb_iaccept, bb_ibar, bb_icut, bb_igo, bb_iinit, bb_ilog, bb_ilogb, bb_imay, bb_imayC, bb_imayT, bb_inote, bb_iopen, bb_iplace, bb_iput, bb_iseek, bb_ishut, bb_isize, bb_isk, bb_itake, bb_lasked, bb_lbad, bb_ldue, bb_lrefusal, bb_lrow, bb_ltried, bb_ocopy, bb_ocut, bb_ogive, bb_ogo, bb_oinit, bb_olog, bb_ologb, bb_omay, bb_omayC, bb_omayP, bb_onote, bb_oopen, bb_oplace, bb_oput, bb_oseek, bb_oshut, bb_osize, bb_osk, bb_osup, bb_otake, bb_pdrop, bb_pheld, bb_pinto, bb_play, bb_plift, bb_pool, bb_pout, bb_rinit, bb_rshut, bb_take, bb_whole, ds_pinit_0, v_pinit_0, b_pinit_0, kb_pinit_0_room, t_ROOM, PySem.W.mg_of X G v_ROOM, t_GREATEST_ROOM, PySem.W.mg_of X G v_GREATEST_ROOM, t_BROKEN, PySem.W.mg_of X G v_BROKEN, PySem.W.mg_none_of X G z_list, PySem.W.mg_none_of X G z_len, PySem.W.mg_none_of X G z_range, PySem.W.mg_none_of X G z_max, PySem.W.mg_none_of X G z_min, PySem.W.mg_none_of X G z_isinstance, PySem.W.mg_none_of X G z_int, PySem.W.mg_none_of X G z_bool, PySem.W.mg_none_of X G z_super, PySem.W.mg_none_of X G z_ValueError⟩
  exact ⟨_, fun s v => .of_eq rfl, fun base _ _ => ok_law T⟩
set_option maxHeartbeats 0 in
theorem all_of {l : PySem.W.OpenLaw} [Sip.SupProg l.prog supFl] {w : World} {K : PySem.W.Frag} {h : Heap} {mg : Str → Option Value} {fa : Addr} (X : K.In h) (G : h.Ns mainGlobals mg) (hfa : mg "law" = some (.ref fa)) (c0 : Sip.SaysU re_0 hdF hdU K) :
    ∃ fd : FuncData, (∀ (s : Shared) (v : Value), BindsTo s fd ⟨[v], []⟩ [("_law_script", v)]) ∧ ∀ base : Heap, K.In base → base.Ns mainGlobals mg → FnOk l.prog w K mg base CX0 12 fa fd ["_law_script"] (spLaw K) := by
  have c := c0.toS
  have r_0 : re_0 K = true := c.facts
  obtain ⟨b_0, r_1⟩ := He.ba (show (decide (PySem.W.nsIn K mainGlobals "IntoEnd" = some (some (.ref (He.ga K "IntoEnd")))) && re_1 K) = true from r_0)
  clear r_0
  have qa_IntoEnd : PySem.W.nsIn K mainGlobals "IntoEnd" = some (some (.ref (He.ga K "IntoEnd"))) := of_decide_eq_true b_0
  clear b_0
  obtain ⟨b_1, r_2⟩ := He.ba (show (decide (PySem.W.nsIn K mainGlobals "OutEnd" = some (some (.ref (He.ga K "OutEnd")))) && re_2 K) = true from r_1)
  clear r_1
  have qa_OutEnd : PySem.W.nsIn K mainGlobals "OutEnd" = some (some (.ref (He.ga K "OutEnd"))) := of_decide_eq_true b_1
  clear b_1
  obtain ⟨b_2, r_3⟩ := He.ba (show (decide (PySem.W.nsIn K mainGlobals "Pipe" = some (some (.ref (He.ga K "Pipe")))) && re_3 K) = true from r_2)
  clear r_2
  have qa_Pipe : PySem.W.nsIn K mainGlobals "Pipe" = some (some (.ref (He.ga K "Pipe"))) := of_decide_eq_true b_2
  clear b_2
  obtain ⟨b_3, r_4⟩ := He.ba (show (decide (PySem.W.nsIn K mainGlobals "Raw" = some (some (.ref (He.ga K "Raw")))) && re_4 K) = true from r_3)
  clear r_3
  have qa_Raw : PySem.W.nsIn K mainGlobals "Raw" = some (some (.ref (He.ga K "Raw"))) := of_decide_eq_true b_3
  clear b_3
  obtain ⟨b_4, r_5⟩ := He.ba (show (decide (PySem.W.readsIn K (He.ga K "Raw") (.type "type") = true) && re_5 K) = true from r_4)
  clear r_4
  have rd_Raw : PySem.W.readsIn K (He.ga K "Raw") (.type "type") = true := of_decide_eq_true b_4
  clear b_4
  obtain ⟨b_5, r_6⟩ := He.ba (show (decide (PySem.W.specialIn K (.ref (He.ga K "Raw")) "__getattribute__" = some (some (.builtin "type.__getattribute__"))) && re_6 K) = true from r_5)
  clear r_5
  have ga_Raw : PySem.W.specialIn K (.ref (He.ga K "Raw")) "__getattribute__" = some (some (.builtin "type.__getattribute__")) := of_decide_eq_true b_5
  clear b_5
  obtain ⟨b_6, r_7⟩ := He.ba (show (decide (PySem.W.nsIn K mainGlobals "SipError" = some (some (.ref (He.ga K "SipError")))) && re_7 K) = true from r_6)
  clear r_6
  have qa_SipError : PySem.W.nsIn K mainGlobals "SipError" = some (some (.ref (He.ga K "SipError"))) := of_decide_eq_true b_6
  clear b_6
  obtain ⟨b_7, r_8⟩ := He.ba (show (decide (PySem.W.nsIn K mainGlobals "Fault" = some (some (.ref (He.ga K "Fault")))) && re_8 K) = true from r_7)
  clear r_7
  have qa_Fault : PySem.W.nsIn K mainGlobals "Fault" = some (some (.ref (He.ga K "Fault"))) := of_decide_eq_true b_7
  clear b_7
  obtain ⟨b_8, r_9⟩ := He.ba (show (decide (PySem.W.nsIn K mainGlobals "Closed" = some (some (.ref (He.ga K "Closed")))) && re_9 K) = true from r_8)
  clear r_8
  have qa_Closed : PySem.W.nsIn K mainGlobals "Closed" = some (some (.ref (He.ga K "Closed"))) := of_decide_eq_true b_8
  clear b_8
  obtain ⟨b_9, r_10⟩ := He.ba (show (decide (PySem.W.nsIn K mainGlobals "NoSeek" = some (some (.ref (He.ga K "NoSeek")))) && re_10 K) = true from r_9)
  clear r_9
  have qa_NoSeek : PySem.W.nsIn K mainGlobals "NoSeek" = some (some (.ref (He.ga K "NoSeek"))) := of_decide_eq_true b_9
  clear b_9
  obtain ⟨b_10, r_11⟩ := He.ba (show (decide (PySem.W.nsIn K mainGlobals "NoReads" = some (some (.ref (He.ga K "NoReads")))) && re_11 K) = true from r_10)
  clear r_10
  have qa_NoReads : PySem.W.nsIn K mainGlobals "NoReads" = some (some (.ref (He.ga K "NoReads"))) := of_decide_eq_true b_10
  clear b_10
  obtain ⟨b_11, r_12⟩ := He.ba (show (decide (PySem.W.nsIn K mainGlobals "NoWrites" = some (some (.ref (He.ga K "NoWrites")))) && re_12 K) = true from r_11)
  clear r_11
  have qa_NoWrites : PySem.W.nsIn K mainGlobals "NoWrites" = some (some (.ref (He.ga K "NoWrites"))) := of_decide_eq_true b_11
  clear b_11
  obtain ⟨b_12, r_13⟩ := He.ba (show (decide (PySem.W.nsIn K mainGlobals "BadRoom" = some (some (.ref (He.ga K "BadRoom")))) && re_13 K) = true from r_12)
  clear r_12
  have qa_BadRoom : PySem.W.nsIn K mainGlobals "BadRoom" = some (some (.ref (He.ga K "BadRoom"))) := of_decide_eq_true b_12
  clear b_12
  obtain ⟨b_13, r_14⟩ := He.ba (show (decide (PySem.W.subIn K (.ref (He.ga K "SipError")) (.type "BaseException") = some true) && re_14 K) = true from r_13)
  clear r_13
  have sb_SipError : PySem.W.subIn K (.ref (He.ga K "SipError")) (.type "BaseException") = some true := of_decide_eq_true b_13
  clear b_13
  obtain ⟨b_14, r_15⟩ := He.ba (show (decide (PySem.W.hasDictIn K (He.ga K "SipError") = true) && re_15 K) = true from r_14)
  clear r_14
  have sh_SipError : PySem.W.hasDictIn K (He.ga K "SipError") = true := of_decide_eq_true b_14
  clear b_14
  obtain ⟨b_15, r_16⟩ := He.ba (show (decide (PySem.W.typeIn K (.ref (He.ga K "SipError")) = some (.type "type")) && re_16 K) = true from r_15)
  clear r_15
  have st_SipError : PySem.W.typeIn K (.ref (He.ga K "SipError")) = some (.type "type") := of_decide_eq_true b_15
  clear b_15
  obtain ⟨b_16, r_17⟩ := He.ba (show (decide (PySem.W.isClsIn K (He.ga K "Closed") = true) && re_17 K) = true from r_16)
  clear r_16
  have jc_Closed : PySem.W.isClsIn K (He.ga K "Closed") = true := of_decide_eq_true b_16
  clear b_16
  obtain ⟨b_17, r_18⟩ := He.ba (show (decide (PySem.W.typeIn K (.ref (He.ga K "Closed")) = some (.type "type")) && re_18 K) = true from r_17)
  clear r_17
  have jt_Closed : PySem.W.typeIn K (.ref (He.ga K "Closed")) = some (.type "type") := of_decide_eq_true b_17
  clear b_17
  obtain ⟨b_18, r_19⟩ := He.ba (show (decide (PySem.W.isClsIn K (He.ga K "NoSeek") = true) && re_19 K) = true from r_18)
  clear r_18
  have jc_NoSeek : PySem.W.isClsIn K (He.ga K "NoSeek") = true := of_decide_eq_true b_18
  clear b_18
  obtain ⟨b_19, r_20⟩ := He.ba (show (decide (PySem.W.typeIn K (.ref (He.ga K "NoSeek")) = some (.type "type")) && re_20 K) = true from r_19)
  clear r_19
  have jt_NoSeek : PySem.W.typeIn K (.ref (He.ga K "NoSeek")) = some (.type "type") := of_decide_eq_true b_19
  clear b_19
  obtain ⟨b_20, r_21⟩ := He.ba (show (decide (PySem.W.isClsIn K (He.ga K "NoReads") = true) && re_21 K) = true from r_20)
  clear r_20
  have jc_NoReads : PySem.W.isClsIn K (He.ga K "NoReads") = true := of_decide_eq_true b_20
  clear b_20
  obtain ⟨b_21, r_22⟩ := He.ba (show (decide (PySem.W.typeIn K (.ref (He.ga K "NoReads")) = some (.type "type")) && re_22 K) = true from r_21)
  clear r_21
  have jt_NoReads : PySem.W.typeIn K (.ref (He.ga K "NoReads")) = some (.type "type") := of_decide_eq_true b_21
  clear b_21
  obtain ⟨b_22, r_23⟩ := He.ba (show (decide (PySem.W.isClsIn K (He.ga K "NoWrites") = true) && re_23 K) = true from r_22)
  clear r_22
  have jc_NoWrites : PySem.W.isClsIn K (He.ga K "NoWrites") = true := of_decide_eq_true b_22
  clear b_22
  obtain ⟨b_23, r_24⟩ := He.ba (show (decide (PySem.W.typeIn K (.ref (He.ga K "NoWrites")) = some (.type "type")) && re_24 K) = true from r_23)
  clear r_23
  have jt_NoWrites : PySem.W.typeIn K (.ref (He.ga K "NoWrites")) = some (.type "type") := of_decide_eq_true b_23
  clear b_23
  obtain ⟨b_24, r_25⟩ := He.ba (show (decide (PySem.W.isClsIn K (He.ga K "Fault") = true) && re_25 K) = true from r_24)
  clear r_24
  have jc_Fault : PySem.W.isClsIn K (He.ga K "Fault") = true := of_decide_eq_true b_24
  clear b_24
  obtain ⟨b_25, r_26⟩ := He.ba (show (decide (PySem.W.typeIn K (.ref (He.ga K "Fault")) = some (.type "type")) && re_26 K) = true from r_25)
  clear r_25
  have jt_Fault : PySem.W.typeIn K (.ref (He.ga K "Fault")) = some (.type "type") := of_decide_eq_true b_25
  clear b_25
  obtain ⟨b_26, r_27⟩ := He.ba (show (decide (PySem.W.isClsIn K (He.ga K "SipError") = true) && re_27 K) = true from r_26)
  clear r_26
  have jc_SipError : PySem.W.isClsIn K (He.ga K "SipError") = true := of_decide_eq_true b_26
  clear b_26
  obtain ⟨b_27, r_28⟩ := He.ba (show (decide (PySem.W.typeIn K (.ref (He.ga K "SipError")) = some (.type "type")) && re_28 K) = true from r_27)
  clear r_27
  have jt_SipError : PySem.W.typeIn K (.ref (He.ga K "SipError")) = some (.type "type") := of_decide_eq_true b_27
  clear b_27
  obtain ⟨b_28, r_29⟩ := He.ba (show (decide (PySem.W.excIn K (He.ga K "Closed") [.type "ValueError", .type "Exception", .type "BaseException", .type "object"] "ValueError.__new__" = true) && re_29 K) = true from r_28)
  clear r_28
  have qx_Closed : PySem.W.excIn K (He.ga K "Closed") [.type "ValueError", .type "Exception", .type "BaseException", .type "object"] "ValueError.__new__" = true := of_decide_eq_true b_28
  clear b_28
  obtain ⟨b_29, r_30⟩ := He.ba (show (decide (PySem.W.keepIn K (.ref (He.ga K "Closed")) = true) && re_30 K) = true from r_29)
  clear r_29
  have qk_Closed : PySem.W.keepIn K (.ref (He.ga K "Closed")) = true := of_decide_eq_true b_29
  clear b_29
  obtain ⟨b_30, r_31⟩ := He.ba (show (decide (PySem.W.subIn K (.ref (He.ga K "Closed")) (.type "BaseException") = some true) && re_31 K) = true from r_30)
  clear r_30
  have qb_Closed : PySem.W.subIn K (.ref (He.ga K "Closed")) (.type "BaseException") = some true := of_decide_eq_true b_30
  clear b_30
  obtain ⟨b_31, r_32⟩ := He.ba (show (decide (PySem.W.typeIn K (.ref (He.ga K "Closed")) = some (.type "type")) && re_32 K) = true from r_31)
  clear r_31
  have qt_Closed : PySem.W.typeIn K (.ref (He.ga K "Closed")) = some (.type "type") := of_decide_eq_true b_31
  clear b_31
  obtain ⟨b_32, r_33⟩ := He.ba (show (decide (PySem.W.excIn K (He.ga K "NoSeek") [.type "ValueError", .type "Exception", .type "BaseException", .type "object"] "ValueError.__new__" = true) && re_33 K) = true from r_32)
  clear r_32
  have qx_NoSeek : PySem.W.excIn K (He.ga K "NoSeek") [.type "ValueError", .type "Exception", .type "BaseException", .type "object"] "ValueError.__new__" = true := of_decide_eq_true b_32
  clear b_32
  obtain ⟨b_33, r_34⟩ := He.ba (show (decide (PySem.W.keepIn K (.ref (He.ga K "NoSeek")) = true) && re_34 K) = true from r_33)
  clear r_33
  have qk_NoSeek : PySem.W.keepIn K (.ref (He.ga K "NoSeek")) = true := of_decide_eq_true b_33
  clear b_33
  obtain ⟨b_34, r_35⟩ := He.ba (show (decide (PySem.W.subIn K (.ref (He.ga K "NoSeek")) (.type "BaseException") = some true) && re_35 K) = true from r_34)
  clear r_34
  have qb_NoSeek : PySem.W.subIn K (.ref (He.ga K "NoSeek")) (.type "BaseException") = some true := of_decide_eq_true b_34
  clear b_34
  obtain ⟨b_35, r_36⟩ := He.ba (show (decide (PySem.W.typeIn K (.ref (He.ga K "NoSeek")) = some (.type "type")) && re_36 K) = true from r_35)
  clear r_35
  have qt_NoSeek : PySem.W.typeIn K (.ref (He.ga K "NoSeek")) = some (.type "type") := of_decide_eq_true b_35
  clear b_35
  obtain ⟨b_36, r_37⟩ := He.ba (show (decide (PySem.W.excIn K (He.ga K "NoReads") [.type "ValueError", .type "Exception", .type "BaseException", .type "object"] "ValueError.__new__" = true) && re_37 K) = true from r_36)
  clear r_36
  have qx_NoReads : PySem.W.excIn K (He.ga K "NoReads") [.type "ValueError", .type "Exception", .type "BaseException", .type "object"] "ValueError.__new__" = true := of_decide_eq_true b_36
  clear b_36
  obtain ⟨b_37, r_38⟩ := He.ba (show (decide (PySem.W.keepIn K (.ref (He.ga K "NoReads")) = true) && re_38 K) = true from r_37)
  clear r_37
  have qk_NoReads : PySem.W.keepIn K (.ref (He.ga K "NoReads")) = true := of_decide_eq_true b_37
  clear b_37
  obtain ⟨b_38, r_39⟩ := He.ba (show (decide (PySem.W.subIn K (.ref (He.ga K "NoReads")) (.type "BaseException") = some true) && re_39 K) = true from r_38)
  clear r_38
  have qb_NoReads : PySem.W.subIn K (.ref (He.ga K "NoReads")) (.type "BaseException") = some true := of_decide_eq_true b_38
  clear b_38
  obtain ⟨b_39, r_40⟩ := He.ba (show (decide (PySem.W.typeIn K (.ref (He.ga K "NoReads")) = some (.type "type")) && re_40 K) = true from r_39)
  clear r_39
  have qt_NoReads : PySem.W.typeIn K (.ref (He.ga K "NoReads")) = some (.type "type") := of_decide_eq_true b_39
  clear b_39
  obtain ⟨b_40, r_41⟩ := He.ba (show (decide (PySem.W.excIn K (He.ga K "NoWrites") [.type "ValueError", .type "Exception", .type "BaseException", .type "object"] "ValueError.__new__" = true) && re_41 K) = true from r_40)
  clear r_40
  have qx_NoWrites : PySem.W.excIn K (He.ga K "NoWrites") [.type "ValueError", .type "Exception", .type "BaseException", .type "object"] "ValueError.__new__" = true := of_decide_eq_true b_40
  clear b_40
  obtain ⟨b_41, r_42⟩ := He.ba (show (decide (PySem.W.keepIn K (.ref (He.ga K "NoWrites")) = true) && re_42 K) = true from r_41)
  clear r_41
  have qk_NoWrites : PySem.W.keepIn K (.ref (He.ga K "NoWrites")) = true := of_decide_eq_true b_41
  clear b_41
  obtain ⟨b_42, r_43⟩ := He.ba (show (decide (PySem.W.subIn K (.ref (He.ga K "NoWrites")) (.type "BaseException") = some true) && re_43 K) = true from r_42)
  clear r_42
  have qb_NoWrites : PySem.W.subIn K (.ref (He.ga K "NoWrites")) (.type "BaseException") = some true := of_decide_eq_true b_42
  clear b_42
  obtain ⟨b_43, r_44⟩ := He.ba (show (decide (PySem.W.typeIn K (.ref (He.ga K "NoWrites")) = some (.type "type")) && re_44 K) = true from r_43)
  clear r_43
  have qt_NoWrites : PySem.W.typeIn K (.ref (He.ga K "NoWrites")) = some (.type "type") := of_decide_eq_true b_43
  clear b_43
  obtain ⟨b_44, r_45⟩ := He.ba (show (decide (PySem.W.excIn K (He.ga K "BadRoom") [.type "ValueError", .type "Exception", .type "BaseException", .type "object"] "ValueError.__new__" = true) && re_45 K) = true from r_44)
  clear r_44
  have qx_BadRoom : PySem.W.excIn K (He.ga K "BadRoom") [.type "ValueError", .type "Exception", .type "BaseException", .type "object"] "ValueError.__new__" = true := of_decide_eq_true b_44
  clear b_44
  obtain ⟨b_45, r_46⟩ := He.ba (show (decide (PySem.W.keepIn K (.ref (He.ga K "BadRoom")) = true) && re_46 K) = true from r_45)
  clear r_45
  have qk_BadRoom : PySem.W.keepIn K (.ref (He.ga K "BadRoom")) = true := of_decide_eq_true b_45
  clear b_45
  obtain ⟨b_46, r_47⟩ := He.ba (show (decide (PySem.W.subIn K (.ref (He.ga K "BadRoom")) (.type "BaseException") = some true) && re_47 K) = true from r_46)
  clear r_46
  have qb_BadRoom : PySem.W.subIn K (.ref (He.ga K "BadRoom")) (.type "BaseException") = some true := of_decide_eq_true b_46
  clear b_46
  obtain ⟨b_47, r_48⟩ := He.ba (show (decide (PySem.W.typeIn K (.ref (He.ga K "BadRoom")) = some (.type "type")) && re_48 K) = true from r_47)
  clear r_47
  have qt_BadRoom : PySem.W.typeIn K (.ref (He.ga K "BadRoom")) = some (.type "type") := of_decide_eq_true b_47
  clear b_47
  obtain ⟨b_48, r_49⟩ := He.ba (show (decide (PySem.W.subIn K (.ref (He.ga K "Fault")) (.type "BaseException") = some true) && re_49 K) = true from r_48)
  clear r_48
  have hb_Fault : PySem.W.subIn K (.ref (He.ga K "Fault")) (.type "BaseException") = some true := of_decide_eq_true b_48
  clear b_48
  obtain ⟨b_49, r_50⟩ := He.ba (show (decide (PySem.W.hasDictIn K (He.ga K "Fault") = true) && re_50 K) = true from r_49)
  clear r_49
  have hh_Fault : PySem.W.hasDictIn K (He.ga K "Fault") = true := of_decide_eq_true b_49
  clear b_49
  obtain ⟨b_50, r_51⟩ := He.ba (show (decide (PySem.W.typeIn K (.ref (He.ga K "Fault")) = some (.type "type")) && re_51 K) = true from r_50)
  clear r_50
  have hy_Fault : PySem.W.typeIn K (.ref (He.ga K "Fault")) = some (.type "type") := of_decide_eq_true b_50
  clear b_50
  obtain ⟨b_51, r_52⟩ := He.ba (show (decide (PySem.W.subIn K (.ref (He.ga K "Fault")) (.ref (He.ga K "Fault")) = some true) && re_52 K) = true from r_51)
  clear r_51
  have hs_Fault_Fault : PySem.W.subIn K (.ref (He.ga K "Fault")) (.ref (He.ga K "Fault")) = some true := of_decide_eq_true b_51
  clear b_51
  obtain ⟨b_52, r_53⟩ := He.ba (show (decide (PySem.W.subIn K (.ref (He.ga K "Closed")) (.ref (He.ga K "Fault")) = some false) && re_53 K) = true from r_52)
  clear r_52
  have hs_Closed_Fault : PySem.W.subIn K (.ref (He.ga K "Closed")) (.ref (He.ga K "Fault")) = some false := of_decide_eq_true b_52
  clear b_52
  obtain ⟨b_53, r_54⟩ := He.ba (show (decide (PySem.W.subIn K (.ref (He.ga K "NoSeek")) (.ref (He.ga K "Fault")) = some false) && re_54 K) = true from r_53)
  clear r_53
  have hs_NoSeek_Fault : PySem.W.subIn K (.ref (He.ga K "NoSeek")) (.ref (He.ga K "Fault")) = some false := of_decide_eq_true b_53
  clear b_53
  obtain ⟨b_54, r_55⟩ := He.ba (show (decide (PySem.W.subIn K (.ref (He.ga K "NoReads")) (.ref (He.ga K "Fault")) = some false) && re_55 K) = true from r_54)
  clear r_54
  have hs_NoReads_Fault : PySem.W.subIn K (.ref (He.ga K "NoReads")) (.ref (He.ga K "Fault")) = some false := of_decide_eq_true b_54
  clear b_54
  obtain ⟨b_55, r_56⟩ := He.ba (show (decide (PySem.W.subIn K (.ref (He.ga K "NoWrites")) (.ref (He.ga K "Fault")) = some false) && re_56 K) = true from r_55)
  clear r_55
  have hs_NoWrites_Fault : PySem.W.subIn K (.ref (He.ga K "NoWrites")) (.ref (He.ga K "Fault")) = some false := of_decide_eq_true b_55
  clear b_55
  obtain ⟨b_56, r_57⟩ := He.ba (show (decide (PySem.W.subIn K (.ref (He.ga K "BadRoom")) (.ref (He.ga K "Fault")) = some false) && re_57 K) = true from r_56)
  clear r_56
  have hs_BadRoom_Fault : PySem.W.subIn K (.ref (He.ga K "BadRoom")) (.ref (He.ga K "Fault")) = some false := of_decide_eq_true b_56
  clear b_56
  obtain ⟨b_57, r_58⟩ := He.ba (show (decide (PySem.W.subIn K (.ref (He.ga K "SipError")) (.type "BaseException") = some true) && re_58 K) = true from r_57)
  clear r_57
  have hb_SipError : PySem.W.subIn K (.ref (He.ga K "SipError")) (.type "BaseException") = some true := of_decide_eq_true b_57
  clear b_57
  obtain ⟨b_58, r_59⟩ := He.ba (show (decide (PySem.W.hasDictIn K (He.ga K "SipError") = true) && re_59 K) = true from r_58)
  clear r_58
  have hh_SipError : PySem.W.hasDictIn K (He.ga K "SipError") = true := of_decide_eq_true b_58
  clear b_58
  obtain ⟨b_59, r_60⟩ := He.ba (show (decide (PySem.W.typeIn K (.ref (He.ga K "SipError")) = some (.type "type")) && re_60 K) = true from r_59)
  clear r_59
  have hy_SipError : PySem.W.typeIn K (.ref (He.ga K "SipError")) = some (.type "type") := of_decide_eq_true b_59
  clear b_59
  obtain ⟨b_60, r_61⟩ := He.ba (show (decide (PySem.W.subIn K (.ref (He.ga K "Fault")) (.ref (He.ga K "SipError")) = some true) && re_61 K) = true from r_60)
  clear r_60
  have hs_Fault_SipError : PySem.W.subIn K (.ref (He.ga K "Fault")) (.ref (He.ga K "SipError")) = some true := of_decide_eq_true b_60
  clear b_60
  obtain ⟨b_61, r_62⟩ := He.ba (show (decide (PySem.W.subIn K (.ref (He.ga K "Closed")) (.ref (He.ga K "SipError")) = some true) && re_62 K) = true from r_61)
  clear r_61
  have hs_Closed_SipError : PySem.W.subIn K (.ref (He.ga K "Closed")) (.ref (He.ga K "SipError")) = some true := of_decide_eq_true b_61
  clear b_61
  obtain ⟨b_62, r_63⟩ := He.ba (show (decide (PySem.W.subIn K (.ref (He.ga K "NoSeek")) (.ref (He.ga K "SipError")) = some true) && re_63 K) = true from r_62)
  clear r_62
  have hs_NoSeek_SipError : PySem.W.subIn K (.ref (He.ga K "NoSeek")) (.ref (He.ga K "SipError")) = some true := of_decide_eq_true b_62
  clear b_62
  obtain ⟨b_63, r_64⟩ := He.ba (show (decide (PySem.W.subIn K (.ref (He.ga K "NoReads")) (.ref (He.ga K "SipError")) = some true) && re_64 K) = true from r_63)
  clear r_63
  have hs_NoReads_SipError : PySem.W.subIn K (.ref (He.ga K "NoReads")) (.ref (He.ga K "SipError")) = some true := of_decide_eq_true b_63
  clear b_63
  obtain ⟨b_64, r_65⟩ := He.ba (show (decide (PySem.W.subIn K (.ref (He.ga K "NoWrites")) (.ref (He.ga K "SipError")) = some true) && re_65 K) = true from r_64)
  clear r_64
  have hs_NoWrites_SipError : PySem.W.subIn K (.ref (He.ga K "NoWrites")) (.ref (He.ga K "SipError")) = some true := of_decide_eq_true b_64
  clear b_64
  obtain ⟨b_65, r_66⟩ := He.ba (show (decide (PySem.W.subIn K (.ref (He.ga K "BadRoom")) (.ref (He.ga K "SipError")) = some true) && re_66 K) = true from r_65)
  clear r_65
  have hs_BadRoom_SipError : PySem.W.subIn K (.ref (He.ga K "BadRoom")) (.ref (He.ga K "SipError")) = some true := of_decide_eq_true b_65
  clear b_65
  obtain ⟨b_66, r_67⟩ := He.ba (show (decide (PySem.W.subIn K (.ref (He.ga K "BadRoom")) (.type "BaseException") = some true) && re_67 K) = true from r_66)
  clear r_66
  have hb_BadRoom : PySem.W.subIn K (.ref (He.ga K "BadRoom")) (.type "BaseException") = some true := of_decide_eq_true b_66
  clear b_66
  obtain ⟨b_67, r_68⟩ := He.ba (show (decide (PySem.W.hasDictIn K (He.ga K "BadRoom") = true) && re_68 K) = true from r_67)
  clear r_67
  have hh_BadRoom : PySem.W.hasDictIn K (He.ga K "BadRoom") = true := of_decide_eq_true b_67
  clear b_67
  obtain ⟨b_68, r_69⟩ := He.ba (show (decide (PySem.W.typeIn K (.ref (He.ga K "BadRoom")) = some (.type "type")) && re_69 K) = true from r_68)
  clear r_68
  have hy_BadRoom : PySem.W.typeIn K (.ref (He.ga K "BadRoom")) = some (.type "type") := of_decide_eq_true b_68
  clear b_68
  obtain ⟨b_69, r_70⟩ := He.ba (show (decide (PySem.W.subIn K (.ref (He.ga K "Fault")) (.ref (He.ga K "BadRoom")) = some false) && re_70 K) = true from r_69)
  clear r_69
  have hs_Fault_BadRoom : PySem.W.subIn K (.ref (He.ga K "Fault")) (.ref (He.ga K "BadRoom")) = some false := of_decide_eq_true b_69
  clear b_69
  obtain ⟨b_70, r_71⟩ := He.ba (show (decide (PySem.W.subIn K (.ref (He.ga K "Closed")) (.ref (He.ga K "BadRoom")) = some false) && re_71 K) = true from r_70)
  clear r_70
  have hs_Closed_BadRoom : PySem.W.subIn K (.ref (He.ga K "Closed")) (.ref (He.ga K "BadRoom")) = some false := of_decide_eq_true b_70
  clear b_70
  obtain ⟨b_71, r_72⟩ := He.ba (show (decide (PySem.W.subIn K (.ref (He.ga K "NoSeek")) (.ref (He.ga K "BadRoom")) = some false) && re_72 K) = true from r_71)
  clear r_71
  have hs_NoSeek_BadRoom : PySem.W.subIn K (.ref (He.ga K "NoSeek")) (.ref (He.ga K "BadRoom")) = some false := of_decide_eq_true b_71
  clear b_71
  obtain ⟨b_72, r_73⟩ := He.ba (show (decide (PySem.W.subIn K (.ref (He.ga K "NoReads")) (.ref (He.ga K "BadRoom")) = some false) && re_73 K) = true from r_72)
  clear r_72
  have hs_NoReads_BadRoom : PySem.W.subIn K (.ref (He.ga K "NoReads")) (.ref (He.ga K "BadRoom")) = some false := of_decide_eq_true b_72
  clear b_72
  obtain ⟨b_73, r_74⟩ := He.ba (show (decide (PySem.W.subIn K (.ref (He.ga K "NoWrites")) (.ref (He.ga K "BadRoom")) = some false) && re_74 K) = true from r_73)
  clear r_73
  have hs_NoWrites_BadRoom : PySem.W.subIn K (.ref (He.ga K "NoWrites")) (.ref (He.ga K "BadRoom")) = some false := of_decide_eq_true b_73
  clear b_73
  obtain ⟨b_74, r_75⟩ := He.ba (show (decide (PySem.W.subIn K (.ref (He.ga K "BadRoom")) (.ref (He.ga K "BadRoom")) = some true) && re_75 K) = true from r_74)
  clear r_74
  have hs_BadRoom_BadRoom : PySem.W.subIn K (.ref (He.ga K "BadRoom")) (.ref (He.ga K "BadRoom")) = some true := of_decide_eq_true b_74
  clear b_74
  obtain ⟨b_75, r_76⟩ := He.ba (show (decide (PySem.W.subIn K (.ref (He.ga K "Closed")) (.type "BaseException") = some true) && re_76 K) = true from r_75)
  clear r_75
  have ex_Closed : PySem.W.subIn K (.ref (He.ga K "Closed")) (.type "BaseException") = some true := of_decide_eq_true b_75
  clear b_75
  obtain ⟨b_76, r_77⟩ := He.ba (show (decide (PySem.W.findIn K (.ref (He.ga K "Closed")) "__getattribute__" = some (some (.builtin "BaseException.__getattribute__"))) && re_77 K) = true from r_76)
  clear r_76
  have hg_Closed : PySem.W.findIn K (.ref (He.ga K "Closed")) "__getattribute__" = some (some (.builtin "BaseException.__getattribute__")) := of_decide_eq_true b_76
  clear b_76
  obtain ⟨b_77, r_78⟩ := He.ba (show (decide (PySem.W.findIn K (.ref (He.ga K "Closed")) "__getattr__" = some none) && re_78 K) = true from r_77)
  clear r_77
  have hk_Closed : PySem.W.findIn K (.ref (He.ga K "Closed")) "__getattr__" = some none := of_decide_eq_true b_77
  clear b_77
  obtain ⟨b_78, r_79⟩ := He.ba (show (decide (PySem.W.hasDictIn K (He.ga K "Closed") = true) && re_79 K) = true from r_78)
  clear r_78
  have hd_Closed : PySem.W.hasDictIn K (He.ga K "Closed") = true := of_decide_eq_true b_78
  clear b_78
  obtain ⟨b_79, r_80⟩ := He.ba (show (decide (PySem.W.findIn K (.ref (He.ga K "Closed")) "__class__" = some (some (.builtin "object.__class__"))) && re_80 K) = true from r_79)
  clear r_79
  have ha_Closed : PySem.W.findIn K (.ref (He.ga K "Closed")) "__class__" = some (some (.builtin "object.__class__")) := of_decide_eq_true b_79
  clear b_79
  obtain ⟨b_80, r_81⟩ := He.ba (show (decide (PySem.W.specialIn K (.builtin "object.__class__") "__get__" = some (some (.builtin "getset_descriptor.__get__"))) && re_81 K) = true from r_80)
  clear r_80
  have hn_Closed : PySem.W.specialIn K (.builtin "object.__class__") "__get__" = some (some (.builtin "getset_descriptor.__get__")) := of_decide_eq_true b_80
  clear b_80
  obtain ⟨b_81, r_82⟩ := He.ba (show (decide (PySem.W.takesIn K (.builtin "object.__class__") = some true) && re_82 K) = true from r_81)
  clear r_81
  have ht_Closed : PySem.W.takesIn K (.builtin "object.__class__") = some true := of_decide_eq_true b_81
  clear b_81
  obtain ⟨b_82, r_83⟩ := He.ba (show (decide (PySem.W.mroIn K (He.ga K "Closed") (.type "object") = some true) && re_83 K) = true from r_82)
  clear r_82
  have hm_Closed : PySem.W.mroIn K (He.ga K "Closed") (.type "object") = some true := of_decide_eq_true b_82
  clear b_82
  obtain ⟨b_83, r_84⟩ := He.ba (show (decide (PySem.W.subIn K (.ref (He.ga K "Closed")) (.type "ValueError") = some true) && re_84 K) = true from r_83)
  clear r_83
  have sv_Closed : PySem.W.subIn K (.ref (He.ga K "Closed")) (.type "ValueError") = some true := of_decide_eq_true b_83
  clear b_83
  obtain ⟨b_84, r_85⟩ := He.ba (show (decide (PySem.W.subIn K (.ref (He.ga K "Closed")) (.ref (He.ga K "Closed")) = some true) && re_85 K) = true from r_84)
  clear r_84
  have se_Closed : PySem.W.subIn K (.ref (He.ga K "Closed")) (.ref (He.ga K "Closed")) = some true := of_decide_eq_true b_84
  clear b_84
  obtain ⟨b_85, r_86⟩ := He.ba (show (decide (PySem.W.subIn K (.ref (He.ga K "Closed")) (.ref (He.ga K "SipError")) = some true) && re_86 K) = true from r_85)
  clear r_85
  have ss_Closed : PySem.W.subIn K (.ref (He.ga K "Closed")) (.ref (He.ga K "SipError")) = some true := of_decide_eq_true b_85
  clear b_85
  obtain ⟨b_86, r_87⟩ := He.ba (show (decide (PySem.W.subIn K (.ref (He.ga K "Closed")) (.ref (He.ga K "NoSeek")) = some false) && re_87 K) = true from r_86)
  clear r_86
  have su_Closed_NoSeek : PySem.W.subIn K (.ref (He.ga K "Closed")) (.ref (He.ga K "NoSeek")) = some false := of_decide_eq_true b_86
  clear b_86
  obtain ⟨b_87, r_88⟩ := He.ba (show (decide (PySem.W.subIn K (.ref (He.ga K "Closed")) (.ref (He.ga K "NoReads")) = some false) && re_88 K) = true from r_87)
  clear r_87
  have su_Closed_NoReads : PySem.W.subIn K (.ref (He.ga K "Closed")) (.ref (He.ga K "NoReads")) = some false := of_decide_eq_true b_87
  clear b_87
  obtain ⟨b_88, r_89⟩ := He.ba (show (decide (PySem.W.subIn K (.ref (He.ga K "Closed")) (.ref (He.ga K "NoWrites")) = some false) && re_89 K) = true from r_88)
  clear r_88
  have su_Closed_NoWrites : PySem.W.subIn K (.ref (He.ga K "Closed")) (.ref (He.ga K "NoWrites")) = some false := of_decide_eq_true b_88
  clear b_88
  obtain ⟨b_89, r_90⟩ := He.ba (show (decide (PySem.W.subIn K (.ref (He.ga K "Closed")) (.ref (He.ga K "Fault")) = some false) && re_90 K) = true from r_89)
  clear r_89
  have su_Closed_Fault : PySem.W.subIn K (.ref (He.ga K "Closed")) (.ref (He.ga K "Fault")) = some false := of_decide_eq_true b_89
  clear b_89
  obtain ⟨b_90, r_91⟩ := He.ba (show (decide (PySem.W.subIn K (.ref (He.ga K "NoSeek")) (.type "BaseException") = some true) && re_91 K) = true from r_90)
  clear r_90
  have ex_NoSeek : PySem.W.subIn K (.ref (He.ga K "NoSeek")) (.type "BaseException") = some true := of_decide_eq_true b_90
  clear b_90
  obtain ⟨b_91, r_92⟩ := He.ba (show (decide (PySem.W.findIn K (.ref (He.ga K "NoSeek")) "__getattribute__" = some (some (.builtin "BaseException.__getattribute__"))) && re_92 K) = true from r_91)
  clear r_91
  have hg_NoSeek : PySem.W.findIn K (.ref (He.ga K "NoSeek")) "__getattribute__" = some (some (.builtin "BaseException.__getattribute__")) := of_decide_eq_true b_91
  clear b_91
  obtain ⟨b_92, r_93⟩ := He.ba (show (decide (PySem.W.findIn K (.ref (He.ga K "NoSeek")) "__getattr__" = some none) && re_93 K) = true from r_92)
  clear r_92
  have hk_NoSeek : PySem.W.findIn K (.ref (He.ga K "NoSeek")) "__getattr__" = some none := of_decide_eq_true b_92
  clear b_92
  obtain ⟨b_93, r_94⟩ := He.ba (show (decide (PySem.W.hasDictIn K (He.ga K "NoSeek") = true) && re_94 K) = true from r_93)
  clear r_93
  have hd_NoSeek : PySem.W.hasDictIn K (He.ga K "NoSeek") = true := of_decide_eq_true b_93
  clear b_93
  obtain ⟨b_94, r_95⟩ := He.ba (show (decide (PySem.W.findIn K (.ref (He.ga K "NoSeek")) "__class__" = some (some (.builtin "object.__class__"))) && re_95 K) = true from r_94)
  clear r_94
  have ha_NoSeek : PySem.W.findIn K (.ref (He.ga K "NoSeek")) "__class__" = some (some (.builtin "object.__class__")) := of_decide_eq_true b_94
  clear b_94
  obtain ⟨b_95, r_96⟩ := He.ba (show (decide (PySem.W.specialIn K (.builtin "object.__class__") "__get__" = some (some (.builtin "getset_descriptor.__get__"))) && re_96 K) = true from r_95)
  clear r_95
  have hn_NoSeek : PySem.W.specialIn K (.builtin "object.__class__") "__get__" = some (some (.builtin "getset_descriptor.__get__")) := of_decide_eq_true b_95
  clear b_95
  obtain ⟨b_96, r_97⟩ := He.ba (show (decide (PySem.W.takesIn K (.builtin "object.__class__") = some true) && re_97 K) = true from r_96)
  clear r_96
  have ht_NoSeek : PySem.W.takesIn K (.builtin "object.__class__") = some true := of_decide_eq_true b_96
  clear b_96
  obtain ⟨b_97, r_98⟩ := He.ba (show (decide (PySem.W.mroIn K (He.ga K "NoSeek") (.type "object") = some true) && re_98 K) = true from r_97)
  clear r_97
  have hm_NoSeek : PySem.W.mroIn K (He.ga K "NoSeek") (.type "object") = some true := of_decide_eq_true b_97
  clear b_97
  obtain ⟨b_98, r_99⟩ := He.ba (show (decide (PySem.W.subIn K (.ref (He.ga K "NoSeek")) (.type "ValueError") = some true) && re_99 K) = true from r_98)
  clear r_98
  have sv_NoSeek : PySem.W.subIn K (.ref (He.ga K "NoSeek")) (.type "ValueError") = some true := of_decide_eq_true b_98
  clear b_98
  obtain ⟨b_99, r_100⟩ := He.ba (show (decide (PySem.W.subIn K (.ref (He.ga K "NoSeek")) (.ref (He.ga K "NoSeek")) = some true) && re_100 K) = true from r_99)
  clear r_99
  have se_NoSeek : PySem.W.subIn K (.ref (He.ga K "NoSeek")) (.ref (He.ga K "NoSeek")) = some true := of_decide_eq_true b_99
  clear b_99
  obtain ⟨b_100, r_101⟩ := He.ba (show (decide (PySem.W.subIn K (.ref (He.ga K "NoSeek")) (.ref (He.ga K "SipError")) = some true) && re_101 K) = true from r_100)
  clear r_100
  have ss_NoSeek : PySem.W.subIn K (.ref (He.ga K "NoSeek")) (.ref (He.ga K "SipError")) = some true := of_decide_eq_true b_100
  clear b_100
  obtain ⟨b_101, r_102⟩ := He.ba (show (decide (PySem.W.subIn K (.ref (He.ga K "NoSeek")) (.ref (He.ga K "Closed")) = some false) && re_102 K) = true from r_101)
  clear r_101
  have su_NoSeek_Closed : PySem.W.subIn K (.ref (He.ga K "NoSeek")) (.ref (He.ga K "Closed")) = some false := of_decide_eq_true b_101
  clear b_101
  obtain ⟨b_102, r_103⟩ := He.ba (show (decide (PySem.W.subIn K (.ref (He.ga K "NoSeek")) (.ref (He.ga K "NoReads")) = some false) && re_103 K) = true from r_102)
  clear r_102
  have su_NoSeek_NoReads : PySem.W.subIn K (.ref (He.ga K "NoSeek")) (.ref (He.ga K "NoReads")) = some false := of_decide_eq_true b_102
  clear b_102
  obtain ⟨b_103, r_104⟩ := He.ba (show (decide (PySem.W.subIn K (.ref (He.ga K "NoSeek")) (.ref (He.ga K "NoWrites")) = some false) && re_104 K) = true from r_103)
  clear r_103
  have su_NoSeek_NoWrites : PySem.W.subIn K (.ref (He.ga K "NoSeek")) (.ref (He.ga K "NoWrites")) = some false := of_decide_eq_true b_103
  clear b_103
  obtain ⟨b_104, r_105⟩ := He.ba (show (decide (PySem.W.subIn K (.ref (He.ga K "NoSeek")) (.ref (He.ga K "Fault")) = some false) && re_105 K) = true from r_104)
  clear r_104
  have su_NoSeek_Fault : PySem.W.subIn K (.ref (He.ga K "NoSeek")) (.ref (He.ga K "Fault")) = some false := of_decide_eq_true b_104
  clear b_104
  obtain ⟨b_105, r_106⟩ := He.ba (show (decide (PySem.W.subIn K (.ref (He.ga K "NoReads")) (.type "BaseException") = some true) && re_106 K) = true from r_105)
  clear r_105
  have ex_NoReads : PySem.W.subIn K (.ref (He.ga K "NoReads")) (.type "BaseException") = some true := of_decide_eq_true b_105
  clear b_105
  obtain ⟨b_106, r_107⟩ := He.ba (show (decide (PySem.W.findIn K (.ref (He.ga K "NoReads")) "__getattribute__" = some (some (.builtin "BaseException.__getattribute__"))) && re_107 K) = true from r_106)
  clear r_106
  have hg_NoReads : PySem.W.findIn K (.ref (He.ga K "NoReads")) "__getattribute__" = some (some (.builtin "BaseException.__getattribute__")) := of_decide_eq_true b_106
  clear b_106
  obtain ⟨b_107, r_108⟩ := He.ba (show (decide (PySem.W.findIn K (.ref (He.ga K "NoReads")) "__getattr__" = some none) && re_108 K) = true from r_107)
  clear r_107
  have hk_NoReads : PySem.W.findIn K (.ref (He.ga K "NoReads")) "__getattr__" = some none := of_decide_eq_true b_107
  clear b_107
  obtain ⟨b_108, r_109⟩ := He.ba (show (decide (PySem.W.hasDictIn K (He.ga K "NoReads") = true) && re_109 K) = true from r_108)
  clear r_108
  have hd_NoReads : PySem.W.hasDictIn K (He.ga K "NoReads") = true := of_decide_eq_true b_108
  clear b_108
  obtain ⟨b_109, r_110⟩ := He.ba (show (decide (PySem.W.findIn K (.ref (He.ga K "NoReads")) "__class__" = some (some (.builtin "object.__class__"))) && re_110 K) = true from r_109)
  clear r_109
  have ha_NoReads : PySem.W.findIn K (.ref (He.ga K "NoReads")) "__class__" = some (some (.builtin "object.__class__")) := of_decide_eq_true b_109
  clear b_109
  obtain ⟨b_110, r_111⟩ := He.ba (show (decide (PySem.W.specialIn K (.builtin "object.__class__") "__get__" = some (some (.builtin "getset_descriptor.__get__"))) && re_111 K) = true from r_110)
  clear r_110
  have hn_NoReads : PySem.W.specialIn K (.builtin "object.__class__") "__get__" = some (some (.builtin "getset_descriptor.__get__")) := of_decide_eq_true b_110
  clear b_110
  obtain ⟨b_111, r_112⟩ := He.ba (show (decide (PySem.W.takesIn K (.builtin "object.__class__") = some true) && re_112 K) = true from r_111)
  clear r_111
  have ht_NoReads : PySem.W.takesIn K (.builtin "object.__class__") = some true := of_decide_eq_true b_111
  clear b_111
  obtain ⟨b_112, r_113⟩ := He.ba (show (decide (PySem.W.mroIn K (He.ga K "NoReads") (.type "object") = some true) && re_113 K) = true from r_112)
  clear r_112
  have hm_NoReads : PySem.W.mroIn K (He.ga K "NoReads") (.type "object") = some true := of_decide_eq_true b_112
  clear b_112
  obtain ⟨b_113, r_114⟩ := He.ba (show (decide (PySem.W.subIn K (.ref (He.ga K "NoReads")) (.type "ValueError") = some true) && re_114 K) = true from r_113)
  clear r_113
  have sv_NoReads : PySem.W.subIn K (.ref (He.ga K "NoReads")) (.type "ValueError") = some true := of_decide_eq_true b_113
  clear b_113
  obtain ⟨b_114, r_115⟩ := He.ba (show (decide (PySem.W.subIn K (.ref (He.ga K "NoReads")) (.ref (He.ga K "NoReads")) = some true) && re_115 K) = true from r_114)
  clear r_114
  have se_NoReads : PySem.W.subIn K (.ref (He.ga K "NoReads")) (.ref (He.ga K "NoReads")) = some true := of_decide_eq_true b_114
  clear b_114
  obtain ⟨b_115, r_116⟩ := He.ba (show (decide (PySem.W.subIn K (.ref (He.ga K "NoReads")) (.ref (He.ga K "SipError")) = some true) && re_116 K) = true from r_115)
  clear r_115
  have ss_NoReads : PySem.W.subIn K (.ref (He.ga K "NoReads")) (.ref (He.ga K "SipError")) = some true := of_decide_eq_true b_115
  clear b_115
  obtain ⟨b_116, r_117⟩ := He.ba (show (decide (PySem.W.subIn K (.ref (He.ga K "NoReads")) (.ref (He.ga K "Closed")) = some false) && re_117 K) = true from r_116)
  clear r_116
  have su_NoReads_Closed : PySem.W.subIn K (.ref (He.ga K "NoReads")) (.ref (He.ga K "Closed")) = some false := of_decide_eq_true b_116
  clear b_116
  obtain ⟨b_117, r_118⟩ := He.ba (show (decide (PySem.W.subIn K (.ref (He.ga K "NoReads")) (.ref (He.ga K "NoSeek")) = some false) && re_118 K) = true from r_117)
  clear r_117
  have su_NoReads_NoSeek : PySem.W.subIn K (.ref (He.ga K "NoReads")) (.ref (He.ga K "NoSeek")) = some false := of_decide_eq_true b_117
  clear b_117
  obtain ⟨b_118, r_119⟩ := He.ba (show (decide (PySem.W.subIn K (.ref (He.ga K "NoReads")) (.ref (He.ga K "NoWrites")) = some false) && re_119 K) = true from r_118)
  clear r_118
  have su_NoReads_NoWrites : PySem.W.subIn K (.ref (He.ga K "NoReads")) (.ref (He.ga K "NoWrites")) = some false := of_decide_eq_true b_118
  clear b_118
  obtain ⟨b_119, r_120⟩ := He.ba (show (decide (PySem.W.subIn K (.ref (He.ga K "NoReads")) (.ref (He.ga K "Fault")) = some false) && re_120 K) = true from r_119)
  clear r_119
  have su_NoReads_Fault : PySem.W.subIn K (.ref (He.ga K "NoReads")) (.ref (He.ga K "Fault")) = some false := of_decide_eq_true b_119
  clear b_119
  obtain ⟨b_120, r_121⟩ := He.ba (show (decide (PySem.W.subIn K (.ref (He.ga K "NoWrites")) (.type "BaseException") = some true) && re_121 K) = true from r_120)
  clear r_120
  have ex_NoWrites : PySem.W.subIn K (.ref (He.ga K "NoWrites")) (.type "BaseException") = some true := of_decide_eq_true b_120
  clear b_120
  obtain ⟨b_121, r_122⟩ := He.ba (show (decide (PySem.W.findIn K (.ref (He.ga K "NoWrites")) "__getattribute__" = some (some (.builtin "BaseException.__getattribute__"))) && re_122 K) = true from r_121)
  clear r_121
  have hg_NoWrites : PySem.W.findIn K (.ref (He.ga K "NoWrites")) "__getattribute__" = some (some (.builtin "BaseException.__getattribute__")) := of_decide_eq_true b_121
  clear b_121
  obtain ⟨b_122, r_123⟩ := He.ba (show (decide (PySem.W.findIn K (.ref (He.ga K "NoWrites")) "__getattr__" = some none) && re_123 K) = true from r_122)
  clear r_122
  have hk_NoWrites : PySem.W.findIn K (.ref (He.ga K "NoWrites")) "__getattr__" = some none := of_decide_eq_true b_122
  clear b_122
  obtain ⟨b_123, r_124⟩ := He.ba (show (decide (PySem.W.hasDictIn K (He.ga K "NoWrites") = true) && re_124 K) = true from r_123)
  clear r_123
  have hd_NoWrites : PySem.W.hasDictIn K (He.ga K "NoWrites") = true := of_decide_eq_true b_123
  clear b_123
  obtain ⟨b_124, r_125⟩ := He.ba (show (decide (PySem.W.findIn K (.ref (He.ga K "NoWrites")) "__class__" = some (some (.builtin "object.__class__"))) && re_125 K) = true from r_124)
  clear r_124
  have ha_NoWrites : PySem.W.findIn K (.ref (He.ga K "NoWrites")) "__class__" = some (some (.builtin "object.__class__")) := of_decide_eq_true b_124
  clear b_124
  obtain ⟨b_125, r_126⟩ := He.ba (show (decide (PySem.W.specialIn K (.builtin "object.__class__") "__get__" = some (some (.builtin "getset_descriptor.__get__"))) && re_126 K) = true from r_125)
  clear r_125
  have hn_NoWrites : PySem.W.specialIn K (.builtin "object.__class__") "__get__" = some (some (.builtin "getset_descriptor.__get__")) := of_decide_eq_true b_125
  clear b_125
  obtain ⟨b_126, r_127⟩ := He.ba (show (decide (PySem.W.takesIn K (.builtin "object.__class__") = some true) && re_127 K) = true from r_126)
  clear r_126
  have ht_NoWrites : PySem.W.takesIn K (.builtin "object.__class__") = some true := of_decide_eq_true b_126
  clear b_126
  obtain ⟨b_127, r_128⟩ := He.ba (show (decide (PySem.W.mroIn K (He.ga K "NoWrites") (.type "object") = some true) && re_128 K) = true from r_127)
  clear r_127
  have hm_NoWrites : PySem.W.mroIn K (He.ga K "NoWrites") (.type "object") = some true := of_decide_eq_true b_127
  clear b_127
  obtain ⟨b_128, r_129⟩ := He.ba (show (decide (PySem.W.subIn K (.ref (He.ga K "NoWrites")) (.type "ValueError") = some true) && re_129 K) = true from r_128)
  clear r_128
  have sv_NoWrites : PySem.W.subIn K (.ref (He.ga K "NoWrites")) (.type "ValueError") = some true := of_decide_eq_true b_128
  clear b_128
  obtain ⟨b_129, r_130⟩ := He.ba (show (decide (PySem.W.subIn K (.ref (He.ga K "NoWrites")) (.ref (He.ga K "NoWrites")) = some true) && re_130 K) = true from r_129)
  clear r_129
  have se_NoWrites : PySem.W.subIn K (.ref (He.ga K "NoWrites")) (.ref (He.ga K "NoWrites")) = some true := of_decide_eq_true b_129
  clear b_129
  obtain ⟨b_130, r_131⟩ := He.ba (show (decide (PySem.W.subIn K (.ref (He.ga K "NoWrites")) (.ref (He.ga K "SipError")) = some true) && re_131 K) = true from r_130)
  clear r_130
  have ss_NoWrites : PySem.W.subIn K (.ref (He.ga K "NoWrites")) (.ref (He.ga K "SipError")) = some true := of_decide_eq_true b_130
  clear b_130
  obtain ⟨b_131, r_132⟩ := He.ba (show (decide (PySem.W.subIn K (.ref (He.ga K "NoWrites")) (.ref (He.ga K "Closed")) = some false) && re_132 K) = true from r_131)
  clear r_131
  have su_NoWrites_Closed : PySem.W.subIn K (.ref (He.ga K "NoWrites")) (.ref (He.ga K "Closed")) = some false := of_decide_eq_true b_131
  clear b_131
  obtain ⟨b_132, r_133⟩ := He.ba (show (decide (PySem.W.subIn K (.ref (He.ga K "NoWrites")) (.ref (He.ga K "NoSeek")) = some false) && re_133 K) = true from r_132)
  clear r_132
  have su_NoWrites_NoSeek : PySem.W.subIn K (.ref (He.ga K "NoWrites")) (.ref (He.ga K "NoSeek")) = some false := of_decide_eq_true b_132
  clear b_132
  obtain ⟨b_133, r_134⟩ := He.ba (show (decide (PySem.W.subIn K (.ref (He.ga K "NoWrites")) (.ref (He.ga K "NoReads")) = some false) && re_134 K) = true from r_133)
  clear r_133
  have su_NoWrites_NoReads : PySem.W.subIn K (.ref (He.ga K "NoWrites")) (.ref (He.ga K "NoReads")) = some false := of_decide_eq_true b_133
  clear b_133
  obtain ⟨b_134, r_135⟩ := He.ba (show (decide (PySem.W.subIn K (.ref (He.ga K "NoWrites")) (.ref (He.ga K "Fault")) = some false) && re_135 K) = true from r_134)
  clear r_134
  have su_NoWrites_Fault : PySem.W.subIn K (.ref (He.ga K "NoWrites")) (.ref (He.ga K "Fault")) = some false := of_decide_eq_true b_134
  clear b_134
  obtain ⟨b_135, r_136⟩ := He.ba (show (decide (PySem.W.subIn K (.ref (He.ga K "BadRoom")) (.type "BaseException") = some true) && re_136 K) = true from r_135)
  clear r_135
  have ex_BadRoom : PySem.W.subIn K (.ref (He.ga K "BadRoom")) (.type "BaseException") = some true := of_decide_eq_true b_135
  clear b_135
  obtain ⟨b_136, r_137⟩ := He.ba (show (decide (PySem.W.findIn K (.ref (He.ga K "BadRoom")) "__getattribute__" = some (some (.builtin "BaseException.__getattribute__"))) && re_137 K) = true from r_136)
  clear r_136
  have hg_BadRoom : PySem.W.findIn K (.ref (He.ga K "BadRoom")) "__getattribute__" = some (some (.builtin "BaseException.__getattribute__")) := of_decide_eq_true b_136
  clear b_136
  obtain ⟨b_137, r_138⟩ := He.ba (show (decide (PySem.W.findIn K (.ref (He.ga K "BadRoom")) "__getattr__" = some none) && re_138 K) = true from r_137)
  clear r_137
  have hk_BadRoom : PySem.W.findIn K (.ref (He.ga K "BadRoom")) "__getattr__" = some none := of_decide_eq_true b_137
  clear b_137
  obtain ⟨b_138, r_139⟩ := He.ba (show (decide (PySem.W.hasDictIn K (He.ga K "BadRoom") = true) && re_139 K) = true from r_138)
  clear r_138
  have hd_BadRoom : PySem.W.hasDictIn K (He.ga K "BadRoom") = true := of_decide_eq_true b_138
  clear b_138
  obtain ⟨b_139, r_140⟩ := He.ba (show (decide (PySem.W.findIn K (.ref (He.ga K "BadRoom")) "__class__" = some (some (.builtin "object.__class__"))) && re_140 K) = true from r_139)
  clear r_139
  have ha_BadRoom : PySem.W.findIn K (.ref (He.ga K "BadRoom")) "__class__" = some (some (.builtin "object.__class__")) := of_decide_eq_true b_139
  clear b_139
  obtain ⟨b_140, r_141⟩ := He.ba (show (decide (PySem.W.specialIn K (.builtin "object.__class__") "__get__" = some (some (.builtin "getset_descriptor.__get__"))) && re_141 K) = true from r_140)
  clear r_140
  have hn_BadRoom : PySem.W.specialIn K (.builtin "object.__class__") "__get__" = some (some (.builtin "getset_descriptor.__get__")) := of_decide_eq_true b_140
  clear b_140
  obtain ⟨b_141, r_142⟩ := He.ba (show (decide (PySem.W.takesIn K (.builtin "object.__class__") = some true) && re_142 K) = true from r_141)
  clear r_141
  have ht_BadRoom : PySem.W.takesIn K (.builtin "object.__class__") = some true := of_decide_eq_true b_141
  clear b_141
  obtain ⟨b_142, r_143⟩ := He.ba (show (decide (PySem.W.mroIn K (He.ga K "BadRoom") (.type "object") = some true) && re_143 K) = true from r_142)
  clear r_142
  have hm_BadRoom : PySem.W.mroIn K (He.ga K "BadRoom") (.type "object") = some true := of_decide_eq_true b_142
  clear b_142
  obtain ⟨b_143, r_144⟩ := He.ba (show (decide (PySem.W.subIn K (.ref (He.ga K "BadRoom")) (.type "ValueError") = some true) && re_144 K) = true from r_143)
  clear r_143
  have sv_BadRoom : PySem.W.subIn K (.ref (He.ga K "BadRoom")) (.type "ValueError") = some true := of_decide_eq_true b_143
  clear b_143
  obtain ⟨b_144, r_145⟩ := He.ba (show (decide (PySem.W.subIn K (.ref (He.ga K "BadRoom")) (.ref (He.ga K "BadRoom")) = some true) && re_145 K) = true from r_144)
  clear r_144
  have se_BadRoom : PySem.W.subIn K (.ref (He.ga K "BadRoom")) (.ref (He.ga K "BadRoom")) = some true := of_decide_eq_true b_144
  clear b_144
  obtain ⟨b_145, r_146⟩ := He.ba (show (decide (PySem.W.subIn K (.ref (He.ga K "BadRoom")) (.ref (He.ga K "SipError")) = some true) && re_146 K) = true from r_145)
  clear r_145
  have ss_BadRoom : PySem.W.subIn K (.ref (He.ga K "BadRoom")) (.ref (He.ga K "SipError")) = some true := of_decide_eq_true b_145
  clear b_145
  obtain ⟨b_146, r_147⟩ := He.ba (show (decide (PySem.W.subIn K (.ref (He.ga K "BadRoom")) (.ref (He.ga K "Closed")) = some false) && re_147 K) = true from r_146)
  clear r_146
  have su_BadRoom_Closed : PySem.W.subIn K (.ref (He.ga K "BadRoom")) (.ref (He.ga K "Closed")) = some false := of_decide_eq_true b_146
  clear b_146
  obtain ⟨b_147, r_148⟩ := He.ba (show (decide (PySem.W.subIn K (.ref (He.ga K "BadRoom")) (.ref (He.ga K "NoSeek")) = some false) && re_148 K) = true from r_147)
  clear r_147
  have su_BadRoom_NoSeek : PySem.W.subIn K (.ref (He.ga K "BadRoom")) (.ref (He.ga K "NoSeek")) = some false := of_decide_eq_true b_147
  clear b_147
  obtain ⟨b_148, r_149⟩ := He.ba (show (decide (PySem.W.subIn K (.ref (He.ga K "BadRoom")) (.ref (He.ga K "NoReads")) = some false) && re_149 K) = true from r_148)
  clear r_148
  have su_BadRoom_NoReads : PySem.W.subIn K (.ref (He.ga K "BadRoom")) (.ref (He.ga K "NoReads")) = some false := of_decide_eq_true b_148
  clear b_148
  obtain ⟨b_149, r_150⟩ := He.ba (show (decide (PySem.W.subIn K (.ref (He.ga K "BadRoom")) (.ref (He.ga K "NoWrites")) = some false) && re_150 K) = true from r_149)
  clear r_149
  have su_BadRoom_NoWrites : PySem.W.subIn K (.ref (He.ga K "BadRoom")) (.ref (He.ga K "NoWrites")) = some false := of_decide_eq_true b_149
  clear b_149
  obtain ⟨b_150, r_151⟩ := He.ba (show (decide (PySem.W.subIn K (.ref (He.ga K "BadRoom")) (.ref (He.ga K "Fault")) = some false) && re_151 K) = true from r_150)
  clear r_150
  have su_BadRoom_Fault : PySem.W.subIn K (.ref (He.ga K "BadRoom")) (.ref (He.ga K "Fault")) = some false := of_decide_eq_true b_150
  clear b_150
  obtain ⟨b_151, r_152⟩ := He.ba (show (Sip.excObjB K (He.ga K "Fault") && re_152 K) = true from r_151)
  clear r_151
  have xo_Fault : Sip.IsExcObj K (He.ga K "Fault") (He.ga K "SipError") := Sip.excObjB_ok b_151
  clear b_151
  obtain ⟨b_152, r_153⟩ := He.ba (show (decide (PySem.W.findIn K (.ref (He.ga K "Fault")) "__setattr__" = some (some (.builtin "object.__setattr__"))) && re_153 K) = true from r_152)
  clear r_152
  have sa_Fault : PySem.W.findIn K (.ref (He.ga K "Fault")) "__setattr__" = some (some (.builtin "object.__setattr__")) := of_decide_eq_true b_152
  clear b_152
  obtain ⟨b_153, r_154⟩ := He.ba (show (decide (PySem.W.subIn K (.ref (He.ga K "Fault")) (.type "BaseException") = some true) && re_154 K) = true from r_153)
  clear r_153
  have ex_Fault : PySem.W.subIn K (.ref (He.ga K "Fault")) (.type "BaseException") = some true := of_decide_eq_true b_153
  clear b_153
  obtain ⟨b_154, r_155⟩ := He.ba (show (decide (PySem.W.typeIn K (.ref (He.ga K "Fault")) = some (.type "type")) && re_155 K) = true from r_154)
  clear r_154
  have ty_Fault : PySem.W.typeIn K (.ref (He.ga K "Fault")) = some (.type "type") := of_decide_eq_true b_154
  clear b_154
  obtain ⟨b_155, r_156⟩ := He.ba (show (decide (PySem.W.keepIn K (.ref (He.ga K "Fault")) = true) && re_156 K) = true from r_155)
  clear r_155
  have kx_Fault : PySem.W.keepIn K (.ref (He.ga K "Fault")) = true := of_decide_eq_true b_155
  clear b_155
  obtain ⟨b_156, r_157⟩ := He.ba (show (decide (PySem.W.findIn K (.ref (He.ga K "Fault")) "__getattribute__" = some (some (.builtin "BaseException.__getattribute__"))) && re_157 K) = true from r_156)
  clear r_156
  have hg_Fault : PySem.W.findIn K (.ref (He.ga K "Fault")) "__getattribute__" = some (some (.builtin "BaseException.__getattribute__")) := of_decide_eq_true b_156
  clear b_156
  obtain ⟨b_157, r_158⟩ := He.ba (show (decide (PySem.W.findIn K (.ref (He.ga K "Fault")) "__getattr__" = some none) && re_158 K) = true from r_157)
  clear r_157
  have hk_Fault : PySem.W.findIn K (.ref (He.ga K "Fault")) "__getattr__" = some none := of_decide_eq_true b_157
  clear b_157
  obtain ⟨b_158, r_159⟩ := He.ba (show (decide (PySem.W.hasDictIn K (He.ga K "Fault") = true) && re_159 K) = true from r_158)
  clear r_158
  have hd_Fault : PySem.W.hasDictIn K (He.ga K "Fault") = true := of_decide_eq_true b_158
  clear b_158
  obtain ⟨b_159, r_160⟩ := He.ba (show (decide (PySem.W.findIn K (.ref (He.ga K "Fault")) "__class__" = some (some (.builtin "object.__class__"))) && re_160 K) = true from r_159)
  clear r_159
  have ha_Fault : PySem.W.findIn K (.ref (He.ga K "Fault")) "__class__" = some (some (.builtin "object.__class__")) := of_decide_eq_true b_159
  clear b_159
  obtain ⟨b_160, r_161⟩ := He.ba (show (decide (PySem.W.specialIn K (.builtin "object.__class__") "__get__" = some (some (.builtin "getset_descriptor.__get__"))) && re_161 K) = true from r_160)
  clear r_160
  have hn_Fault : PySem.W.specialIn K (.builtin "object.__class__") "__get__" = some (some (.builtin "getset_descriptor.__get__")) := of_decide_eq_true b_160
  clear b_160
  obtain ⟨b_161, r_162⟩ := He.ba (show (decide (PySem.W.takesIn K (.builtin "object.__class__") = some true) && re_162 K) = true from r_161)
  clear r_161
  have ht_Fault : PySem.W.takesIn K (.builtin "object.__class__") = some true := of_decide_eq_true b_161
  clear b_161
  obtain ⟨b_162, r_163⟩ := He.ba (show (decide (PySem.W.mroIn K (He.ga K "Fault") (.type "object") = some true) && re_163 K) = true from r_162)
  clear r_162
  have hm_Fault : PySem.W.mroIn K (He.ga K "Fault") (.type "object") = some true := of_decide_eq_true b_162
  clear b_162
  obtain ⟨b_163, r_164⟩ := He.ba (show (decide (PySem.W.findIn K (.ref (He.ga K "Fault")) "number" = some none) && re_164 K) = true from r_163)
  clear r_163
  have no_Fault : PySem.W.findIn K (.ref (He.ga K "Fault")) "number" = some none := of_decide_eq_true b_163
  clear b_163
  obtain ⟨b_164, r_165⟩ := He.ba (show (decide (PySem.W.subIn K (.ref (He.ga K "Fault")) (.ref (He.ga K "SipError")) = some true) && re_165 K) = true from r_164)
  clear r_164
  have ss_Fault : PySem.W.subIn K (.ref (He.ga K "Fault")) (.ref (He.ga K "SipError")) = some true := of_decide_eq_true b_164
  clear b_164
  obtain ⟨b_165, r_166⟩ := He.ba (show (decide (PySem.W.subIn K (.ref (He.ga K "Fault")) (.ref (He.ga K "Fault")) = some true) && re_166 K) = true from r_165)
  clear r_165
  have se_Fault : PySem.W.subIn K (.ref (He.ga K "Fault")) (.ref (He.ga K "Fault")) = some true := of_decide_eq_true b_165
  clear b_165
  obtain ⟨b_166, r_167⟩ := He.ba (show (decide (PySem.W.findIn K (.ref (He.ga K "Fault")) "taken" = some none) && re_167 K) = true from r_166)
  clear r_166
  have no2_Fault : PySem.W.findIn K (.ref (He.ga K "Fault")) "taken" = some none := of_decide_eq_true b_166
  clear b_166
  obtain ⟨b_167, r_168⟩ := He.ba (show (decide (PySem.W.subIn K (.ref (He.ga K "Fault")) (.type "ValueError") = some true) && re_168 K) = true from r_167)
  clear r_167
  have sv_Fault : PySem.W.subIn K (.ref (He.ga K "Fault")) (.type "ValueError") = some true := of_decide_eq_true b_167
  clear b_167
  obtain ⟨b_168, r_169⟩ := He.ba (show (decide (PySem.W.subIn K (.ref (He.ga K "Fault")) (.ref (He.ga K "Closed")) = some false) && re_169 K) = true from r_168)
  clear r_168
  have su_Fault_Closed : PySem.W.subIn K (.ref (He.ga K "Fault")) (.ref (He.ga K "Closed")) = some false := of_decide_eq_true b_168
  clear b_168
  obtain ⟨b_169, r_170⟩ := He.ba (show (decide (PySem.W.subIn K (.ref (He.ga K "Fault")) (.ref (He.ga K "NoSeek")) = some false) && re_170 K) = true from r_169)
  clear r_169
  have su_Fault_NoSeek : PySem.W.subIn K (.ref (He.ga K "Fault")) (.ref (He.ga K "NoSeek")) = some false := of_decide_eq_true b_169
  clear b_169
  obtain ⟨b_170, r_171⟩ := He.ba (show (decide (PySem.W.subIn K (.ref (He.ga K "Fault")) (.ref (He.ga K "NoReads")) = some false) && re_171 K) = true from r_170)
  clear r_170
  have su_Fault_NoReads : PySem.W.subIn K (.ref (He.ga K "Fault")) (.ref (He.ga K "NoReads")) = some false := of_decide_eq_true b_170
  clear b_170
  obtain ⟨b_171, r_172⟩ := He.ba (show (decide (PySem.W.subIn K (.ref (He.ga K "Fault")) (.ref (He.ga K "NoWrites")) = some false) && re_172 K) = true from r_171)
  clear r_171
  have su_Fault_NoWrites : PySem.W.subIn K (.ref (He.ga K "Fault")) (.ref (He.ga K "NoWrites")) = some false := of_decide_eq_true b_171
  clear b_171
  obtain ⟨b_172, r_173⟩ := He.ba (show (decide (PySem.W.nsIn K mainGlobals "is_whole" = some (some (.ref (He.fAd K ("is_whole", none))))) && re_173 K) = true from r_172)
  clear r_172
  have a_whole : PySem.W.nsIn K mainGlobals "is_whole" = some (some (.ref (He.fAd K ("is_whole", none)))) := of_decide_eq_true b_172
  clear b_172
  obtain ⟨b_173, r_174⟩ := He.ba (show (decide (PySem.W.nsIn K mainGlobals "check_room" = some (some (.ref (He.fAd K ("check_room", none))))) && re_174 K) = true from r_173)
  clear r_173
  have a_croom : PySem.W.nsIn K mainGlobals "check_room" = some (some (.ref (He.fAd K ("check_room", none)))) := of_decide_eq_true b_173
  clear b_173
  obtain ⟨b_174, r_175⟩ := He.ba (show (decide (PySem.W.nsIn K mainGlobals "own_copy" = some (some (.ref (He.fAd K ("own_copy", none))))) && re_175 K) = true from r_174)
  clear r_174
  have a_ocopy : PySem.W.nsIn K mainGlobals "own_copy" = some (some (.ref (He.fAd K ("own_copy", none)))) := of_decide_eq_true b_174
  clear b_174
  obtain ⟨b_175, r_176⟩ := He.ba (show (decide (PySem.W.findIn K (.ref (He.ga K "Raw")) "__init__" = some (some (.ref (He.fAd K ("Raw", some "__init__"))))) && re_176 K) = true from r_175)
  clear r_175
  have a_rinit : PySem.W.findIn K (.ref (He.ga K "Raw")) "__init__" = some (some (.ref (He.fAd K ("Raw", some "__init__")))) := of_decide_eq_true b_175
  clear b_175
  obtain ⟨b_176, r_177⟩ := He.ba (show (decide (PySem.W.isFn K (.ref (He.fAd K ("Raw", some "__init__"))) = true) && re_177 K) = true from r_176)
  clear r_176
  have i_rinit : PySem.W.isFn K (.ref (He.fAd K ("Raw", some "__init__"))) = true := of_decide_eq_true b_176
  clear b_176
  obtain ⟨b_177, r_178⟩ := He.ba (show (Sip.clsB K (.ref (He.ga K "Raw")) (.type "type") "__init__" (.ref (He.fAd K ("Raw", some "__init__"))) && re_178 K) = true from r_177)
  clear r_177
  have cv_rinit : PySem.W.findCls K (.ref (He.ga K "Raw")) (.type "type") "__init__" = some (.val (.ref (He.fAd K ("Raw", some "__init__")))) := Sip.clsB_ok b_177
  clear b_177
  obtain ⟨b_178, r_179⟩ := He.ba (show (decide (PySem.W.findIn K (.ref (He.ga K "IntoEnd")) "__init__" = some (some (.ref (He.fAd K ("IntoEnd", some "__init__"))))) && re_179 K) = true from r_178)
  clear r_178
  have a_iinit : PySem.W.findIn K (.ref (He.ga K "IntoEnd")) "__init__" = some (some (.ref (He.fAd K ("IntoEnd", some "__init__")))) := of_decide_eq_true b_178
  clear b_178
  obtain ⟨b_179, r_180⟩ := He.ba (show (decide (PySem.W.isFn K (.ref (He.fAd K ("IntoEnd", some "__init__"))) = true) && re_180 K) = true from r_179)
  clear r_179
  have i_iinit : PySem.W.isFn K (.ref (He.fAd K ("IntoEnd", some "__init__"))) = true := of_decide_eq_true b_179
  clear b_179
  obtain ⟨b_180, r_181⟩ := He.ba (show (decide (PySem.W.findIn K (.ref (He.ga K "OutEnd")) "__init__" = some (some (.ref (He.fAd K ("OutEnd", some "__init__"))))) && re_181 K) = true from r_180)
  clear r_180
  have a_oinit : PySem.W.findIn K (.ref (He.ga K "OutEnd")) "__init__" = some (some (.ref (He.fAd K ("OutEnd", some "__init__")))) := of_decide_eq_true b_180
  clear b_180
  obtain ⟨b_181, r_182⟩ := He.ba (show (decide (PySem.W.isFn K (.ref (He.fAd K ("OutEnd", some "__init__"))) = true) && re_182 K) = true from r_181)
  clear r_181
  have i_oinit : PySem.W.isFn K (.ref (He.fAd K ("OutEnd", some "__init__"))) = true := of_decide_eq_true b_181
  clear b_181
  obtain ⟨b_182, r_183⟩ := He.ba (show (decide (PySem.W.findIn K (.ref (He.ga K "Pipe")) "__init__" = some (some (.ref (He.fAd K ("Pipe", some "__init__"))))) && re_183 K) = true from r_182)
  clear r_182
  have a_pinit : PySem.W.findIn K (.ref (He.ga K "Pipe")) "__init__" = some (some (.ref (He.fAd K ("Pipe", some "__init__")))) := of_decide_eq_true b_182
  clear b_182
  obtain ⟨b_183, r_184⟩ := He.ba (show (decide (PySem.W.isFn K (.ref (He.fAd K ("Pipe", some "__init__"))) = true) && re_184 K) = true from r_183)
  clear r_183
  have i_pinit : PySem.W.isFn K (.ref (He.fAd K ("Pipe", some "__init__"))) = true := of_decide_eq_true b_183
  clear b_183
  obtain ⟨b_184, r_185⟩ := He.ba (show (decide (PySem.W.findIn K (.ref (He.ga K "Pipe")) "into" = some (some (.ref (He.fAd K ("Pipe", some "into"))))) && re_185 K) = true from r_184)
  clear r_184
  have a_pinto : PySem.W.findIn K (.ref (He.ga K "Pipe")) "into" = some (some (.ref (He.fAd K ("Pipe", some "into")))) := of_decide_eq_true b_184
  clear b_184
  obtain ⟨b_185, r_186⟩ := He.ba (show (decide (PySem.W.isFn K (.ref (He.fAd K ("Pipe", some "into"))) = true) && re_186 K) = true from r_185)
  clear r_185
  have i_pinto : PySem.W.isFn K (.ref (He.fAd K ("Pipe", some "into"))) = true := of_decide_eq_true b_185
  clear b_185
  obtain ⟨b_186, r_187⟩ := He.ba (show (decide (PySem.W.findIn K (.ref (He.ga K "Pipe")) "out" = some (some (.ref (He.fAd K ("Pipe", some "out"))))) && re_187 K) = true from r_186)
  clear r_186
  have a_pout : PySem.W.findIn K (.ref (He.ga K "Pipe")) "out" = some (some (.ref (He.fAd K ("Pipe", some "out")))) := of_decide_eq_true b_186
  clear b_186
  obtain ⟨b_187, r_188⟩ := He.ba (show (decide (PySem.W.isFn K (.ref (He.fAd K ("Pipe", some "out"))) = true) && re_188 K) = true from r_187)
  clear r_187
  have i_pout : PySem.W.isFn K (.ref (He.fAd K ("Pipe", some "out"))) = true := of_decide_eq_true b_187
  clear b_187
  obtain ⟨b_188, r_189⟩ := He.ba (show (decide (PySem.W.findIn K (.ref (He.ga K "Pipe")) "held" = some (some (.ref (He.fAd K ("Pipe", some "held"))))) && re_189 K) = true from r_188)
  clear r_188
  have a_pheld : PySem.W.findIn K (.ref (He.ga K "Pipe")) "held" = some (some (.ref (He.fAd K ("Pipe", some "held")))) := of_decide_eq_true b_188
  clear b_188
  obtain ⟨b_189, r_190⟩ := He.ba (show (decide (PySem.W.isFn K (.ref (He.fAd K ("Pipe", some "held"))) = true) && re_190 K) = true from r_189)
  clear r_189
  have i_pheld : PySem.W.isFn K (.ref (He.fAd K ("Pipe", some "held"))) = true := of_decide_eq_true b_189
  clear b_189
  obtain ⟨b_190, r_191⟩ := He.ba (show (decide (PySem.W.findIn K (.ref (He.ga K "Pipe")) "lay" = some (some (.ref (He.fAd K ("Pipe", some "lay"))))) && re_191 K) = true from r_190)
  clear r_190
  have a_play : PySem.W.findIn K (.ref (He.ga K "Pipe")) "lay" = some (some (.ref (He.fAd K ("Pipe", some "lay")))) := of_decide_eq_true b_190
  clear b_190
  obtain ⟨b_191, r_192⟩ := He.ba (show (decide (PySem.W.isFn K (.ref (He.fAd K ("Pipe", some "lay"))) = true) && re_192 K) = true from r_191)
  clear r_191
  have i_play : PySem.W.isFn K (.ref (He.fAd K ("Pipe", some "lay"))) = true := of_decide_eq_true b_191
  clear b_191
  obtain ⟨b_192, r_193⟩ := He.ba (show (decide (PySem.W.findIn K (.ref (He.ga K "Pipe")) "lift" = some (some (.ref (He.fAd K ("Pipe", some "lift"))))) && re_193 K) = true from r_192)
  clear r_192
  have a_plift : PySem.W.findIn K (.ref (He.ga K "Pipe")) "lift" = some (some (.ref (He.fAd K ("Pipe", some "lift")))) := of_decide_eq_true b_192
  clear b_192
  obtain ⟨b_193, r_194⟩ := He.ba (show (decide (PySem.W.isFn K (.ref (He.fAd K ("Pipe", some "lift"))) = true) && re_194 K) = true from r_193)
  clear r_193
  have i_plift : PySem.W.isFn K (.ref (He.fAd K ("Pipe", some "lift"))) = true := of_decide_eq_true b_193
  clear b_193
  obtain ⟨b_194, r_195⟩ := He.ba (show (decide (PySem.W.findIn K (.ref (He.ga K "IntoEnd")) "accept" = some (some (.ref (He.fAd K ("IntoEnd", some "accept"))))) && re_195 K) = true from r_194)
  clear r_194
  have a_iaccept : PySem.W.findIn K (.ref (He.ga K "IntoEnd")) "accept" = some (some (.ref (He.fAd K ("IntoEnd", some "accept")))) := of_decide_eq_true b_194
  clear b_194
  obtain ⟨b_195, r_196⟩ := He.ba (show (decide (PySem.W.isFn K (.ref (He.fAd K ("IntoEnd", some "accept"))) = true) && re_196 K) = true from r_195)
  clear r_195
  have i_iaccept : PySem.W.isFn K (.ref (He.fAd K ("IntoEnd", some "accept"))) = true := of_decide_eq_true b_195
  clear b_195
  obtain ⟨b_196, r_197⟩ := He.ba (show (decide (PySem.W.findIn K (.ref (He.ga K "OutEnd")) "give" = some (some (.ref (He.fAd K ("OutEnd", some "give"))))) && re_197 K) = true from r_196)
  clear r_196
  have a_ogive : PySem.W.findIn K (.ref (He.ga K "OutEnd")) "give" = some (some (.ref (He.fAd K ("OutEnd", some "give")))) := of_decide_eq_true b_196
  clear b_196
  obtain ⟨b_197, r_198⟩ := He.ba (show (decide (PySem.W.isFn K (.ref (He.fAd K ("OutEnd", some "give"))) = true) && re_198 K) = true from r_197)
  clear r_197
  have i_ogive : PySem.W.isFn K (.ref (He.fAd K ("OutEnd", some "give"))) = true := of_decide_eq_true b_197
  clear b_197
  obtain ⟨b_198, r_199⟩ := He.ba (show (decide (PySem.W.findIn K (.ref (He.ga K "IntoEnd")) "put" = some (some (.ref (He.fAd K ("IntoEnd", some "put"))))) && re_199 K) = true from r_198)
  clear r_198
  have a_iput : PySem.W.findIn K (.ref (He.ga K "IntoEnd")) "put" = some (some (.ref (He.fAd K ("IntoEnd", some "put")))) := of_decide_eq_true b_198
  clear b_198
  obtain ⟨b_199, r_200⟩ := He.ba (show (decide (PySem.W.isFn K (.ref (He.fAd K ("IntoEnd", some "put"))) = true) && re_200 K) = true from r_199)
  clear r_199
  have i_iput : PySem.W.isFn K (.ref (He.fAd K ("IntoEnd", some "put"))) = true := of_decide_eq_true b_199
  clear b_199
  obtain ⟨b_200, r_201⟩ := He.ba (show (decide (PySem.W.findIn K (.ref (He.ga K "IntoEnd")) "check_open" = some (some (.ref (He.fAd K ("IntoEnd", some "check_open"))))) && re_201 K) = true from r_200)
  clear r_200
  have a_iopen : PySem.W.findIn K (.ref (He.ga K "IntoEnd")) "check_open" = some (some (.ref (He.fAd K ("IntoEnd", some "check_open")))) := of_decide_eq_true b_200
  clear b_200
  obtain ⟨b_201, r_202⟩ := He.ba (show (decide (PySem.W.isFn K (.ref (He.fAd K ("IntoEnd", some "check_open"))) = true) && re_202 K) = true from r_201)
  clear r_201
  have i_iopen : PySem.W.isFn K (.ref (He.fAd K ("IntoEnd", some "check_open"))) = true := of_decide_eq_true b_201
  clear b_201
  obtain ⟨b_202, r_203⟩ := He.ba (show (decide (PySem.W.findIn K (.ref (He.ga K "IntoEnd")) "may_put" = some (some (.ref (He.fAd K ("IntoEnd", some "may_put"))))) && re_203 K) = true from r_202)
  clear r_202
  have a_imay : PySem.W.findIn K (.ref (He.ga K "IntoEnd")) "may_put" = some (some (.ref (He.fAd K ("IntoEnd", some "may_put")))) := of_decide_eq_true b_202
  clear b_202
  obtain ⟨b_203, r_204⟩ := He.ba (show (decide (PySem.W.isFn K (.ref (He.fAd K ("IntoEnd", some "may_put"))) = true) && re_204 K) = true from r_203)
  clear r_203
  have i_imay : PySem.W.isFn K (.ref (He.fAd K ("IntoEnd", some "may_put"))) = true := of_decide_eq_true b_203
  clear b_203
  obtain ⟨b_204, r_205⟩ := He.ba (show (decide (PySem.W.findIn K (.ref (He.ga K "IntoEnd")) "note" = some (some (.ref (He.fAd K ("IntoEnd", some "note"))))) && re_205 K) = true from r_204)
  clear r_204
  have a_inote : PySem.W.findIn K (.ref (He.ga K "IntoEnd")) "note" = some (some (.ref (He.fAd K ("IntoEnd", some "note")))) := of_decide_eq_true b_204
  clear b_204
  obtain ⟨b_205, r_206⟩ := He.ba (show (decide (PySem.W.isFn K (.ref (He.fAd K ("IntoEnd", some "note"))) = true) && re_206 K) = true from r_205)
  clear r_205
  have i_inote : PySem.W.isFn K (.ref (He.fAd K ("IntoEnd", some "note"))) = true := of_decide_eq_true b_205
  clear b_205
  obtain ⟨b_206, r_207⟩ := He.ba (show (decide (PySem.W.findIn K (.ref (He.ga K "IntoEnd")) "is_shut" = some (some (.ref (He.fAd K ("IntoEnd", some "is_shut"))))) && re_207 K) = true from r_206)
  clear r_206
  have a_ishut : PySem.W.findIn K (.ref (He.ga K "IntoEnd")) "is_shut" = some (some (.ref (He.fAd K ("IntoEnd", some "is_shut")))) := of_decide_eq_true b_206
  clear b_206
  obtain ⟨b_207, r_208⟩ := He.ba (show (decide (PySem.W.isFn K (.ref (He.fAd K ("IntoEnd", some "is_shut"))) = true) && re_208 K) = true from r_207)
  clear r_207
  have i_ishut : PySem.W.isFn K (.ref (He.fAd K ("IntoEnd", some "is_shut"))) = true := of_decide_eq_true b_207
  clear b_207
  obtain ⟨b_208, r_209⟩ := He.ba (show (decide (PySem.W.findIn K (.ref (He.ga K "IntoEnd")) "log" = some (some (.ref (He.fAd K ("IntoEnd", some "log"))))) && re_209 K) = true from r_208)
  clear r_208
  have a_ilog : PySem.W.findIn K (.ref (He.ga K "IntoEnd")) "log" = some (some (.ref (He.fAd K ("IntoEnd", some "log")))) := of_decide_eq_true b_208
  clear b_208
  obtain ⟨b_209, r_210⟩ := He.ba (show (decide (PySem.W.isFn K (.ref (He.fAd K ("IntoEnd", some "log"))) = true) && re_210 K) = true from r_209)
  clear r_209
  have i_ilog : PySem.W.isFn K (.ref (He.fAd K ("IntoEnd", some "log"))) = true := of_decide_eq_true b_209
  clear b_209
  obtain ⟨b_210, r_211⟩ := He.ba (show (decide (PySem.W.findIn K (.ref (He.ga K "IntoEnd")) "log_behind" = some (some (.ref (He.fAd K ("IntoEnd", some "log_behind"))))) && re_211 K) = true from r_210)
  clear r_210
  have a_ilogb : PySem.W.findIn K (.ref (He.ga K "IntoEnd")) "log_behind" = some (some (.ref (He.fAd K ("IntoEnd", some "log_behind")))) := of_decide_eq_true b_210
  clear b_210
  obtain ⟨b_211, r_212⟩ := He.ba (show (decide (PySem.W.isFn K (.ref (He.fAd K ("IntoEnd", some "log_behind"))) = true) && re_212 K) = true from r_211)
  clear r_211
  have i_ilogb : PySem.W.isFn K (.ref (He.fAd K ("IntoEnd", some "log_behind"))) = true := of_decide_eq_true b_211
  clear b_211
  obtain ⟨b_212, r_213⟩ := He.ba (show (decide (PySem.W.findIn K (.ref (He.ga K "OutEnd")) "take" = some (some (.ref (He.fAd K ("OutEnd", some "take"))))) && re_213 K) = true from r_212)
  clear r_212
  have a_otake : PySem.W.findIn K (.ref (He.ga K "OutEnd")) "take" = some (some (.ref (He.fAd K ("OutEnd", some "take")))) := of_decide_eq_true b_212
  clear b_212
  obtain ⟨b_213, r_214⟩ := He.ba (show (decide (PySem.W.isFn K (.ref (He.fAd K ("OutEnd", some "take"))) = true) && re_214 K) = true from r_213)
  clear r_213
  have i_otake : PySem.W.isFn K (.ref (He.fAd K ("OutEnd", some "take"))) = true := of_decide_eq_true b_213
  clear b_213
  obtain ⟨b_214, r_215⟩ := He.ba (show (decide (PySem.W.findIn K (.ref (He.ga K "OutEnd")) "check_open" = some (some (.ref (He.fAd K ("OutEnd", some "check_open"))))) && re_215 K) = true from r_214)
  clear r_214
  have a_oopen : PySem.W.findIn K (.ref (He.ga K "OutEnd")) "check_open" = some (some (.ref (He.fAd K ("OutEnd", some "check_open")))) := of_decide_eq_true b_214
  clear b_214
  obtain ⟨b_215, r_216⟩ := He.ba (show (decide (PySem.W.isFn K (.ref (He.fAd K ("OutEnd", some "check_open"))) = true) && re_216 K) = true from r_215)
  clear r_215
  have i_oopen : PySem.W.isFn K (.ref (He.fAd K ("OutEnd", some "check_open"))) = true := of_decide_eq_true b_215
  clear b_215
  obtain ⟨b_216, r_217⟩ := He.ba (show (decide (PySem.W.findIn K (.ref (He.ga K "OutEnd")) "may_take" = some (some (.ref (He.fAd K ("OutEnd", some "may_take"))))) && re_217 K) = true from r_216)
  clear r_216
  have a_omay : PySem.W.findIn K (.ref (He.ga K "OutEnd")) "may_take" = some (some (.ref (He.fAd K ("OutEnd", some "may_take")))) := of_decide_eq_true b_216
  clear b_216
  obtain ⟨b_217, r_218⟩ := He.ba (show (decide (PySem.W.isFn K (.ref (He.fAd K ("OutEnd", some "may_take"))) = true) && re_218 K) = true from r_217)
  clear r_217
  have i_omay : PySem.W.isFn K (.ref (He.fAd K ("OutEnd", some "may_take"))) = true := of_decide_eq_true b_217
  clear b_217
  obtain ⟨b_218, r_219⟩ := He.ba (show (decide (PySem.W.findIn K (.ref (He.ga K "OutEnd")) "note" = some (some (.ref (He.fAd K ("OutEnd", some "note"))))) && re_219 K) = true from r_218)
  clear r_218
  have a_onote : PySem.W.findIn K (.ref (He.ga K "OutEnd")) "note" = some (some (.ref (He.fAd K ("OutEnd", some "note")))) := of_decide_eq_true b_218
  clear b_218
  obtain ⟨b_219, r_220⟩ := He.ba (show (decide (PySem.W.isFn K (.ref (He.fAd K ("OutEnd", some "note"))) = true) && re_220 K) = true from r_219)
  clear r_219
  have i_onote : PySem.W.isFn K (.ref (He.fAd K ("OutEnd", some "note"))) = true := of_decide_eq_true b_219
  clear b_219
  obtain ⟨b_220, r_221⟩ := He.ba (show (decide (PySem.W.findIn K (.ref (He.ga K "OutEnd")) "is_shut" = some (some (.ref (He.fAd K ("OutEnd", some "is_shut"))))) && re_221 K) = true from r_220)
  clear r_220
  have a_oshut : PySem.W.findIn K (.ref (He.ga K "OutEnd")) "is_shut" = some (some (.ref (He.fAd K ("OutEnd", some "is_shut")))) := of_decide_eq_true b_220
  clear b_220
  obtain ⟨b_221, r_222⟩ := He.ba (show (decide (PySem.W.isFn K (.ref (He.fAd K ("OutEnd", some "is_shut"))) = true) && re_222 K) = true from r_221)
  clear r_221
  have i_oshut : PySem.W.isFn K (.ref (He.fAd K ("OutEnd", some "is_shut"))) = true := of_decide_eq_true b_221
  clear b_221
  obtain ⟨b_222, r_223⟩ := He.ba (show (decide (PySem.W.findIn K (.ref (He.ga K "OutEnd")) "log" = some (some (.ref (He.fAd K ("OutEnd", some "log"))))) && re_223 K) = true from r_222)
  clear r_222
  have a_olog : PySem.W.findIn K (.ref (He.ga K "OutEnd")) "log" = some (some (.ref (He.fAd K ("OutEnd", some "log")))) := of_decide_eq_true b_222
  clear b_222
  obtain ⟨b_223, r_224⟩ := He.ba (show (decide (PySem.W.isFn K (.ref (He.fAd K ("OutEnd", some "log"))) = true) && re_224 K) = true from r_223)
  clear r_223
  have i_olog : PySem.W.isFn K (.ref (He.fAd K ("OutEnd", some "log"))) = true := of_decide_eq_true b_223
  clear b_223
  obtain ⟨b_224, r_225⟩ := He.ba (show (decide (PySem.W.findIn K (.ref (He.ga K "OutEnd")) "log_behind" = some (some (.ref (He.fAd K ("OutEnd", some "log_behind"))))) && re_225 K) = true from r_224)
  clear r_224
  have a_ologb : PySem.W.findIn K (.ref (He.ga K "OutEnd")) "log_behind" = some (some (.ref (He.fAd K ("OutEnd", some "log_behind")))) := of_decide_eq_true b_224
  clear b_224
  obtain ⟨b_225, r_226⟩ := He.ba (show (decide (PySem.W.isFn K (.ref (He.fAd K ("OutEnd", some "log_behind"))) = true) && re_226 K) = true from r_225)
  clear r_225
  have i_ologb : PySem.W.isFn K (.ref (He.fAd K ("OutEnd", some "log_behind"))) = true := of_decide_eq_true b_225
  clear b_225
  obtain ⟨b_226, r_227⟩ := He.ba (show (decide (PySem.W.findIn K (.ref (He.ga K "Fault")) "__init__" = some (some (.ref (He.fAd K ("Fault", some "__init__"))))) && re_227 K) = true from r_226)
  clear r_226
  have a_iFault : PySem.W.findIn K (.ref (He.ga K "Fault")) "__init__" = some (some (.ref (He.fAd K ("Fault", some "__init__")))) := of_decide_eq_true b_226
  clear b_226
  obtain ⟨b_227, r_228⟩ := He.ba (show (decide (PySem.W.typeIn K (.ref (He.fAd K ("Fault", some "__init__"))) = some (.type "function")) && re_228 K) = true from r_227)
  clear r_227
  have i_iFault : PySem.W.typeIn K (.ref (He.fAd K ("Fault", some "__init__"))) = some (.type "function") := of_decide_eq_true b_227
  clear b_227
  obtain ⟨b_228, r_229⟩ := He.ba (show (decide (PySem.W.findIn K (.ref (He.ga K "Raw")) "shut" = some (some (.ref (He.fAd K ("Raw", some "shut"))))) && re_229 K) = true from r_228)
  clear r_228
  have a_rshut : PySem.W.findIn K (.ref (He.ga K "Raw")) "shut" = some (some (.ref (He.fAd K ("Raw", some "shut")))) := of_decide_eq_true b_228
  clear b_228
  obtain ⟨b_229, r_230⟩ := He.ba (show (decide (PySem.W.isFn K (.ref (He.fAd K ("Raw", some "shut"))) = true) && re_230 K) = true from r_229)
  clear r_229
  have i_rshut : PySem.W.isFn K (.ref (He.fAd K ("Raw", some "shut"))) = true := of_decide_eq_true b_229
  clear b_229
  obtain ⟨b_230, r_231⟩ := He.ba (show (Sip.clsB K (.ref (He.ga K "Raw")) (.type "type") "shut" (.ref (He.fAd K ("Raw", some "shut"))) && re_231 K) = true from r_230)
  clear r_230
  have cv_rshut : PySem.W.findCls K (.ref (He.ga K "Raw")) (.type "type") "shut" = some (.val (.ref (He.fAd K ("Raw", some "shut")))) := Sip.clsB_ok b_230
  clear b_230
  obtain ⟨b_231, r_232⟩ := He.ba (show (decide (PySem.W.findIn K (.ref (He.ga K "Pipe")) "drop" = some (some (.ref (He.fAd K ("Pipe", some "drop"))))) && re_232 K) = true from r_231)
  clear r_231
  have a_pdrop : PySem.W.findIn K (.ref (He.ga K "Pipe")) "drop" = some (some (.ref (He.fAd K ("Pipe", some "drop")))) := of_decide_eq_true b_231
  clear b_231
  obtain ⟨b_232, r_233⟩ := He.ba (show (decide (PySem.W.isFn K (.ref (He.fAd K ("Pipe", some "drop"))) = true) && re_233 K) = true from r_232)
  clear r_232
  have i_pdrop : PySem.W.isFn K (.ref (He.fAd K ("Pipe", some "drop"))) = true := of_decide_eq_true b_232
  clear b_232
  obtain ⟨b_233, r_234⟩ := He.ba (show (decide (PySem.W.findIn K (.ref (He.ga K "OutEnd")) "shut" = some (some (.ref (He.fAd K ("OutEnd", some "shut"))))) && re_234 K) = true from r_233)
  clear r_233
  have a_osup : PySem.W.findIn K (.ref (He.ga K "OutEnd")) "shut" = some (some (.ref (He.fAd K ("OutEnd", some "shut")))) := of_decide_eq_true b_233
  clear b_233
  obtain ⟨b_234, r_235⟩ := He.ba (show (decide (PySem.W.isFn K (.ref (He.fAd K ("OutEnd", some "shut"))) = true) && re_235 K) = true from r_234)
  clear r_234
  have i_osup : PySem.W.isFn K (.ref (He.fAd K ("OutEnd", some "shut"))) = true := of_decide_eq_true b_234
  clear b_234
  obtain ⟨b_235, r_236⟩ := He.ba (show (decide (Sip.supB K ("OutEnd", some "shut") "OutEnd.shut" (He.ga K "OutEnd") supFl = true) && re_236 K) = true from r_235)
  clear r_235
  have sB_osup : Sip.supB K ("OutEnd", some "shut") "OutEnd.shut" (He.ga K "OutEnd") supFl = true := of_decide_eq_true b_235
  clear b_235
  obtain ⟨b_236, r_237⟩ := He.ba (show (decide ((PySem.W.clsIn K (He.ga K "OutEnd")).isSome = true) && re_237 K) = true from r_236)
  clear r_236
  have u0_osup : (PySem.W.clsIn K (He.ga K "OutEnd")).isSome = true := of_decide_eq_true b_236
  clear b_236
  obtain ⟨b_237, r_238⟩ := He.ba (show (decide (PySem.W.mroIn K (He.ga K "OutEnd") (.ref (He.ga K "OutEnd")) = some true) && re_238 K) = true from r_237)
  clear r_237
  have u1_osup : PySem.W.mroIn K (He.ga K "OutEnd") (.ref (He.ga K "OutEnd")) = some true := of_decide_eq_true b_237
  clear b_237
  obtain ⟨b_238, r_239⟩ := He.ba (show (decide (PySem.W.ks_superIn K (He.ga K "OutEnd") (He.ga K "OutEnd") "shut" = some (some (.ref (He.fAd K ("Raw", some "shut"))))) && re_239 K) = true from r_238)
  clear r_238
  have u2_osup : PySem.W.ks_superIn K (He.ga K "OutEnd") (He.ga K "OutEnd") "shut" = some (some (.ref (He.fAd K ("Raw", some "shut")))) := of_decide_eq_true b_238
  clear b_238
  obtain ⟨b_239, r_240⟩ := He.ba (show (decide (PySem.W.typeIn K (.ref (He.fAd K ("Raw", some "shut"))) = some (.type "function")) && re_240 K) = true from r_239)
  clear r_239
  have u3_osup : PySem.W.typeIn K (.ref (He.fAd K ("Raw", some "shut"))) = some (.type "function") := of_decide_eq_true b_239
  clear b_239
  obtain ⟨b_240, r_241⟩ := He.ba (show (decide (PySem.W.fnIn K (He.fAd K ("Raw", some "shut")) = true) && re_241 K) = true from r_240)
  clear r_240
  have u4_osup : PySem.W.fnIn K (He.fAd K ("Raw", some "shut")) = true := of_decide_eq_true b_240
  clear b_240
  obtain ⟨b_241, r_242⟩ := He.ba (show (decide (PySem.W.nsIn K PySem.cStatics "thirdparty.any" = some none) && re_242 K) = true from r_241)
  clear r_241
  have u5_osup : PySem.W.nsIn K PySem.cStatics "thirdparty.any" = some none := of_decide_eq_true b_241
  clear b_241
  obtain ⟨b_242, r_243⟩ := He.ba (show (decide (PySem.W.findIn K (.ref (He.ga K "IntoEnd")) "shut" = some (some (.ref (He.fAd K ("IntoEnd", some "shut"))))) && re_243 K) = true from r_242)
  clear r_242
  have a_ibar : PySem.W.findIn K (.ref (He.ga K "IntoEnd")) "shut" = some (some (.ref (He.fAd K ("IntoEnd", some "shut")))) := of_decide_eq_true b_242
  clear b_242
  obtain ⟨b_243, r_244⟩ := He.ba (show (decide (PySem.W.isFn K (.ref (He.fAd K ("IntoEnd", some "shut"))) = true) && re_244 K) = true from r_243)
  clear r_243
  have i_ibar : PySem.W.isFn K (.ref (He.fAd K ("IntoEnd", some "shut"))) = true := of_decide_eq_true b_243
  clear b_243
  obtain ⟨b_244, r_245⟩ := He.ba (show (decide (PySem.W.findIn K (.ref (He.ga K "IntoEnd")) "take" = some (some (.ref (He.fAd K ("IntoEnd", some "take"))))) && re_245 K) = true from r_244)
  clear r_244
  have a_itake : PySem.W.findIn K (.ref (He.ga K "IntoEnd")) "take" = some (some (.ref (He.fAd K ("IntoEnd", some "take")))) := of_decide_eq_true b_244
  clear b_244
  obtain ⟨b_245, r_246⟩ := He.ba (show (decide (PySem.W.isFn K (.ref (He.fAd K ("IntoEnd", some "take"))) = true) && re_246 K) = true from r_245)
  clear r_245
  have i_itake : PySem.W.isFn K (.ref (He.fAd K ("IntoEnd", some "take"))) = true := of_decide_eq_true b_245
  clear b_245
  obtain ⟨b_246, r_247⟩ := He.ba (show (decide (PySem.W.findIn K (.ref (He.ga K "IntoEnd")) "may_take" = some (some (.ref (He.fAd K ("IntoEnd", some "may_take"))))) && re_247 K) = true from r_246)
  clear r_246
  have a_imayT : PySem.W.findIn K (.ref (He.ga K "IntoEnd")) "may_take" = some (some (.ref (He.fAd K ("IntoEnd", some "may_take")))) := of_decide_eq_true b_246
  clear b_246
  obtain ⟨b_247, r_248⟩ := He.ba (show (decide (PySem.W.isFn K (.ref (He.fAd K ("IntoEnd", some "may_take"))) = true) && re_248 K) = true from r_247)
  clear r_247
  have i_imayT : PySem.W.isFn K (.ref (He.fAd K ("IntoEnd", some "may_take"))) = true := of_decide_eq_true b_247
  clear b_247
  obtain ⟨b_248, r_249⟩ := He.ba (show (decide (PySem.W.findIn K (.ref (He.ga K "IntoEnd")) "go" = some (some (.ref (He.fAd K ("IntoEnd", some "go"))))) && re_249 K) = true from r_248)
  clear r_248
  have a_igo : PySem.W.findIn K (.ref (He.ga K "IntoEnd")) "go" = some (some (.ref (He.fAd K ("IntoEnd", some "go")))) := of_decide_eq_true b_248
  clear b_248
  obtain ⟨b_249, r_250⟩ := He.ba (show (decide (PySem.W.isFn K (.ref (He.fAd K ("IntoEnd", some "go"))) = true) && re_250 K) = true from r_249)
  clear r_249
  have i_igo : PySem.W.isFn K (.ref (He.fAd K ("IntoEnd", some "go"))) = true := of_decide_eq_true b_249
  clear b_249
  obtain ⟨b_250, r_251⟩ := He.ba (show (decide (PySem.W.findIn K (.ref (He.ga K "IntoEnd")) "cut" = some (some (.ref (He.fAd K ("IntoEnd", some "cut"))))) && re_251 K) = true from r_250)
  clear r_250
  have a_icut : PySem.W.findIn K (.ref (He.ga K "IntoEnd")) "cut" = some (some (.ref (He.fAd K ("IntoEnd", some "cut")))) := of_decide_eq_true b_250
  clear b_250
  obtain ⟨b_251, r_252⟩ := He.ba (show (decide (PySem.W.isFn K (.ref (He.fAd K ("IntoEnd", some "cut"))) = true) && re_252 K) = true from r_251)
  clear r_251
  have i_icut : PySem.W.isFn K (.ref (He.fAd K ("IntoEnd", some "cut"))) = true := of_decide_eq_true b_251
  clear b_251
  obtain ⟨b_252, r_253⟩ := He.ba (show (decide (PySem.W.findIn K (.ref (He.ga K "IntoEnd")) "place" = some (some (.ref (He.fAd K ("IntoEnd", some "place"))))) && re_253 K) = true from r_252)
  clear r_252
  have a_iplace : PySem.W.findIn K (.ref (He.ga K "IntoEnd")) "place" = some (some (.ref (He.fAd K ("IntoEnd", some "place")))) := of_decide_eq_true b_252
  clear b_252
  obtain ⟨b_253, r_254⟩ := He.ba (show (decide (PySem.W.isFn K (.ref (He.fAd K ("IntoEnd", some "place"))) = true) && re_254 K) = true from r_253)
  clear r_253
  have i_iplace : PySem.W.isFn K (.ref (He.fAd K ("IntoEnd", some "place"))) = true := of_decide_eq_true b_253
  clear b_253
  obtain ⟨b_254, r_255⟩ := He.ba (show (decide (PySem.W.findIn K (.ref (He.ga K "IntoEnd")) "size" = some (some (.ref (He.fAd K ("IntoEnd", some "size"))))) && re_255 K) = true from r_254)
  clear r_254
  have a_isize : PySem.W.findIn K (.ref (He.ga K "IntoEnd")) "size" = some (some (.ref (He.fAd K ("IntoEnd", some "size")))) := of_decide_eq_true b_254
  clear b_254
  obtain ⟨b_255, r_256⟩ := He.ba (show (decide (PySem.W.isFn K (.ref (He.fAd K ("IntoEnd", some "size"))) = true) && re_256 K) = true from r_255)
  clear r_255
  have i_isize : PySem.W.isFn K (.ref (He.fAd K ("IntoEnd", some "size"))) = true := of_decide_eq_true b_255
  clear b_255
  obtain ⟨b_256, r_257⟩ := He.ba (show (decide (PySem.W.findIn K (.ref (He.ga K "IntoEnd")) "check_seeks" = some (some (.ref (He.fAd K ("IntoEnd", some "check_seeks"))))) && re_257 K) = true from r_256)
  clear r_256
  have a_iseek : PySem.W.findIn K (.ref (He.ga K "IntoEnd")) "check_seeks" = some (some (.ref (He.fAd K ("IntoEnd", some "check_seeks")))) := of_decide_eq_true b_256
  clear b_256
  obtain ⟨b_257, r_258⟩ := He.ba (show (decide (PySem.W.isFn K (.ref (He.fAd K ("IntoEnd", some "check_seeks"))) = true) && re_258 K) = true from r_257)
  clear r_257
  have i_iseek : PySem.W.isFn K (.ref (He.fAd K ("IntoEnd", some "check_seeks"))) = true := of_decide_eq_true b_257
  clear b_257
  obtain ⟨b_258, r_259⟩ := He.ba (show (decide (PySem.W.findIn K (.ref (He.ga K "IntoEnd")) "may_cut" = some (some (.ref (He.fAd K ("IntoEnd", some "may_cut"))))) && re_259 K) = true from r_258)
  clear r_258
  have a_imayC : PySem.W.findIn K (.ref (He.ga K "IntoEnd")) "may_cut" = some (some (.ref (He.fAd K ("IntoEnd", some "may_cut")))) := of_decide_eq_true b_258
  clear b_258
  obtain ⟨b_259, r_260⟩ := He.ba (show (decide (PySem.W.isFn K (.ref (He.fAd K ("IntoEnd", some "may_cut"))) = true) && re_260 K) = true from r_259)
  clear r_259
  have i_imayC : PySem.W.isFn K (.ref (He.fAd K ("IntoEnd", some "may_cut"))) = true := of_decide_eq_true b_259
  clear b_259
  obtain ⟨b_260, r_261⟩ := He.ba (show (decide (PySem.W.findIn K (.ref (He.ga K "IntoEnd")) "seeks" = some (some (.ref (He.fAd K ("IntoEnd", some "seeks"))))) && re_261 K) = true from r_260)
  clear r_260
  have a_isk : PySem.W.findIn K (.ref (He.ga K "IntoEnd")) "seeks" = some (some (.ref (He.fAd K ("IntoEnd", some "seeks")))) := of_decide_eq_true b_260
  clear b_260
  obtain ⟨b_261, r_262⟩ := He.ba (show (decide (PySem.W.isFn K (.ref (He.fAd K ("IntoEnd", some "seeks"))) = true) && re_262 K) = true from r_261)
  clear r_261
  have i_isk : PySem.W.isFn K (.ref (He.fAd K ("IntoEnd", some "seeks"))) = true := of_decide_eq_true b_261
  clear b_261
  obtain ⟨b_262, r_263⟩ := He.ba (show (decide (PySem.W.findIn K (.ref (He.ga K "OutEnd")) "put" = some (some (.ref (He.fAd K ("OutEnd", some "put"))))) && re_263 K) = true from r_262)
  clear r_262
  have a_oput : PySem.W.findIn K (.ref (He.ga K "OutEnd")) "put" = some (some (.ref (He.fAd K ("OutEnd", some "put")))) := of_decide_eq_true b_262
  clear b_262
  obtain ⟨b_263, r_264⟩ := He.ba (show (decide (PySem.W.isFn K (.ref (He.fAd K ("OutEnd", some "put"))) = true) && re_264 K) = true from r_263)
  clear r_263
  have i_oput : PySem.W.isFn K (.ref (He.fAd K ("OutEnd", some "put"))) = true := of_decide_eq_true b_263
  clear b_263
  obtain ⟨b_264, r_265⟩ := He.ba (show (decide (PySem.W.findIn K (.ref (He.ga K "OutEnd")) "may_put" = some (some (.ref (He.fAd K ("OutEnd", some "may_put"))))) && re_265 K) = true from r_264)
  clear r_264
  have a_omayP : PySem.W.findIn K (.ref (He.ga K "OutEnd")) "may_put" = some (some (.ref (He.fAd K ("OutEnd", some "may_put")))) := of_decide_eq_true b_264
  clear b_264
  obtain ⟨b_265, r_266⟩ := He.ba (show (decide (PySem.W.isFn K (.ref (He.fAd K ("OutEnd", some "may_put"))) = true) && re_266 K) = true from r_265)
  clear r_265
  have i_omayP : PySem.W.isFn K (.ref (He.fAd K ("OutEnd", some "may_put"))) = true := of_decide_eq_true b_265
  clear b_265
  obtain ⟨b_266, r_267⟩ := He.ba (show (decide (PySem.W.findIn K (.ref (He.ga K "OutEnd")) "go" = some (some (.ref (He.fAd K ("OutEnd", some "go"))))) && re_267 K) = true from r_266)
  clear r_266
  have a_ogo : PySem.W.findIn K (.ref (He.ga K "OutEnd")) "go" = some (some (.ref (He.fAd K ("OutEnd", some "go")))) := of_decide_eq_true b_266
  clear b_266
  obtain ⟨b_267, r_268⟩ := He.ba (show (decide (PySem.W.isFn K (.ref (He.fAd K ("OutEnd", some "go"))) = true) && re_268 K) = true from r_267)
  clear r_267
  have i_ogo : PySem.W.isFn K (.ref (He.fAd K ("OutEnd", some "go"))) = true := of_decide_eq_true b_267
  clear b_267
  obtain ⟨b_268, r_269⟩ := He.ba (show (decide (PySem.W.findIn K (.ref (He.ga K "OutEnd")) "cut" = some (some (.ref (He.fAd K ("OutEnd", some "cut"))))) && re_269 K) = true from r_268)
  clear r_268
  have a_ocut : PySem.W.findIn K (.ref (He.ga K "OutEnd")) "cut" = some (some (.ref (He.fAd K ("OutEnd", some "cut")))) := of_decide_eq_true b_268
  clear b_268
  obtain ⟨b_269, r_270⟩ := He.ba (show (decide (PySem.W.isFn K (.ref (He.fAd K ("OutEnd", some "cut"))) = true) && re_270 K) = true from r_269)
  clear r_269
  have i_ocut : PySem.W.isFn K (.ref (He.fAd K ("OutEnd", some "cut"))) = true := of_decide_eq_true b_269
  clear b_269
  obtain ⟨b_270, r_271⟩ := He.ba (show (decide (PySem.W.findIn K (.ref (He.ga K "OutEnd")) "place" = some (some (.ref (He.fAd K ("OutEnd", some "place"))))) && re_271 K) = true from r_270)
  clear r_270
  have a_oplace : PySem.W.findIn K (.ref (He.ga K "OutEnd")) "place" = some (some (.ref (He.fAd K ("OutEnd", some "place")))) := of_decide_eq_true b_270
  clear b_270
  obtain ⟨b_271, r_272⟩ := He.ba (show (decide (PySem.W.isFn K (.ref (He.fAd K ("OutEnd", some "place"))) = true) && re_272 K) = true from r_271)
  clear r_271
  have i_oplace : PySem.W.isFn K (.ref (He.fAd K ("OutEnd", some "place"))) = true := of_decide_eq_true b_271
  clear b_271
  obtain ⟨b_272, r_273⟩ := He.ba (show (decide (PySem.W.findIn K (.ref (He.ga K "OutEnd")) "size" = some (some (.ref (He.fAd K ("OutEnd", some "size"))))) && re_273 K) = true from r_272)
  clear r_272
  have a_osize : PySem.W.findIn K (.ref (He.ga K "OutEnd")) "size" = some (some (.ref (He.fAd K ("OutEnd", some "size")))) := of_decide_eq_true b_272
  clear b_272
  obtain ⟨b_273, r_274⟩ := He.ba (show (decide (PySem.W.isFn K (.ref (He.fAd K ("OutEnd", some "size"))) = true) && re_274 K) = true from r_273)
  clear r_273
  have i_osize : PySem.W.isFn K (.ref (He.fAd K ("OutEnd", some "size"))) = true := of_decide_eq_true b_273
  clear b_273
  obtain ⟨b_274, r_275⟩ := He.ba (show (decide (PySem.W.findIn K (.ref (He.ga K "OutEnd")) "check_seeks" = some (some (.ref (He.fAd K ("OutEnd", some "check_seeks"))))) && re_275 K) = true from r_274)
  clear r_274
  have a_oseek : PySem.W.findIn K (.ref (He.ga K "OutEnd")) "check_seeks" = some (some (.ref (He.fAd K ("OutEnd", some "check_seeks")))) := of_decide_eq_true b_274
  clear b_274
  obtain ⟨b_275, r_276⟩ := He.ba (show (decide (PySem.W.isFn K (.ref (He.fAd K ("OutEnd", some "check_seeks"))) = true) && re_276 K) = true from r_275)
  clear r_275
  have i_oseek : PySem.W.isFn K (.ref (He.fAd K ("OutEnd", some "check_seeks"))) = true := of_decide_eq_true b_275
  clear b_275
  obtain ⟨b_276, r_277⟩ := He.ba (show (decide (PySem.W.findIn K (.ref (He.ga K "OutEnd")) "may_cut" = some (some (.ref (He.fAd K ("OutEnd", some "may_cut"))))) && re_277 K) = true from r_276)
  clear r_276
  have a_omayC : PySem.W.findIn K (.ref (He.ga K "OutEnd")) "may_cut" = some (some (.ref (He.fAd K ("OutEnd", some "may_cut")))) := of_decide_eq_true b_276
  clear b_276
  obtain ⟨b_277, r_278⟩ := He.ba (show (decide (PySem.W.isFn K (.ref (He.fAd K ("OutEnd", some "may_cut"))) = true) && re_278 K) = true from r_277)
  clear r_277
  have i_omayC : PySem.W.isFn K (.ref (He.fAd K ("OutEnd", some "may_cut"))) = true := of_decide_eq_true b_277
  clear b_277
  obtain ⟨b_278, r_279⟩ := He.ba (show (decide (PySem.W.findIn K (.ref (He.ga K "OutEnd")) "seeks" = some (some (.ref (He.fAd K ("OutEnd", some "seeks"))))) && re_279 K) = true from r_278)
  clear r_278
  have a_osk : PySem.W.findIn K (.ref (He.ga K "OutEnd")) "seeks" = some (some (.ref (He.fAd K ("OutEnd", some "seeks")))) := of_decide_eq_true b_278
  clear b_278
  obtain ⟨b_279, r_280⟩ := He.ba (show (decide (PySem.W.isFn K (.ref (He.fAd K ("OutEnd", some "seeks"))) = true) && re_280 K) = true from r_279)
  clear r_279
  have i_osk : PySem.W.isFn K (.ref (He.fAd K ("OutEnd", some "seeks"))) = true := of_decide_eq_true b_279
  clear b_279
  obtain ⟨b_280, r_281⟩ := He.ba (show (decide (PySem.W.nsIn K mainGlobals "_law_pool" = some (some (.ref (He.fAd K ("_law_pool", none))))) && re_281 K) = true from r_280)
  clear r_280
  have a_pool : PySem.W.nsIn K mainGlobals "_law_pool" = some (some (.ref (He.fAd K ("_law_pool", none)))) := of_decide_eq_true b_280
  clear b_280
  obtain ⟨b_281, r_282⟩ := He.ba (show (decide (PySem.W.nsIn K mainGlobals "_law_take" = some (some (.ref (He.fAd K ("_law_take", none))))) && re_282 K) = true from r_281)
  clear r_281
  have a_take : PySem.W.nsIn K mainGlobals "_law_take" = some (some (.ref (He.fAd K ("_law_take", none)))) := of_decide_eq_true b_281
  clear b_281
  obtain ⟨b_282, r_283⟩ := He.ba (show (decide (PySem.W.nsIn K mainGlobals "_law_row" = some (some (.ref (He.fAd K ("_law_row", none))))) && re_283 K) = true from r_282)
  clear r_282
  have a_lrow : PySem.W.nsIn K mainGlobals "_law_row" = some (some (.ref (He.fAd K ("_law_row", none)))) := of_decide_eq_true b_282
  clear b_282
  obtain ⟨b_283, r_284⟩ := He.ba (show (decide (PySem.W.nsIn K mainGlobals "_law_refusal" = some (some (.ref (He.fAd K ("_law_refusal", none))))) && re_284 K) = true from r_283)
  clear r_283
  have a_lrefusal : PySem.W.nsIn K mainGlobals "_law_refusal" = some (some (.ref (He.fAd K ("_law_refusal", none)))) := of_decide_eq_true b_283
  clear b_283
  obtain ⟨b_284, r_285⟩ := He.ba (show (decide (PySem.W.nsIn K mainGlobals "_law_tried" = some (some (.ref (He.fAd K ("_law_tried", none))))) && re_285 K) = true from r_284)
  clear r_284
  have a_ltried : PySem.W.nsIn K mainGlobals "_law_tried" = some (some (.ref (He.fAd K ("_law_tried", none)))) := of_decide_eq_true b_284
  clear b_284
  obtain ⟨b_285, r_286⟩ := He.ba (show (decide (PySem.W.nsIn K mainGlobals "_law_bad_room" = some (some (.ref (He.fAd K ("_law_bad_room", none))))) && re_286 K) = true from r_285)
  clear r_285
  have a_lbad : PySem.W.nsIn K mainGlobals "_law_bad_room" = some (some (.ref (He.fAd K ("_law_bad_room", none)))) := of_decide_eq_true b_285
  clear b_285
  obtain ⟨b_286, r_287⟩ := He.ba (show (decide (PySem.W.nsIn K mainGlobals "_law_due" = some (some (.ref (He.fAd K ("_law_due", none))))) && re_287 K) = true from r_286)
  clear r_286
  have a_ldue : PySem.W.nsIn K mainGlobals "_law_due" = some (some (.ref (He.fAd K ("_law_due", none)))) := of_decide_eq_true b_286
  clear b_286
  obtain ⟨b_287, r_288⟩ := He.ba (show (decide (PySem.W.nsIn K mainGlobals "_law_asked" = some (some (.ref (He.fAd K ("_law_asked", none))))) && re_288 K) = true from r_287)
  clear r_287
  have a_lasked : PySem.W.nsIn K mainGlobals "_law_asked" = some (some (.ref (He.fAd K ("_law_asked", none)))) := of_decide_eq_true b_287
  clear b_287
  obtain ⟨b_288, r_289⟩ := He.ba (show (decide (PySem.W.nsIn K mainGlobals "law" = some (some (.ref (He.fAd K ("law", none))))) && re_289 K) = true from r_288)
  clear r_288
  have a_law : PySem.W.nsIn K mainGlobals "law" = some (some (.ref (He.fAd K ("law", none)))) := of_decide_eq_true b_288
  clear b_288
  obtain ⟨b_289, r_290⟩ := He.ba (show (decide (PySem.W.plainGet K (He.ga K "IntoEnd") Str.empty = true) && re_290 K) = true from r_289)
  clear r_289
  have pg_IntoEnd : PySem.W.plainGet K (He.ga K "IntoEnd") Str.empty = true := of_decide_eq_true b_289
  clear b_289
  obtain ⟨b_290, r_291⟩ := He.ba (show (decide (PySem.W.hasDictIn K (He.ga K "IntoEnd") = true) && re_291 K) = true from r_290)
  clear r_290
  have hd_IntoEnd : PySem.W.hasDictIn K (He.ga K "IntoEnd") = true := of_decide_eq_true b_290
  clear b_290
  obtain ⟨b_291, r_292⟩ := He.ba (show (decide (PySem.W.plainOver K (He.ga K "IntoEnd") = true) && re_292 K) = true from r_291)
  clear r_291
  have po_IntoEnd : PySem.W.plainOver K (He.ga K "IntoEnd") = true := of_decide_eq_true b_291
  clear b_291
  obtain ⟨b_292, r_293⟩ := He.ba (show (decide (PySem.W.findIn K (.ref (He.ga K "IntoEnd")) "__setattr__" = some (some (.builtin "object.__setattr__"))) && re_293 K) = true from r_292)
  clear r_292
  have sa_IntoEnd : PySem.W.findIn K (.ref (He.ga K "IntoEnd")) "__setattr__" = some (some (.builtin "object.__setattr__")) := of_decide_eq_true b_292
  clear b_292
  obtain ⟨b_293, r_294⟩ := He.ba (show (decide (PySem.W.makesIn K (He.ga K "IntoEnd") = true) && re_294 K) = true from r_293)
  clear r_293
  have mk_IntoEnd : PySem.W.makesIn K (He.ga K "IntoEnd") = true := of_decide_eq_true b_293
  clear b_293
  obtain ⟨b_294, r_295⟩ := He.ba (show (decide (PySem.W.keepIn K (.ref (He.ga K "IntoEnd")) = true) && re_295 K) = true from r_294)
  clear r_294
  have kc_IntoEnd : PySem.W.keepIn K (.ref (He.ga K "IntoEnd")) = true := of_decide_eq_true b_294
  clear b_294
  obtain ⟨b_295, r_296⟩ := He.ba (show (decide (PySem.W.findIn K (.ref (He.ga K "IntoEnd")) "can_seek" = some none) && re_296 K) = true from r_295)
  clear r_295
  have n_IntoEnd_can_seek : PySem.W.findIn K (.ref (He.ga K "IntoEnd")) "can_seek" = some none := of_decide_eq_true b_295
  clear b_295
  obtain ⟨b_296, r_297⟩ := He.ba (show (decide (PySem.W.findIn K (.ref (He.ga K "IntoEnd")) "spot" = some none) && re_297 K) = true from r_296)
  clear r_296
  have n_IntoEnd_spot : PySem.W.findIn K (.ref (He.ga K "IntoEnd")) "spot" = some none := of_decide_eq_true b_296
  clear b_296
  obtain ⟨b_297, r_298⟩ := He.ba (show (decide (PySem.W.findIn K (.ref (He.ga K "IntoEnd")) "barred" = some none) && re_298 K) = true from r_297)
  clear r_297
  have n_IntoEnd_barred : PySem.W.findIn K (.ref (He.ga K "IntoEnd")) "barred" = some none := of_decide_eq_true b_297
  clear b_297
  obtain ⟨b_298, r_299⟩ := He.ba (show (decide (PySem.W.findIn K (.ref (He.ga K "IntoEnd")) "notes" = some none) && re_299 K) = true from r_298)
  clear r_298
  have n_IntoEnd_notes : PySem.W.findIn K (.ref (He.ga K "IntoEnd")) "notes" = some none := of_decide_eq_true b_298
  clear b_298
  obtain ⟨b_299, r_300⟩ := He.ba (show (decide (PySem.W.findIn K (.ref (He.ga K "IntoEnd")) "pipe" = some none) && re_300 K) = true from r_299)
  clear r_299
  have n_IntoEnd_pipe : PySem.W.findIn K (.ref (He.ga K "IntoEnd")) "pipe" = some none := of_decide_eq_true b_299
  clear b_299
  obtain ⟨b_300, r_301⟩ := He.ba (show (decide (PySem.W.plainGet K (He.ga K "OutEnd") Str.empty = true) && re_301 K) = true from r_300)
  clear r_300
  have pg_OutEnd : PySem.W.plainGet K (He.ga K "OutEnd") Str.empty = true := of_decide_eq_true b_300
  clear b_300
  obtain ⟨b_301, r_302⟩ := He.ba (show (decide (PySem.W.hasDictIn K (He.ga K "OutEnd") = true) && re_302 K) = true from r_301)
  clear r_301
  have hd_OutEnd : PySem.W.hasDictIn K (He.ga K "OutEnd") = true := of_decide_eq_true b_301
  clear b_301
  obtain ⟨b_302, r_303⟩ := He.ba (show (decide (PySem.W.plainOver K (He.ga K "OutEnd") = true) && re_303 K) = true from r_302)
  clear r_302
  have po_OutEnd : PySem.W.plainOver K (He.ga K "OutEnd") = true := of_decide_eq_true b_302
  clear b_302
  obtain ⟨b_303, r_304⟩ := He.ba (show (decide (PySem.W.findIn K (.ref (He.ga K "OutEnd")) "__setattr__" = some (some (.builtin "object.__setattr__"))) && re_304 K) = true from r_303)
  clear r_303
  have sa_OutEnd : PySem.W.findIn K (.ref (He.ga K "OutEnd")) "__setattr__" = some (some (.builtin "object.__setattr__")) := of_decide_eq_true b_303
  clear b_303
  obtain ⟨b_304, r_305⟩ := He.ba (show (decide (PySem.W.makesIn K (He.ga K "OutEnd") = true) && re_305 K) = true from r_304)
  clear r_304
  have mk_OutEnd : PySem.W.makesIn K (He.ga K "OutEnd") = true := of_decide_eq_true b_304
  clear b_304
  obtain ⟨b_305, r_306⟩ := He.ba (show (decide (PySem.W.keepIn K (.ref (He.ga K "OutEnd")) = true) && re_306 K) = true from r_305)
  clear r_305
  have kc_OutEnd : PySem.W.keepIn K (.ref (He.ga K "OutEnd")) = true := of_decide_eq_true b_305
  clear b_305
  obtain ⟨b_306, r_307⟩ := He.ba (show (decide (PySem.W.findIn K (.ref (He.ga K "OutEnd")) "can_seek" = some none) && re_307 K) = true from r_306)
  clear r_306
  have n_OutEnd_can_seek : PySem.W.findIn K (.ref (He.ga K "OutEnd")) "can_seek" = some none := of_decide_eq_true b_306
  clear b_306
  obtain ⟨b_307, r_308⟩ := He.ba (show (decide (PySem.W.findIn K (.ref (He.ga K "OutEnd")) "spot" = some none) && re_308 K) = true from r_307)
  clear r_307
  have n_OutEnd_spot : PySem.W.findIn K (.ref (He.ga K "OutEnd")) "spot" = some none := of_decide_eq_true b_307
  clear b_307
  obtain ⟨b_308, r_309⟩ := He.ba (show (decide (PySem.W.findIn K (.ref (He.ga K "OutEnd")) "barred" = some none) && re_309 K) = true from r_308)
  clear r_308
  have n_OutEnd_barred : PySem.W.findIn K (.ref (He.ga K "OutEnd")) "barred" = some none := of_decide_eq_true b_308
  clear b_308
  obtain ⟨b_309, r_310⟩ := He.ba (show (decide (PySem.W.findIn K (.ref (He.ga K "OutEnd")) "notes" = some none) && re_310 K) = true from r_309)
  clear r_309
  have n_OutEnd_notes : PySem.W.findIn K (.ref (He.ga K "OutEnd")) "notes" = some none := of_decide_eq_true b_309
  clear b_309
  obtain ⟨b_310, r_311⟩ := He.ba (show (decide (PySem.W.findIn K (.ref (He.ga K "OutEnd")) "pipe" = some none) && re_311 K) = true from r_310)
  clear r_310
  have n_OutEnd_pipe : PySem.W.findIn K (.ref (He.ga K "OutEnd")) "pipe" = some none := of_decide_eq_true b_310
  clear b_310
  obtain ⟨b_311, r_312⟩ := He.ba (show (decide (PySem.W.plainGet K (He.ga K "Pipe") Str.empty = true) && re_312 K) = true from r_311)
  clear r_311
  have pg_Pipe : PySem.W.plainGet K (He.ga K "Pipe") Str.empty = true := of_decide_eq_true b_311
  clear b_311
  obtain ⟨b_312, r_313⟩ := He.ba (show (decide (PySem.W.hasDictIn K (He.ga K "Pipe") = true) && re_313 K) = true from r_312)
  clear r_312
  have hd_Pipe : PySem.W.hasDictIn K (He.ga K "Pipe") = true := of_decide_eq_true b_312
  clear b_312
  obtain ⟨b_313, r_314⟩ := He.ba (show (decide (PySem.W.plainOver K (He.ga K "Pipe") = true) && re_314 K) = true from r_313)
  clear r_313
  have po_Pipe : PySem.W.plainOver K (He.ga K "Pipe") = true := of_decide_eq_true b_313
  clear b_313
  obtain ⟨b_314, r_315⟩ := He.ba (show (decide (PySem.W.findIn K (.ref (He.ga K "Pipe")) "__setattr__" = some (some (.builtin "object.__setattr__"))) && re_315 K) = true from r_314)
  clear r_314
  have sa_Pipe : PySem.W.findIn K (.ref (He.ga K "Pipe")) "__setattr__" = some (some (.builtin "object.__setattr__")) := of_decide_eq_true b_314
  clear b_314
  obtain ⟨b_315, r_316⟩ := He.ba (show (decide (PySem.W.makesIn K (He.ga K "Pipe") = true) && re_316 K) = true from r_315)
  clear r_315
  have mk_Pipe : PySem.W.makesIn K (He.ga K "Pipe") = true := of_decide_eq_true b_315
  clear b_315
  obtain ⟨b_316, r_317⟩ := He.ba (show (decide (PySem.W.keepIn K (.ref (He.ga K "Pipe")) = true) && re_317 K) = true from r_316)
  clear r_316
  have kc_Pipe : PySem.W.keepIn K (.ref (He.ga K "Pipe")) = true := of_decide_eq_true b_316
  clear b_316
  obtain ⟨b_317, r_318⟩ := He.ba (show (decide (PySem.W.findIn K (.ref (He.ga K "Pipe")) "room" = some none) && re_318 K) = true from r_317)
  clear r_317
  have n_Pipe_room : PySem.W.findIn K (.ref (He.ga K "Pipe")) "room" = some none := of_decide_eq_true b_317
  clear b_317
  obtain ⟨b_318, r_319⟩ := He.ba (show (decide (PySem.W.findIn K (.ref (He.ga K "Pipe")) "within" = some none) && re_319 K) = true from r_318)
  clear r_318
  have n_Pipe_within : PySem.W.findIn K (.ref (He.ga K "Pipe")) "within" = some none := of_decide_eq_true b_318
  clear b_318
  obtain ⟨b_319, r_320⟩ := He.ba (show (decide (PySem.W.findIn K (.ref (He.ga K "Pipe")) "into_end" = some none) && re_320 K) = true from r_319)
  clear r_319
  have n_Pipe_into_end : PySem.W.findIn K (.ref (He.ga K "Pipe")) "into_end" = some none := of_decide_eq_true b_319
  clear b_319
  obtain ⟨b_320, r_321⟩ := He.ba (show (decide (PySem.W.findIn K (.ref (He.ga K "Pipe")) "out_end" = some none) && re_321 K) = true from r_320)
  clear r_320
  have n_Pipe_out_end : PySem.W.findIn K (.ref (He.ga K "Pipe")) "out_end" = some none := of_decide_eq_true b_320
  clear b_320
  obtain ⟨b_321, r_322⟩ := He.ba (show (Sip.conB K "ROOM" (.int 8) && re_322 K) = true from r_321)
  clear r_321
  have cq_ROOM : ∃ u, PySem.W.nsIn K mainGlobals "ROOM" = some (some u) ∧ RelV (.int 8) u := Sip.conB_ok b_321
  clear b_321
  obtain ⟨b_322, r_323⟩ := He.ba (show (Sip.conB K "GREATEST_ROOM" (.int 64) && re_323 K) = true from r_322)
  clear r_322
  have cq_GREATEST_ROOM : ∃ u, PySem.W.nsIn K mainGlobals "GREATEST_ROOM" = some (some u) ∧ RelV (.int 64) u := Sip.conB_ok b_322
  clear b_322
  obtain ⟨b_323, r_324⟩ := He.ba (show (Sip.conB K "BROKEN" (.int 99) && re_324 K) = true from r_323)
  clear r_323
  have cq_BROKEN : ∃ u, PySem.W.nsIn K mainGlobals "BROKEN" = some (some u) ∧ RelV (.int 99) u := Sip.conB_ok b_323
  clear b_323
  obtain ⟨b_324, r_325⟩ := He.ba (show (decide (PySem.W.nsIn K mainGlobals "list" = some none) && re_325 K) = true from r_324)
  clear r_324
  have z_list : PySem.W.nsIn K mainGlobals "list" = some none := of_decide_eq_true b_324
  clear b_324
  obtain ⟨b_325, r_326⟩ := He.ba (show (decide (PySem.W.nsIn K mainGlobals "len" = some none) && re_326 K) = true from r_325)
  clear r_325
  have z_len : PySem.W.nsIn K mainGlobals "len" = some none := of_decide_eq_true b_325
  clear b_325
  obtain ⟨b_326, r_327⟩ := He.ba (show (decide (PySem.W.nsIn K mainGlobals "range" = some none) && re_327 K) = true from r_326)
  clear r_326
  have z_range : PySem.W.nsIn K mainGlobals "range" = some none := of_decide_eq_true b_326
  clear b_326
  obtain ⟨b_327, r_328⟩ := He.ba (show (decide (PySem.W.nsIn K mainGlobals "max" = some none) && re_328 K) = true from r_327)
  clear r_327
  have z_max : PySem.W.nsIn K mainGlobals "max" = some none := of_decide_eq_true b_327
  clear b_327
  obtain ⟨b_328, r_329⟩ := He.ba (show (decide (PySem.W.nsIn K mainGlobals "min" = some none) && re_329 K) = true from r_328)
  clear r_328
  have z_min : PySem.W.nsIn K mainGlobals "min" = some none := of_decide_eq_true b_328
  clear b_328
  obtain ⟨b_329, r_330⟩ := He.ba (show (decide (PySem.W.nsIn K mainGlobals "isinstance" = some none) && re_330 K) = true from r_329)
  clear r_329
  have z_isinstance : PySem.W.nsIn K mainGlobals "isinstance" = some none := of_decide_eq_true b_329
  clear b_329
  obtain ⟨b_330, r_331⟩ := He.ba (show (decide (PySem.W.nsIn K mainGlobals "int" = some none) && re_331 K) = true from r_330)
  clear r_330
  have z_int : PySem.W.nsIn K mainGlobals "int" = some none := of_decide_eq_true b_330
  clear b_330
  obtain ⟨b_331, r_332⟩ := He.ba (show (decide (PySem.W.nsIn K mainGlobals "bool" = some none) && re_332 K) = true from r_331)
  clear r_331
  have z_bool : PySem.W.nsIn K mainGlobals "bool" = some none := of_decide_eq_true b_331
  clear b_331
  obtain ⟨b_332, r_333⟩ := He.ba (show (decide (PySem.W.nsIn K mainGlobals "super" = some none) && re_333 K) = true from r_332)
  clear r_332
  have z_super : PySem.W.nsIn K mainGlobals "super" = some none := of_decide_eq_true b_332
  clear b_332
  obtain ⟨b_333, r_334⟩ := He.ba (show (decide (PySem.W.nsIn K mainGlobals "ValueError" = some none) && re_334 K) = true from r_333)
  clear r_333
  have z_ValueError : PySem.W.nsIn K mainGlobals "ValueError" = some none := of_decide_eq_true b_333
  clear b_333
  have FX_whole : ∃ fd, FunD K "is_whole" "is_whole" (defArgs s_whole) (defBody s_whole) (defScope s_whole) ([] : List V) ([] : List (Str × V)) (He.fAd K ("is_whole", none)) fd := c.def_ 0 (d := dd_whole)
  have FX_croom : ∃ fd, FunD K "check_room" "check_room" (defArgs s_croom) (defBody s_croom) (defScope s_croom) ([] : List V) ([] : List (Str × V)) (He.fAd K ("check_room", none)) fd := c.def_ 1 (d := dd_croom)
  have FX_ocopy : ∃ fd, FunD K "own_copy" "own_copy" (defArgs s_ocopy) (defBody s_ocopy) (defScope s_ocopy) ([] : List V) ([] : List (Str × V)) (He.fAd K ("own_copy", none)) fd := c.def_ 2 (d := dd_ocopy)
  have FX_rinit : ∃ fd, FunD K "__init__" "Raw.__init__" (defArgs s_rinit) (defBody s_rinit) (defScope s_rinit) ([] : List V) ([] : List (Str × V)) (He.fAd K ("Raw", some "__init__")) fd := c.def_ 3 (d := dd_rinit)
  have FX_iinit : ∃ fd, FunD K "__init__" "IntoEnd.__init__" (defArgs s_iinit) (defBody s_iinit) (defScope s_iinit) ([] : List V) ([] : List (Str × V)) (He.fAd K ("IntoEnd", some "__init__")) fd := c.def_ 4 (d := dd_iinit)
  have FX_oinit : ∃ fd, FunD K "__init__" "OutEnd.__init__" (defArgs s_oinit) (defBody s_oinit) (defScope s_oinit) ([] : List V) ([] : List (Str × V)) (He.fAd K ("OutEnd", some "__init__")) fd := c.def_ 5 (d := dd_oinit)
  have FX_pinit : ∃ fd, FunD K "__init__" "Pipe.__init__" (defArgs s_pinit) (defBody s_pinit) (defScope s_pinit) ([] : List V) ([("room", .int 8)] : List (Str × V)) (He.fAd K ("Pipe", some "__init__")) fd := c.def_ 6 (d := dd_pinit)
  have FX_pinto : ∃ fd, FunD K "into" "Pipe.into" (defArgs s_pinto) (defBody s_pinto) (defScope s_pinto) ([] : List V) ([] : List (Str × V)) (He.fAd K ("Pipe", some "into")) fd := c.def_ 7 (d := dd_pinto)
  have FX_pout : ∃ fd, FunD K "out" "Pipe.out" (defArgs s_pout) (defBody s_pout) (defScope s_pout) ([] : List V) ([] : List (Str × V)) (He.fAd K ("Pipe", some "out")) fd := c.def_ 8 (d := dd_pout)
  have FX_pheld : ∃ fd, FunD K "held" "Pipe.held" (defArgs s_pheld) (defBody s_pheld) (defScope s_pheld) ([] : List V) ([] : List (Str × V)) (He.fAd K ("Pipe", some "held")) fd := c.def_ 9 (d := dd_pheld)
  have FX_play : ∃ fd, FunD K "lay" "Pipe.lay" (defArgs s_play) (defBody s_play) (defScope s_play) ([] : List V) ([] : List (Str × V)) (He.fAd K ("Pipe", some "lay")) fd := c.def_ 10 (d := dd_play)
  have FX_plift : ∃ fd, FunD K "lift" "Pipe.lift" (defArgs s_plift) (defBody s_plift) (defScope s_plift) ([] : List V) ([] : List (Str × V)) (He.fAd K ("Pipe", some "lift")) fd := c.def_ 11 (d := dd_plift)
  have FX_iaccept : ∃ fd, FunD K "accept" "IntoEnd.accept" (defArgs s_iaccept) (defBody s_iaccept) (defScope s_iaccept) ([] : List V) ([] : List (Str × V)) (He.fAd K ("IntoEnd", some "accept")) fd := c.def_ 12 (d := dd_iaccept)
  have FX_ogive : ∃ fd, FunD K "give" "OutEnd.give" (defArgs s_ogive) (defBody s_ogive) (defScope s_ogive) ([] : List V) ([] : List (Str × V)) (He.fAd K ("OutEnd", some "give")) fd := c.def_ 13 (d := dd_ogive)
  have FX_iput : ∃ fd, FunD K "put" "Raw.put" (defArgs s_iput) (defBody s_iput) (defScope s_iput) ([] : List V) ([] : List (Str × V)) (He.fAd K ("IntoEnd", some "put")) fd := c.def_ 14 (d := dd_iput)
  have FX_iopen : ∃ fd, FunD K "check_open" "Raw.check_open" (defArgs s_iopen) (defBody s_iopen) (defScope s_iopen) ([] : List V) ([] : List (Str × V)) (He.fAd K ("IntoEnd", some "check_open")) fd := c.def_ 15 (d := dd_iopen)
  have FX_imay : ∃ fd, FunD K "may_put" "Raw.may_put" (defArgs s_imay) (defBody s_imay) (defScope s_imay) ([] : List V) ([] : List (Str × V)) (He.fAd K ("IntoEnd", some "may_put")) fd := c.def_ 16 (d := dd_imay)
  have FX_inote : ∃ fd, FunD K "note" "Raw.note" (defArgs s_inote) (defBody s_inote) (defScope s_inote) ([] : List V) ([] : List (Str × V)) (He.fAd K ("IntoEnd", some "note")) fd := c.def_ 17 (d := dd_inote)
  have FX_ishut : ∃ fd, FunD K "is_shut" "Raw.is_shut" (defArgs s_ishut) (defBody s_ishut) (defScope s_ishut) ([] : List V) ([] : List (Str × V)) (He.fAd K ("IntoEnd", some "is_shut")) fd := c.def_ 18 (d := dd_ishut)
  have FX_ilog : ∃ fd, FunD K "log" "Raw.log" (defArgs s_ilog) (defBody s_ilog) (defScope s_ilog) ([] : List V) ([] : List (Str × V)) (He.fAd K ("IntoEnd", some "log")) fd := c.def_ 19 (d := dd_ilog)
  have FX_ilogb : ∃ fd, FunD K "log_behind" "Raw.log_behind" (defArgs s_ilogb) (defBody s_ilogb) (defScope s_ilogb) ([] : List V) ([] : List (Str × V)) (He.fAd K ("IntoEnd", some "log_behind")) fd := c.def_ 20 (d := dd_ilogb)
  have FX_otake : ∃ fd, FunD K "take" "Raw.take" (defArgs s_otake) (defBody s_otake) (defScope s_otake) ([] : List V) ([] : List (Str × V)) (He.fAd K ("OutEnd", some "take")) fd := c.def_ 21 (d := dd_otake)
  have FX_oopen : ∃ fd, FunD K "check_open" "Raw.check_open" (defArgs s_oopen) (defBody s_oopen) (defScope s_oopen) ([] : List V) ([] : List (Str × V)) (He.fAd K ("OutEnd", some "check_open")) fd := c.def_ 22 (d := dd_oopen)
  have FX_omay : ∃ fd, FunD K "may_take" "Raw.may_take" (defArgs s_omay) (defBody s_omay) (defScope s_omay) ([] : List V) ([] : List (Str × V)) (He.fAd K ("OutEnd", some "may_take")) fd := c.def_ 23 (d := dd_omay)
  have FX_onote : ∃ fd, FunD K "note" "Raw.note" (defArgs s_onote) (defBody s_onote) (defScope s_onote) ([] : List V) ([] : List (Str × V)) (He.fAd K ("OutEnd", some "note")) fd := c.def_ 24 (d := dd_onote)
  have FX_oshut : ∃ fd, FunD K "is_shut" "Raw.is_shut" (defArgs s_oshut) (defBody s_oshut) (defScope s_oshut) ([] : List V) ([] : List (Str × V)) (He.fAd K ("OutEnd", some "is_shut")) fd := c.def_ 25 (d := dd_oshut)
  have FX_olog : ∃ fd, FunD K "log" "Raw.log" (defArgs s_olog) (defBody s_olog) (defScope s_olog) ([] : List V) ([] : List (Str × V)) (He.fAd K ("OutEnd", some "log")) fd := c.def_ 26 (d := dd_olog)
  have FX_ologb : ∃ fd, FunD K "log_behind" "Raw.log_behind" (defArgs s_ologb) (defBody s_ologb) (defScope s_ologb) ([] : List V) ([] : List (Str × V)) (He.fAd K ("OutEnd", some "log_behind")) fd := c.def_ 27 (d := dd_ologb)
  have FX_iFault : ∃ fd, FunD K "__init__" "Fault.__init__" (defArgs s_iFault) (defBody s_iFault) (defScope s_iFault) ([] : List V) ([("taken", .int 0)] : List (Str × V)) (He.fAd K ("Fault", some "__init__")) fd := c.def_ 28 (d := dd_iFault)
  have FX_rshut : ∃ fd, FunD K "shut" "Raw.shut" (defArgs s_rshut) (defBody s_rshut) (defScope s_rshut) ([] : List V) ([] : List (Str × V)) (He.fAd K ("Raw", some "shut")) fd := c.def_ 29 (d := dd_rshut)
  have FX_pdrop : ∃ fd, FunD K "drop" "Pipe.drop" (defArgs s_pdrop) (defBody s_pdrop) (defScope s_pdrop) ([] : List V) ([] : List (Str × V)) (He.fAd K ("Pipe", some "drop")) fd := c.def_ 30 (d := dd_pdrop)
  have FX_ibar : ∃ fd, FunD K "shut" "Raw.shut" (defArgs s_ibar) (defBody s_ibar) (defScope s_ibar) ([] : List V) ([] : List (Str × V)) (He.fAd K ("IntoEnd", some "shut")) fd := c.def_ 31 (d := dd_ibar)
  have FX_itake : ∃ fd, FunD K "take" "Raw.take" (defArgs s_itake) (defBody s_itake) (defScope s_itake) ([] : List V) ([] : List (Str × V)) (He.fAd K ("IntoEnd", some "take")) fd := c.def_ 32 (d := dd_itake)
  have FX_imayT : ∃ fd, FunD K "may_take" "IntoEnd.may_take" (defArgs s_imayT) (defBody s_imayT) (defScope s_imayT) ([] : List V) ([] : List (Str × V)) (He.fAd K ("IntoEnd", some "may_take")) fd := c.def_ 33 (d := dd_imayT)
  have FX_igo : ∃ fd, FunD K "go" "Raw.go" (defArgs s_igo) (defBody s_igo) (defScope s_igo) ([] : List V) ([] : List (Str × V)) (He.fAd K ("IntoEnd", some "go")) fd := c.def_ 34 (d := dd_igo)
  have FX_icut : ∃ fd, FunD K "cut" "Raw.cut" (defArgs s_icut) (defBody s_icut) (defScope s_icut) ([] : List V) ([] : List (Str × V)) (He.fAd K ("IntoEnd", some "cut")) fd := c.def_ 35 (d := dd_icut)
  have FX_iplace : ∃ fd, FunD K "place" "Raw.place" (defArgs s_iplace) (defBody s_iplace) (defScope s_iplace) ([] : List V) ([] : List (Str × V)) (He.fAd K ("IntoEnd", some "place")) fd := c.def_ 36 (d := dd_iplace)
  have FX_isize : ∃ fd, FunD K "size" "Raw.size" (defArgs s_isize) (defBody s_isize) (defScope s_isize) ([] : List V) ([] : List (Str × V)) (He.fAd K ("IntoEnd", some "size")) fd := c.def_ 37 (d := dd_isize)
  have FX_iseek : ∃ fd, FunD K "check_seeks" "Raw.check_seeks" (defArgs s_iseek) (defBody s_iseek) (defScope s_iseek) ([] : List V) ([] : List (Str × V)) (He.fAd K ("IntoEnd", some "check_seeks")) fd := c.def_ 38 (d := dd_iseek)
  have FX_imayC : ∃ fd, FunD K "may_cut" "Raw.may_cut" (defArgs s_imayC) (defBody s_imayC) (defScope s_imayC) ([] : List V) ([] : List (Str × V)) (He.fAd K ("IntoEnd", some "may_cut")) fd := c.def_ 39 (d := dd_imayC)
  have FX_isk : ∃ fd, FunD K "seeks" "Raw.seeks" (defArgs s_isk) (defBody s_isk) (defScope s_isk) ([] : List V) ([] : List (Str × V)) (He.fAd K ("IntoEnd", some "seeks")) fd := c.def_ 40 (d := dd_isk)
  have FX_oput : ∃ fd, FunD K "put" "Raw.put" (defArgs s_oput) (defBody s_oput) (defScope s_oput) ([] : List V) ([] : List (Str × V)) (He.fAd K ("OutEnd", some "put")) fd := c.def_ 41 (d := dd_oput)
  have FX_omayP : ∃ fd, FunD K "may_put" "OutEnd.may_put" (defArgs s_omayP) (defBody s_omayP) (defScope s_omayP) ([] : List V) ([] : List (Str × V)) (He.fAd K ("OutEnd", some "may_put")) fd := c.def_ 42 (d := dd_omayP)
  have FX_ogo : ∃ fd, FunD K "go" "Raw.go" (defArgs s_ogo) (defBody s_ogo) (defScope s_ogo) ([] : List V) ([] : List (Str × V)) (He.fAd K ("OutEnd", some "go")) fd := c.def_ 43 (d := dd_ogo)
  have FX_ocut : ∃ fd, FunD K "cut" "Raw.cut" (defArgs s_ocut) (defBody s_ocut) (defScope s_ocut) ([] : List V) ([] : List (Str × V)) (He.fAd K ("OutEnd", some "cut")) fd := c.def_ 44 (d := dd_ocut)
  have FX_oplace : ∃ fd, FunD K "place" "Raw.place" (defArgs s_oplace) (defBody s_oplace) (defScope s_oplace) ([] : List V) ([] : List (Str × V)) (He.fAd K ("OutEnd", some "place")) fd := c.def_ 45 (d := dd_oplace)
  have FX_osize : ∃ fd, FunD K "size" "Raw.size" (defArgs s_osize) (defBody s_osize) (defScope s_osize) ([] : List V) ([] : List (Str × V)) (He.fAd K ("OutEnd", some "size")) fd := c.def_ 46 (d := dd_osize)
  have FX_oseek : ∃ fd, FunD K "check_seeks" "Raw.check_seeks" (defArgs s_oseek) (defBody s_oseek) (defScope s_oseek) ([] : List V) ([] : List (Str × V)) (He.fAd K ("OutEnd", some "check_seeks")) fd := c.def_ 47 (d := dd_oseek)
  have FX_omayC : ∃ fd, FunD K "may_cut" "Raw.may_cut" (defArgs s_omayC) (defBody s_omayC) (defScope s_omayC) ([] : List V) ([] : List (Str × V)) (He.fAd K ("OutEnd", some "may_cut")) fd := c.def_ 48 (d := dd_omayC)
  have FX_osk : ∃ fd, FunD K "seeks" "Raw.seeks" (defArgs s_osk) (defBody s_osk) (defScope s_osk) ([] : List V) ([] : List (Str × V)) (He.fAd K ("OutEnd", some "seeks")) fd := c.def_ 49 (d := dd_osk)
  have FX_pool : ∃ fd, FunD K "_law_pool" "_law_pool" (defArgs s_pool) (defBody s_pool) (defScope s_pool) ([] : List V) ([] : List (Str × V)) (He.fAd K ("_law_pool", none)) fd := c.def_ 50 (d := dd_pool)
  have FX_take : ∃ fd, FunD K "_law_take" "_law_take" (defArgs s_take) (defBody s_take) (defScope s_take) ([] : List V) ([] : List (Str × V)) (He.fAd K ("_law_take", none)) fd := c.def_ 51 (d := dd_take)
  have FX_lrow : ∃ fd, FunD K "_law_row" "_law_row" (defArgs s_lrow) (defBody s_lrow) (defScope s_lrow) ([] : List V) ([] : List (Str × V)) (He.fAd K ("_law_row", none)) fd := c.def_ 52 (d := dd_lrow)
  have FX_lrefusal : ∃ fd, FunD K "_law_refusal" "_law_refusal" (defArgs s_lrefusal) (defBody s_lrefusal) (defScope s_lrefusal) ([] : List V) ([] : List (Str × V)) (He.fAd K ("_law_refusal", none)) fd := c.def_ 53 (d := dd_lrefusal)
  have FX_ltried : ∃ fd, FunD K "_law_tried" "_law_tried" (defArgs s_ltried) (defBody s_ltried) (defScope s_ltried) ([] : List V) ([] : List (Str × V)) (He.fAd K ("_law_tried", none)) fd := c.def_ 54 (d := dd_ltried)
  have FX_lbad : ∃ fd, FunD K "_law_bad_room" "_law_bad_room" (defArgs s_lbad) (defBody s_lbad) (defScope s_lbad) ([] : List V) ([] : List (Str × V)) (He.fAd K ("_law_bad_room", none)) fd := c.def_ 55 (d := dd_lbad)
  have FX_ldue : ∃ fd, FunD K "_law_due" "_law_due" (defArgs s_ldue) (defBody s_ldue) (defScope s_ldue) ([] : List V) ([] : List (Str × V)) (He.fAd K ("_law_due", none)) fd := c.def_ 56 (d := dd_ldue)
  have FX_lasked : ∃ fd, FunD K "_law_asked" "_law_asked" (defArgs s_lasked) (defBody s_lasked) (defScope s_lasked) ([] : List V) ([] : List (Str × V)) (He.fAd K ("_law_asked", none)) fd := c.def_ 57 (d := dd_lasked)
  have FX_law : ∃ fd, FunD K "law" "law" (defArgs s_law) (defBody s_law) (defScope s_law) ([] : List V) ([] : List (Str × V)) (He.fAd K ("law", none)) fd := c.def_ 58 (d := dd_law)
  have UX_osup : ∃ fd, Sip.SupF K (He.ga K "OutEnd") "shut" "OutEnd.shut" (defArgs s_osup) (defBody s_osup) (defScope s_osup) (He.fAd K ("OutEnd", some "shut")) fd (Sip.supC K ("OutEnd", some "shut")) (Sip.supK K ("OutEnd", some "shut")) supFl := Sip.supF_of (d := dd_osup) (c0.sup 0) sB_osup
  exact all_mk X G hfa qa_IntoEnd qa_OutEnd qa_Pipe qa_Raw rd_Raw ga_Raw qa_SipError qa_Fault qa_Closed qa_NoSeek qa_NoReads qa_NoWrites qa_BadRoom sb_SipError sh_SipError st_SipError jc_Closed jt_Closed jc_NoSeek jt_NoSeek jc_NoReads jt_NoReads jc_NoWrites jt_NoWrites jc_Fault jt_Fault jc_SipError jt_SipError qx_Closed qk_Closed qb_Closed qt_Closed qx_NoSeek qk_NoSeek qb_NoSeek qt_NoSeek qx_NoReads qk_NoReads qb_NoReads qt_NoReads qx_NoWrites qk_NoWrites qb_NoWrites qt_NoWrites qx_BadRoom qk_BadRoom qb_BadRoom qt_BadRoom hb_Fault hh_Fault hy_Fault hs_Fault_Fault hs_Closed_Fault hs_NoSeek_Fault hs_NoReads_Fault hs_NoWrites_Fault hs_BadRoom_Fault hb_SipError hh_SipError hy_SipError hs_Fault_SipError hs_Closed_SipError hs_NoSeek_SipError hs_NoReads_SipError hs_NoWrites_SipError hs_BadRoom_SipError hb_BadRoom hh_BadRoom hy_BadRoom hs_Fault_BadRoom hs_Closed_BadRoom hs_NoSeek_BadRoom hs_NoReads_BadRoom hs_NoWrites_BadRoom hs_BadRoom_BadRoom ex_Closed hg_Closed hk_Closed hd_Closed ha_Closed hn_Closed ht_Closed hm_Closed sv_Closed se_Closed ss_Closed su_Closed_NoSeek su_Closed_NoReads su_Closed_NoWrites su_Closed_Fault ex_NoSeek hg_NoSeek hk_NoSeek hd_NoSeek ha_NoSeek hn_NoSeek ht_NoSeek hm_NoSeek sv_NoSeek se_NoSeek ss_NoSeek su_NoSeek_Closed su_NoSeek_NoReads su_NoSeek_NoWrites su_NoSeek_Fault ex_NoReads hg_NoReads hk_NoReads hd_NoReads ha_NoReads hn_NoReads ht_NoReads hm_NoReads sv_NoReads se_NoReads ss_NoReads su_NoReads_Closed su_NoReads_NoSeek su_NoReads_NoWrites su_NoReads_Fault ex_NoWrites hg_NoWrites hk_NoWrites hd_NoWrites ha_NoWrites hn_NoWrites ht_NoWrites hm_NoWrites sv_NoWrites se_NoWrites ss_NoWrites su_NoWrites_Closed su_NoWrites_NoSeek su_NoWrites_NoReads su_NoWrites_Fault ex_BadRoom hg_BadRoom hk_BadRoom hd_BadRoom ha_BadRoom hn_BadRoom ht_BadRoom hm_BadRoom sv_BadRoom se_BadRoom ss_BadRoom su_BadRoom_Closed su_BadRoom_NoSeek su_BadRoom_NoReads su_BadRoom_NoWrites su_BadRoom_Fault xo_Fault sa_Fault ex_Fault ty_Fault kx_Fault hg_Fault hk_Fault hd_Fault ha_Fault hn_Fault ht_Fault hm_Fault no_Fault ss_Fault se_Fault no2_Fault sv_Fault su_Fault_Closed su_Fault_NoSeek su_Fault_NoReads su_Fault_NoWrites a_whole FX_whole a_croom FX_croom a_ocopy FX_ocopy a_rinit i_rinit cv_rinit FX_rinit a_iinit i_iinit FX_iinit a_oinit i_oinit FX_oinit a_pinit i_pinit FX_pinit a_pinto i_pinto FX_pinto a_pout i_pout FX_pout a_pheld i_pheld FX_pheld a_play i_play FX_play a_plift i_plift FX_plift a_iaccept i_iaccept FX_iaccept a_ogive i_ogive FX_ogive a_iput i_iput FX_iput a_iopen i_iopen FX_iopen a_imay i_imay FX_imay a_inote i_inote FX_inote a_ishut i_ishut FX_ishut a_ilog i_ilog FX_ilog a_ilogb i_ilogb FX_ilogb a_otake i_otake FX_otake a_oopen i_oopen FX_oopen a_omay i_omay FX_omay a_onote i_onote FX_onote a_oshut i_oshut FX_oshut a_olog i_olog FX_olog a_ologb i_ologb FX_ologb a_iFault i_iFault FX_iFault a_rshut i_rshut cv_rshut FX_rshut a_pdrop i_pdrop FX_pdrop a_osup i_osup sB_osup u0_osup u1_osup u2_osup u3_osup u4_osup u5_osup UX_osup a_ibar i_ibar FX_ibar a_itake i_itake FX_itake a_imayT i_imayT FX_imayT a_igo i_igo FX_igo a_icut i_icut FX_icut a_iplace i_iplace FX_iplace a_isize i_isize FX_isize a_iseek i_iseek FX_iseek a_imayC i_imayC FX_imayC a_isk i_isk FX_isk a_oput i_oput FX_oput a_omayP i_omayP FX_omayP a_ogo i_ogo FX_ogo a_ocut i_ocut FX_ocut a_oplace i_oplace FX_oplace a_osize i_osize FX_osize a_oseek i_oseek FX_oseek a_omayC i_omayC FX_omayC a_osk i_osk FX_osk a_pool FX_pool a_take FX_take a_lrow FX_lrow a_lrefusal FX_lrefusal a_ltried FX_ltried a_lbad FX_lbad a_ldue FX_ldue a_lasked FX_lasked a_law FX_law pg_IntoEnd hd_IntoEnd po_IntoEnd sa_IntoEnd mk_IntoEnd kc_IntoEnd n_IntoEnd_can_seek n_IntoEnd_spot n_IntoEnd_barred n_IntoEnd_notes n_IntoEnd_pipe pg_OutEnd hd_OutEnd po_OutEnd sa_OutEnd mk_OutEnd kc_OutEnd n_OutEnd_can_seek n_OutEnd_spot n_OutEnd_barred n_OutEnd_notes n_OutEnd_pipe pg_Pipe hd_Pipe po_Pipe sa_Pipe mk_Pipe kc_Pipe n_Pipe_room n_Pipe_within n_Pipe_into_end n_Pipe_out_end cq_ROOM cq_GREATEST_ROOM cq_BROKEN z_list z_len z_range z_max z_min z_isinstance z_int z_bool z_super z_ValueError
instance : Sip.SupProg (PySem.W.OpenLaw.prog PySem.Challenge.rw_sipstack_k13_pipe_room_and_ends) supFl := ⟨by first | rfl | kernel_rfl, by first | rfl | kernel_rfl⟩
end Sip
open PySem PySem.W PySem.Calls PyProof.Rows
set_option maxHeartbeats 0 in
theorem PySem.Challenge.cw_sipstack_k13_pipe_room_and_ends_holds : PySem.Challenge.rw_sipstack_k13_pipe_room_and_ends.Holds := by
  w_on; o_law
  refine HandSHeadRun.head_any (r := OpenLaw.row PySem.Challenge.rw_sipstack_k13_pipe_room_and_ends) (q := view (OpenLaw.row PySem.Challenge.rw_sipstack_k13_pipe_room_and_ends).prog [33]) (H := Sip.hdK) (ob := Sip.hdO) (M := 60000) (loose := Sip.hdN) (d := HandSHeadRun.topDef (OpenLaw.row PySem.Challenge.rw_sipstack_k13_pipe_room_and_ends).prog 33) (kwd := []) Sip.hdO_eq
    (by kernel_rfl) (fun s => by kernel_rfl) Sip.hdRun (by kernel_rfl) (by kernel_rfl) (by kernel_rfl) (by rfl) (by first | assumption | decide +kernel) (by decide +kernel) ⟨rfl, rfl, rfl, rfl, rfl, by decide +kernel⟩ ?hw ?hc
  case hw => w_witness2
  case hc =>
    refine L2.walk_ofE (l := PySem.Challenge.rw_sipstack_k13_pipe_room_and_ends) (n := 63) (k := 12) (x := "_law_script") (CX := L2.CX0) rfl (by decide) (by kernel_rfl) ⟨rfl, by decide, by decide⟩ ?F (fun _ _ _ _ z => z)
    intro w mg fa h Y G hmg0
    obtain ⟨K, KX, c⟩ := Y
    have hmg : mg ("law" : PySem.Str) = some (.ref fa) := by
      have e : (HandSHeadRun.topDef (OpenLaw.row PySem.Challenge.rw_sipstack_k13_pipe_room_and_ends).prog 33).name = ("law" : PySem.Str) := by kernel_rfl
      rw [← e]
      exact hmg0
    obtain ⟨fd, hb, hF⟩ := Sip.all_of (l := PySem.Challenge.rw_sipstack_k13_pipe_room_and_ends) (w := w) KX G hmg c
    exact ⟨K, fd, Sip.spLaw K, KX, hb, fun H a ns hl _ hS => ⟨a, ns, rfl, hS, hl, fun _ => rfl⟩, hF⟩
