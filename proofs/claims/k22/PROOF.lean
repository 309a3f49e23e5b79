import PyProof.Rows.All
import Wide.All
import OpenK.AllK
import Wide.FinOn
import HandS.List
import HandS.Codes
import HandS.Comp
import HandS.Iter
import HandS.Ends
import HandS.Text
import HandS.Words
import HandS.WordsList
import HandS.Wide
import HandS.IsInst
import HandS.FStr
import PyProof.FString3
import PyProof.Rows.StrIntSpec
import HandS.Walk
import HandS.Exc
import HandS.ExcOwn
import HandS.ExcIs
import HandS.WordsExc
import HandS.StrMore
import HandS.Defaults
import HandS.MakeKwOnly
import PyProof.ReprRoads
import PyProof.ReprLen
import HandS.Flow
import HandS.ExcInit
import KE.KExcIs
import HandS.TryMany
import HandS.Deep
import HandS.More
import PySem.Challenge.RW_sipstack_k22_plain_refused
set_option Elab.async false
set_option linter.all false
set_option maxRecDepth 100000
namespace Sip
open PySem PySem.Spec PyProof.Rows L2

/-! a slice of step one in a list, laid over by another list; its end may lie behind the list's end -/
theorem clamp {a c n : Nat} (h1 : a ≤ c) (h2 : a ≤ n) :
    sliceBounds (some (a : Int)) (some (c : Int)) none n = ((a : Int), ((min c n : Nat) : Int), 1) := by
  have n1 : ¬ ((a : Int) < 0) := by omega
  have n2 : ¬ ((c : Int) < 0) := by omega
  simp only [sliceBounds, Option.getD_none, n1, n2, if_false, show (1 : Int) > 0 from by decide, if_true]
  refine Prod.ext ?_ (Prod.ext ?_ rfl)
  · show max 0 (min (a : Int) (n : Int)) = (a : Int)
    omega
  · show max 0 (min (c : Int) (n : Int)) = ((min c n : Nat) : Int)
    omega

section
variable {pr : Program} {wd : World} {ar : Around} {er : Value → Shared → Prop} {s : Shared}
set_option maxHeartbeats 4000000 in
theorem put_slice {l b z : Addr} {old new : Array Value} {m m2 a c : Nat} {vl vu : Value} {Q : Unit → Shared → Prop}
    (eo : s.heap.get? l = some { cls := .type "list", data := .seq old m })
    (en : s.heap.get? b = some { cls := .type "list", data := .seq new m2 }) (ne : l ≠ b)
    (hz : s.heap.IsSliceOf z vl vu .none) (pl : IsPart vl (some (a : Int))) (pu : IsPart vu (some (c : Int)))
    (ac : a ≤ c) (an : a ≤ old.size) (fit : old.size + new.size ≤ sizeLine)
    (k : Q () { s with heap := s.heap.update l (Obj.mapSeq fun t => t.extract 0 a ++ new ++ t.extract (min c old.size) t.size) }) :
    wpAny (model pr wd) ar (setItem (.ref l) (.ref z) (.ref b)) Q er s := by
  by_cases hc : c ≤ old.size
  · rw [Nat.min_eq_left hc] at k
    exact setItem_slice eo en ne hz pl pu ac hc fit k
  · have lo : s.heap.IsList l old := PySem.IsL.isList eo
    have ln : s.heap.IsList b new := PySem.IsL.isList en
    obtain ⟨oz, gz, cz, dz⟩ := id hz
    have tz : s.TypeIs (.ref z) "slice" := ⟨oz, gz, cz⟩
    have apart : Builtin.List.listSameRef (.ref l) (.ref b) = false := by
      unfold Builtin.List.listSameRef; exact beq_eq_false_iff_ne.mpr ne
    have zz : ((fun t : Array Value => t.extract 0 a ++ new ++ t.extract (min c old.size) t.size) old).size ≤ sizeLine + 1 := by
      simp only [Array.size_append, Array.size_extract]; omega
    have bd := clamp ac an
    have mx : (max (a : Int) ((min c old.size : Nat) : Int)).toNat = min c old.size := by omega
    unfold setItem
    try (with_reducible refine wpAny_holding ?_)
    try refine wpAny_bind (wpAny_pure ?_)
    refine wpAny_bind (wpAny_sequenceKey lo.typeIs (by decide) (wpAny_bind ?_))
    refine wpAny_callSpecial?_slot (name := Str.ofString "__setitem__") lo.typeIs slot_list_setitem ?_
    refine wpAny_call_entry slot_list_setitem lo.typeIs entry_list_setitem ?_ (args_list_setitem _ _ _)
    show wpAny _ _ (Builtin.List.listSubscript? (.ref z) >>= _) _ _ s
    refine wpAny_bind ?_
    unfold Builtin.List.listSubscript?
    refine wpAny_bind (wpAny_specialOf tz slice_no_index ?_)
    simp only [Option.isNone_none, if_true]
    refine wpAny_pure ?_
    show wpAny _ _ (typeOf (.ref z) >>= _) _ _ s
    refine wpAny_bind (wpAny_typeOf tz ?_)
    first
      | rw [if_neg (by decide)]
      | refine PySem.W.KFB.if_not (by decide) ?_
    rw [listSliceParts_eq]
    refine wpAny_bind (wpAny_bind (wpAny_field gz dz (x := .none) rfl (wpAny_bind (wpAny_listPart .none ?_))))
    rw [if_neg (show ¬ ((rawPart none == rawInt 0) = true) from Bool.false_ne_true)]
    refine wpAny_bind (wpAny_field gz dz (x := vl) rfl (wpAny_bind (wpAny_listPart pl ?_)))
    refine wpAny_bind (wpAny_field gz dz (x := vu) rfl (wpAny_bind (wpAny_listPart pu (wpAny_pure ?_))))
    first
      | simp only [apart, Bool.false_eq_true, if_false]
      | refine PySem.W.KFB.if_not apart ?_
    refine wpAny_bind ?_
    unfold Builtin.List.listAllItems
    refine wpAny_bind (wpAny_typeOf ln.typeIs ?_)
    first
      | refine PySem.W.KFB.if_so (by decide) ?_
      | rw [if_pos (by decide)]
    unfold Builtin.List.listItems
    refine wpAny_bind (wpAny_seqItems en rfl (wpAny_pure (wpAny_bind (wpAny_bind (wpAny_seqItems eo rfl (wpAny_pure ?_))))))
    have si := (sliceIndices_raw (some (a : Int)) (some (c : Int)) none old.size (by simp)).trans (congrArg (pure : Int × Int × Int → Sem (Int × Int × Int)) bd)
    refine wpAny_bind (wpAny_of_eq si ?_)
    show wpAny _ _ (if ((1 : Int) == 1) = true then _ else _) _ _ s
    rw [if_pos (by decide)]
    refine wpAny_bind (wpAny_rule ?_)
    first
      | simp only [notLongL fit, Bool.false_eq_true, if_false]
      | refine PySem.W.KFB.if_not (notLongL fit) ?_
    try refine wpAny_bind (wpAny_pure ?_)
    show wpAny _ _ (updateSeq l (fun t => t.extract 0 ((a : Int)).toNat ++ new ++ t.extract (max (a : Int) ((min c old.size : Nat) : Int)).toNat t.size) >>= _) _ _ s
    rw [mx, Int.toNat_natCast]
    refine wpAny_bind (wpAny_updateSeq (hz := Nat.le_trans (Nat.le_add_right _ _) fit) (_hz' := zz) eo rfl (wpAny_bind (wpAny_letGo ?_)))
    first
      | exact wpAny_bind (wpAny_pure (wpAny_pure ⟨.none, rfl, wpAny_pure k⟩))
      | exact wpAny_pure ⟨.none, rfl, wpAny_pure k⟩
end

section
variable {X : Cx}
theorem splice (xs ys : List Value) (a c : Nat) : xs.toArray.extract 0 a ++ ys.toArray ++ xs.toArray.extract (min c xs.toArray.size) xs.toArray.size = (xs.take a ++ ys ++ xs.drop c).toArray := by
  rw [splice_eq]
  congr 1
  by_cases h : c ≤ xs.length
  · rw [List.size_toArray, Nat.min_eq_left h]
  · rw [List.size_toArray, Nat.min_eq_right (by omega), List.drop_length, List.drop_of_length_le (by omega)]

/-- o[lo:hi] = v, both given, v another list -/
def gCut (to : TE) (tl th : TO) : TG := fun v σ H Q => to σ H fun o H1 => tl σ H1 fun lo H2 => th σ H2 fun hi H3 =>
  ∃ p q xs ys a c, o = .ref p ∧ v = .ref q ∧ lo = some a ∧ hi = some c ∧ H3 p = some (.lst xs) ∧ H3 q = some (.lst ys) ∧ p ≠ q ∧
    0 ≤ a ∧ a ≤ c ∧ a ≤ xs.length ∧ xs.length + ys.length ≤ sizeLine ∧ Q σ (upd H3 p (.lst (xs.take a.toNat ++ ys ++ xs.drop c.toNat)))

theorem pg_cut {o : Expr} {lo hi : Option Expr} {to : TE} {tl th : TO} {p2 pos : Pos} (ho : PE X o to) (hl : PO X lo tl) (hh : PO X hi th)
    (ha : ∀ v, assign (.Subscript o (.Slice lo hi none p2) pos) X.env v = (do
      let ov ← holding [v] (eval o X.env)
      let iv ← holding [v, ov] (eval (.Slice lo hi none p2) X.env)
      standAt pos
      holding [v, ov, iv] (setItem ov iv v)
      release [iv, v, ov] []) := by intro _; rfl) : PG X (.Subscript o (.Slice lo hi none p2) pos) (gCut to tl th) := by
  refine ⟨fun pins s σ H v u Q I r h => ?_⟩
  rw [ha]
  refine wpAny_bind (wpAny_holding (thn (ho.run pins s σ H _ I h) fun ov s1 ⟨x, H1, I1, r1, q1⟩ => wpAny_bind (wpAny_holding ?_)))
  refine wpAny_Slice (thn (hl.run pins s1 σ H1 _ I1 q1) fun wl s2 ⟨l, H2, I2, pl, q2⟩ => ?_)
  refine thn (hh.run pins s2 σ H2 _ I2 q2) fun wu s3 ⟨uu, H3, I3, pu, q3⟩ => ?_
  rw [evalPart_none]
  refine wpAny_pure ?_
  obtain ⟨p, q, xs, ys, a, c, rfl, rfl, rfl, rfl, hp, hq, pq, a0, ac, ax, fit, fin⟩ := q3
  cases r1
  cases r
  have I4 : Inv X pins σ H3 { s3 with heap := s3.heap.push { cls := .type "slice", data := .fields #[wl, wu, .none] } } := I3.kept (t' := s3.toks) fun b ob e => Heap.get?_push_of_some _ e
  refine wpAny_bind (wpAny_standAt (wpAny_bind (wpAny_holding ?_)))
  obtain ⟨z1, us1, n1, rv1, _, e1⟩ := I4.lstM hp
  obtain ⟨z2, us2, n2, rv2, _, e2⟩ := I4.lstM hq
  obtain ⟨a', rfl⟩ := Int.eq_ofNat_of_zero_le a0
  obtain ⟨c', rfl⟩ := Int.eq_ofNat_of_zero_le (Int.le_trans a0 ac)
  simp only [Int.toNat_natCast] at fin
  have L1 := rv1.length
  have L2' := rv2.length
  refine put_slice (a := a') (c := c') e1 e2 pq (Heap.IsSliceOf.new ..) pl pu (by omega) (by rw [List.size_toArray]; omega) (by rw [List.size_toArray, List.size_toArray]; omega) ?_
  refine wpAny_release ⟨σ, _, ?_, fin⟩
  refine I4.lset (its' := us1.take a' ++ us2 ++ us1.drop c') (t' := s3.toks) hp e1 (splice us1 us2 a' c') (Vals.append (Vals.append (rv1.take _) rv2) (rv1.drop _)) ?_
  rw [List.length_append, List.length_append, List.length_take, List.length_drop]
  omega
end
end Sip
namespace Sip
open PySem PySem.Spec PyProof.Rows L2

/-- a def of the text: where it stands, how it is called -/
structure Df (K : PySem.W.Frag) (mg : Str → Option Value) (x : Str) (st : Stmt) (ps : List Str) (f : Addr) (fd : FuncData) : Prop where
  F : Fun K x x st f fd
  b : Binds K fd ps []
  g : mg x = some (.ref f)

/-! heaps: all that was tracked stands, but at the places ps -/
def Kp (ps : List Addr) (H H' : Hp) : Prop := ∀ b o, b ∉ ps → H b = some o → H' b = some o
theorem Kp.refl (ps : List Addr) (H : Hp) : Kp ps H H := fun _ _ _ h => h
theorem Kp.trans {ps : List Addr} {H H1 H2 : Hp} (a : Kp ps H H1) (b : Kp ps H1 H2) : Kp ps H H2 := fun c o n h => b c o n (a c o n h)
theorem Kp.wide {ps qs : List Addr} {H H1 : Hp} (a : Kp ps H H1) (h : ∀ x ∈ ps, x ∈ qs) : Kp qs H H1 := fun c o n e => a c o (fun z => n (h c z)) e
theorem Kp.same {H H1 : Hp} (a : Kp [] H H1) : Same H H1 := fun c o e => a c o (fun h => nomatch h) e
theorem Kp.of {ps : List Addr} {H H1 : Hp} (a : Same H H1) : Kp ps H H1 := fun c o _ e => a c o e
theorem Kp.at {ps : List Addr} {H : Hp} {p : Addr} {o : HO} (h : p ∈ ps) : Kp ps H (upd H p o) := fun b x n e => by
  have hb : b ≠ p := fun z => n (by rw [z]; exact h)
  rw [upd_ne hb]; exact e
theorem Kp.new {ps : List Addr} {H : Hp} {p : Addr} {o : HO} (h : H p = none) : Kp ps H (upd H p o) := fun b x n e => by
  rw [upd_ne (ne_of_none e h)]; exact e
/-- a place that was new at H is written later -/
theorem Kp.put {ps : List Addr} {H H1 : Hp} {p : Addr} {o : HO} (k : Kp ps H H1) (h : H p = none) : Kp ps H (upd H1 p o) := fun b x n e => by
  rw [upd_ne (ne_of_none e h)]; exact k b x n e
theorem Kp.seq {ps : List Addr} {K : PySem.W.Frag} {H H1 : Hp} {a : Addr} {xs : List V} (k : Kp ps H H1) (n : a ∉ ps) (h : SqL K H a xs) : SqL K H1 a xs := by
  rcases h with (h | ⟨o, h⟩) | h
  · exact .inl (.inl (k _ _ n h))
  · exact .inl (.inr ⟨o, k _ _ n h⟩)
  · exact .inr h
theorem Kp.free {H H1 : Hp} {ps : List Addr} (k : Kp ps H H1) {q : Addr} (n : q ∉ ps) (h : H1 q = none) : H q = none := by
  cases e : H q with
  | none => rfl
  | some o => rw [k q o n e] at h; cases h
theorem sq_new {K : PySem.W.Frag} {H : Hp} {p : Addr} {xs : List V} : SqL K (upd H p (.lst xs)) p xs := .inl (.inl upd_same)
theorem sq_at {K : PySem.W.Frag} {H : Hp} {p : Addr} {xs : List V} (h : H p = some (.lst xs)) : SqL K H p xs := .inl (.inl h)
theorem upd_upd {H : Hp} {p : Addr} {a b : HO} : upd (upd H p a) p b = upd H p b := by
  funext x
  by_cases h : x = p
  · subst h; rw [upd_same, upd_same]
  · rw [upd_ne h, upd_ne h, upd_ne h]

/-! the law's own draws: a pool is a list of three ints -/
def PoolO (n : Int) (o : HO) : Prop := ∃ d c x : Int, o = .lst [.int d, .int c, .int x] ∧ 0 ≤ d ∧ 0 ≤ c ∧ c ≤ n
theorem PoolO.up {n m : Int} {o : HO} (h : PoolO n o) (l : n ≤ m) : PoolO m o := by
  obtain ⟨d, c, x, e, h1, h2, h3⟩ := h
  exact ⟨d, c, x, e, h1, h2, by omega⟩
def spTake : Sp := fun vs H Q _ => ∃ (p : Addr) (n wide : Int) (o : HO), vs = [.ref p, .int wide] ∧ H p = some o ∧ PoolO n o ∧ n ≤ 1000000000 ∧ 0 < wide ∧ wide < 1073741824 ∧
  ∀ (r : Int) (o' : HO), 0 ≤ r → r < wide → PoolO (n + 1) o' → Q (.int r) (upd H p o')
def spPool (K : PySem.W.Frag) : Sp := fun vs H Q _ => ∃ (a : Addr) (ns : List Int) (i : Int), vs = [.ref a, .int i] ∧ SqL K H a (ns.map V.int) ∧ ns.length ≤ 63 ∧ 0 ≤ i ∧ i ≤ 1000 ∧
  ∀ (p : Addr) (o : HO), H p = none → PoolO (1000 * i) o → Q (.ref p) (upd H p o)

/-! lists of ints -/
theorem atI_int {ms : List Int} {i : Int} (h0 : 0 ≤ i) (h1 : i < ms.length) : ∃ m, m ∈ ms ∧ atI (ms.map V.int) i = some (.int m) ∧ ms[i.toNat]? = some m := by
  obtain ⟨j, rfl⟩ := Int.eq_ofNat_of_zero_le h0
  have hj : j < ms.length := by omega
  refine ⟨ms[j], List.getElem_mem hj, atI_nat ?_, by rw [Int.toNat_natCast, List.getElem?_eq_getElem hj]⟩
  rw [List.getElem?_map, List.getElem?_eq_getElem hj]; rfl
theorem atI_intV {ms : List Int} {i : Int} (h0 : 0 ≤ i) (h1 : i < ms.length) : atI (ms.map V.int) i = some (.int (ms.getD i.toNat 0)) := by
  obtain ⟨m, _, e, g⟩ := atI_int h0 h1
  rw [e, List.getD_eq_getElem?_getD, g]; rfl
theorem dp_ints {K : PySem.W.Frag} {H : Hp} : ∀ ns : List Int, DpAll K H (ns.map V.int) (ns.map PyData.int)
  | [] => .nil
  | n :: r => .cons (.int n) (dp_ints r)
theorem dp_lst {K : PySem.W.Frag} {H : Hp} {a : Addr} {ns : List Int} (h : SqL K H a (ns.map V.int)) : Dp K H (.ref a) (.list (ns.map PyData.int)) := .lst h (dp_ints ns)
section
variable {X : Cx}
/-- == and != of two lists of ints -/
def rEqI (K : PySem.W.Frag) : R2 := fun x y H Q => ∃ (a b : Addr) (ns ms : List Int), x = .ref a ∧ y = .ref b ∧ SqL K H a (ns.map V.int) ∧ SqL K H b (ms.map V.int) ∧ Q (.bl (decide (ns = ms))) H
def rNeI (K : PySem.W.Frag) : R2 := fun x y H Q => ∃ (a b : Addr) (ns ms : List Int), x = .ref a ∧ y = .ref b ∧ SqL K H a (ns.map V.int) ∧ SqL K H b (ms.map V.int) ∧ Q (.bl (!decide (ns = ms))) H
theorem op_eqI (hu : X.A.units + 64 < cLine) : OpR X (compareOp .Eq) (rEqI X.K) := by
  intro pins s σ H x y v u Q I rx ry h
  obtain ⟨a, b, ns, ms, rfl, rfl, ha, hb, q⟩ := h
  cases rx; cases ry
  obtain ⟨us, rv, hl, _⟩ := I.list ha
  obtain ⟨ws, rw', hl', _⟩ := I.list hb
  exact PySem.W.eq_intsK hl.isList rv.ints hl'.isList rw'.ints hu ⟨.bl (decide (ns = ms)), H, I, rfl, q⟩
theorem op_neI (hu : X.A.units + 64 < cLine) : OpR X (compareOp .NotEq) (rNeI X.K) := by
  intro pins s σ H x y v u Q I rx ry h
  obtain ⟨a, b, ns, ms, rfl, rfl, ha, hb, q⟩ := h
  cases rx; cases ry
  obtain ⟨us, rv, hl, _⟩ := I.list ha
  obtain ⟨ws, rw', hl', _⟩ := I.list hb
  exact PySem.W.ne_intsK hl.isList rv.ints hl'.isList rw'.ints hu ⟨.bl (!decide (ns = ms)), H, I, rfl, q⟩
end
/-! a row laid over another one -/
def laidF (r : List Int) (n : Nat) (d : List Int) : List Int :=
  if d = [] then r else (r ++ List.replicate (n - r.length) 0).take n ++ d ++ (r ++ List.replicate (n - r.length) 0).drop (n + d.length)
theorem laidF_nil (r : List Int) (n : Nat) : laidF r n [] = r := if_pos rfl
theorem laidF_cons {r : List Int} {n : Nat} {d : List Int} (h : d ≠ []) : laidF r n d = (r ++ List.replicate (n - r.length) 0).take n ++ d ++ (r ++ List.replicate (n - r.length) 0).drop (n + d.length) := if_neg h
theorem laidF_length {r : List Int} {n : Nat} {d : List Int} (h : d ≠ []) : (laidF r n d).length = max r.length (n + d.length) := by
  rw [laidF_cons h, List.length_append, List.length_append, List.length_take, List.length_drop, List.length_append, List.length_replicate]
  omega
theorem pad_get (r : List Int) (m i : Nat) : (r ++ List.replicate m 0)[i]?.getD 0 = r.getD i 0 := by
  rw [List.getD_eq_getElem?_getD]
  by_cases h : i < r.length
  · rw [List.getElem?_append_left h]
  · rw [List.getElem?_append_right (by omega), List.getElem?_eq_none (l := r) (by omega)]
    by_cases h2 : i - r.length < m
    · rw [List.getElem?_replicate, if_pos h2]; rfl
    · rw [List.getElem?_eq_none (by rw [List.length_replicate]; omega)]
theorem laidF_getD {r : List Int} {n : Nat} {d : List Int} (h : d ≠ []) (i : Nat) : (laidF r n d)[i]?.getD 0 = if n ≤ i ∧ i < n + d.length then d.getD (i - n) 0 else r.getD i 0 := by
  have lt : ((r ++ List.replicate (n - r.length) 0).take n).length = n := by
    rw [List.length_take, List.length_append, List.length_replicate]; omega
  rw [laidF_cons h, List.append_assoc]
  by_cases h1 : i < n
  · rw [if_neg (by omega), List.getElem?_append_left (by rw [lt]; exact h1), List.getElem?_take_of_lt h1]
    exact pad_get r _ i
  · rw [List.getElem?_append_right (by rw [lt]; omega), lt]
    by_cases h2 : i < n + d.length
    · rw [if_pos ⟨by omega, h2⟩, List.getElem?_append_left (by omega), List.getD_eq_getElem?_getD]
    · rw [if_neg (by omega), List.getElem?_append_right (by omega), List.getElem?_drop, ← pad_get r (n - r.length) i]
      congr 2
      omega
theorem laidF_get {r : List Int} {n : Nat} {d : List Int} {i : Nat} (h : d ≠ []) (hi : i < (laidF r n d).length) : (laidF r n d)[i]? = some (if n ≤ i ∧ i < n + d.length then d.getD (i - n) 0 else r.getD i 0) := by
  rw [← laidF_getD h i, List.getElem?_eq_getElem hi]; rfl
theorem ext_getD {xs ys : List Int} (hl : xs.length = ys.length) (h : ∀ i, i < xs.length → xs[i]?.getD 0 = ys[i]?.getD 0) : xs = ys := by
  apply List.ext_getElem hl
  intro i h1 h2
  have := h i h1
  rw [List.getElem?_eq_getElem h1, List.getElem?_eq_getElem h2] at this
  exact this
/-- laid over once more: the same -/
theorem laidF_twice (r : List Int) (n : Nat) (d : List Int) : laidF (laidF r n d) n d = laidF r n d := by
  by_cases h : d = []
  · subst h; rw [laidF_nil, laidF_nil]
  · have l1 := laidF_length (r := r) (n := n) h
    have l2 := laidF_length (r := laidF r n d) (n := n) h
    refine ext_getD (by omega) fun i hi => ?_
    rw [laidF_getD h, laidF_getD h]
    split
    · rfl
    · next c => rw [List.getD_eq_getElem?_getD, laidF_getD h, if_neg c]
theorem flat_rep (m : Nat) (v : V) : (List.replicate m [v]).flatten = List.replicate m v := by
  induction m with
  | zero => rfl
  | succ m ih => rw [List.replicate_succ, List.flatten_cons, ih, List.replicate_succ]; rfl
theorem all_true (n : Nat) : (List.replicate n true).all id = true := by
  rw [List.all_eq_true]
  intro x hx
  exact (List.mem_replicate.mp hx).2
def spBytes : Sp := fun vs H Q _ => ∃ (p : Addr) (n : Int) (o : HO), vs = [.ref p] ∧ H p = some o ∧ PoolO n o ∧ n ≤ 900000000 ∧
  ∀ (H' : Hp) (q : Addr) (bs : List Int) (o' : HO), H q = none → H' q = some (.lst (bs.map V.int)) → H' p = some o' → PoolO (n + 1000) o' → Kp [p] H H' → bs.length ≤ 400 → (∀ b ∈ bs, 0 ≤ b ∧ b ≤ 255) → Q (.ref q) H'
def spLaid (K : PySem.W.Frag) : Sp := fun vs H Q _ => ∃ (a b : Addr) (r : List Int) (n : Nat) (d : List Int), vs = [.ref a, .int n, .ref b] ∧ SqL K H a (r.map V.int) ∧ H b = some (.lst (d.map V.int)) ∧ r.length ≤ 10000 ∧ n ≤ 4400 ∧ d.length ≤ 4400 ∧
  ∀ (H' : Hp) (q : Addr), H q = none → H' q = some (.lst ((laidF r n d).map V.int)) → Same H H' → Q (.ref q) H'
def spDue (K : PySem.W.Frag) : Sp := fun vs H Q _ => ∃ (a b : Addr) (r : List Int) (n : Nat) (d : List Int), vs = [.ref a, .int n, .ref b] ∧ SqL K H a (r.map V.int) ∧ SqL K H b (d.map V.int) ∧ r.length ≤ 10000 ∧ n ≤ 4400 ∧ d.length ≤ 4400 ∧
  ∀ (H' : Hp) (q : Addr), H q = none → H' q = some (.lst ((laidF r n d).map V.int)) → Same H H' → Q (.ref q) H'
def spFits (K : PySem.W.Frag) : Sp := fun vs H Q _ => ∃ (a b : Addr) (xs ys : List Int), vs = [.ref a, .ref b] ∧ H a = some (.lst (xs.map V.int)) ∧ SqL K H b (ys.map V.int) ∧ xs.length ≤ 100000 ∧
  ∀ H' : Hp, Same H H' → Q (.bl (decide (xs = ys))) H'
def spLaw (K : PySem.W.Frag) : Sp := fun vs H Q _ => ∃ (a : Addr) (ns : List Int), vs = [.ref a] ∧ SqL K H a (ns.map V.int) ∧ ns.length ≤ 63 ∧ ∀ H' : Hp, Q (.bl true) H'
theorem step_same {H H1 H2 : Hp} {p : Addr} (s : Same H H1) (n : H p = none) (k : Kp [p] H1 H2) : Same H H2 := fun b o e =>
  k b o (fun z => ne_of_none e n (List.mem_singleton.mp z)) (s b o e)
theorem put_same {H H1 : Hp} {p : Addr} {o : HO} (s : Same H H1) (n : H p = none) : Same H (upd H1 p o) := fun b x e => by
  rw [upd_ne (ne_of_none e n)]; exact s b x e
theorem ixN_zero {n : Nat} (h : 0 < n) : ixN n 0 = some 0 := by
  unfold ixN
  rw [if_pos (by decide), if_pos (by omega)]; rfl
theorem laidF_le {r d : List Int} {n m : Nat} (h : r.length ≤ m ∧ n + d.length ≤ m) : (laidF r n d).length ≤ m := by
  by_cases e : d = []
  · subst e; rw [laidF_nil]; exact h.1
  · rw [laidF_length e]; omega
end Sip
namespace Sip
open PySem PySem.Spec PyProof.Rows L2 PySem.Builtin PySem.Builtin.Str PySem.Builtin.Int PySem.Builtin.Float

def figs : List Nat := [48, 49, 50, 51, 52, 53, 54, 55, 56, 57, 97, 98, 99, 100, 101, 102]
/-- two figures of sixteen -/
def two (n : Nat) : Str := ⟨#[figs.getD (n / 16) 0, figs.getD (n % 16) 0]⟩
def hexSpec : FormatSpec := { fill := 48, align := 61, width := some 2, type := some 120 }
theorem hex_parse : parseFormatSpec (Str.ofString "02x").cps.toList "int" 62 = .ok hexSpec := by kernel_rfl
theorem hex_ascii : (((Str.ofString "02x").cps.toList.drop 1).any (· ≥ 128) || ((Str.ofString "02x").cps.getD 0 0 ≥ 128 && !([60, 62, 61, 94] : List Nat).contains ((Str.ofString "02x").cps.getD 1 0))) = false := by decide +kernel
theorem hex_some : ((Str.ofString "02x").length == 0) = false := by decide +kernel
theorem hex_ex : ∃ F : Int → Str, (∀ (a : Int) (t u : Tok), Gives («int.__format__» ⟨[.int a t, .str (Str.ofString "02x") u], []⟩) (.str (F a))) ∧ ∀ b : Fin 256, F (b.val : Int) = two b.val := by
  apply Exists.intro
  apply And.intro
  · intro a t u prog w A R s hq
    unfold «int.__format__»
    simp only [selfAndOne, noKeywords, Int.intOfSelf, asInt?, asStr?, List.isEmpty_nil, if_true, pure_bind, bind_pure, bind_assoc, hex_some, hex_ascii, Bool.false_eq_true, if_false,
      show (Value.str (Str.ofString "02x") u == Value.none) = false from rfl]
    refine wpAny_bind (wpAny_typeNameOf (T := "str") (typeIs_str _ _ _) (by decide) fun _ => wpAny_bind (wpAny_typeNameOfCut_int ?_))
    simp only [hex_parse]
    refine PySem.W.KFB.if_so (by decide +kernel) ?_
    show wpAny _ _ (retStr _) _ _ _
    unfold retStr
    exact wpAny_bind (wpAny_mkStr (wpAny_pure hq.2) hq.1)
  · decide +kernel
end Sip
namespace Sip
open PySem PySem.Spec PyProof.Rows L2 TL

section
variable {X : Cx}
/-- f'{b:02x}' of a byte -/
def tHex (te : TE) : TE := fun σ H Q => te σ H fun x H1 => ∃ b : Nat, b < 256 ∧ x = .int b ∧ Q (.str (two b)) H1
theorem pe_hex {e : Expr} {te : TE} {k : Nat} {p1 p2 p3 p4 : Pos} (he : PE X e te) :
    PE X (.JoinedStr [.FormattedValue e (-1) (some (.JoinedStr [.Constant (.str (Str.ofString "02x")) k p1] p2)) p3] p4) (tHex te) := by
  have hs : PE X (.JoinedStr [.Constant (.str (Str.ofString "02x")) k p1] p2) (tC (.str (Str.ofString "02x"))) := pe_joined1 pe_str
  obtain ⟨F, g1, g2⟩ := hex_ex
  refine ⟨fun pins s σ H Q I h => wpAny_JoinedStr_one (wpAny_FormattedValue_spec (thn (he.run pins s σ H _ I h) fun v s1 ⟨x, H1, I1, r1, q1⟩ => ?_))⟩
  obtain ⟨b, hb, rfl, q⟩ := q1
  obtain ⟨t, rfl⟩ := r1
  refine thn (hs.run pins s1 σ H1 (fun y H2 => y = .str (Str.ofString "02x") ∧ H2 = H1) I1 ⟨rfl, rfl⟩) fun u s2 ⟨y, H2, I2, r2, ey, eH⟩ => ?_
  subst ey eH
  obtain ⟨t2, rfl⟩ := r2
  have e2 : F (b : Int) = two b := g2 ⟨b, hb⟩
  refine ⟨_, _, rfl, wpAny_formatField_spec (x := F (b : Int)) hex_some (fun s' => typeIs_int s' _ _) PySem.F.slot_int_format PySem.F.entry_int_format PySem.F.args_int_format_2 (fun u => g1 b t u) ?_ (by rw [sizeLine_eq]; decide +kernel) (by rw [e2, sizeLine_eq]; show (2 : Nat) ≤ _; decide)⟩
  rw [e2]
  exact ⟨.str (two b), H2, (I2.tok _).tok _, ⟨_, rfl⟩, q⟩
end

/-! the text of a row, as codes -/
def twoL (b : Int) : List Nat := [figs.getD (b.toNat / 16) 0, figs.getD (b.toNat % 16) 0]
def txL (bs : List Int) : List Nat := bs.flatMap twoL
def tx (bs : List Int) : Str := ⟨(txL bs).toArray⟩
def Bytes (bs : List Int) : Prop := ∀ b ∈ bs, 0 ≤ b ∧ b ≤ 255
theorem txL_length : ∀ bs : List Int, (txL bs).length = 2 * bs.length
  | [] => rfl
  | b :: r => by
    show (twoL b ++ txL r).length = 2 * (r.length + 1)
    rw [List.length_append, txL_length r]
    show 2 + 2 * r.length = _
    omega
theorem tx_length (bs : List Int) : (tx bs).length = 2 * bs.length := by
  show (txL bs).toArray.size = _
  rw [List.size_toArray, txL_length]
theorem txL_append (a b : List Int) : txL (a ++ b) = txL a ++ txL b := List.flatMap_append
theorem tx_append (a b : List Int) : tx (a ++ b) = tx a ++ tx b := ext_toList (by
  show (txL (a ++ b)).toArray.toList = ((txL a).toArray ++ (txL b).toArray).toList
  rw [Array.toList_append, txL_append])
/-- a figure's worth -/
def wor (c : Nat) : Nat := figs.idxOf c
theorem wor_figs : ∀ j : Fin 16, wor (figs.getD j.val 0) = j.val := by decide
theorem twoL_back {b : Int} (h : 0 ≤ b ∧ b ≤ 255) : ∃ i j : Nat, i < 16 ∧ j < 16 ∧ twoL b = [figs.getD i 0, figs.getD j 0] ∧ b = 16 * (i : Int) + j :=
  ⟨b.toNat / 16, b.toNat % 16, by omega, by omega, rfl, by omega⟩
theorem figs_inj {i j : Nat} (hi : i < 16) (hj : j < 16) (e : figs.getD i 0 = figs.getD j 0) : i = j := by
  have a : wor (figs.getD i 0) = i := wor_figs ⟨i, hi⟩
  have b : wor (figs.getD j 0) = j := wor_figs ⟨j, hj⟩
  exact a.symm.trans ((congrArg wor e).trans b)
theorem txL_inj : ∀ {a b : List Int}, Bytes a → Bytes b → txL a = txL b → a = b
  | [], [], _, _, _ => rfl
  | [], y :: r, _, _, e => by cases e
  | x :: r, [], _, _, e => by cases e
  | x :: r, y :: q, ha, hb, e => by
    obtain ⟨i, j, hi, hj, e1, e2⟩ := twoL_back (ha x (List.mem_cons_self ..))
    obtain ⟨m, n, hm, hn, e3, e4⟩ := twoL_back (hb y (List.mem_cons_self ..))
    have e5 : twoL x ++ txL r = twoL y ++ txL q := e
    rw [e1, e3] at e5
    have e6 := List.cons.inj e5
    have e7 := List.cons.inj e6.2
    have k1 := figs_inj hi hm e6.1
    have k2 := figs_inj hj hn e7.1
    have k3 := txL_inj (fun z hz => ha z (List.mem_cons_of_mem _ hz)) (fun z hz => hb z (List.mem_cons_of_mem _ hz)) e7.2
    rw [e2, e4, k1, k2, k3]
theorem tx_inj {a b : List Int} (ha : Bytes a) (hb : Bytes b) (e : tx a = tx b) : a = b := txL_inj ha hb (by
  have := congrArg (fun s : Str => s.cps.toList) e
  exact this)
theorem tx_eq {a b : List Int} (ha : Bytes a) (hb : Bytes b) : decide (V.str (tx a) = V.str (tx b)) = decide (a = b) := by
  by_cases h : a = b
  · subst h; rw [decide_eq_true rfl, decide_eq_true rfl]
  · rw [decide_eq_false h, decide_eq_false]
    intro z
    exact h (tx_inj ha hb (V.str.inj z))
/-- joined from its parts -/
theorem join_two : ∀ bs : List Int, Str.join (Str.ofString "") (bs.map fun b => two b.toNat) = tx bs := fun bs => ext_toList (by
  show tl (Str.join (Str.ofString "") _) = txL bs
  rw [tl_join]
  have e0 : tl (Str.ofString "") = [] := by decide +kernel
  rw [e0, List.map_map]
  induction bs with
  | nil => rfl
  | cons b r ih =>
    cases r with
    | nil => show twoL b = twoL b ++ []; rw [List.append_nil]
    | cons c q =>
      show twoL b ++ ([] ++ joinL [] ((c :: q).map _)) = twoL b ++ txL (c :: q)
      rw [List.nil_append, ih])
/-- its signs by place -/
theorem txL_get : ∀ {bs : List Int} {i : Nat} {b : Int}, bs[i]? = some b → (txL bs)[2 * i]? = some (figs.getD (b.toNat / 16) 0) ∧ (txL bs)[2 * i + 1]? = some (figs.getD (b.toNat % 16) 0)
  | [], _, _, h => by simp at h
  | x :: r, 0, b, h => by
    have e : x = b := Option.some.inj h
    subst e
    exact ⟨rfl, rfl⟩
  | x :: r, i + 1, b, h => txL_get (bs := r) (i := i) (b := b) h
theorem tx_at {bs : List Int} {i : Nat} {b : Int} (h : bs[i]? = some b) : atI (tx bs).cps.toList ((2 * i : Nat) : Int) = some (figs.getD (b.toNat / 16) 0) ∧ atI (tx bs).cps.toList ((2 * i + 1 : Nat) : Int) = some (figs.getD (b.toNat % 16) 0) :=
  ⟨atI_nat (txL_get h).1, atI_nat (txL_get h).2⟩
def FIG : Str := Str.ofString "0123456789abcdef"
theorem fig_find : ∀ j : Fin 16, Txt.find FIG ⟨#[figs.getD j.val 0]⟩ = (j.val : Int) := by decide +kernel
theorem fig_at {j : Nat} (h : j < 16) : atI FIG.cps.toList (j : Int) = some (figs.getD j 0) := by
  have e : FIG.cps.toList = figs := by decide +kernel
  rw [e]
  refine atI_nat ?_
  rw [List.getD_eq_getElem?_getD, List.getElem?_eq_getElem (show j < figs.length from h)]; rfl
/-! slices of lists of ints -/
theorem cut_map (bs : List Int) (lo hi : Option Int) : ∃ cs : List Int, cutV (bs.map V.int) lo hi = cs.map V.int ∧ cs.length ≤ bs.length ∧ ∀ x ∈ cs, x ∈ bs := by
  refine ⟨(bs.drop (HT.sIx bs.length 0 lo)).take (HT.sIx bs.length bs.length hi - HT.sIx bs.length 0 lo), ?_, ?_, ?_⟩
  · unfold cutV
    rw [List.length_map, List.map_take, List.map_drop]
  · rw [List.length_take, List.length_drop]; omega
  · intro x hx
    exact List.mem_of_mem_drop (List.mem_of_mem_take hx)
theorem size_two (n : Nat) : Builtin.Range.rangeSize 0 ((2 * n : Nat) : Int) 2 = (n : Int) := by
  unfold Builtin.Range.rangeSize
  rw [if_pos (by decide)]
  split <;> omega
theorem range_two (n : Nat) (h : n ≤ 1000000) : RgC 0 ((2 * n : Nat) : Int) 2 n := by
  refine ⟨by decide, by decide, ?_, size_two n⟩
  have f : ∀ x : Int, 0 ≤ x → x ≤ 3000000 → Builtin.Range.rangeFitsLong x = true := fun x h0 h1 => by
    unfold Builtin.Range.rangeFitsLong
    rw [Bool.and_eq_true, decide_eq_true_eq, decide_eq_true_eq]
    omega
  unfold Builtin.Range.small
  rw [size_two, f 0 (by decide) (by decide), f ((2 * n : Nat) : Int) (by omega) (by omega), f 2 (by decide) (by decide), f (n : Int) (by omega) (by omega)]
  simp only [Bool.true_and, show (2 : Int) > 0 from by decide, if_true, Bool.or_eq_true, beq_iff_eq]
  exact .inr (f _ (by omega) (by omega))
end Sip
namespace Sip
open PySem PySem.Spec PyProof.Rows L2 TL
def spWorth : Sp := fun vs H Q _ => ∃ j : Nat, j < 16 ∧ vs = [.str ⟨#[figs.getD j 0]⟩] ∧ Q (.int j) H
def spRead : Sp := fun vs H Q _ => ∃ bs : List Int, vs = [.str (tx bs)] ∧ Bytes bs ∧ bs.length ≤ 8000 ∧ ∀ (H' : Hp) (p : Addr), H p = none → H' p = some (.lst (bs.map V.int)) → Same H H' → Q (.ref p) H'
def spTxt (K : PySem.W.Frag) : Sp := fun vs H Q _ => ∃ (a : Addr) (bs : List Int), vs = [.ref a] ∧ SqL K H a (bs.map V.int) ∧ Bytes bs ∧ bs.length ≤ 8000 ∧ ∀ H' : Hp, Same H H' → Q (.str (tx bs)) H'
theorem get_int {xs : List Int} {i : Nat} {x : V} (h : (xs.map V.int)[i]? = some x) : ∃ hi : i < xs.length, x = .int xs[i] := by
  have hi : i < xs.length := by
    have := (List.getElem?_eq_some_iff.mp h).1
    rwa [List.length_map] at this
  refine ⟨hi, ?_⟩
  rw [List.getElem?_map, List.getElem?_eq_getElem hi] at h
  exact (Option.some.inj h).symm
theorem sum_two : ∀ bs : List Int, ((bs.map fun b => two b.toNat).map (·.length)).sum = 2 * bs.length
  | [] => rfl
  | b :: r => by
    show 2 + ((r.map fun b => two b.toNat).map (·.length)).sum = 2 * (r.length + 1)
    rw [sum_two r]; omega
theorem fit_two (bs : List Int) (h : bs.length ≤ 8000) : ((bs.map fun b => two b.toNat).map (·.length)).sum + (bs.map fun b => two b.toNat).length * (Str.ofString "").length ≤ 16777216 := by
  rw [sum_two, show (Str.ofString "").length = 0 by decide +kernel]; omega
end Sip
namespace Sip
open PySem PySem.Spec PyProof.Rows L2 TL
def spAsked : Sp := fun vs H Q _ => ∃ (a : Addr) (bs : List Int), vs = [.ref a] ∧ H a = some (.lst (bs.map V.int)) ∧ Bytes bs ∧ bs.length ≤ 4000 ∧ ∀ H' : Hp, Same H H' → Q (.bl true) H'
end Sip
/-! a list comprehension whose element may raise: what is raised leaves the comprehension -/
namespace Sip
open PySem PySem.Spec PyProof.Rows L2

theorem note_same {e : Value} {a b : Env} (h : a.frame = b.frame) : noteFrame e a = noteFrame e b := by
  unfold noteFrame PySem.frameOf
  rw [h]

/-- a comprehension's end, either way -/
def endX (M : Model) (A : Around) (E : Value → Shared → Prop) (Q : Value → Shared → Prop) (acc : Value) (ce : Env) (r : Result) (s' : Shared) : Prop :=
  ∃ m, s'.heap.Ns ce.locals m ∧ ∀ h', Heap.SameBut ce.locals s'.heap h' → match r with
    | .ok _ => Q acc { s' with heap := h' }
    | .error x => wpAny M A (passOn "comprehension.variables-let-go" x ce : Sem Value) (fun _ _ => False) E { s' with heap := h' }

theorem comp_run {M : Model} {A : Around} {E : Value → Shared → Prop} {s : Shared} {env : Env} {e : Expr} {scope : Scope} {pos : Pos} {na fi : Sem Value} {g : Comprehension} {gs : List Comprehension} {cl : List (Str × Addr)} {Q : Value → Shared → Prop}
    (hg : clausesOf e = g :: gs) (hs : ∀ x, foldedSetIterable g.iter env x = pure x) (hcl : closureFor scope env = pure cl) (hk : scope.kind = .function)
    (hn : ∀ x ∈ scope.names, x.2 = .local → scope.names.lookup x.1 = some .local)
    (h : wpAny M A fi (fun x s1 => wpAny M A (pyIter x) (fun it s2 => wpAny M A na (fun acc s3 => wpAny M A (newFunctionEnv scope env.globals cl [] env.qual none .none (some env)) (fun ce s4 =>
      codeAny M A (.compStart e 0 it acc { ce with scope := relabel scope env }) (endX M A E Q acc { ce with scope := relabel scope env }) s4) E s3) E s2) E s1) E s) :
    wpAny M A (comprehension e scope env pos na false fi none) Q E s := by
  unfold comprehension
  rw [hcl, hg]
  refine wpAny_bind (wpAny_mono h (fun x s1 h1 => ?_) fun _ _ z => z)
  refine wpAny_bind (wpAny_standAt (wpAny_bind (wpAny_of_eq (hs x) ?_)))
  refine wpAny_bind (wpAny_holding (wpAny_mono h1 (fun it s2 h2 => ?_) fun _ _ z => z))
  refine wpAny_standIf (wpAny_bind (wpAny_mono h2 (fun acc s3 h3 => ?_) fun _ _ z => z))
  refine wpAny_bind (wpAny_pure (wpAny_bind (wpAny_mono h3 (fun ce s4 h4 => ?_) fun _ _ z => z)))
  dsimp only
  have vs : ∀ x ∈ (scope.names.filter fun x => (x.2 == .local || x.2 == .cell) && x.1 != (".0" : Str)).reverse, x.2 = .local → Env.kindOf { ce with scope := relabel scope env } x.1 = some .local :=
    fun x hx hl => lookup_relabel_local (hn x (List.mem_filter.mp (List.mem_reverse.mp hx)).1 hl)
  refine wpAny_holding (wpAny_bind (wpAny_attempt (wpAny_holding (wpAny_run (codeAny_mono h4 fun r s' hr => ?_)))))
  obtain ⟨m, nm, hr⟩ := hr
  cases r with
  | ok f => exact wpAny_bind (wpAny_holding (wpAny_comp_letGo (cenv := { ce with scope := relabel scope env }) hk _ s' m vs nm fun h' _ _ sb => wpAny_pure (hr h' sb)))
  | error x => exact wpAny_bind (wpAny_holding (wpAny_comp_letGo (cenv := { ce with scope := relabel scope env }) hk _ s' m vs nm fun h' _ _ sb => wpAny_mono (hr h' sb) (fun _ _ f => f.elim) fun _ _ z => z))

theorem frames_to {h h' B B' : Heap} : ∀ {l : List Env}, h.FunFrames B l → (∀ b ∈ frs l, ∀ o, h.get? b = some o → h'.get? b = some o) → (∀ b ∈ frs l, B'.get? b = none) → h'.FunFrames B' l
  | [], _, _, _ => trivial
  | v :: l, f, k, n => by
    obtain ⟨f1, ⟨L, o, f2, f3, f4, f5⟩, f6⟩ := f
    have up : ∀ b ∈ frs l, b ∈ frs (v :: l) := fun b hb => by
      obtain ⟨x, hx, q⟩ := List.mem_filterMap.mp hb
      exact List.mem_filterMap.mpr ⟨x, List.mem_cons_of_mem _ hx, q⟩
    have hL : L ∈ frs (v :: l) := List.mem_filterMap.mpr ⟨v, List.mem_cons_self, f2⟩
    exact ⟨f1, ⟨L, o, f2, n L hL, k L hL o f4, f5⟩, frames_to f6 (fun b hb => k b (up b hb)) fun b hb => n b (up b hb)⟩

section
variable {X : Cx} {pins : List (Addr × Obj)} {σ : L2.St} {H3 : Hp} {s3 : Shared}
set_option maxHeartbeats 1000000 in
theorem comp_out {scope : Scope} {ce : Env} {fp : List Addr} {W : WX} {E : XK} {pb : List (Addr × Obj)} {σb : L2.St} {Hb : Hp} {sb s' : Shared} {u acc : Value} {Q : Value → Shared → Prop}
    (I3 : Inv X pins σ H3 s3) (hst : X.stack = X.env :: X.outer) (hfr : X.env.frame = some X.env.locals) (tk : Takes X W) (hfp : ∀ b ∈ fp, FpOk X pins H3 b)
    (cf : ce.frame = X.env.frame) (cL : ce.locals = s3.heap.objs.size) (Ib : Inv (X.blk s3 H3 scope ce fp) pb σb Hb sb) (hE : ∀ cls d H', E cls d H' → W cls d σ H')
    (c : CX X.prog X.w X.stack Hb sb E u s') :
    notedBy (model X.prog X.w) X.A ce (fun e s'' => endX (model X.prog X.w) X.A X.xe Q acc ce (.error e) s'') u s' := by
  obtain ⟨a, B, H', cls, d, rfl, fl, hok, ub, na, os, ag, hw⟩ := c
  have hA : X.A.frames = some (X.env :: X.outer) := by rw [I3.ok.frames, hst]
  have Bu : Un (frs X.stack) fp H3 Hb s3.heap sb.heap := Ib.base
  have HbC : Hb ce.locals = none := Ib.free
  obtain ⟨m, ⟨oC, es, ep, eC, dC, rC⟩, _⟩ := Ib.loc
  have eC : sb.heap.get? ce.locals = some oC := eC
  have nC : ce.locals ∉ frs X.stack := fun z => by
    rcases List.mem_cons.mp (I3.stkSub _ z) with z | z
    · have := I3.lt
      rw [← z, cL] at this
      exact absurd this (Nat.lt_irrefl _)
    · exact I3.nofs (Nat.le_of_eq cL.symm) z
  have BC : B.get? ce.locals = some oC := ub.keep _ _ eC HbC nC
  have H'C : H' ce.locals = none := ub.free _ _ eC HbC
  have ffl : ∀ b ∈ frs X.stack, ∃ o, s'.heap.get? b = some o ∧ ∀ vs, o.data ≠ .fields vs := fun b hb => (fl.2.2.1.mem hb).2
  show wpAny _ _ (noteFrame (.ref a) ce) _ _ s'
  rw [note_same cf]
  have fl2 := fl
  rw [hst] at fl2
  refine HandSPX.looks_onZ Zc.steady hA hfr fl2 fun h1 hh up1 => ?_
  obtain ⟨st1, en1, ff1, tr1⟩ := hh
  refine ⟨m, ⟨oC, es, ep, st1 _ _ BC, dC, rC⟩, fun h' sbut => ?_⟩
  -- the ground without the comprehension's own names
  obtain ⟨B', b1, b2⟩ := restrict B fun b => !decide (b = ce.locals)
  have Bto : ∀ b o, B.get? b = some o → b ≠ ce.locals → B'.get? b = some o := fun b o e n => by
    rw [b1 b (by simp [n])]; exact e
  have Bof : ∀ b o, B'.get? b = some o → B.get? b = some o ∧ b ≠ ce.locals := fun b o e => by
    by_cases n : b = ce.locals
    · rw [b2 b (by simp [n])] at e; cases e
    · rw [b1 b (by simp [n])] at e; exact ⟨e, n⟩
  have Bno : ∀ b, B.get? b = none → B'.get? b = none ∧ b ≠ ce.locals := fun b e => by
    have n : b ≠ ce.locals := fun z => by rw [z, BC] at e; cases e
    exact ⟨by rw [b1 b (by simp [n])]; exact e, n⟩
  have st2 : B'.StaysIn h' := fun b o e => by
    obtain ⟨e1, n⟩ := Bof b o e
    rw [sbut.2 b n]; exact st1 b o e1
  have ff2 : h'.FunFrames B' (X.env :: X.outer) := frames_to ff1 (fun b hb o e => by
    rw [sbut.2 b (Bno b (ff1.mem hb).1).2]; exact e) fun b hb => (Bno b (ff1.mem hb).1).1
  have tr2 : HandSPX.TracedZ h' B' a (Zc cls d) (rawInt X.env.locals) := by
    obtain ⟨oe, vs, T, oT, ts, t1, t2, t3, t4, t5, t6, t7, t8, t9⟩ := tr1
    exact ⟨oe, vs, T, oT, ts, by rw [sbut.2 a (Bno a en1).2]; exact t1, t2, t3, t4, (Bno T t5).1, t6, by rw [sbut.2 T (Bno T t5).2]; exact t7, t8, t9⟩
  show wpAny _ _ (passOn "comprehension.variables-let-go" (.ref a) ce : Sem Value) _ _ _
  obtain ⟨oe, vs, T, oT, ts, t1, t2, t3, t4, t5, t6, t7, t8, t9⟩ := id tr2
  unfold PySem.passOn
  refine wpAny_bind (wpAny_field t1 t3 t4 ?_)
  rw [if_neg (show ¬ ((Value.ref T == Value.none) = true) from by simp)]
  try refine wpAny_bind (wpAny_pure ?_)
  refine wpAny_bind (HandSPX.setFlight_anyZ (s := { s' with heap := h' }) st2 ff2 tr2 fun h2 k1 k2 k3 k4 => wpAny_throw (tk _ _ ?_))
  rw [cf, hfr] at k3
  -- the state without it
  obtain ⟨G, g1, g2⟩ := restrict h2 fun b => (B'.get? b).isSome || decide (b ∈ frs X.stack)
  have gB : ∀ b o, B'.get? b = some o → G.get? b = some o := fun b o e => by
    rw [g1 b (by simp [e])]; exact k1 b o e
  have gF : ∀ b ∈ frs X.stack, G.get? b = h2.get? b := fun b hb => g1 b (by simp [hb])
  have og : ∀ b o, G.get? b = some o → h2.get? b = some o ∧ ((B'.get? b).isSome = true ∨ b ∈ frs X.stack) := fun b o e => by
    cases q : ((B'.get? b).isSome || decide (b ∈ frs X.stack)) with
    | false => rw [g2 b q] at e; cases e
    | true => rw [g1 b q] at e; exact ⟨e, by simpa [Bool.or_eq_true] using q⟩
  -- a frame's object through all of it
  have fr : ∀ b ∈ frs X.stack, ∀ o, s'.heap.get? b = some o → ∃ sl, h2.get? b = some { o with slots := sl } := fun b hb o e => by
    obtain ⟨o2, e2, nf⟩ := ffl b hb
    rw [e] at e2; cases e2
    obtain ⟨sl1, e3⟩ := up1 b o e nf
    have nb : b ≠ ce.locals := fun z => nC (z ▸ hb)
    rw [← sbut.2 b nb] at e3
    obtain ⟨sl2, e4⟩ := k4 b _ e3 nf
    exact ⟨sl2, e4⟩
  have lt3 : ∀ b o, s3.heap.get? b = some o → b ≠ ce.locals := fun b o e z => by
    have := Heap.lt_size e
    rw [z, cL] at this
    exact absurd this (Nat.lt_irrefl _)
  have U : Un (frs X.stack) fp H3 H' s3.heap G := by
    refine ⟨fun b o e n hb hx => ?_, fun b o e n hb hx => ?_, fun b o e n hx => ?_, fun b o e hx => ?_, fun b xs e => ub.tups b xs (Bu.tups b xs e), fun b o v e => ub.frzs b o v (Bu.frzs b o v e), fun b ps e => ?_⟩
    · exact gB b o (Bto b o (ub.keep b o (Bu.keep b o e n hb hx) (Bu.free b o e n hx) hb) (lt3 b o e))
    · obtain ⟨sl, e1⟩ := Bu.slot b o e n hb hx
      obtain ⟨sl1, e2⟩ := ub.slot b _ e1 hb
      obtain ⟨sl2, e3⟩ := fr b hb _ e2
      exact ⟨sl2, by rw [gF b hb]; exact e3⟩
    · obtain ⟨o1, e1⟩ := Bu.there b o e hx
      exact ub.free b o1 e1 (Bu.free b o e n hx)
    · obtain ⟨o1, e1⟩ := Bu.there b o e hx
      by_cases hb : b ∈ frs X.stack
      · obtain ⟨sl1, e2⟩ := ub.slot b _ e1 hb
        obtain ⟨sl2, e3⟩ := fr b hb _ e2
        exact ⟨_, by rw [gF b hb]; exact e3⟩
      · obtain ⟨o2, e2⟩ := ub.there b o1 e1 hb
        exact ⟨o2, gB b o2 (Bto b o2 e2 (lt3 b o e))⟩
    · obtain ⟨m1, e1⟩ := Bu.tbls b ps e
      obtain ⟨m2, e2⟩ := ub.tbls b _ e1
      exact ⟨m1 ++ m2, by rw [e2]; simp⟩
  have hokG : HOk X.prog X.w H' G := fun b o q => (hok b o q).stay (fun c v hc r => gB c v (Bto c v r fun z => by
    rcases hc with hc | hc
    · rw [← hc, z, H'C] at q; cases q
    · rw [z, H'C] at hc; cases hc)) (fun _ r => r) fun _ _ r => r
  have IX : Inv X pins σ H' { s3 with heap := G, gens := s'.gens, drawn := s'.drawn, toks := s'.toks } :=
    I3.call (ch := fp) U hokG ag fun b hb => ⟨(hfp b hb).2.2.2.1, (hfp b hb).2.1, (hfp b hb).2.2.2.2.1, (hfp b hb).2.2.2.2.2⟩
  refine ⟨a, B', _, pins, σ, H', cls, d, rfl, IX, fun b o e hb => ?_, Heap.UpToSlots.of_keeps fun b o e => (og b o e).1, .inr (.inr ⟨k1, (Bno a en1).1, by rw [hst]; exact k2, k3⟩), na, os.trans Ib.os, ag, hE _ _ _ hw⟩
  obtain ⟨e1, w1⟩ := og b o e
  rcases w1 with w1 | w1
  · obtain ⟨o2, q2⟩ := Option.isSome_iff_exists.mp w1
    have := k1 b o2 q2
    rw [e1] at this; cases this
    exact q2
  · exact absurd w1 hb
end

/-- another wish about what is raised -/
abbrev withX (X : Cx) (xe : Value → Shared → Prop) : Cx := { X with xe := xe }
theorem swapX {X : Cx} {pins : List (Addr × Obj)} {σ : L2.St} {H : Hp} {s : Shared} (xe : Value → Shared → Prop) (I : Inv X pins σ H s) : Inv (withX X xe) pins σ H s :=
  ⟨⟨I.ok.mod, I.ok.kind, I.ok.glob, I.ok.blt, I.ok.above, I.ok.inj, I.ok.has, I.ok.cab, I.ok.hd, I.ok.frames, I.ok.stk, I.ok.exf, I.ok.bs, I.ok.bsz, I.ok.noex, I.ok.exfs, I.ok.funs, I.ok.frf⟩,
    I.os, I.bare, I.base, I.loc, I.cell, I.free, I.freeC, I.pin, I.hok, I.len⟩
theorem unswapX {X : Cx} {pins : List (Addr × Obj)} {σ : L2.St} {H : Hp} {s : Shared} {xe : Value → Shared → Prop} (I : Inv (withX X xe) pins σ H s) : Inv X pins σ H s :=
  ⟨⟨I.ok.mod, I.ok.kind, I.ok.glob, I.ok.blt, I.ok.above, I.ok.inj, I.ok.has, I.ok.cab, I.ok.hd, I.ok.frames, I.ok.stk, I.ok.exf, I.ok.bs, I.ok.bsz, I.ok.noex, I.ok.exfs, I.ok.funs, I.ok.frf⟩,
    I.os, I.bare, I.base, I.loc, I.cell, I.free, I.freeC, I.pin, I.hok, I.len⟩
section
variable {X : Cx}
/-- [elt for target in iter], where elt may raise: W tells what is then wanted -/
def tLcX (wi : TI) (g : TG) (te : XK → TE) (vs : List Nat) (W : WX) : TE := fun σ H Q => tLc wi g tYes (te fun cls d H' => W cls d σ H') vs σ H Q
set_option maxHeartbeats 2000000 in
theorem pe_lcX {elt tg iter : Expr} {scope : Scope} {own : List (Str × Nat)} {pos : Pos} {wi : TI} {g : TG} {te : XK → TE} {W : WX} (hc : X.calm = true) (hst : X.stack = X.env :: X.outer) (hfr : X.env.frame = some X.env.locals) (tk : Takes X W) (hN : X.N.Nodup)
    (hi : PI X tg iter wi) (ok : BlkOk X.N X.env.scope scope own)
    (hg : ∀ (s : Shared) (H : Hp) (C : Addr) (cl : List (Str × Addr)) (fp : List Addr), PG (X.blk s H scope (compEnvC scope cl C X.env) fp) tg g)
    (he : ∀ (s : Shared) (H : Hp) (C : Addr) (cl : List (Str × Addr)) (fp : List Addr) (xe : Value → Shared → Prop) (E : XK), Passes (CX X.prog X.w) (withX (X.blk s H scope (compEnvC scope cl C X.env) fp) xe) E →
      PE (withX (X.blk s H scope (compEnvC scope cl C X.env) fp) xe) elt (te E))
    (hs : ∀ x, foldedSetIterable iter X.env x = pure x := by intro _; rfl) : PE X (.ListComp elt [⟨tg, iter, [], 0⟩] scope pos) (tLcX wi g te (own.map (·.2)) W) := by
  refine ⟨fun pins s σ H Q I h => ?_⟩
  have h : tLc wi g tYes (te fun cls d H' => W cls d σ H') (own.map (·.2)) σ H Q := h
  generalize hE : (fun cls d H' => W cls d σ H' : XK) = E at h
  have hEW : ∀ cls d H', E cls d H' → W cls d σ H' := fun cls d H' q => by rw [← hE] at q; exact q
  rw [eval_ListComp]
  have cells : ∀ y ∈ scope.names, y.2 = .free → ∃ c, X.env.cells.lookup y.1 = some c := fun y hy e => (ok.free y hy e).elim (fun k => I.ok.has _ (.inl k)) fun k => I.ok.has _ (.inr k)
  refine comp_run rfl hs (closure_ok cells) ok.kind (fun y hy e => by rw [ok.uniq y hy, e]) (thn (hi.run pins s σ H _ I h) fun xv s1 hx => ?_)
  refine thn hx fun itv s2 h2 => ?_
  obtain ⟨it, fp, tn, J, H2, rfl, I2, T, st2, f2, q⟩ := h2
  refine wpAny_newObj_type (newEnv_comp ?_) (by show 0 ≤ sizeLine; decide)
  generalize eD : s2.heap.objs.size = D
  have nD : H2 D = none := I2.hok.fresh (Nat.le_of_eq eD)
  obtain ⟨Wi, ⟨m0, w0⟩, turn⟩ := q D nD
  generalize es3 : ({ s2 with heap := s2.heap.push { cls := .type "list", data := .seq ([] : List Value).toArray } } : Shared) = s3
  have p3 : s3.heap = s2.heap.push { cls := .type "list", data := .seq ([] : List Value).toArray } := by rw [← es3]
  have I3 : Inv X pins σ (upd H2 D (.lst [])) s3 := by
    subst es3
    refine I2.laid (t' := s2.toks) (fun b o e => Heap.get?_push_of_some _ e) (Nat.le_of_eq eD) ⟨Nat.zero_le _, [], 0, .nil, ?_⟩
    subst eD
    exact Heap.get?_push_size _ rfl
  have f3 : ∀ b ∈ fp, FpOk X pins (upd H2 D (.lst [])) b ∧ b < s3.heap.objs.size := fun b hb => by
    obtain ⟨o, e, _⟩ := T.obj _ _ st2 b hb
    have lt := Heap.lt_size e
    refine ⟨⟨?_, (f2 b hb).2⟩, by rw [p3, Heap.size_push]; exact Nat.lt_succ_of_lt lt⟩
    rw [upd_ne (by rw [← eD]; exact Nat.ne_of_lt lt)]
    exact (f2 b hb).1
  have st3 : tn 0 s3.heap := T.keep _ _ _ st2 fun b _ o e => by rw [p3]; exact Heap.get?_push_of_some _ e
  have I4 := block_start I3 ok hN f3
  generalize ecl : cellsFrom (s3.heap.objs.size + 1) scope.names (cloFrom X.env.cells scope.names []) = cl at I4 ⊢
  have pg := hg s3 (upd H2 D (.lst [])) s3.heap.objs.size cl fp
  have pe := he s3 (upd H2 D (.lst [])) s3.heap.objs.size cl fp
  have nf : ∀ b ∈ fp, (upd H2 D (.lst [])) b = none := fun b hb => (f3 b hb).1.1
  show codeAny _ _ (.compStart (.ListComp elt [⟨tg, iter, [], 0⟩] scope pos) 0 (.ref it) (.ref D) (compEnvC scope cl s3.heap.objs.size X.env)) (endX (model X.prog X.w) X.A X.xe (EP X pins σ Q) (.ref D) (compEnvC scope cl s3.heap.objs.size X.env)) { s3 with heap := pushCells (s3.heap.push { cls := .type "dict", data := .dict #[] }) scope.names }
  generalize ece : compEnvC scope cl s3.heap.objs.size X.env = ce at I4 pg pe ⊢
  have cL : ce.locals = s3.heap.objs.size := by subst ece; rfl
  have cF : ce.frame = X.env.frame := by subst ece; rfl
  generalize eH3 : upd H2 D (.lst []) = H3 at I3 I4 pg pe w0 nf f3
  generalize es4 : ({ s3 with heap := pushCells (s3.heap.push { cls := .type "dict", data := .dict #[] }) scope.names } : Shared) = s4 at I4 ⊢
  have st4 : tn 0 s4.heap := T.keep _ _ _ st3 fun b _ o e => by rw [← es4]; exact pushCells_keeps _ _ _ _ (Heap.get?_push_of_some _ e)
  generalize eY : X.blk s3 H3 scope ce fp = Y at I4 pg pe
  have Yi : ∀ {σ' : L2.St} {H' : Hp} {s' : Shared}, Inv Y [] σ' H' s' → (∀ b ∈ fp, H' b = none) → ∀ b ∈ fp, FpOk Y [] H' b := fun {σ' H' s'} I' hn b hb => by
    subst eY
    exact ⟨hn b hb, (I'.ok.exf b hb).1, I'.ok.exfs b hb, .inl hb, fun x c e => (I'.ok.exf b hb).2 x c e, fun p hp => absurd (show p ∈ ([] : List (Addr × Obj)) ++ [] from hp) (by simp)⟩
  -- what is raised in the block
  have out : ∀ {pb : List (Addr × Obj)} {σb : L2.St} {Hb : Hp} {sb s' : Shared} {u : Value}, Inv Y pb σb Hb sb → CX X.prog X.w X.stack Hb sb E u s' →
      notedBy (model X.prog X.w) X.A ce (fun e s'' => endX (model X.prog X.w) X.A X.xe (EP X pins σ Q) (.ref D) ce (.error e) s'') u s' := fun {pb σb Hb sb s' u} Ib c => by
    subst eY
    exact comp_out I3 hst hfr tk (fun b hb => (f3 b hb).1) cF cL Ib hEW c
  have Yp : Y.prog = X.prog ∧ Y.w = X.w ∧ Y.K = X.K ∧ Y.A = X.A ∧ Y.env = ce ∧ Y.stack = X.stack ∧ Y.xe = (fun _ _ => False) := by subst eY; exact ⟨rfl, rfl, rfl, rfl, rfl, rfl, rfl⟩
  have back : ∀ {H5 : Hp} {s6 : Shared}, Inv Y [] (wipe σ (own.map (·.2))) H5 s6 → Inv X pins σ H5 s6 ∧ H5 s3.heap.objs.size = none ∧ ∃ m, s6.heap.Ns ce.locals m := fun {H5 s6} I6 => by
    subst eY
    refine ⟨I3.call' (ch := fp) I6.os I6.base I6.hok I6.bare fun b hb => ?_, ?_, ?_⟩
    · obtain ⟨⟨_, z1, _, z3, z4, z5⟩, _⟩ := f3 b hb
      exact ⟨z3, z1, z4, z5⟩
    · have z : H5 ce.locals = none := I6.free
      rw [cL] at z; exact z
    · obtain ⟨m, hn, _⟩ := I6.loc
      exact ⟨m, hn⟩
  subst eY
  have loop : codeAny (model X.prog X.w) X.A (.compLoop (.ListComp elt [⟨tg, iter, [], 0⟩] scope pos) 0 (.ref it) (.ref D) ce) (endX (model X.prog X.w) X.A X.xe (EP X pins σ Q) (.ref D) ce) s4 := by
    refine compLoop_any (fun n s' => ∃ i H', Inv (X.blk s3 H3 scope ce fp) [] (wipe σ (own.map (·.2))) H' s' ∧ tn i s'.heap ∧ (∀ b ∈ fp, H' b = none) ∧ Wi i n H') (fun n s5 hI => ?_) m0 ⟨0, H3, I4, st4, nf, w0⟩
    obtain ⟨i, H5, I5, st5, n5, w5⟩ := hI
    rcases turn i n H5 w5 with ⟨stop, qq⟩ | ⟨go, Nx, hNx, step⟩
    · refine thnF (T.done (X.blk s3 H3 scope ce fp) rfl rfl rfl hc i [] s5 _ H5 (fun _ _ => False) I5 (Yi I5 n5) st5 stop) fun r s6 ⟨hr, I6⟩ => ?_
      subst hr
      obtain ⟨I7, nC, m, hn⟩ := back I6
      refine ⟨m, hn, fun h' sb => ?_⟩
      obtain ⟨c0, c1, c2, c3, c4, c5⟩ := I3.fpOk (Nat.le_refl _) nC
      rw [cL] at sb
      exact ⟨.ref D, H5, I7.turned (t' := s6.toks) (fun b o hb e => (sb.2 b hb).trans e) c0 c1 c3 c4 c5, rfl, qq⟩
    · refine thnF (T.item (X.blk s3 H3 scope ce fp) rfl rfl rfl hc i [] s5 _ H5 (fun _ _ => False) I5 (Yi I5 n5) st5 go) fun r s6 ⟨u, hr, h6⟩ => ?_
      subst hr
      refine thnF h6 fun _ s7 ⟨x, H7, I7, r7, y7, st7, n7⟩ => ?_
      have I7p := I7.pinned (Yi I7 n7) (T.obj _ _ st7)
      refine thnF (pg.run _ s7 _ H7 x u _ I7p r7 (step x H7 y7)) fun _ s8 ⟨σ8, H8, I8, w8, q8⟩ => wpAny_tests_nil ?_
      have q9 : te E σ8 H8 fun y H4 => ∃ acc, H4 D = some (.lst acc) ∧ acc.length < sizeLine ∧ Nx (upd H4 D (.lst (acc ++ [y]))) := q8
      rw [if_pos rfl]
      have pe1 := pe (fun u s' => ∃ pb σb Hb sb, Inv (X.blk s3 H3 scope ce fp) pb σb Hb sb ∧ CX X.prog X.w X.stack Hb sb E u s') E (fun pb σb Hb sb e s' Ib c => ⟨pb, σb, Hb, sb, unswapX Ib, c⟩)
      refine wpAny_mono (pe1.run _ s8 σ8 H8 _ (swapX _ I8) q9) (fun z s10 hz => ?_) (fun e s' hx => ?_)
      · obtain ⟨yv, H10, I10, r10, acc, d10, z10, nx⟩ := hz
        refine app_ok (X := X.blk s3 H3 scope ce fp) (unswapX I10) d10 z10 r10 fun s11 I11 => ?_
        obtain ⟨m', hm, w'⟩ := hNx _ nx
        have pin : ∀ b ∈ fp, ∀ o, s7.heap.get? b = some o → s11.heap.get? b = some o ∧ (upd H10 D (.lst (acc ++ [yv]))) b = none := fun b hb o e => by
          have z := I11.pin (b, o) (List.mem_append_right _ (List.mem_append_right _ (mem_pinsAt hb e)))
          exact ⟨z.1, z.2.1⟩
        refine ⟨m', hm, i + 1, _, (I11.unpinned (pins := [])).weak (by rw [← w8, wipe_length]) (fun j v e => ?_), T.keep _ _ _ st7 fun b hb o e => (pin b hb o e).1, fun b hb => ?_, w'⟩
        · rw [← w8] at e
          exact (wipe_some e).1
        · obtain ⟨o, e, _⟩ := T.obj _ _ st7 b hb
          exact (pin b hb o e).2
      · obtain ⟨pb, σb, Hb, sb, Ib, c⟩ := hx
        exact out Ib c
  exact codeAny_compStart_list loop (T.self X.A 0 _ _ _ st4 loop)
end
end Sip
namespace Sip
open PySem PySem.Spec PyProof.Rows L2 TL

section
variable {X : Cx}
/-- X(), X an own error class without an __init__ of its own -/
theorem pmk_own0 {C : Addr} {bmB : List Value} {B newId initId : String} {x : Str} {p pos : Pos} (F : ExcBaseFacts B newId initId bmB) (q : PySem.W.excIn X.K C bmB newId = true) (gC : X.mg x = some (.ref C)) (kC : PySem.W.keepIn X.K (.ref C) = true)
    (r : Raises X (.ref C)) (hg : Gl X x) (hdb : (x == ("__debug__" : Str)) = false := by decide) : PMk X (.Call (.Name x p) [] [] pos) (fun _ H Q => Q (.ref C) none H) := by
  intro pins s σ H Q I h
  refine wpAny_Call_Name_kw (ld_glob I hg gC (PySem.W.callWith_K0 I.kIn kC ?_) hdb)
  obtain ⟨bm, N, nm, qn, bs, hdct, sn, sub, ab, col, dd, k0, k1, k2, k3, k5, mN, hC, hN, hni, T⟩ := exc_obj I.kIn q
  exact wpAny_call_exc_subT (rest := []) F T hC hN hni (fun h' e hm => mk_of I hm r h (I.hok.gone hm.new)) (Nat.zero_le _)
/-- isinstance(e, c), e the caught error, whose class is to be shown -/
def rIsX (K : PySem.W.Frag) (D : Addr) (cls : Value) (d : Option Addr) (a : Addr) : List V → Hp → VK → Prop := fun xs H Q => cls = .ref D ∧ d = none ∧ rIsE K D a xs H Q
theorem call_isX {a D : Addr} {oe : Obj} {cls : Value} {d : Option Addr} {pn : List (Addr × Obj)} (C : ExcC X.K D) (hz : Zc cls d oe) (hf : ∃ vs, oe.data = .fields vs) : CallR (X.suite a ((a, oe) :: pn)) (.builtin "isinstance") (rIsX X.K D cls d a) := by
  intro pins s σ H xs us Q I r h
  obtain ⟨rfl, rfl, h⟩ := h
  exact call_isE C hz hf pins s σ H xs us Q I r h
end
/-- what the text's error classes are: C the one that is raised, S the one above it -/
structure Errs (K : PySem.W.Frag) (mg : Str → Option Value) (C S : Addr) : Prop where
  gP : mg "NoRow" = some (.ref C)
  gS : mg "SipError" = some (.ref S)
  xP : PySem.W.excIn K C [.type "ValueError", .type "Exception", .type "BaseException", .type "object"] "ValueError.__new__" = true
  kP : PySem.W.keepIn K (.ref C) = true
  bP : PySem.W.subIn K (.ref C) (.type "BaseException") = some true
  tP : PySem.W.typeIn K (.ref C) = some (.type "type")
  te : PySem.W.exmOne K (.ref C) (.ref C) = some true
  i1 : PySem.W.kitOne K (.ref C) (.ref S) = some true
  i2 : PySem.W.kitOne K (.ref C) (.type "ValueError") = some true
  ec : ExcC K C

/-! texts of plain signs -/
def Asc (z : Str) : Prop := ∀ c ∈ z.cps.toList, c < 128
theorem asc_append {a b : Str} (ha : Asc a) (hb : Asc b) : Asc (a ++ b) := fun c hc => by
  have e : (a ++ b).cps.toList = a.cps.toList ++ b.cps.toList := tl_append a b
  rw [e] at hc
  exact (List.mem_append.mp hc).elim (ha c) (hb c)
theorem asc_cut {z : Str} (h : Asc z) (lo hi : Option Int) : Asc (cutS z lo hi) := fun c hc => by
  have e : (cutS z lo hi).cps.toList = (z.cps.toList.drop (HT.sIx z.length 0 lo)).take (HT.sIx z.length z.length hi - HT.sIx z.length 0 lo) := rfl
  rw [e] at hc
  exact h c (List.mem_of_mem_drop (List.mem_of_mem_take hc))
theorem up_small : ∀ c : Fin 128, up1 c.val < 128 := by decide +kernel
theorem asc_upper {z : Str} (h : Asc z) : Asc (Txt.upper z) ∧ (Txt.upper z).length = z.length := by
  rw [upper_ascii h]
  refine ⟨fun c hc => ?_, ?_⟩
  · have e : (z.cps.map up1).toList = z.cps.toList.map up1 := Array.toList_map ..
    have hc : c ∈ (z.cps.map up1).toList := hc
    rw [e] at hc
    obtain ⟨b, hb, rfl⟩ := List.mem_map.mp hc
    exact up_small ⟨b, h b hb⟩
  · show (z.cps.map up1).size = z.cps.size
    exact Array.size_map ..
theorem len_append (a b : Str) : (a ++ b).length = a.length + b.length := strLen_append ..
theorem asc_one {c : Nat} (h : c < 128) : Asc ⟨#[c]⟩ := fun x hx => by
  have : x ∈ [c] := hx
  rw [List.mem_singleton.mp this]; exact h

/-! which texts are read, and to what -/
theorem find_fig : ∀ c : Fin 128, Txt.find FIG ⟨#[c.val]⟩ = if c.val ∈ figs then (wor c.val : Int) else -1 := by decide +kernel
theorem index_fig : ∀ c : Fin 128, c.val ∈ figs → Txt.index0 FIG ⟨#[c.val]⟩ = some (wor c.val) := by decide +kernel
def okT (cs : List Nat) : Prop := cs.length % 2 = 0 ∧ ∀ c ∈ cs, c ∈ figs
def rd (cs : List Nat) (i : Nat) : Int := 16 * (wor (cs.getD (2 * i) 0) : Int) + (wor (cs.getD (2 * i + 1) 0) : Int)
def rdL (cs : List Nat) : List Int := (List.range (cs.length / 2)).map (rd cs)
theorem rdL_length (cs : List Nat) : (rdL cs).length = cs.length / 2 := by
  unfold rdL; rw [List.length_map, List.length_range]
theorem rdL_get {cs : List Nat} {i : Nat} (h : i < cs.length / 2) : (rdL cs)[i]? = some (rd cs i) := by
  unfold rdL; rw [List.getElem?_map, List.getElem?_range h]; rfl
theorem get_at {cs : List Nat} {i : Nat} (h : i < cs.length) : atI cs (i : Int) = some (cs.getD i 0) ∧ cs.getD i 0 ∈ cs := by
  have e : cs.getD i 0 = cs[i] := by rw [List.getD_eq_getElem?_getD, List.getElem?_eq_getElem h]; rfl
  rw [e]
  exact ⟨atI_nat (List.getElem?_eq_getElem h), List.getElem_mem h⟩
theorem len_codes (z : Str) : z.length = z.cps.toList.length := by
  show z.cps.size = _
  exact (Array.length_toList ..).symm
def spWorthX (C : Addr) : Sp := fun vs H Q E => ∃ c : Nat, c < 128 ∧ vs = [.str ⟨#[c]⟩] ∧ (c ∈ figs → Q (.int (wor c : Nat)) H) ∧ (c ∉ figs → E (.ref C) none H)
def spReadX (C : Addr) : Sp := fun vs H Q E => ∃ z : Str, vs = [.str z] ∧ Asc z ∧ z.length ≤ 1000 ∧
  (okT z.cps.toList → ∀ (H' : Hp) (p : Addr), H p = none → H' p = some (.lst ((rdL z.cps.toList).map V.int)) → Same H H' → Q (.ref p) H') ∧ (¬ okT z.cps.toList → ∀ H' : Hp, Same H H' → E (.ref C) none H')
def spDueT : Sp := fun vs H Q _ => ∃ z : Str, vs = [.str z] ∧ Asc z ∧ z.length ≤ 1000 ∧
  (okT z.cps.toList → ∀ (H' : Hp) (p : Addr), H p = none → H' p = some (.lst ((rdL z.cps.toList).map V.int)) → Same H H' → Q (.ref p) H') ∧ (¬ okT z.cps.toList → ∀ H' : Hp, Same H H' → Q .non H')
/-- a text drawn from a pool -/
def spDraw : Sp := fun vs H Q _ => ∃ (p : Addr) (n : Int) (o : HO), vs = [.ref p] ∧ H p = some o ∧ PoolO n o ∧ n ≤ 900000000 ∧
  ∀ (H' : Hp) (z : Str) (o' : HO), H' p = some o' → PoolO (n + 100) o' → Kp [p] H H' → Asc z → z.length ≤ 60 → Q (.str z) H'
def spSign : Sp := fun vs H Q _ => ∃ (p : Addr) (n : Int) (o : HO), vs = [.ref p] ∧ H p = some o ∧ PoolO n o ∧ n ≤ 999999000 ∧
  ∀ (c : Nat) (o' : HO), c < 128 → PoolO (n + 1) o' → Q (.str ⟨#[c]⟩) (upd H p o')
def spSpoilt : Sp := fun vs H Q _ => ∃ (p : Addr) (n : Int) (o : HO) (z : Str), vs = [.ref p, .str z] ∧ H p = some o ∧ PoolO n o ∧ n ≤ 999990000 ∧ Asc z ∧ z.length ≤ 100 ∧
  ∀ (y : Str) (o' : HO), Asc y → y.length ≤ z.length + 1 → PoolO (n + 3) o' → Q (.str y) (upd H p o')
def spAskedT : Sp := fun vs H Q _ => ∃ z : Str, vs = [.str z] ∧ Asc z ∧ z.length ≤ 1000 ∧ ∀ H' : Hp, Same H H' → Q (.bl true) H'
def SIGNS : Str := Str.ofString " !\"#$&'()*+,-./0123456789:;<=>?@ABCDEFGHIJKLMNOPQRSTUVWXYZ[\\]^_`abcdefghijklmnopqrstuvwxyz{|}~"
theorem signs_asc : SIGNS.cps.toList.length = 94 ∧ ∀ c ∈ SIGNS.cps.toList, c < 128 := by decide +kernel
def GIF : Str := Str.ofString "fedcba9876543210"
theorem gif_asc : GIF.cps.toList.length = 16 ∧ ∀ c ∈ GIF.cps.toList, c < 128 := by decide +kernel
theorem fig_asc : FIG.cps.toList.length = 16 ∧ ∀ c ∈ FIG.cps.toList, c < 128 := by decide +kernel
theorem str_at {z : Str} {n : Nat} (hz : z.cps.toList.length = n ∧ ∀ c ∈ z.cps.toList, c < 128) {r : Int} (r0 : 0 ≤ r) (r1 : r < n) : ∃ c, c < 128 ∧ atI z.cps.toList r = some c := by
  obtain ⟨j, rfl⟩ := Int.eq_ofNat_of_zero_le r0
  obtain ⟨e, m⟩ := get_at (cs := z.cps.toList) (i := j) (by rw [hz.1]; omega)
  exact ⟨_, hz.2 _ m, e⟩
end Sip
namespace Sip
open PySem PySem.Spec PyProof.Rows L2 TL
theorem cut_codes (z : Str) (lo hi : Option Int) : (cutS z lo hi).length = ((z.cps.toList.drop (HT.sIx z.length 0 lo)).take (HT.sIx z.length z.length hi - HT.sIx z.length 0 lo)).length := by
  rw [len_codes]; rfl
theorem cut_len1 (z : Str) {k : Nat} (h : k ≤ z.length) : (cutS z none (some (k : Int))).length = k := by
  have lc := len_codes z
  rw [cut_codes, HT.sIx_none, HT.sIx_nat, List.length_take, List.length_drop]; omega
theorem cut_len2 (z : Str) {k : Nat} (h : k ≤ z.length) : (cutS z (some (k : Int)) none).length = z.length - k := by
  have lc := len_codes z
  rw [cut_codes, HT.sIx_none, HT.sIx_nat, List.length_take, List.length_drop]; omega
theorem cut_len3 (z : Str) {k : Nat} (h : k ≤ z.length) : (cutS z (some ((k : Nat) + 1 : Int)) none).length ≤ z.length - k := by
  have lc := len_codes z
  rw [show ((k : Nat) + 1 : Int) = ((k + 1 : Nat) : Int) by omega, cut_codes, HT.sIx_none, HT.sIx_nat, List.length_take, List.length_drop]; omega
end Sip
namespace Sip
open PySem PySem.Spec PyProof.Rows L2 TL
theorem all_figs {cs : List Nat} : ((cs.map fun c => decide (c ∈ figs)).all id) = true ↔ ∀ c ∈ cs, c ∈ figs := by
  rw [List.all_eq_true]
  constructor
  · intro h c hc
    exact of_decide_eq_true (h _ (List.mem_map.mpr ⟨c, hc, rfl⟩))
  · intro h x hx
    obtain ⟨c, hc, rfl⟩ := List.mem_map.mp hx
    exact decide_eq_true (h c hc)
end Sip
namespace Sip
open PySem PySem.Spec PyProof.Rows L2 TL
theorem asc_nil : Asc (Str.ofString "") := fun c hc => by
  have e : (Str.ofString "").cps.toList = [] := by decide +kernel
  rw [e] at hc; cases hc
end Sip
namespace Sip
open PySem PySem.Spec PyProof.Rows L2 TL
theorem kit_own {K : PySem.W.Frag} {C S : Addr} (h1 : PySem.W.isClsIn K S = true) (h2 : PySem.W.typeIn K (.ref S) = some (.type "type")) (h3 : PySem.W.subIn K (.ref C) (.ref S) = some true) : PySem.W.kitOne K (.ref C) (.ref S) = some true := by
  have a : ((PySem.W.clsIn K S).isSome && PySem.W.typeIn K (.ref S) == some (.type "type")) = true := by
    have h1' : (PySem.W.clsIn K S).isSome = true := h1
    rw [h1', h2]; rfl
  unfold PySem.W.kitOne PySem.W.kitCls
  split
  · rfl
  · exact (if_pos a).trans h3
theorem kit_bltn {K : PySem.W.Frag} {C : Addr} {T : String} (h1 : PySem.W.kitMeta T = true) (h3 : PySem.W.subIn K (.ref C) (.type T) = some true) : PySem.W.kitOne K (.ref C) (.type T) = some true := by
  unfold PySem.W.kitOne PySem.W.kitCls
  split
  · rfl
  · exact (if_pos h1).trans h3
end Sip
namespace Sip
open PySem PySem.Spec PyProof.Rows L2 TL

/-- a def of the text, whatever its defaults -/
structure FunA (K : PySem.W.Frag) (x qual : Str) (st : Stmt) (f : Addr) (fd : FuncData) : Prop where
  ex : ∃ (oc : Value) (od : Option Addr) (dV kV doc pm : Value) (an : Option Addr) (cdv ct : Value) (osl : Array (Option Value)),
    fd = PySem.W.fnOf x qual (defArgs st) (defBody st) (defScope st) dV kV doc pm an cdv ct ∧ K.lookup f = some ⟨oc, od, .func fd, osl⟩ ∧ PySem.W.codeIn K cdv qual = true
  kp : PySem.W.keepIn K (.ref f) = true
section
variable {P : Program} {w : World} {K : PySem.W.Frag} {mg : Str → Option Value} {base : Heap} {x qual : Str} {st : Stmt} {f : Addr} {fd : FuncData} {N ps : List Str} {k : Nat} {sp : Sp}
theorem FunA.ok (F : FunA K x qual st f fd) (S : FnScope N ps (defScope st)) (len : ∀ vs H Q E, sp vs H Q E → vs.length = ps.length)
    (hb : ∀ (cdv : Value) (A : Around) (outer : List Env) (s : Shared) (H : Hp) (vs : List V) (Q : VK) (E : XK), Room k (A.deeper (envOfC qual (defScope st) s.heap.objs.size f cdv)) → sp vs H Q E →
      ∃ t, PSs (cxOf CX0 P w K mg base N qual (defScope st) f cdv A outer s H E).nox (defBody st) t ∧ t { nx := fun _ H' => Q .non H', rt := Q } (start N vs) H) : FnOk P w K mg base CX0 (k + 1) f fd ps sp := by
  obtain ⟨oc, od, dV, kV, doc, pm, an, cdv, ct, osl, rfl, lk, hcd⟩ := F.ex
  refine fn_of lk hcd S len fun A outer s H vs Q E hr hsp => ?_
  obtain ⟨t, h, q⟩ := hb cdv A outer s H vs Q E hr hsp
  exact ⟨t, h.nox, q⟩
theorem FunA.okX (F : FunA K x qual st f fd) (S : FnScope N ps (defScope st)) (len : ∀ vs H Q E, sp vs H Q E → vs.length = ps.length)
    (hb : ∀ (cdv : Value) (A : Around) (outer : List Env) (s : Shared) (H : Hp) (vs : List V) (Q : VK) (E : XK), Room k (A.deeper (envOfC qual (defScope st) s.heap.objs.size f cdv)) → sp vs H Q E →
      ∃ t, PSs (cxOf (L2.CX P w) P w K mg base N qual (defScope st) f cdv A outer s H E) (defBody st) t ∧ t { nx := fun _ H' => Q .non H', rt := Q } (start N vs) H) : FnOk P w K mg base (L2.CX P w) (k + 1) f fd ps sp := by
  obtain ⟨oc, od, dV, kV, doc, pm, an, cdv, ct, osl, rfl, lk, hcd⟩ := F.ex
  exact fn_of lk hcd S len fun A outer s H vs Q E hr hsp => hb cdv A outer s H vs Q E hr hsp
end
/-- o.m(e, .., k = v, ..) -/
def tMethN (C : Addr) (m : Str) (n j : Nat) (sp : Sp) (gV : List V → List V → List V) (E : XK) (ta : TE) (t tk : TA) : TE := fun σ H Q => ta σ H fun x H1 =>
  ∃ a dx fs, x = .ref a ∧ H1 a = some (.ins C dx fs) ∧ fs.lookup m = none ∧ t σ H1 fun vs H2 => tk σ H2 fun zs H3 => vs.length = n ∧ zs.length = j ∧ sp (gV (x :: vs) zs) H3 Q E
section
variable {X : Cx} {CX : CXT} {k n : Nat} {f C : Addr} {fd : FuncData} {ps ks : List Str} {sp : Sp} {E : XK} {m : Str} {apos pos : Pos} {o e : Expr} {es : List Expr} {kws : List Keyword} {ta : TE} {t tk : TA} {g : List Value → List Value → List Value} {gV : List V → List V → List V}
theorem pe_methN {pl : Sem Bool} (he : PE X o ta) (c : Cls X.K C) (hm : Meth X.K C m f) (F : FnOk X.prog X.w X.K X.mg X.base CX k f fd ps sp) (hr : Room k X.A) (hb : KBn X.K fd ps (n + 1) ks g gV) (hx : Passes CX X E) (ha : PA X (e :: es) t) (hkw : PK X kws tk)
    (hall : (backToKw pos (keywordEach kws X.env)).all (·.1.isSome) = true := by rfl) (hks : (backToKw pos (keywordEach kws X.env)).filterMap (·.1) = ks := by rfl) (hst : starEach (e :: es) X.env = (false, eval e X.env) :: starEach es X.env := by rfl)
    (hpl : ((backTo pos (starEach (e :: es) X.env)).any (·.1) || (backToKw pos (keywordEach kws X.env)).any (·.1.isNone)) = false := by rfl)
    (ht : eval (.Call (.Attribute o m apos) (e :: es) kws pos) X.env = (do
      let ov ← eval o X.env
      standAt apos.atName
      let (f, first) ← holding [ov] (getMethod ov m pl)
      callWith pos f first (backTo pos (starEach (e :: es) X.env)) (backToKw pos (keywordEach kws X.env))) := by rfl) :
    PE X (.Call (.Attribute o m apos) (e :: es) kws pos) (tMethN C m n ks.length sp gV E ta t tk) := by
  refine ⟨fun pins s σ H Q I h => ?_⟩
  refine PySem.W.methodCall_KW (pl := pl) (thn (he.run pins s σ H _ I h) fun u s1 ⟨x, H1, I1, rx, a, dx, fs, ex, ea, l, q⟩ => ?_) ht
  subst ex
  obtain rfl : u = Value.ref a := rx
  refine getmeth_ok I1 ea c hm l ?_
  refine PySem.W.callWith_KW (first := [.ref a]) (h₀ := X.base) I.ok.mod.kin hm.kp hall (thn (ha.run pos pins s1 σ H1 _ I1 q) fun us s2 ⟨vs, H2, I2, r, q2⟩ => ?_) hpl hst
  refine thn (hkw.run pos pins s2 σ H2 _ I2 q2) fun ws s3 ⟨zs, H3, I3, rz, l1, l2, q3⟩ => ⟨I3.kIn, ?_⟩
  rw [hks]
  exact run_fnN (us := .ref a :: us) (vs := .ref a :: vs) F hr hb hx I3 (.cons rfl r) rz (by rw [List.length_cons, l1]) l2 q3
end
/-- fields by name -/
abbrev Fs := List (Str × V)
example (h c d : V) : putF ("cursor" : Str) d ([("held", h), ("cursor", c)] : Fs) = ([("held", h), ("cursor", d)] : Fs) := by kernel_rfl
example (h c d : V) : putF ("cursor" : Str) d ([("held", h)] : Fs) = ([("held", h), ("cursor", d)] : Fs) := by kernel_rfl
end Sip
namespace Sip
open PySem PySem.Spec PyProof.Rows L2 TL
/-- a def of the top, a method of a class -/
structure Dg (K : PySem.W.Frag) (mg : Str → Option Value) (x : Str) (st : Stmt) (f : Addr) (fd : FuncData) : Prop where
  F : FunA K x x st f fd
  g : mg x = some (.ref f)
structure Mf (K : PySem.W.Frag) (C : Addr) (x qual : Str) (st : Stmt) (f : Addr) (fd : FuncData) : Prop where
  F : FunA K x qual st f fd
  m : Meth K C x f
theorem funA_mk {K : PySem.W.Frag} {x qual : Str} {st : Stmt} {f : Addr} {oc : Value} {od an : Option Addr} {osl : Array (Option Value)} {dV kV doc pm cdv ct : Value} (l : K.lookup f = some ⟨oc, od, .func (PySem.W.fnOf x qual (defArgs st) (defBody st) (defScope st) dV kV doc pm an cdv ct), osl⟩)
    (c : PySem.W.codeIn K cdv qual = true) (k : PySem.W.keepIn K (.ref f) = true) : FunA K x qual st f (PySem.W.fnOf x qual (defArgs st) (defBody st) (defScope st) dV kV doc pm an cdv ct) := ⟨⟨oc, od, dV, kV, doc, pm, an, cdv, ct, osl, rfl, l, c⟩, k⟩
end Sip
/-! repr of lists and tuples: asked where no other repr is under way -/
namespace Sip
open PySem PySem.Spec PyProof.Rows L2 TL

/-! data that can be shown: bounds of its weight and its depth -/
def Sh (w k : Nat) (d : PyData) : Prop := d.showable = true ∧ d.hasDict = false ∧ d.leavesShort 13 = true ∧ d.weight ≤ w ∧ d.depth ≤ k
def ShA (w k : Nat) (ds : List PyData) : Prop := PyData.showableAll ds = true ∧ PyData.hasDictAll ds = false ∧ PyData.leavesShortAll 13 ds = true ∧ PyData.weightAll ds ≤ w ∧ PyData.depthAll ds ≤ k
theorem Sh.up {w k w' k' : Nat} {d : PyData} (h : Sh w k d) (a : w ≤ w') (b : k ≤ k') : Sh w' k' d := ⟨h.1, h.2.1, h.2.2.1, Nat.le_trans h.2.2.2.1 a, Nat.le_trans h.2.2.2.2 b⟩
theorem ShA.up {w k w' k' : Nat} {d : List PyData} (h : ShA w k d) (a : w ≤ w') (b : k ≤ k') : ShA w' k' d := ⟨h.1, h.2.1, h.2.2.1, Nat.le_trans h.2.2.2.1 a, Nat.le_trans h.2.2.2.2 b⟩
theorem sh_non : Sh 0 0 .none := ⟨rfl, rfl, rfl, Nat.le_refl _, Nat.le_refl _⟩
theorem sh_bl (b : Bool) : Sh 0 0 (.bool b) := ⟨rfl, rfl, rfl, Nat.le_refl _, Nat.le_refl _⟩
theorem log_le {n k : Nat} (h : n < 2 ^ k) (hk : 0 < k) : n.log2 < k := by
  by_cases e : n = 0
  · subst e; simpa using hk
  · exact (Nat.log2_lt e).mpr h
theorem sh_int {i : Int} (h : i.natAbs < 10 ^ 12) : Sh 41 0 (.int i) := by
  have e : i.natAbs < 2 ^ 40 := Nat.lt_of_lt_of_le h (by decide)
  have l := log_le e (by decide)
  refine ⟨?_, rfl, ?_, ?_, Nat.le_refl _⟩
  · show decide _ = true
    exact decide_eq_true (by omega)
  · show decide _ = true
    exact decide_eq_true (PyData.shown_int_le h)
  · show (if i == 0 then 0 else i.natAbs.log2 + 1) ≤ 41
    split <;> omega
theorem sh_str {x : Str} (h : (x.cps.toList.all fun c => decide (c < 16 ^ 8)) = true) : Sh x.length 0 (.str x) := ⟨rfl, rfl, h, Nat.le_refl _, Nat.le_refl _⟩
theorem shA_nil : ShA 0 0 [] := ⟨rfl, rfl, rfl, Nat.le_refl _, Nat.le_refl _⟩
theorem shA_cons {w k v j : Nat} {d : PyData} {ds : List PyData} (h : Sh w k d) (t : ShA v j ds) : ShA (w + 1 + v) (max k j) (d :: ds) := by
  obtain ⟨a1, a2, a3, a4, a5⟩ := h
  obtain ⟨b1, b2, b3, b4, b5⟩ := t
  refine ⟨?_, ?_, ?_, ?_, ?_⟩
  · show (_ && _) = true; rw [a1, b1]; rfl
  · show (_ || _) = false; rw [a2, b2]; rfl
  · show (_ && _) = true; rw [a3, b3]; rfl
  · show _ + 1 + _ ≤ _; omega
  · show max _ _ ≤ max _ _; omega
theorem sh_list {w k : Nat} {ds : List PyData} (h : ShA w k ds) : Sh w (k + 1) (.list ds) := ⟨h.1, h.2.1, h.2.2.1, h.2.2.2.1, Nat.succ_le_succ h.2.2.2.2⟩
theorem sh_tuple {w k : Nat} {ds : List PyData} (h : ShA w k ds) : Sh w (k + 1) (.tuple ds) := ⟨h.1, h.2.1, h.2.2.1, h.2.2.2.1, Nat.succ_le_succ h.2.2.2.2⟩
theorem shA_map {α : Type} {f : α → PyData} {w k : Nat} : ∀ {xs : List α}, (∀ x ∈ xs, Sh w k (f x)) → ShA ((w + 1) * xs.length) k (xs.map f)
  | [], _ => shA_nil.up (Nat.zero_le _) (Nat.zero_le _)
  | x :: r, h => by
    have e := shA_cons (h x List.mem_cons_self) (shA_map (xs := r) fun y hy => h y (List.mem_cons_of_mem _ hy))
    refine e.up ?_ (by omega)
    rw [List.length_cons, Nat.mul_add]; omega
theorem sh_ints {ns : List Int} (h : ∀ n ∈ ns, n.natAbs < 10 ^ 12) : Sh (42 * ns.length) 1 (.list (ns.map .int)) := sh_list (shA_map fun n hn => sh_int (h n hn))
theorem Sh.fits {w k : Nat} {d : PyData} (h : Sh w k d) (hw : w ≤ 1000000) : d.shown.length ≤ sizeLine := PyData.shown_fits (by decide) (by decide) h.2.2.1 (Nat.le_trans h.2.2.2.1 (Nat.le_trans hw (by decide)))

section
variable {X : Cx}
/-- repr(v), v a list or a tuple -/
def rRepr (K : PySem.W.Frag) : List V → Hp → VK → Prop := fun xs H Q => ∃ (a : Addr) (d : PyData) (w k : Nat), xs = [.ref a] ∧ Dp K H (.ref a) d ∧ Sh w k d ∧ w ≤ 1000000 ∧ k ≤ 20 ∧ Q (.str d.shown) H
theorem call_reprD (hg : X.A.guards = some []) (hu : X.A.units + 64 < cLine) : CallR X (.builtin "repr") (rRepr X.K) := by
  intro pins s σ H xs us Q I r h
  obtain ⟨a, d, w, k, rfl, hd, hs, hw, hk, q⟩ := h
  obtain ⟨u, rfl, ru⟩ := vals1 r
  cases ru
  obtain ⟨as, r1⟩ := Dp.reads I d (.ref a) _ hd rfl
  have hdp := hs.2.2.2.2
  exact repr_of_reads' r1 hs.1 (PyData.noDict_hsm hs.2.1) hg (by omega) (fun _ _ e => e) (fun h' t tk hk => ⟨.str d.shown, H, I.kept hk, ⟨t, rfl⟩, q⟩) (hs.fits hw)
end

/-- a promise that is kept where no repr is under way -/
structure FnG (P : Program) (w : World) (K : PySem.W.Frag) (mg : Str → Option Value) (base : Heap) (CX : CXT) (k : Nat) (f : Addr) (fd : FuncData) (ps : List Str) (sp : Sp) : Prop where
  len : ∀ vs H Q E, sp vs H Q E → vs.length = ps.length
  run : ∀ (A : Around) (outer : List Env) (s : Shared) (H : Hp) (args : Args) (us : List Value) (vs : List V) (Q : VK) (E : XK), A.guards = some [] → Room k A →
    Env0 P w K mg base A outer s H → BindsTo s fd args (ps.zip us) → Vals vs us → sp vs H Q E → codeAny (model P w) A (.call (.ref f) args) (CR CX outer P w H s Q E) s
section
variable {P : Program} {w : World} {K : PySem.W.Frag} {mg : Str → Option Value} {base : Heap} {x qual : Str} {st : Stmt} {f : Addr} {fd : FuncData} {N ps : List Str} {k : Nat} {sp : Sp}
theorem FunA.okG {CX : CXT} (F : FunA K x qual st f fd) (S : FnScope N ps (defScope st)) (len : ∀ vs H Q E, sp vs H Q E → vs.length = ps.length)
    (hb : ∀ (cdv : Value) (A : Around) (outer : List Env) (s : Shared) (H : Hp) (vs : List V) (Q : VK) (E : XK), A.guards = some [] → Room k (A.deeper (envOfC qual (defScope st) s.heap.objs.size f cdv)) → sp vs H Q E →
      ∃ t, PSs (cxOf CX P w K mg base N qual (defScope st) f cdv A outer s H E) (defBody st) t ∧ t { nx := fun _ H' => Q .non H', rt := Q } (start N vs) H) : FnG P w K mg base CX (k + 1) f fd ps sp := by
  obtain ⟨oc, od, dV, kV, doc, pm, an, cdv, ct, osl, rfl, lk, hcd⟩ := F.ex
  refine ⟨len, fun A outer s H args us vs Q E hg hr e0 hbd r hsp => ?_⟩
  have keep : ∀ b o, base.get? b = some o → s.heap.get? b = some o := fun b o e => (e0.bs b o e).1
  have KX := e0.mod.kin.keeps keep
  refine codeAny_call_function hr.depth (KX _ _ lk) rfl S.co S.gen rfl (PySem.W.codeRec_of KX hcd) (hbd _ _ _ _ (wpAny_newFunctionEnv_cells S.kind (fun y hy => ?_) fun env he s1 z => ?_))
  · rcases S.par y.1 (List.of_mem_zip hy).1 with q | q
    · exact .inl q
    · exact .inr ⟨q, PySem.W.cellsFrom_some _ _ _ (.inl q)⟩
  subst he
  obtain ⟨t, ht, hq⟩ := hb cdv A outer s H vs Q E hg (hr.deeper _) hsp
  have I := inv_start (CX := CX) (N := N) (E := E) S hr.hd e0 (len _ _ _ _ hsp) r z
  refine ⟨(e0.mod.nolimit.keeps keep).keeps z.toInCall.keep, codeAny_func (wpAny_mono (ht.run [] s1 _ H _ I hq) (fun fl s' hs => ?_) fun _ _ h => h)⟩
  cases fl with
  | ret u =>
    obtain ⟨v, _, H', J, rv, q⟩ := hs
    exact ⟨v, H', J.os, J.bare, J.base, J.hok, rv, q⟩
  | next =>
    obtain ⟨_, H', J, q⟩ := hs
    exact ⟨.non, H', J.os, J.bare, J.base, J.hok, rfl, q⟩
  | brk => exact (hs.choose_spec.choose_spec.2 : False).elim
  | cont => exact (hs.choose_spec.choose_spec.2 : False).elim
/-- by a body that raises nothing -/
theorem FunA.okG0 (F : FunA K x qual st f fd) (S : FnScope N ps (defScope st)) (len : ∀ vs H Q E, sp vs H Q E → vs.length = ps.length)
    (hb : ∀ (cdv : Value) (A : Around) (outer : List Env) (s : Shared) (H : Hp) (vs : List V) (Q : VK) (E : XK), A.guards = some [] → Room k (A.deeper (envOfC qual (defScope st) s.heap.objs.size f cdv)) → sp vs H Q E →
      ∃ t, PSs (cxOf CX0 P w K mg base N qual (defScope st) f cdv A outer s H E).nox (defBody st) t ∧ t { nx := fun _ H' => Q .non H', rt := Q } (start N vs) H) : FnG P w K mg base CX0 (k + 1) f fd ps sp :=
  F.okG S len fun cdv A outer s H vs Q E hg hr h => let ⟨t, a, q⟩ := hb cdv A outer s H vs Q E hg hr h; ⟨t, a.nox, q⟩
end
section
variable {X : Cx} {CX : CXT} {k : Nat} {f : Addr} {fd : FuncData} {ps : List Str} {sp : Sp} {dvs : List V} {ds : List Value} {E : XK} {x : Str} {p pos : Pos} {e : Expr} {es : List Expr} {t : TA}
/-- f(e, ..) of such a promise -/
theorem pe_callG (hG : X.A.guards = some []) (F : FnG X.prog X.w X.K X.mg X.base CX k f fd ps sp) (hr : Room k X.A) (hg : Gl X x) (hm : X.mg x = some (.ref f)) (hk : PySem.W.keepIn X.K (.ref f) = true) (hb : Binds X.K fd ps ds) (hd : Vals dvs ds) (hx : Passes CX X E)
    (ha : PA X (e :: es) t) (n1 : (x == ("__debug__" : Str)) = false := by decide) (n2 : starEach (e :: es) X.env = (false, eval e X.env) :: starEach es X.env := by rfl) (n3 : (backTo pos (starEach es X.env)).any (·.1) = false := by rfl) :
    PE X (.Call (.Name x p) (e :: es) [] pos) (tCall sp dvs E t) := by
  refine ⟨fun pins s σ H Q I h => wpAny_Call_Name_kw (ld_glob I hg hm (PySem.W.callWith_K (h₀ := X.base) I.ok.mod.kin hk (thn (ha.run pos pins s σ H _ I h) fun us s1 ⟨vs, H1, I1, r, q⟩ => ⟨I1.kIn, ?_⟩) n2 n3) n1)⟩
  have r2 := r.append hd
  refine wpAny_call (codeAny_mono (F.run X.A X.stack s1 H1 ⟨us, []⟩ _ _ Q E hG hr I1.env0 (hb s1 us I1.kIn (by rw [← r2.length]; exact F.len _ _ _ _ q)) r2 q) fun fl s' hq => ?_)
  match fl, hq with
  | .error e, hq => exact hx pins σ H1 s1 e s' I1 hq
  | .ok (.ret u), hq => exact I1.after hq
end
section
variable {P : Program} {w : World} {K : PySem.W.Frag} {mg mb : Str → Option Value} {CX : CXT} {k : Nat} {fa a : Addr} {fd : FuncData} {x : Str} {sp : Sp} {s1 : Shared} {us : List Value} {ns : List Int}
/-- what a law wants of its call -/
abbrev LawEnd (s1 : Shared) (r : Result) (s' : Shared) : Prop := r = .ok (.ret (.bool true)) ∧ OldK s1.heap s'.heap ∧ s'.os = s1.os ∧ AllBare s'.gens
/-- from a heap in which the script alone may be tracked -/
theorem law_fromG (inK : K.In s1.heap) (gl : s1.heap.Ns mainGlobals mg) (bl : s1.heap.Ns builtinsNs mb) (bv : ∀ y : Str, y ≠ "__name__" → mb y = bootBuiltins y) (li : s1.heap.NoLimit) (ge : s1.gens = #[])
    (ha : s1.heap.get? a = some { cls := .type "list", data := .seq us.toArray }) (hr : Room k callerA) (F : ∀ b : Heap, K.In b → b.Ns mainGlobals mg → FnG P w K mg b CX k fa fd [x] sp) (bi : ∀ (s : Shared) (u : Value), BindsTo s fd ⟨[u], []⟩ [(x, u)])
    (no : ∀ H e s', CX [] H s1 (fun _ _ _ => False) e s' → False) (H : Hp) (only : Only H) (say : sp [.ref a] H (fun v _ => v = .bl true) fun _ _ _ => False) (ok : HOk P w H s1.heap) (hA : ∀ b, H b ≠ none → b = a) (hK : H a ≠ none → K.lookup a = none) :
    codeAny (model P w) callerA (.call (.ref fa) ⟨[.ref a], []⟩) (LawEnd s1) s1 := by
  have free : ∀ {b : Addr} {o : Obj}, s1.heap.get? b = some o → (∀ l n, o.data ≠ .seq l n) → H b = none := fun {b o} e d => by
    cases q : H b with
    | none => rfl
    | some u =>
      obtain rfl := hA b (by rw [q]; exact fun z => nomatch z)
      rw [ha] at e; cases e
      exact absurd rfl (d _ _)
  have ns2 : ∀ {b : Addr} {m : Str → Option Value}, s1.heap.Ns b m → (hidT s1.heap H).Ns b m := fun {b m} ⟨o, es, ep, e, d, r⟩ => ⟨o, es, ep, hidT_get e (free e fun l n z => by rw [d] at z; cases z), d, r⟩
  have k2 : K.In (hidT s1.heap H) := fun b o e => hidT_get (inK b o e) (by
    cases q : H b with
    | none => rfl
    | some u =>
      obtain rfl := hA b (by rw [q]; exact fun z => nomatch z)
      rw [hK (by rw [q]; exact fun z => nomatch z)] at e; cases e)
  have li2 : (hidT s1.heap H).NoLimit := by
    obtain ⟨mc, h1, h2⟩ := li
    exact ⟨mc, ns2 h1, h2⟩
  have e0 : Env0 P w K mg (hidT s1.heap H) callerA [] s1 H := { frames := rfl, mod := ⟨k2, ns2 gl, ⟨mb, ns2 bl, bv⟩, li2⟩, bs := fun b o e => of_hidT e, bsz := Nat.le_of_eq (hidT_size _ _), funs := trivial, frf := (fun b hb => absurd (show b ∈ ([] : List Addr) from hb) (List.not_mem_nil)), hok := ok, bare := .of_eq ge }
  refine codeAny_mono ((F _ k2 (ns2 gl)).run callerA [] s1 H ⟨[.ref a], []⟩ [.ref a] [.ref a] _ _ rfl hr e0 (bi s1 _) (.cons rfl .nil) say) fun r s' h => ?_
  match r, h with
  | .error e, h => exact (no H e s' h).elim
  | .ok (.ret u), ⟨v, H', os, bare, un, ok2, ru, q⟩ =>
    obtain rfl : v = .bl true := q
    cases ru
    refine ⟨rfl, OldK.of_keep fun b o e => ?_, os, bare⟩
    rcases only b with z | ⟨ob, xs, z⟩
    · exact un.keep b o e z (fun y => absurd (show b ∈ ([] : List Addr) from y) List.not_mem_nil) List.not_mem_nil
    · have o1 := (ok b _ z).1
      rw [e] at o1; cases o1
      exact (ok2 b _ (un.frzs b _ _ z)).1
theorem law_callG (inK : K.In s1.heap) (gl : s1.heap.Ns mainGlobals mg) (bl : s1.heap.Ns builtinsNs mb) (bv : ∀ y : Str, y ≠ "__name__" → mb y = bootBuiltins y) (li : s1.heap.NoLimit) (ge : s1.gens = #[])
    (ha : s1.heap.get? a = some { cls := .type "list", data := .seq us.toArray }) (hi : IntsAre us ns) (hl : ns.length ≤ sizeLine) (hr : Room k callerA) (F : ∀ b : Heap, K.In b → b.Ns mainGlobals mg → FnG P w K mg b CX k fa fd [x] sp)
    (bi : ∀ (s : Shared) (u : Value), BindsTo s fd ⟨[u], []⟩ [(x, u)]) (say : ∀ H : Hp, Only H → SqL K H a (ns.map V.int) → sp [.ref a] H (fun v _ => v = .bl true) fun _ _ _ => False) (no : ∀ H e s', CX [] H s1 (fun _ _ _ => False) e s' → False) :
    codeAny (model P w) callerA (.call (.ref fa) ⟨[.ref a], []⟩) (LawEnd s1) s1 := by
  have rv := vals_ints hi
  have ll : us.length = ns.length := hi.length
  have two : ∀ h : Hp, Only h → SqL K h a (ns.map V.int) → HOk P w h s1.heap → (∀ b, h b ≠ none → b = a) → (h a ≠ none → K.lookup a = none) → codeAny (model P w) callerA (.call (.ref fa) ⟨[.ref a], []⟩) (LawEnd s1) s1 := fun h h1 h2 h3 h4 h5 =>
    law_fromG inK gl bl bv li ge ha hr F bi no h h1 (say h h1 h2) h3 h4 h5
  cases own : K.lookup a with
  | some o =>
    have e := inK a o own
    rw [ha] at e; cases e
    exact two (fun _ => none) (fun _ => .inl rfl) (.inr ⟨_, us.toArray, _, own, rfl, rfl, rfl, by rw [List.size_toArray, ll]; exact hl, by simpa using rv⟩) (fun b u z => nomatch (show (none : Option HO) = some u from z)) (fun b z => absurd rfl z) fun z => absurd rfl z
  | none =>
    let G : Hp := upd (fun _ => none) a (.frz { cls := .type "list", data := .seq us.toArray } (.lst (ns.map V.int)))
    have ga : G a = some (.frz { cls := .type "list", data := .seq us.toArray } (.lst (ns.map V.int))) := upd_same
    have gn : ∀ b, b ≠ a → G b = none := fun b n => upd_ne n
    refine two G (fun b => ?_) (.inl (.inr ⟨_, ga⟩)) (fun b u z => ?_) (fun b z => ?_) fun _ => own
    · by_cases e : b = a
      · subst e; exact .inr ⟨_, _, ga⟩
      · exact .inl (gn b e)
    · by_cases e : b = a
      · subst e
        rw [ga] at z; cases z
        exact ⟨ha, by rw [List.length_map]; exact hl, us, _, rv, ha⟩
      · rw [gn b e] at z; cases z
    · exact Classical.byContradiction fun e => z (gn b e)
end
theorem walk_ofG {l : PySem.W.OpenLaw} {n k : Nat} {q : Program} {loose : List Str} {XP : (Str → Option Value) → Heap → Prop} {YP : World → Heap → Prop} {d : DefRec} {K : Params → PySem.W.Frag} {CX : World → CXT} {sp : World → Sp} {x : Str} (h1 : l.most = some n) (h2 : n ≤ sizeLine)
    (h3 : d.params.defaults = []) (hr : Room k callerA) (hY : ∀ (w : World) (h : Heap), YP w h → (K w.params).In h)
    (F : ∀ (w : World) (mg : Str → Option Value) (fa : Addr) (h : Heap), (K w.params).In h → h.Ns mainGlobals mg → mg d.name = some (.ref fa) → ∃ fd : FuncData, (∀ (s : Shared) (u : Value), BindsTo s fd ⟨[u], []⟩ [(x, u)]) ∧
      ∀ b : Heap, (K w.params).In b → b.Ns mainGlobals mg → FnG l.prog w (K w.params) mg b (CX w) k fa fd [x] (sp w))
    (say : ∀ (w : World) (H : Hp) (a : Addr) (ns : List Int), ns.length ≤ n → Only H → SqL (K w.params) H a (ns.map V.int) → sp w [.ref a] H (fun v _ => v = .bl true) fun _ _ _ => False)
    (no : ∀ (w : World) (H : Hp) (s : Shared) (e : Value) (s' : Shared), CX w [] H s (fun _ _ _ => False) e s' → False) : PySem.W.WalkO q loose XP YP l.row.toRowW d [] (fun f vs => PySem.call f vs) :=
  Att.attach_call h1 h3 fun w s0 s1 mg mb fa o pm cd doc a vs ns G Y _ _ _ hmg ho hi hlen ge =>
    let ⟨_, bi, hF⟩ := F w mg fa _ (hY w _ Y) G.T.g hmg
    law_callG (hY w _ Y) G.T.g G.T.b G.T.builtins G.T.nolimit ge ho hi (Nat.le_trans hlen h2) hr hF bi (fun H hO hS => say w H a ns hlen hO hS) fun H e s' => no w H s1 e s'
end Sip
namespace Sip
open PySem PySem.Spec PyProof.Rows L2 TL

abbrev Piece := Nat × List Int
/-! all pieces laid one behind another -/
def allF (r : List Int) (ps : List Piece) : List Int := ps.foldl (fun acc p => laidF acc p.1 p.2) r
def mostF (m : Nat) (ps : List Piece) : Nat := ps.foldl (fun m p => if 0 < p.2.length then max m (p.1 + p.2.length) else m) m
def stepB (k : Nat) (b : Int) (p : Piece) : Int := if p.1 ≤ k ∧ k < p.1 + p.2.length then p.2.getD (k - p.1) 0 else b
def byteF (b : Int) (k : Nat) (ps : List Piece) : Int := ps.foldl (stepB k) b
theorem laidF_len (r : List Int) (p : Piece) : (laidF r p.1 p.2).length = if 0 < p.2.length then max r.length (p.1 + p.2.length) else r.length := by
  by_cases h : p.2 = []
  · rw [h, laidF_nil]; rfl
  · rw [laidF_length h, if_pos (List.length_pos_iff.mpr h)]
theorem laidF_byte (r : List Int) (p : Piece) (k : Nat) : (laidF r p.1 p.2)[k]?.getD 0 = stepB k (r[k]?.getD 0) p := by
  unfold stepB
  by_cases h : p.2 = []
  · rw [h, laidF_nil, if_neg (by simp)]
  · rw [laidF_getD h, List.getD_eq_getElem?_getD, List.getD_eq_getElem?_getD]
theorem allF_len : ∀ (ps : List Piece) (r : List Int), (allF r ps).length = mostF r.length ps
  | [], _ => rfl
  | p :: q, r => by
    show (allF (laidF r p.1 p.2) q).length = mostF (if 0 < p.2.length then max r.length (p.1 + p.2.length) else r.length) q
    rw [allF_len q, laidF_len]
theorem allF_byte : ∀ (ps : List Piece) (r : List Int) (k : Nat), (allF r ps)[k]?.getD 0 = byteF (r[k]?.getD 0) k ps
  | [], _, _ => rfl
  | p :: q, r, k => by
    show (allF (laidF r p.1 p.2) q)[k]?.getD 0 = byteF (stepB k (r[k]?.getD 0) p) k q
    rw [allF_byte q, laidF_byte]
theorem allF_append (r : List Int) (a b : List Piece) : allF r (a ++ b) = allF (allF r a) b := List.foldl_append
/-- a piece in two parts -/
theorem laidF_parts (r : List Int) (n c : Nat) (d : List Int) (h : c ≤ d.length) : laidF (laidF r n (d.take c)) (n + c) (d.drop c) = laidF r n d := by
  have l1 := laidF_len r (n, d.take c)
  have l2 := laidF_len (laidF r n (d.take c)) (n + c, d.drop c)
  have l3 := laidF_len r (n, d)
  simp only [List.length_take, List.length_drop] at l1 l2 l3
  refine ext_getD ?_ fun k hk => ?_
  · rw [l2, l3, l1]
    split <;> split <;> split <;> omega
  · rw [laidF_byte _ (n + c, d.drop c), laidF_byte r (n, d.take c), laidF_byte r (n, d)]
    unfold stepB
    simp only [List.length_take, List.length_drop, List.getD_eq_getElem?_getD, List.getElem?_drop]
    by_cases h1 : n + c ≤ k ∧ k < n + c + (d.length - c)
    · rw [if_pos h1, if_pos (by omega)]
      congr 2
      omega
    · rw [if_neg h1]
      by_cases h2 : n ≤ k ∧ k < n + min c d.length
      · rw [if_pos h2, if_pos (by omega), List.getElem?_take_of_lt (by omega)]
      · rw [if_neg h2, if_neg (by omega)]
theorem allF_parts (r : List Int) (a b : List Piece) (n c : Nat) (d : List Int) (h : c ≤ d.length) :
    allF r (a ++ [(n, d.take c), (n + c, d.drop c)] ++ b) = allF r (a ++ [(n, d)] ++ b) := by
  rw [allF_append, allF_append, allF_append, allF_append]
  show allF (laidF (laidF (allF r a) n (d.take c)) (n + c) (d.drop c)) b = allF (laidF (allF r a) n d) b
  rw [laidF_parts _ _ _ _ h]
def Small (p : Piece) : Prop := p.1 ≤ 340 ∧ p.2.length ≤ 400 ∧ Bytes p.2
theorem bytes_getD {bs : List Int} (h : Bytes bs) (k : Nat) : 0 ≤ bs[k]?.getD 0 ∧ bs[k]?.getD 0 ≤ 255 := by
  cases e : bs[k]? with
  | none => exact ⟨by decide, by decide⟩
  | some b =>
    obtain ⟨hk, rfl⟩ := List.getElem?_eq_some_iff.mp e
    exact h _ (List.getElem_mem hk)
theorem bytes_of {bs : List Int} (h : ∀ k, k < bs.length → 0 ≤ bs[k]?.getD 0 ∧ bs[k]?.getD 0 ≤ 255) : Bytes bs := fun b hb => by
  obtain ⟨k, hk, rfl⟩ := List.getElem_of_mem hb
  have := h k hk
  rw [List.getElem?_eq_getElem hk] at this
  exact this
theorem laid_bytes {r : List Int} {p : Piece} (hr : Bytes r) (hp : Bytes p.2) : Bytes (laidF r p.1 p.2) := bytes_of fun k _ => by
  rw [laidF_byte]
  unfold stepB
  split
  · rw [List.getD_eq_getElem?_getD]; exact bytes_getD hp _
  · exact bytes_getD hr k
theorem allF_good : ∀ (ps : List Piece) (r : List Int), Bytes r → r.length ≤ 740 → (∀ p ∈ ps, Small p) → Bytes (allF r ps) ∧ (allF r ps).length ≤ 740
  | [], r, hb, hl, _ => ⟨hb, hl⟩
  | p :: q, r, hb, hl, hp => by
    have h1 := hp p (List.mem_cons_self ..)
    refine allF_good q (laidF r p.1 p.2) (laid_bytes hb h1.2.2) ?_ (fun z hz => hp z (List.mem_cons_of_mem _ hz))
    exact laidF_le ⟨hl, by have := h1.1; have := h1.2.1; omega⟩

/-! pieces in the heap -/
def PieceAt (H : Hp) (v : V) (p : Piece) : Prop := ∃ T D : Addr, v = .ref T ∧ H T = some (.tup [.int (p.1 : Nat), .ref D]) ∧ H D = some (.lst (p.2.map V.int))
def Pieces (H : Hp) (vs : List V) (ps : List Piece) : Prop := vs.length = ps.length ∧ ∀ (i : Nat) (v : V) (p : Piece), vs[i]? = some v → ps[i]? = some p → PieceAt H v p
theorem PieceAt.mono {H H' : Hp} {v : V} {p : Piece} (s : Same H H') (h : PieceAt H v p) : PieceAt H' v p := by
  obtain ⟨T, D, e, h1, h2⟩ := h
  exact ⟨T, D, e, s _ _ h1, s _ _ h2⟩
theorem Pieces.mono {H H' : Hp} {vs : List V} {ps : List Piece} (s : Same H H') (h : Pieces H vs ps) : Pieces H' vs ps :=
  ⟨h.1, fun i v p a b => (h.2 i v p a b).mono s⟩
theorem Pieces.at {H : Hp} {vs : List V} {ps : List Piece} {i : Nat} {v : V} (h : Pieces H vs ps) (e : vs[i]? = some v) : ∃ hi : i < ps.length, PieceAt H v ps[i] := by
  have hi : i < ps.length := by
    have := (List.getElem?_eq_some_iff.mp e).1
    rw [h.1] at this; exact this
  exact ⟨hi, h.2 i v _ e (List.getElem?_eq_getElem hi)⟩
theorem Pieces.nil {H : Hp} : Pieces H [] [] := ⟨rfl, fun i v p a => by simp at a⟩
theorem Pieces.append {H : Hp} {vs us : List V} {ps qs : List Piece} (h : Pieces H vs ps) (k : Pieces H us qs) : Pieces H (vs ++ us) (ps ++ qs) := by
  refine ⟨by rw [List.length_append, List.length_append, h.1, k.1], fun i v p a b => ?_⟩
  by_cases hi : i < vs.length
  · rw [List.getElem?_append_left hi] at a
    rw [List.getElem?_append_left (by rw [← h.1]; exact hi)] at b
    exact h.2 i v p a b
  · rw [List.getElem?_append_right (by omega)] at a
    rw [List.getElem?_append_right (by rw [← h.1]; omega), ← h.1] at b
    exact k.2 _ v p a b
theorem Pieces.one {H : Hp} {v : V} {p : Piece} (h : PieceAt H v p) : Pieces H [v] [p] := ⟨rfl, fun i w q a b => by
  cases i with
  | zero =>
    have e1 : v = w := Option.some.inj a
    have e2 : p = q := Option.some.inj b
    rw [← e1, ← e2]; exact h
  | succ i => simp at a⟩
theorem Pieces.take {H : Hp} {vs : List V} {ps : List Piece} (h : Pieces H vs ps) (n : Nat) : Pieces H (vs.take n) (ps.take n) := by
  refine ⟨by rw [List.length_take, List.length_take, h.1], fun i v p a b => ?_⟩
  have hi : i < n := by
    have := (List.getElem?_eq_some_iff.mp a).1
    rw [List.length_take] at this; omega
  rw [List.getElem?_take_of_lt hi] at a b
  exact h.2 i v p a b
theorem Pieces.drop {H : Hp} {vs : List V} {ps : List Piece} (h : Pieces H vs ps) (n : Nat) : Pieces H (vs.drop n) (ps.drop n) := by
  refine ⟨by rw [List.length_drop, List.length_drop, h.1], fun i v p a b => ?_⟩
  rw [List.getElem?_drop] at a b
  exact h.2 _ v p a b
theorem cut_to (xs : List V) (n : Nat) (h : n ≤ xs.length) : cutV xs none (some (n : Int)) = xs.take n := by
  unfold cutV
  rw [HT.sIx_none, HT.sIx_nat, Nat.min_eq_left h]; rfl
theorem cut_from (xs : List V) (n : Nat) (h : n ≤ xs.length) : cutV xs (some (n : Int)) none = xs.drop n := by
  unfold cutV
  rw [HT.sIx_none, HT.sIx_nat, Nat.min_eq_left h]
  exact List.take_of_length_le (by rw [List.length_drop]; omega)
theorem split_at {α : Type} {ps : List α} {i : Nat} (hi : i < ps.length) : ps.take i ++ [ps[i]] ++ ps.drop (i + 1) = ps := by
  rw [List.append_assoc]
  show ps.take i ++ (ps[i] :: ps.drop (i + 1)) = ps
  rw [List.getElem_cons_drop, List.take_append_drop]
theorem foldl_next {α β : Type} (f : β → α → β) (b : β) (xs : List α) (i : Nat) (hi : i < xs.length) : (xs.take (i + 1)).foldl f b = f ((xs.take i).foldl f b) xs[i] := by
  rw [List.take_add_one, List.getElem?_eq_getElem hi, List.foldl_append]; rfl

def spBytesM (K : PySem.W.Frag) : Sp := fun vs H Q _ => ∃ (p m : Addr) (n : Int) (o : HO) (ms : List Int), vs = [.ref p, .ref m] ∧ H p = some o ∧ PoolO n o ∧ n ≤ 900000000 ∧ SqL K H m (ms.map V.int) ∧ p ≠ m ∧ ms ≠ [] ∧ ms.length ≤ 100 ∧ (∀ z ∈ ms, 0 ≤ z ∧ z ≤ 400) ∧
  ∀ (H' : Hp) (q : Addr) (bs : List Int) (o' : HO), H q = none → H' q = some (.lst (bs.map V.int)) → H' p = some o' → PoolO (n + 1000) o' → Kp [p] H H' → (∃ z ∈ ms, (bs.length : Int) = z) → Bytes bs → Q (.ref q) H'
def spDueP (K : PySem.W.Frag) : Sp := fun vs H Q _ => ∃ (a b : Addr) (r : List Int) (us : List V) (ps : List Piece), vs = [.ref a, .ref b] ∧ SqL K H a (r.map V.int) ∧ SqL K H b us ∧ Pieces H us ps ∧ r.length ≤ 740 ∧ Bytes r ∧ (∀ p ∈ ps, Small p) ∧ ps.length ≤ 100 ∧
  ∀ (H' : Hp) (q : Addr), H q = none → H' q = some (.lst ((allF r ps).map V.int)) → Same H H' → Q (.ref q) H'
/-! what stands apart from some places -/
def mask (qs : List Addr) (H : Hp) : Hp := fun b => if b ∈ qs then none else H b
theorem mask_le (qs : List Addr) (H : Hp) : Same (mask qs H) H := fun b o e => by
  unfold mask at e
  split at e
  · cases e
  · exact e
theorem mask_upd {qs : List Addr} {H : Hp} {q : Addr} {o : HO} (h : q ∈ qs) : mask qs (upd H q o) = mask qs H := by
  funext b
  unfold mask
  split
  · rfl
  · next n =>
    have : b ≠ q := fun z => n (by rw [z]; exact h)
    rw [upd_ne this]
theorem mask_kp {qs : List Addr} {H H' : Hp} (k : Kp qs H H') : Same (mask qs H) (mask qs H') := fun b o e => by
  unfold mask at e ⊢
  split at e
  · cases e
  · next n => rw [if_neg n]; exact k b o n e
theorem mask_at {qs : List Addr} {H : Hp} {b : Addr} (h : b ∉ qs) : mask qs H b = H b := if_neg h
theorem Kp.sub {ps qs : List Addr} {H H' : Hp} (k : Kp ps H H') (h : ∀ x ∈ ps, x ∈ qs ∨ H x = none) : Kp qs H H' := fun b o n e => by
  refine k b o (fun z => ?_) e
  rcases h b z with h | h
  · exact n h
  · rw [h] at e; cases e
def Tiny (p : Piece) : Prop := p.1 ≤ 299 ∧ p.2.length ≤ 40 ∧ Bytes p.2
theorem Tiny.small {p : Piece} (h : Tiny p) : Small p := ⟨by have := h.1; omega, by have := h.2.1; omega, h.2.2⟩
end Sip
namespace Sip
open PySem PySem.Spec PyProof.Rows L2 TL

/-! an object with all that is its own (F): what a call may change -/
def Step (F : Addr → Prop) (H : Hp) (F' : Addr → Prop) (H' : Hp) : Prop := (∀ b o, ¬ F b → H b = some o → H' b = some o) ∧ ∀ b, F' b → F b ∨ H b = none
theorem Step.keep {F F' : Addr → Prop} {H H' : Hp} {b : Addr} {o : HO} (s : Step F H F' H') (n : ¬ F b) (e : H b = some o) : H' b = some o ∧ ¬ F' b :=
  ⟨s.1 b o n e, fun z => (s.2 b z).elim n fun q => by rw [q] at e; cases e⟩
/-- own objects made since H0 alone -/
theorem Step.since {F F' : Addr → Prop} {H0 H H' : Hp} (s : Step F H F' H') (a : Same H0 H) (n : ∀ b, F b → H0 b = none) : Same H0 H' ∧ ∀ b, F' b → H0 b = none := by
  refine ⟨fun b o e => s.1 b o (fun z => by rw [n b z] at e; cases e) (a b o e), fun b z => ?_⟩
  rcases s.2 b z with q | q
  · exact n b q
  · exact a.free q
theorem Step.of {F : Addr → Prop} {H H' : Hp} (s : Same H H') : Step F H F H' := ⟨fun b o _ e => s b o e, fun b z => .inl z⟩
theorem Step.trans {F F' F2 : Addr → Prop} {H H' H2 : Hp} (a : Step F H F' H') (b : Step F' H' F2 H2) : Step F H F2 H2 := by
  refine ⟨fun x o n e => b.1 x o (a.keep n e).2 (a.keep n e).1, fun x z => ?_⟩
  rcases b.2 x z with q | q
  · exact a.2 x q
  · by_cases f : F x
    · exact .inl f
    · cases e : H x with
      | none => exact .inr rfl
      | some o => rw [a.1 x o f e] at q; cases q

/-- a plain file in the heap, however it keeps its row: heap, address, what is its own, row, cursor -/
abbrev PP := Hp → Addr → (Addr → Prop) → List Int → Nat → Prop
structure IsPlain (C : Addr) (PA : PP) : Prop where
  loc : ∀ {H H' : Hp} {p : Addr} {F : Addr → Prop} {r : List Int} {c : Nat}, PA H p F r c → (∀ b o, F b → H b = some o → H' b = some o) → PA H' p F r c
  own : ∀ {H : Hp} {p : Addr} {F : Addr → Prop} {r : List Int} {c : Nat}, PA H p F r c → ∀ b, F b → ∃ o, H b = some o
  ins : ∀ {H : Hp} {p : Addr} {F : Addr → Prop} {r : List Int} {c : Nat}, PA H p F r c → ∃ dx fs, H p = some (.ins C dx fs) ∧ ∀ m ∈ (["read", "read_some", "peek", "readline", "write", "seek", "tell", "size", "row", "cut"] : List Str), fs.lookup m = none
theorem IsPlain.same {C : Addr} {PA : PP} (I : IsPlain C PA) {H H' : Hp} {p : Addr} {F : Addr → Prop} {r : List Int} {c : Nat} (h : PA H p F r c) (s : Same H H') : PA H' p F r c := I.loc h fun b o _ e => s b o e
theorem IsPlain.kp {C : Addr} {PA : PP} (I : IsPlain C PA) {H H' : Hp} {qs : List Addr} {p : Addr} {F : Addr → Prop} {r : List Int} {c : Nat} (h : PA H p F r c) (k : Kp qs H H') (n : ∀ q ∈ qs, ¬ F q) : PA H' p F r c :=
  I.loc h fun b o f e => k b o (fun z => n b z f) e
theorem IsPlain.new {C : Addr} {PA : PP} (I : IsPlain C PA) {H : Hp} {q p : Addr} {F : Addr → Prop} {r : List Int} {c : Nat} (h : PA H p F r c) (n : H q = none) : ¬ F q := fun f => by
  obtain ⟨o, e⟩ := I.own h q f
  rw [n] at e; cases e

def spPInit (K : PySem.W.Frag) (C : Addr) (PA : PP) : Sp := fun vs H Q _ => ∃ (p a dx : Addr) (r : List Int) (c : Nat), vs = [.ref p, .ref a, .int c] ∧ H p = some (.ins C dx []) ∧ H dx = some (.own p) ∧ SqL K H a (r.map V.int) ∧ p ≠ a ∧ r.length ≤ 400 ∧ c ≤ 4000 ∧
  ∀ (H' : Hp) (F' : Addr → Prop), PA H' p F' r c → Step (fun b => b = p ∨ b = dx) H F' H' → Q .non H'
def spPTell (PA : PP) : Sp := fun vs H Q _ => ∃ (p : Addr) (F : Addr → Prop) (r : List Int) (c : Nat), vs = [.ref p] ∧ PA H p F r c ∧ Q (.int c) H
def spPSize (PA : PP) : Sp := fun vs H Q _ => ∃ (p : Addr) (F : Addr → Prop) (r : List Int) (c : Nat), vs = [.ref p] ∧ PA H p F r c ∧ Q (.int r.length) H
def spPRow (PA : PP) : Sp := fun vs H Q _ => ∃ (p : Addr) (F : Addr → Prop) (r : List Int) (c : Nat), vs = [.ref p] ∧ PA H p F r c ∧ ∀ (H' : Hp) (q : Addr), H q = none → H' q = some (.lst (r.map V.int)) → Same H H' → Q (.ref q) H'
def spPSeek (PA : PP) : Sp := fun vs H Q _ => ∃ (p : Addr) (F : Addr → Prop) (r : List Int) (c g : Nat) (pl : Int) (st : Str), vs = [.ref p, .int pl, .str st] ∧ PA H p F r c ∧
  ((st = Str.ofString "head" ∧ (g : Int) = pl) ∨ (st = Str.ofString "here" ∧ (g : Int) = c + pl) ∨ (st = Str.ofString "tail" ∧ (g : Int) = r.length + pl)) ∧ g ≤ 4000 ∧ ∀ (H' : Hp) (F' : Addr → Prop), PA H' p F' r g → Step F H F' H' → Q (.int g) H'
def spPCut (PA : PP) : Sp := fun vs H Q _ => ∃ (p : Addr) (F : Addr → Prop) (r : List Int) (c g : Nat) (v : V), vs = [.ref p, v] ∧ PA H p F r c ∧ ((v = .non ∧ g = c) ∨ v = .int g) ∧ g ≤ 4000 ∧ ∀ (H' : Hp) (F' : Addr → Prop), PA H' p F' (r.take g) c → Step F H F' H' → Q .non H'
def spPWrite (PA : PP) : Sp := fun vs H Q _ => ∃ (p b : Addr) (F : Addr → Prop) (r : List Int) (c : Nat) (d : List Int), vs = [.ref p, .ref b] ∧ PA H p F r c ∧ ¬ F b ∧ H b = some (.lst (d.map V.int)) ∧ Bytes d ∧ r.length ≤ 4000 ∧ c ≤ 4000 ∧ d.length ≤ 400 ∧ (laidF r c d).length ≤ 4000 ∧
  ∀ (H' : Hp) (F' : Addr → Prop), PA H' p F' (laidF r c d) (c + d.length) → Step F H F' H' → Q (.int d.length) H'
/-- a place drawn for a row of n bytes -/
def spGoal (K : PySem.W.Frag) : Sp := fun vs H Q _ => ∃ (p x : Addr) (n : Int) (o : HO) (r : List Int), vs = [.ref p, .ref x] ∧ H p = some o ∧ PoolO n o ∧ n ≤ 900000000 ∧ SqL K H x (r.map V.int) ∧ p ≠ x ∧ r.length ≤ 5000 ∧
  ∀ (H' : Hp) (g : Nat) (o' : HO), g ≤ max (r.length + 20) 4000 → H' p = some o' → PoolO (n + 4) o' → Kp [p] H H' → Q (.int g) H'
def spSought (K : PySem.W.Frag) (PA : PP) : Sp := fun vs H Q _ => ∃ (p x : Addr) (F : Addr → Prop) (r : List Int) (c g : Nat) (way : Int), vs = [.ref p, .int way, .int g, .ref x, .int c] ∧ 0 ≤ way ∧ way ≤ 3 ∧ PA H p F r c ∧ SqL K H x (r.map V.int) ∧ g ≤ 4000 ∧
  ∀ (H' : Hp) (F' : Addr → Prop), PA H' p F' r g → Step F H F' H' → Q (.int g) H'
def spCutL (PA : PP) : Sp := fun vs H Q _ => ∃ (p : Addr) (F : Addr → Prop) (r : List Int) (c g : Nat) (way : Int), vs = [.ref p, .int way, .int g] ∧ 0 ≤ way ∧ way ≤ 2 ∧ (way < 2 → g = c) ∧ PA H p F r c ∧ g ≤ 4000 ∧
  ∀ (H' : Hp) (F' : Addr → Prop), PA H' p F' (r.take g) c → Step F H F' H' → Q .non H'
theorem take_cut (r : List Int) (g : Nat) : cutV (r.map V.int) none (some (g : Int)) = (r.take g).map V.int := by
  unfold cutV
  rw [HT.sIx_none, HT.sIx_nat, List.length_map, List.map_take]
  show (r.map V.int).take (min g r.length - 0) = _
  by_cases h : g ≤ r.length
  · rw [Nat.min_eq_left h]; rfl
  · rw [Nat.min_eq_right (by omega), List.take_of_length_le (by rw [List.length_map]; omega), List.take_of_length_le (by rw [List.length_map]; omega)]
theorem drop_cut (r : List Int) (g : Nat) : cutV (r.map V.int) (some (g : Int)) none = (r.drop g).map V.int := by
  unfold cutV
  rw [HT.sIx_none, HT.sIx_nat, List.length_map, List.map_drop]
  by_cases h : g ≤ r.length
  · rw [Nat.min_eq_left h]
    exact List.take_of_length_le (by rw [List.length_drop, List.length_map]; omega)
  · rw [Nat.min_eq_right (by omega), List.drop_of_length_le (by rw [List.length_map]; omega), List.drop_of_length_le (l := r.map V.int) (by rw [List.length_map]; omega)]
    simp
/-- one byte laid over by hand -/
theorem laid_one (r : List Int) (c : Nat) (v : Int) : (r ++ List.replicate (c - r.length) 0).take c ++ [v] ++ r.drop (c + 1) = laidF r c [v] := by
  rw [laidF_cons (by simp)]
  congr 1
  by_cases h : c + 1 ≤ r.length
  · rw [show c - r.length = 0 by omega]; simp
  · rw [List.drop_of_length_le (l := r) (by omega), List.drop_of_length_le]
    rw [List.length_append, List.length_replicate]
    show _ ≤ c + 1
    omega
end Sip
namespace Sip
open PySem PySem.Spec PyProof.Rows L2 TL
/-! a heap by name: what was made, what was written -/
theorem updG {H H' : Hp} {q : Addr} {o : HO} (g : upd H q o = H') (n : H q = none) : H' q = some o ∧ Same H H' := by
  subst g; exact ⟨upd_same, (Kp.new (ps := []) n).same⟩
theorem updK {H H' : Hp} {q : Addr} {o : HO} (g : upd H q o = H') : H' q = some o ∧ Kp [q] H H' := by
  subst g; exact ⟨upd_same, Kp.at (by simp)⟩
theorem neN {H : Hp} {p x : Addr} {o : HO} (n : H p = none) (e : H x = some o) : x ≠ p := ne_of_none e n
theorem neM {H : Hp} {p x : Addr} {o : HO} (n : H x = none) (e : H p = some o) : x ≠ p := (ne_of_none e n).symm
theorem kp1 {H H' : Hp} {p x : Addr} {o : HO} (k : Kp [p] H H') (n : x ≠ p) (e : H x = some o) : H' x = some o := k x o (by simpa using n) e
theorem sm1 {H H' : Hp} {x : Addr} {o : HO} (k : Same H H') (e : H x = some o) : H' x = some o := k x o e
theorem sqS {K : PySem.W.Frag} {H H' : Hp} {a : Addr} {l : List V} (s : Same H H') (h : SqL K H a l) : SqL K H' a l := s.seq h
theorem sqK {K : PySem.W.Frag} {H H' : Hp} {p a : Addr} {l : List V} (s : Kp [p] H H') (n : a ≠ p) (h : SqL K H a l) : SqL K H' a l := s.seq (by simpa using n) h
end Sip
namespace Sip
open PySem PySem.Spec PyProof.Rows L2 TL
theorem mapI_nil : ([] : List V) = List.map V.int [] := rfl
theorem mapI_cons {a : Int} {l : List V} {ms : List Int} (h : l = List.map V.int ms) : V.int a :: l = List.map V.int (a :: ms) := by rw [h]; rfl
theorem sq_lit {K : PySem.W.Frag} {H : Hp} {m : Addr} {l : List V} {ms : List Int} (h : H m = some (.lst l)) (e : l = ms.map V.int) : SqL K H m (ms.map V.int) := by rw [← e]; exact sq_at h
theorem hp_lit {H : Hp} {m : Addr} {l : List V} {ms : List Int} (h : H m = some (.lst l)) (e : l = ms.map V.int) : H m = some (.lst (ms.map V.int)) := by rw [← e]; exact h
end Sip
namespace Sip
open PySem PySem.Spec PyProof.Rows L2 TL
theorem iteFc {b : Bool} {A B : Prop} (e : b = false) (h : B) : if b = true then A else B := by subst e; exact iteF h
theorem iteTc {b : Bool} {A B : Prop} (e : b = true) (h : A) : if b = true then A else B := by subst e; exact iteT h
theorem free1 {H H' : Hp} {l : Addr} (h : H' l = none) (e : Same H H') : H l = none := e.free h
theorem same_tr {H H1 H2 : Hp} (b : Same H1 H2) (a : Same H H1) : Same H H2 := a.trans b
theorem step_sm {H H1 H2 : Hp} {p : Addr} (k : Kp [p] H1 H2) (n : H p = none) (s : Same H H1) : Same H H2 := step_same s n k
end Sip
namespace Sip
open PySem PySem.Spec PyProof.Rows L2 TL
theorem upd_get {H : Hp} {a b : Addr} {o u : HO} (n : b ≠ a) (e : H b = some u) : upd H a o b = some u := by rw [upd_ne n]; exact e
end Sip
namespace Sip
open PySem PySem.Spec PyProof.Rows L2 TL
/-- an object made: the older ones stay, and are not its own -/
theorem made_new {H H5 : Hp} {f dx : Addr} {o1 o2 : HO} {F : Addr → Prop} (st : Step (fun b => b = f ∨ b = dx) (upd (upd H dx o2) f o1) F H5) (nf : H f = none) (nd : H dx = none) : Same H H5 ∧ ∀ b o, H b = some o → ¬ F b := by
  have k : ∀ b o, H b = some o → H5 b = some o ∧ ¬ F b := fun b o e => by
    have bf : b ≠ f := ne_of_none e nf
    have bd : b ≠ dx := ne_of_none e nd
    exact st.keep (fun z => z.elim bf bd) (by rw [upd_ne bf, upd_ne bd]; exact e)
  exact ⟨fun b o e => (k b o e).1, fun b o e => (k b o e).2⟩
end Sip
namespace Sip
open PySem PySem.Spec PyProof.Rows L2 TL
theorem sqA {K : PySem.W.Frag} {H H' : Hp} {a : Addr} {l : List V} (h : SqL K H a l) (s : Same H H') : SqL K H' a l := s.seq h
end Sip
namespace Sip
open PySem PySem.Spec PyProof.Rows L2 TL
theorem sqB {K K' : PySem.W.Frag} {H H' : Hp} {a : Addr} {l : List V} (h : SqL K H a l) (s : Same H H') (e : K = K') : SqL K' H' a l := e ▸ s.seq h
end Sip
namespace Sip
open PySem PySem.Spec PyProof.Rows L2 TL
/-- what may be found by the way (no word over a frame) -/
class Wit (α : Type) : Prop where
  ok : True
instance : Wit V := ⟨trivial⟩
instance : Wit Int := ⟨trivial⟩
instance : Wit Nat := ⟨trivial⟩
instance : Wit Bool := ⟨trivial⟩
instance : Wit HO := ⟨trivial⟩
instance : Wit Str := ⟨trivial⟩
instance : Wit Value := ⟨trivial⟩
instance : Wit (Addr → Prop) := ⟨trivial⟩
instance {α β : Type} [Wit α] [Wit β] : Wit (α × β) := ⟨trivial⟩
instance {α : Type} [Wit α] : Wit (Option α) := ⟨trivial⟩
instance {α : Type} [Wit α] : Wit (List α) := ⟨trivial⟩
theorem exI {α : Type} [Wit α] {p : α → Prop} (a : α) (h : p a) : ∃ x, p x := ⟨a, h⟩
end Sip
namespace Sip
open PySem PySem.Spec PyProof.Rows L2 TL
theorem isi_ii {K : PySem.W.Frag} {v : Int} {H : Hp} {Q : VK} (h : Q (.bl true) H) : rIsi K [.int v, .ty "int"] H Q := ⟨.int v, .ty "int", _, _, true, rfl, .ty "int", .base (.int v), kit_ty (by decide +kernel), h⟩
theorem isi_ib {K : PySem.W.Frag} {v : Int} {H : Hp} {Q : VK} (h : Q (.bl false) H) : rIsi K [.int v, .ty "bool"] H Q := ⟨.int v, .ty "bool", _, _, false, rfl, .ty "bool", .base (.int v), kit_ty (by decide +kernel), h⟩
end Sip
namespace Sip
open PySem PySem.Spec PyProof.Rows L2

/-! del xs[lo:hi] -/
def delL {α : Type} (xs : List α) (a c : Nat) : List α := xs.take a ++ xs.drop (max a c)
theorem sel_filter {α : Type} (sel : Nat → Bool) (a c : Nat) (h : ∀ k, sel k = (decide (a ≤ k) && decide (k < c))) (xs : List α) :
    ∀ j, (xs.zipIdx j).filterMap (fun p => if sel p.2 = true then none else some p.1) = xs.take (a - j) ++ xs.drop (max (a - j) (c - j)) := by
  induction xs with
  | nil => intro j; simp
  | cons x r ih =>
    intro j
    rw [List.zipIdx_cons, List.filterMap_cons]
    have e := h j
    by_cases h1 : a ≤ j
    · by_cases h2 : j < c
      · rw [decide_eq_true h1, decide_eq_true h2] at e
        have e' : sel j = true := e
        simp only [e', if_true]
        rw [ih (j + 1)]
        have : a - j = 0 := by omega
        have : a - (j + 1) = 0 := by omega
        have : c - j = (c - (j + 1)) + 1 := by omega
        simp [*]
      · rw [decide_eq_true h1, decide_eq_false h2] at e
        have e' : ¬ (sel j = true) := by rw [e]; decide
        simp only [if_neg e']
        rw [ih (j + 1)]
        have : a - j = 0 := by omega
        have : a - (j + 1) = 0 := by omega
        have : c - j = 0 := by omega
        have : c - (j + 1) = 0 := by omega
        simp [*]
    · rw [decide_eq_false h1] at e
      have e' : ¬ (sel j = true) := by rw [e]; simp
      simp only [if_neg e']
      rw [ih (j + 1)]
      have e1 : a - j = (a - (j + 1)) + 1 := by omega
      have e2 : max (a - j) (c - j) = max (a - (j + 1)) (c - (j + 1)) + 1 := by omega
      rw [e2, e1, List.take_succ_cons, List.drop_succ_cons]
      rfl
def selF (a c : Nat) (i : Nat) : Bool :=
  if (1 : Int) > 0 then (a : Int) ≤ i && i < (c : Int) && (i - (a : Int)) % 1 == 0
  else (c : Int) < i && i ≤ (a : Int) && ((a : Int) - i) % (-1) == 0
theorem selF_eq (a c k : Nat) : selF a c k = (decide (a ≤ k) && decide (k < c)) := by
  unfold selF
  rw [if_pos (by decide)]
  have : ((k : Int) - (a : Int)) % 1 = 0 := by omega
  rw [this]
  simp
theorem selF_fun (a c : Nat) : (fun xs : Array Value => (List.filterMap (fun x => if selF a c x.snd = true then none else some x.fst) xs.toList.zipIdx).toArray) = fun t => (delL t.toList a c).toArray := by
  funext t
  have := sel_filter (selF a c) a c (selF_eq a c) t.toList 0
  rw [Nat.sub_zero, Nat.sub_zero] at this
  exact congrArg _ this
theorem sel_fun {sel : Nat → Bool} {a c : Nat} (h : ∀ k, sel k = selF a c k) : (fun xs : Array Value => (List.filterMap (fun x => if sel x.snd = true then none else some x.fst) xs.toList.zipIdx).toArray) = fun t => (delL t.toList a c).toArray := by
  have e : sel = selF a c := funext h
  subst e
  exact selF_fun a c
section
variable {pr : Program} {wd : World} {ar : Around} {er : Value → Shared → Prop} {s : Shared}
set_option maxHeartbeats 4000000 in
theorem del_slice {l z : Addr} {old : Array Value} {m a c : Nat} {lo hi : Option Int} {vl vu : Value} {Q : Unit → Shared → Prop}
    (eo : s.heap.get? l = some { cls := .type "list", data := .seq old m })
    (hz : s.heap.IsSliceOf z vl vu .none) (pl : IsPart vl lo) (pu : IsPart vu hi)
    (bd : sliceBounds lo hi none old.size = ((a : Int), (c : Int), 1)) (fit : old.size ≤ sizeLine)
    (k : Q () { s with heap := s.heap.update l (Obj.mapSeq fun t => (delL t.toList a c).toArray) }) :
    wpAny (model pr wd) ar (delItem (.ref l) (.ref z)) Q er s := by
  have lo' : s.heap.IsList l old := PySem.IsL.isList eo
  obtain ⟨oz, gz, cz, dz⟩ := id hz
  have tz : s.TypeIs (.ref z) "slice" := ⟨oz, gz, cz⟩
  refine wpAny_delItem_slot lo'.typeIs (by decide) PySem.F.slot_list_delitem ?_
  refine wpAny_call_entry PySem.F.slot_list_delitem lo'.typeIs PySem.F.entry_list_delitem ?_ (PySem.F.args_list_delitem_2 _ _)
  show wpAny _ _ (Builtin.List.listSubscript? (.ref z) >>= _) _ _ s
  refine wpAny_bind ?_
  unfold Builtin.List.listSubscript?
  refine wpAny_bind (wpAny_specialOf tz slice_no_index ?_)
  simp only [Option.isNone_none, if_true]
  refine wpAny_pure ?_
  show wpAny _ _ (typeOf (.ref z) >>= _) _ _ s
  refine wpAny_bind (wpAny_typeOf tz ?_)
  first
    | rw [if_neg (by decide)]
    | refine PySem.W.KFB.if_not (by decide) ?_
  rw [listSliceParts_eq]
  refine wpAny_bind (wpAny_bind (wpAny_field gz dz (x := .none) rfl (wpAny_bind (wpAny_listPart .none ?_))))
  rw [if_neg (show ¬ ((rawPart none == rawInt 0) = true) from Bool.false_ne_true)]
  refine wpAny_bind (wpAny_field gz dz (x := vl) rfl (wpAny_bind (wpAny_listPart pl ?_)))
  refine wpAny_bind (wpAny_field gz dz (x := vu) rfl (wpAny_bind (wpAny_listPart pu (wpAny_pure ?_))))
  unfold Builtin.List.listItems
  refine wpAny_bind (wpAny_bind (wpAny_seqItems eo rfl (wpAny_pure ?_)))
  have si := (sliceIndices_raw lo hi none old.size (by simp)).trans (congrArg (pure : Int × Int × Int → Sem (Int × Int × Int)) bd)
  refine wpAny_bind (wpAny_of_eq si ?_)
  refine wpAny_bind (wpAny_rule ?_)
  refine wpAny_bind ?_
  unfold Builtin.List.listUpdate
  simp only []
  rw [sel_fun (a := a) (c := c) (fun k => by with_unfolding_all rfl)]
  have zz : ((fun t : Array Value => (delL t.toList a c).toArray) old).size ≤ sizeLine + 1 := by
    show (delL old.toList a c).toArray.size ≤ _
    rw [List.size_toArray]
    unfold delL
    rw [List.length_append, List.length_take, List.length_drop, Array.length_toList]; omega
  refine wpAny_updateSeq (hz := fit) (_hz' := zz) eo rfl (wpAny_bind (wpAny_letGo ?_))
  first
    | with_reducible exact wpAny_pure ⟨.none, rfl, k⟩
    | exact wpAny_bind (wpAny_pure (wpAny_pure ⟨.none, rfl, k⟩))
    | exact wpAny_pure ⟨.none, rfl, k⟩
end
/-- what is left of a list whose part from lo to hi is deleted -/
def delV (xs : List V) (lo hi : Option Int) : List V := delL xs (HT.sIx xs.length 0 lo) (HT.sIx xs.length xs.length hi)
theorem bounds_sIx (lo hi : Option Int) (n : Nat) : sliceBounds lo hi none n = ((HT.sIx n 0 lo : Int), (HT.sIx n n hi : Int), 1) := by
  have f : ∀ (v : Option Int) (d : Nat), d ≤ n → (match v with | none => (d : Int) | some i => max 0 (min (if i < 0 then i + (n : Int) else i) (n : Int))) = (HT.sIx n d v : Int) ∨ (∃ i, v = some i ∧ i < 0 ∧ i + (n : Int) > n) := by
    intro v d hd
    cases v with
    | none => exact .inl rfl
    | some i =>
      left
      show max 0 (min (if i < 0 then i + (n : Int) else i) (n : Int)) = ((if i < 0 then (i + (n : Int)).toNat else min i.toNat n : Nat) : Int)
      split <;> omega
  have f1 := (f lo 0 (by omega)).resolve_right (by rintro ⟨i, _, h1, h2⟩; omega)
  have f2 := (f hi n (by omega)).resolve_right (by rintro ⟨i, _, h1, h2⟩; omega)
  rw [← f1, ← f2]
  unfold sliceBounds
  cases lo <;> cases hi <;> rfl
section
variable {X : Cx} {pos : Pos}
def tDelS (to : TE) (tl th : TO) : TS := fun D σ H => to σ H fun o H1 => tl σ H1 fun lo H2 => th σ H2 fun hi H3 => ∃ (l : Addr) (xs : List V), o = .ref l ∧ H3 l = some (.lst xs) ∧ D.nx σ (upd H3 l (.lst (delV xs lo hi)))
theorem ps_delS {o : Expr} {lo hi : Option Expr} {to : TE} {tl th : TO} {p2 tpos : Pos} (ho : PE X o to) (hl : PO X lo tl) (hh : PO X hi th) : PS X (.Delete [.Subscript o (.Slice lo hi none p2) tpos] pos) (tDelS to tl th) := by
  refine ⟨fun pins s σ H D I h => ?_⟩
  refine wpAny_Delete (wpAny_deleteEach_cons (wpAny_delete_Subscript (thn (ho.run pins s σ H _ I h) fun ov s1 ⟨x, H1, I1, r1, q1⟩ => ?_)))
  refine wpAny_Slice (thn (hl.run pins s1 σ H1 _ I1 q1) fun wl s2 ⟨l, H2, I2, pl, q2⟩ => ?_)
  refine thn (hh.run pins s2 σ H2 _ I2 q2) fun wu s3 ⟨uu, H3, I3, pu, q3⟩ => ?_
  rw [evalPart_none]
  refine wpAny_pure ?_
  obtain ⟨p, xs, rfl, hp, fin⟩ := q3
  cases r1
  have I4 : Inv X pins σ H3 { s3 with heap := s3.heap.push { cls := .type "slice", data := .fields #[wl, wu, .none] } } := I3.kept (t' := s3.toks) fun b ob e => Heap.get?_push_of_some _ e
  obtain ⟨z1, us1, n1, rv1, hz1, e1⟩ := I4.lstM hp
  have L1 := rv1.length
  refine del_slice (a := HT.sIx xs.length 0 l) (c := HT.sIx xs.length xs.length uu) e1 (Heap.IsSliceOf.new ..) pl pu (by rw [List.size_toArray, ← L1]; exact bounds_sIx _ _ _) (by rw [List.size_toArray]; omega) ?_
  refine wpAny_deleteEach_nil ⟨σ, _, ?_, fin⟩
  refine I4.lset (its' := delL us1 (HT.sIx xs.length 0 l) (HT.sIx xs.length xs.length uu)) (t' := s3.toks) hp e1 rfl (Vals.append (rv1.take _) (rv1.drop _)) ?_
  show (delL _ _ _).length ≤ _
  unfold delL
  rw [List.length_append, List.length_take, List.length_drop]
  omega
end
end Sip
namespace Sip
open PySem PySem.Spec PyProof.Rows L2 TL
/-- for i, x in enumerate(xs), the list standing -/
theorem for_enum {K : PySem.W.Frag} {a : Addr} {xs : List V} {g : TG} {tb : TS} {D : Ends} {σ : L2.St} {H : Hp} (Pv : Nat → L2.St → Hp → Prop) (h0 : Pv 0 σ H) (hl : ∀ i σ H, i ≤ xs.length → Pv i σ H → SqL K H a xs)
    (hs : ∀ i x σ H T, xs[i]? = some x → Pv i σ H → H T = none → g (.ref T) σ (upd H T (.tup [.int (i : Nat), x])) fun σ2 H2 => tb { D with nx := Pv (i + 1), ct := Pv (i + 1), bk := D.nx } σ2 H2) (hd : ∀ σ H, Pv xs.length σ H → D.nx σ H) :
    ∃ W : Nat → Nat → L2.St → Hp → Prop, (∃ m, W 0 m σ H) ∧ ∀ i m σ H, W i m σ H →
      ((Ite K a).stop i H ∧ D.nx σ H) ∨ ((Ite K a).go i H ∧ ∃ N : L2.St → Hp → Prop, (∀ σ' H', N σ' H' → ∃ m', m' < m ∧ W (i + 1) m' σ' H') ∧ ∀ x H', (Ite K a).yld i H x H' → g x σ H' fun σ2 H2 => tb { D with nx := N, ct := N, bk := D.nx } σ2 H2) := by
  refine ⟨fun i m σ H => m = xs.length - i ∧ i ≤ xs.length ∧ Pv i σ H, ⟨xs.length, by simp, Nat.zero_le _, h0⟩, ?_⟩
  rintro i m σ H ⟨rfl, hi, p⟩
  have q := hl i σ H hi p
  by_cases hlt : i < xs.length
  · refine .inr ⟨⟨xs, xs[i], q, by simp [hlt]⟩, Pv (i + 1), fun σ' H' p' => ⟨xs.length - (i + 1), by omega, rfl, hlt, p'⟩, fun x H' y => ?_⟩
    obtain ⟨T, y, rfl, nT, rfl, hy⟩ := y
    exact hs i y σ _ T (hy xs q) p nT
  · have e : i = xs.length := by omega
    subst e
    exact .inl ⟨⟨xs, q, Nat.le_refl _⟩, hd σ H p⟩
end Sip
namespace Sip
open PySem PySem.Spec PyProof.Rows L2 TL
section
variable {X : Cx} {e : Expr} {te : TE}
/-- a bound of a slice that may be None -/
def tPartO (te : TE) : TO := fun σ H Q => te σ H fun x H1 => ∃ k : Option Int, x = (match k with | none => .non | some i => .int i) ∧ Q k H1
theorem po_opt (h : PE X e te) : PO X (some e) (tPartO te) := by
  refine ⟨fun pins s σ H Q I hw => ?_⟩
  rw [evalPart_some]
  refine thn (h.run pins s σ H _ I hw) fun u s1 ⟨x, H1, I1, r1, q1⟩ => ?_
  obtain ⟨k, rfl, q⟩ := q1
  cases k with
  | none =>
    cases (show u = Value.none from r1)
    exact ⟨none, H1, I1, .none, q⟩
  | some i =>
    obtain ⟨t, rfl⟩ := (show ∃ t, u = Value.int i t from r1)
    exact ⟨some i, H1, I1, .int i t, q⟩
end
def cntV : Option Nat → V
  | none => .non
  | some n => .int n
def cntI : Option Nat → Option Int
  | none => none
  | some n => some n
theorem cntV_eq (k : Option Nat) : cntV k = (match cntI k with | none => V.non | some i => .int i) := by cases k <;> rfl
def takeO (k : Option Nat) (xs : List Int) : List Int := match k with
  | none => xs
  | some n => xs.take n
theorem cut_O (r : List Int) (k : Option Nat) : cutV (r.map V.int) none (cntI k) = (takeO k r).map V.int := by
  cases k with
  | none =>
    unfold cutV cntI takeO
    rw [HT.sIx_none, HT.sIx_none, List.length_map]
    show (r.map V.int).take (r.length - 0) = _
    exact List.take_of_length_le (by rw [List.length_map]; omega)
  | some n => exact take_cut r n
theorem takeO_len (k : Option Nat) (xs : List Int) : (takeO k xs).length ≤ xs.length := by
  cases k with
  | none => exact Nat.le_refl _
  | some n => show (xs.take n).length ≤ _; rw [List.length_take]; omega
def lineF (xs : List Int) : List Int := xs.take (xs.idxOf 10 + 1)
theorem lineF_no {xs : List Int} (h : (10 : Int) ∉ xs) : lineF xs = xs := by
  unfold lineF
  exact List.take_of_length_le (by rw [List.idxOf_eq_length h]; omega)
theorem idx_take (xs : List Int) (n : Nat) : (xs.take n).idxOf 10 = min (xs.idxOf 10) (xs.take n).length := by
  induction xs generalizing n with
  | nil => simp
  | cons x r ih =>
    cases n with
    | zero => simp
    | succ n =>
      rw [List.take_succ_cons, List.idxOf_cons, List.idxOf_cons, List.length_cons]
      by_cases h : x = 10
      · subst h; simp
      · have : (x == 10) = false := by simpa using h
        rw [this]
        simp only [cond_false]
        rw [ih n]; omega
theorem lineF_take (xs : List Int) (n : Nat) : lineF (xs.take n) = (lineF xs).take n := by
  unfold lineF
  rw [idx_take, List.take_take, List.take_take]
  rw [List.length_take]
  by_cases h : n ≤ xs.length
  · congr 1; omega
  · rw [List.take_of_length_le (l := xs) (by omega : xs.length ≤ n) |>.symm]
    by_cases g : xs.idxOf 10 < xs.length
    · rw [List.take_of_length_le (l := xs) (by omega : xs.length ≤ n)]; congr 1; omega
    · rw [List.take_of_length_le (l := xs) (by omega : xs.length ≤ n)]
      have : xs.idxOf 10 ≤ xs.length := List.idxOf_le_length
      rw [List.take_of_length_le (by omega), List.take_of_length_le (by omega)]
theorem lineF_O (xs : List Int) (k : Option Nat) : lineF (takeO k xs) = takeO k (lineF xs) := by
  cases k with
  | none => rfl
  | some n => exact lineF_take xs n
theorem inV_ten (xs : List Int) (v : Int) : inV (.int v) (xs.map V.int) = decide (v ∈ xs) := by
  unfold inV
  rw [List.any_map]
  rw [Bool.eq_iff_iff, List.any_eq_true, decide_eq_true_iff]
  constructor
  · rintro ⟨x, hx, e⟩
    have e1 : x = v := by
      have : eqV (.int x) (.int v) = true := e
      simpa [eqV] using this
    rw [← e1]; exact hx
  · intro h
    exact ⟨v, h, by show eqV (.int v) (.int v) = true; simp [eqV]⟩
theorem flat_ints (xs : List Int) : (xs.map V.int).all flatV = true := by
  rw [List.all_map, List.all_eq_true]
  intro x _
  rfl
theorem idx_facts {xs : List Int} {v : Int} (h : v ∈ xs) : (xs.map V.int)[xs.idxOf v]? = some (.int v) ∧ ∀ (m : Nat) (z : V), m < xs.idxOf v → (xs.map V.int)[m]? = some z → eqV z (.int v) = false := by
  have hl : xs.idxOf v < xs.length := List.idxOf_lt_length_of_mem h
  refine ⟨?_, fun m z hm hz => ?_⟩
  · rw [List.getElem?_map, List.getElem?_eq_getElem hl, List.getElem_idxOf hl]; rfl
  · rw [List.getElem?_map] at hz
    obtain ⟨y, hy, rfl⟩ := Option.map_eq_some_iff.mp hz
    have : y ≠ v := by
      intro e
      subst e
      have hm' : m < xs.length := by omega
      rw [List.getElem?_eq_getElem hm'] at hy
      have := List.not_of_lt_findIdx (p := (· == y)) (xs := xs) (i := m) hm
      have e2 : xs[m] = y := Option.some.inj hy
      rw [e2] at this
      simp at this
    show eqV (.int y) (.int v) = false
    simpa [eqV] using this
theorem mid_cut (r : List Int) (c n : Nat) : cutV (r.map V.int) (some (c : Int)) (some ((c + n : Nat) : Int)) = ((r.drop c).take n).map V.int := by
  unfold cutV
  rw [HT.sIx_nat, HT.sIx_nat, List.length_map, ← List.map_drop, ← List.map_take]
  congr 1
  by_cases h : c ≤ r.length
  · rw [Nat.min_eq_left h]
    by_cases g : c + n ≤ r.length
    · rw [Nat.min_eq_left g, Nat.add_sub_cancel_left]
    · rw [Nat.min_eq_right (by omega), List.take_of_length_le (by rw [List.length_drop]; omega), List.take_of_length_le (by rw [List.length_drop]; omega)]
  · rw [Nat.min_eq_right (by omega : r.length ≤ c), Nat.min_eq_right (by omega), List.drop_of_length_le (Nat.le_refl _), List.drop_of_length_le (by omega : r.length ≤ c)]
    simp
theorem past_le (r : List Int) (c n m : Nat) (h1 : r.length ≤ m) (h2 : c ≤ m) : c + ((r.drop c).take n).length ≤ m := by
  rw [List.length_take, List.length_drop]; omega
/-! promises of the reading calls -/
def spPPeek (PA : PP) : Sp := fun vs H Q _ => ∃ (p : Addr) (F : Addr → Prop) (r : List Int) (c : Nat) (k : Option Nat), vs = [.ref p, cntV k] ∧ PA H p F r c ∧
  ∀ (H' : Hp) (q : Addr), H q = none → H' q = some (.lst ((takeO k (r.drop c)).map V.int)) → Same H H' → Q (.ref q) H'
def spPRead (PA : PP) : Sp := fun vs H Q _ => ∃ (p : Addr) (F : Addr → Prop) (r : List Int) (c : Nat) (k : Option Nat), vs = [.ref p, cntV k] ∧ PA H p F r c ∧
  ∀ (H' : Hp) (F' : Addr → Prop) (q : Addr), PA H' p F' r (c + (takeO k (r.drop c)).length) → H q = none → ¬ F' q → H' q = some (.lst ((takeO k (r.drop c)).map V.int)) → Step F H F' H' → Q (.ref q) H'
def spPLine (PA : PP) : Sp := fun vs H Q _ => ∃ (p : Addr) (F : Addr → Prop) (r : List Int) (c : Nat) (k : Option Nat), vs = [.ref p, cntV k] ∧ PA H p F r c ∧ r.length ≤ 10000 ∧
  ∀ (H' : Hp) (F' : Addr → Prop) (q : Addr), PA H' p F' r (c + (takeO k (lineF (r.drop c))).length) → H q = none → ¬ F' q → H' q = some (.lst ((takeO k (lineF (r.drop c))).map V.int)) → Step F H F' H' → Q (.ref q) H'
def spFLine (K : PySem.W.Frag) : Sp := fun vs H Q _ => ∃ (a : Addr) (xs : List Int) (k : Option Nat), vs = [.ref a, cntV k] ∧ SqL K H a (xs.map V.int) ∧ xs.length ≤ 10000 ∧
  ∀ (H' : Hp) (q : Addr), H q = none → H' q = some (.lst ((takeO k (lineF xs)).map V.int)) → Same H H' → Q (.ref q) H'
def spCount : Sp := fun vs H Q _ => ∃ k : Option Nat, vs = [cntV k] ∧ Q .non H
def spAhead (PA : PP) : Sp := fun vs H Q _ => ∃ (p : Addr) (F : Addr → Prop) (r : List Int) (c : Nat), vs = [.ref p] ∧ PA H p F r c ∧
  ∀ (H' : Hp) (q : Addr), H q = none → H' q = some (.lst ((r.drop c).map V.int)) → Same H H' → Q (.ref q) H'
def spPassed (PA : PP) : Sp := fun vs H Q _ => ∃ (p t : Addr) (F : Addr → Prop) (r xs : List Int) (c : Nat), vs = [.ref p, .ref t] ∧ PA H p F r c ∧ ¬ F t ∧ H t = some (.lst (xs.map V.int)) ∧
  ∀ (H' : Hp) (F' : Addr → Prop), PA H' p F' r (c + xs.length) → ¬ F' t → H' t = some (.lst (xs.map V.int)) → Step F H F' H' → Q (.ref t) H'
end Sip
namespace Sip
open PySem PySem.Spec PyProof.Rows L2 TL
/-! ### own errors that keep a value -/
/-- __init__(self, f): self.f = f -/
def spErr1 (C : Addr) (f : Str) : Sp := fun vs H Q _ => ∃ (a : Addr) (v : V), vs = [.ref a, v] ∧ H a = some (exo a C none) ∧ ∀ dx, H dx = none → dx ≠ a → Q .non (upd (upd H dx (exd dx [(f, v)])) a (exo a C (some dx)))
/-- what a raise of it asks, once its value stands -/
theorem mk1_fin {C : Addr} {f : Str} {H1 : Hp} {v : V} {Q : XK} (h : ∀ d, H1 d = none → Q (.ref C) (some d) (upd H1 d (.xd [(f, v)]))) :
    [v].length ≤ 1000 ∧ ∀ a, H1 a = none → spErr1 C f (.ref a :: ([v] ++ [])) (upd H1 a (exo a C none))
      (fun v H2 => v = .non ∧ ∃ (d : Addr) (fs : List (Str × V)), H2 a = some (exo a C (some d)) ∧ H2 d = some (exd d fs) ∧ H1 d = none ∧ Q (.ref C) (some d) (upd (del H2 a) d (.xd fs))) (fun _ _ _ => False) := by
  refine ⟨by show 1 ≤ 1000; decide, fun a na => ⟨a, v, rfl, upd_same, fun dx nd ne => ⟨rfl, dx, [(f, v)], upd_same, ?_, ?_, ?_⟩⟩⟩
  · rw [upd_ne ne]; exact upd_same
  · rw [upd_ne ne] at nd; exact nd
  · have nd' : H1 dx = none := by rw [upd_ne ne] at nd; exact nd
    have e : upd (del (upd (upd (upd H1 a (exo a C none)) dx (exd dx [(f, v)])) a (exo a C (some dx))) a) dx (.xd [(f, v)]) = upd H1 dx (.xd [(f, v)]) := by
      funext b
      by_cases hb : b = dx
      · subst hb; rw [upd_same, upd_same]
      · rw [upd_ne hb, upd_ne hb]
        by_cases ha : b = a
        · subst ha; rw [del_same, na]
        · rw [del_ne ha, upd_ne ha, upd_ne hb, upd_ne ha]
    rw [e]
    exact h dx nd'
section
variable {X : Cx}
/-- isinstance(e, c): e is the error that the suite holds, whatever it keeps -/
def rIsO (K : PySem.W.Frag) (cls : Value) (d : Option Addr) (a : Addr) : List V → Hp → VK → Prop := fun xs H Q => ∃ D : Addr, cls = .ref D ∧ ExcC K D ∧ (d = none ∨ ∃ dd fs, d = some dd ∧ H dd = some (.xd fs)) ∧ rIsE K D a xs H Q
theorem inst_of {a D : Addr} {oe : Obj} {d : Option Addr} {H : Hp} {s : Shared} {pins : List (Addr × Obj)} {σ : L2.St} {Y : Cx} (I : Inv Y pins σ H s) (ha : s.heap.get? a = some oe) (hz : Zc (.ref D) d oe) (hf : ∃ vs, oe.data = .fields vs)
    (hd : d = none ∨ ∃ dd fs, d = some dd ∧ H dd = some (.xd fs)) : ∃ od, PySem.W.InstAt s.heap a oe D od := by
  obtain ⟨vs, hv⟩ := hf
  obtain ⟨z1, z2⟩ := hz
  have nc : PySem.W.notCls oe = true := by unfold PySem.W.notCls; rw [hv]
  rcases hd with rfl | ⟨dd, fs, rfl, ed⟩
  · refine ⟨none, ha, z1, nc, ?_⟩
    rw [z2]; trivial
  · have ob : ObjOk Y.prog Y.w H s.heap dd (.xd fs) := I.hok dd _ ed
    obtain ⟨mA, hns, _⟩ := ob
    obtain ⟨od, ho, _⟩ := lookIn_ns hns
    refine ⟨some od, ha, z1, nc, ?_⟩
    rw [z2]; exact ho
theorem call_isO {a : Addr} {oe : Obj} {cls : Value} {d : Option Addr} {pn : List (Addr × Obj)} (hz : Zc cls d oe) (hf : ∃ vs, oe.data = .fields vs) : CallR (X.suite a ((a, oe) :: pn)) (.builtin "isinstance") (rIsO X.K cls d a) := by
  intro pins s σ H xs us Q I r h
  obtain ⟨D, rfl, C, hd, c, cv, b, rfl, hcv, e, q⟩ := h
  obtain ⟨u1, u2, rfl, r1, r2⟩ := vals2 r
  obtain rfl : u1 = Value.ref a := r1
  obtain rfl := hcv _ r2
  obtain ⟨ha, _⟩ := I.pin (a, oe) (List.mem_append_left _ List.mem_cons_self)
  obtain ⟨od, J⟩ := inst_of I ha hz hf hd
  have hcl : (PySem.W.clsIn X.K D).isSome = true := by
    obtain ⟨cd, h1, _⟩ := PySem.W.any_some C.hd
    rw [h1]; rfl
  exact PySem.W.kia_one (PySem.W.kitx_exc hcl C.hg C.hk C.hs C.ha C.hn C.ht C.hm) I.kIn J e (fun z => nomatch z) fun tk => ⟨.bl b, H, I.kept (t' := tk) fun _ _ z => z, rfl, q⟩
/-- e.f of that error -/
def tXf (K : PySem.W.Frag) (f : Str) (a : Addr) (cls : Value) (d : Option Addr) (te : TE) : TE := fun σ H Q => te σ H fun x H1 => ∃ (D dd : Addr) (fs : List (Str × V)) (v : V), x = .ref a ∧ cls = .ref D ∧ ExcC K D ∧ PySem.W.findIn K (.ref D) f = some none ∧ d = some dd ∧ H1 dd = some (.xd fs) ∧ fs.lookup f = some v ∧ Q v H1
theorem pe_xf {f : Str} {a : Addr} {oe : Obj} {cls : Value} {d : Option Addr} {pn : List (Addr × Obj)} {e : Expr} {te : TE} {pos : Pos} (hz : Zc cls d oe) (hf : ∃ vs, oe.data = .fields vs) (he : PE (X.suite a ((a, oe) :: pn)) e te)
    (hb : attributeBase e f X.env (eval e X.env) = eval e X.env := by rfl) : PE (X.suite a ((a, oe) :: pn)) (.Attribute e f pos) (tXf X.K f a cls d te) := by
  refine ⟨fun pins s σ H Q I h => attr_of hb (thn (he.run pins s σ H _ I h) fun u s1 hh => ?_)⟩
  obtain ⟨x, H1, I1, rx, D, dd, fs, v, rfl, rfl, C, no, rfl, ed, lk, q⟩ := hh
  obtain rfl : u = Value.ref a := rx
  obtain ⟨ha, _⟩ := I1.pin (a, oe) (List.mem_append_left _ List.mem_cons_self)
  have ob : ObjOk X.prog X.w H1 s1.heap dd (.xd fs) := I1.hok dd _ ed
  obtain ⟨mA, hns, hr⟩ := ob
  obtain ⟨od, ho, hl⟩ := lookIn_ns hns
  obtain ⟨v', hv', rv⟩ := RelO.some_of (v := v) (o := mA f) (by rw [← lk]; exact hr f)
  obtain ⟨vs, hd⟩ := hf
  have J : PySem.W.InstAt s1.heap a oe D (some od) := by
    refine ⟨ha, hz.1, ?_, ?_⟩
    · unfold PySem.W.notCls; rw [hd]
    · rw [hz.2]; exact ho
  exact HandSPX.exc_get I1.kIn J C.hg C.hk C.hs (PySem.W.findObj_own C.hd no rfl (by rw [hl, hv'])) (handed_of rv) ⟨v, H1, I1.tok _, rv, q⟩
end
/-! ### calls within a try -/
section
variable {X : Cx} {CX : CXT} {k n : Nat} {f : Addr} {fd : FuncData} {ps ks : List Str} {sp : Sp} {E : L2.St → XK} {x : Str} {p pos : Pos} {e : Expr} {es : List Expr} {kws : List Keyword} {t tk : TA} {g : List Value → List Value → List Value} {gV : List V → List V → List V}
def tCallNS (n m : Nat) (sp : Sp) (gV : List V → List V → List V) (E : L2.St → XK) (t tk : TA) : TE := fun σ H Q => t σ H fun vs H1 => tk σ H1 fun zs H2 => vs.length = n ∧ zs.length = m ∧ sp (gV vs zs) H2 Q (E σ)
theorem pe_callNS (F : FnOk X.prog X.w X.K X.mg X.base CX k f fd ps sp) (hr : Room k X.A) (hg : Gl X x) (hm : X.mg x = some (.ref f)) (hk : PySem.W.keepIn X.K (.ref f) = true) (hb : KBn X.K fd ps n ks g gV) (hx : ∀ σ, PassesAt CX X σ (E σ))
    (ha : PA X (e :: es) t) (hkw : PK X kws tk) (hall : (backToKw pos (keywordEach kws X.env)).all (·.1.isSome) = true := by rfl) (hks : (backToKw pos (keywordEach kws X.env)).filterMap (·.1) = ks := by rfl)
    (hdb : (x == ("__debug__" : Str)) = false := by decide) (he : starEach (e :: es) X.env = (false, eval e X.env) :: starEach es X.env := by rfl)
    (hpl : ((backTo pos (starEach (e :: es) X.env)).any (·.1) || (backToKw pos (keywordEach kws X.env)).any (·.1.isNone)) = false := by rfl) :
    PE X (.Call (.Name x p) (e :: es) kws pos) (tCallNS n ks.length sp gV E t tk) := by
  refine ⟨fun pins s σ H Q I h => wpAny_Call_Name_kw (ld_glob I hg hm ?_ hdb)⟩
  refine PySem.W.callWith_KW (h₀ := X.base) I.ok.mod.kin hk hall (thn (ha.run pos pins s σ H _ I h) fun us s1 ⟨vs, H1, I1, r, q⟩ => ?_) hpl he
  refine thn (hkw.run pos pins s1 σ H1 _ I1 q) fun ws s2 w2 => ?_
  obtain ⟨zs, H2, I2, rz, l1, l2, q2⟩ := w2
  refine ⟨I2.kIn, ?_⟩
  rw [hks]
  have bt := hb.to s2 us ws I2.kIn (r.length.symm.trans l1) (rz.length.symm.trans l2)
  refine wpAny_call (codeAny_mono (F.run X.A X.stack s2 H2 ⟨us, ks.zip ws⟩ (g us ws) (gV vs zs) Q (E σ) hr I2.env0 bt (hb.rel r rz) q2) fun out s' hq => ?_)
  match out, hq with
  | .error e, hq => exact hx σ pins H2 s2 e s' I2 hq
  | .ok (.ret u), hq => exact I2.after hq
  | .ok .next, hq => exact hq.elim
  | .ok .brk, hq => exact hq.elim
  | .ok .cont, hq => exact hq.elim
end
/-- a raising callee within a def that lets the error out -/
theorem passX {X : Cx} {E : XK} (tk : Takes X (fun cls d _ H => E cls d H)) : Passes (L2.CX X.prog X.w) X E := fun pins σ H s e s' I c => passes_call tk (fun _ _ _ _ h => h) pins σ H s e s' I c
end Sip
namespace Sip
open PySem PySem.Spec PyProof.Rows L2 TL
theorem kit_ownF {K : PySem.W.Frag} {C S : Addr} (h1 : PySem.W.isClsIn K S = true) (h2 : PySem.W.typeIn K (.ref S) = some (.type "type")) (h0 : PySem.W.subIn K (.ref C) (.ref C) = some true) (h3 : PySem.W.subIn K (.ref C) (.ref S) = some false) : PySem.W.kitOne K (.ref C) (.ref S) = some false := by
  have ne : C ≠ S := fun z => by
    rw [z] at h0 h3
    rw [h0] at h3
    cases h3
  have a : ((PySem.W.clsIn K S).isSome && PySem.W.typeIn K (.ref S) == some (.type "type")) = true := by
    have h1' : (PySem.W.clsIn K S).isSome = true := h1
    rw [h1', h2]; rfl
  unfold PySem.W.kitOne PySem.W.kitCls
  split
  · next h =>
    exfalso
    exact ne (by simpa using h)
  · exact (if_pos a).trans h3
/-- the written class of an own error straight beneath S -/
def IsExcObj (K : PySem.W.Frag) (C S : Addr) : Prop := ∃ nm q N bs bm sn sub ab col dd k0 k1 k2 k3 k5, K.lookup C = some (excClassObj nm q C N bs bm true sn sub ab col dd k0 k1 k2 k3 k5 "ValueError.__new__") ∧ PySem.HandSPX.refsVE bm = true
end Sip
/-! several except clauses, some with a name -/
namespace Sip
open PySem PySem.Spec PyProof.Rows L2 TL
/-- a clause: its class, the slot of its name, its suite -/
abbrev Cl := Value × Option Nat × (Addr → Value → Option Addr → TS)
/-- behind a suite its name is gone -/
def offD (i : Nat) (D : Ends) : Ends where
  nx := fun σ H => D.nx (σ.set i none) H
  rt := D.rt
  bk := fun σ H => D.bk (σ.set i none) H
  ct := fun σ H => D.ct (σ.set i none) H
def suiteW (D : Ends) (ts : Addr → Value → Option Addr → TS) (cls : Value) (d : Option Addr) (σ : L2.St) (H : Hp) (a : Addr) : Option Nat → Prop
  | none => ts a cls d D σ H
  | some i => ts a cls d (offD i D) (σ.set i (some (.ref a))) H
def wMix (K : PySem.W.Frag) (Wo : WX) (D : Ends) : List Cl → WX
  | [] => Wo
  | (c, o, ts) :: r => fun cls d σ H => ∃ b, PySem.W.exmOne K cls c = some b ∧ (b = true → ∀ a, H a = none → suiteW D ts cls d σ H a o) ∧ (b = false → wMix K Wo D r cls d σ H)
/-- the slot of a clause's name -/
def AsOk (X : Cx) : Option Str → Option Nat → Prop
  | none, none => True
  | some n, some i => X.N.Nodup ∧ X.N[i]? = some n ∧ X.env.kindOf n = some .local
  | _, _ => False
abbrev SuiteOk (X : Cx) (su : List Stmt) (ts : Addr → Value → Option Addr → TS) : Prop := ∀ (a : Addr) (oe : Obj) (cls : Value) (d : Option Addr) (pn : List (Addr × Obj)), Zc cls d oe → (∃ vs, oe.data = .fields vs) → PSs (X.suite a ((a, oe) :: pn)) su (ts a cls d)
inductive ClsOk (X : Cx) : List ExceptHandler → List Cl → Prop
  | nil : ClsOk X [] []
  | cons {x : Str} {c : Value} {nm : Option Str} {o : Option Nat} {ts : Addr → Value → Option Addr → TS} {st : Stmt} {su : List Stmt} {q1 q2 : Pos} {hs : List ExceptHandler} {l : List Cl} (hc : Names X x c) (ha : AsOk X nm o) (hsu : SuiteOk X (st :: su) ts) (r : ClsOk X hs l) :
      ClsOk X (.ExceptHandler (some (.Name x q1)) nm (st :: su) q2 :: hs) ((c, o, ts) :: l)
/-- an error that has come to the clauses of a try -/
structure Caught (X : Cx) (pins : List (Addr × Obj)) (a : Addr) (B : Heap) (sI s1 : Shared) (h3 : Heap) (σ : L2.St) (H : Hp) (cls : Value) (d : Option Addr) : Prop where
  ok : X.Ok
  stk : X.stack = X.env :: X.outer
  frm : X.env.frame = some X.env.locals
  inv : Inv X pins σ H sI
  nb : ∀ b o, sI.heap.get? b = some o → b ∉ frs X.stack → B.get? b = some o
  up : sI.heap.UpToSlots h3
  fl : HandSPX.FlyingZ B (X.env :: X.outer) a (Zc cls d) h3
  na : H a = none
  nL : a ≠ X.env.locals
  nF : a ∉ X.fs
  os : s1.os = sI.os
  ag : AllBare s1.gens
section
variable {X : Cx} {pins : List (Addr × Obj)} {a : Addr} {B : Heap} {sI s1 : Shared} {h3 : Heap} {σ : L2.St} {H : Hp} {cls : Value} {d : Option Addr} {D : Ends} {Wo : WX}
theorem Caught.at (C : Caught X pins a B sI s1 h3 σ H cls d) {h4 : Heap} (f : HandSPX.FlyingZ B (X.env :: X.outer) a (Zc cls d) h4) (u : h3.UpToSlots h4) : Inv X pins σ H { s1 with heap := h4 } :=
  C.inv.landed (s' := { s1 with heap := h4 }) (by have := C.nb; exact this) f.1 (C.up.trans u) C.os C.ag
/-- no clause takes it -/
theorem Caught.none (C : Caught X pins a B sI s1 h3 σ H cls d) (tk : Takes X Wo) (w : Wo cls d σ H) : wpAny (model X.prog X.w) X.A (handleBy (.ref a) X.env []) (SP X pins D) X.xe { s1 with heap := h3 } := by
  have C2 := C
  obtain ⟨_, _, _, _, _, T, _, _, he, _, hd, h1, _⟩ := C2.fl
  have go : wpAny (model X.prog X.w) X.A (setFlight (.ref a) X.env.frame) (fun _ s4 => wpAny (model X.prog X.w) X.A (throw (.ref a) : Sem Flow) (SP X pins D) X.xe s4) X.xe { s1 with heap := h3 } := by
    rw [C.frm]
    exact HandSPX.setFlight_upZ C.fl fun h4 held u4 => wpAny_throw (tk _ _ ⟨a, B, sI, pins, σ, H, cls, d, rfl, C.inv, C.nb, C.up.trans u4, .inr (.inr (by rw [C.stk]; exact held)), C.na, C.os, C.ag, w⟩)
  refine wpAny_handleBy_nil ?_
  unfold PySem.passOn
  refine wpAny_bind (wpAny_field he hd h1 ?_)
  have nn : ¬ ((Value.ref T == Value.none) = true) := by simp
  rw [if_neg nn]
  first | exact wpAny_bind (wpAny_pure (wpAny_bind go)) | exact wpAny_bind go
theorem caught_go (C : Caught X pins a B sI s1 h3 σ H cls d) (tk : Takes X Wo) : ∀ {hs : List ExceptHandler} {l : List Cl}, ClsOk X hs l → wMix X.K Wo D l cls d σ H → wpAny (model X.prog X.w) X.A (handleBy (.ref a) X.env hs) (SP X pins D) X.xe { s1 with heap := h3 } := by
  intro hs l hk
  induction hk with
  | nil => exact fun w => C.none tk w
  | @cons x c nm o ts st su q1 q2 hs2 l2 hc ha hsu r ih =>
    rintro ⟨b, hb, yes, no⟩
    have J3 := C.at C.fl (Heap.UpToSlots.refl _)
    obtain ⟨oe, vs, he, hz, hd⟩ := C.fl.there
    have S3 := J3.suite he hd C.na C.nL C.nF
    refine wpAny_handleBy_cons (codeAny_handlers_test ?_) (by intro q; cases q)
    have knows : PySem.W.Looks (model X.prog X.w) h3 (typeOf (.ref a)) cls := fun _ _ _ _ k q => wpAny_typeOf_ref (k _ _ he) (by rw [hz.1]; exact q)
    have look := PySem.W.exm_one (M := model X.prog X.w) J3.kIn knows hb
    have named : ∀ {Q E : Value → Shared → Prop}, Q c { s1 with heap := h3 } → wpAny (model X.prog X.w) (X.A.mark (some (.ref a))) (eval (.Name x q1) X.env) Q E { s1 with heap := h3 } := fun q => by
      rcases hc with ⟨g1, g2, m1 | ⟨m1, m2, m3⟩⟩
      · exact ld_glob (X := X.suite a ((a, oe) :: (X.pn ++ pins))) S3 g1 m1 q g2
      · exact ld_blt (X := X.suite a ((a, oe) :: (X.pn ++ pins))) S3 g1 m1 m2 q m3 g2
    refine named (look.here ?_)
    cases b with
    | false => exact ih (no rfl)
    | true =>
      cases nm with
      | none =>
        cases o with
        | some i => exact ha.elim
        | none =>
          refine codeAny_handlers_suite (HandSPX.lands_againZ C.fl fun h4 f4 u4 => ?_)
          obtain ⟨oe4, _, e4, z4, d4⟩ := f4.there
          have S4 := (C.at f4 u4).suite e4 d4 C.na C.nL C.nF
          refine wpAny_mono ((hsu a oe4 cls d (X.pn ++ pins) z4 ⟨_, d4⟩).run [] _ _ H _ S4 (yes rfl a C.na)) (fun f s6 hp => ?_) fun _ _ z => z.elim
          match f, hp with
          | .next, ⟨_, _, S6, q6⟩ => exact ⟨_, _, S6.unsuite C.ok, q6⟩
          | .brk, ⟨_, _, S6, q6⟩ => exact ⟨_, _, S6.unsuite C.ok, q6⟩
          | .cont, ⟨_, _, S6, q6⟩ => exact ⟨_, _, S6.unsuite C.ok, q6⟩
          | .ret _, ⟨_, _, _, S6, r6, q6⟩ => exact ⟨_, _, _, S6.unsuite C.ok, r6, q6⟩
      | some n =>
        cases o with
        | none => exact ha.elim
        | some i =>
          obtain ⟨hN, hi, hl⟩ := ha
          refine codeAny_handlers_suite_as (HandSPX.lands_againZ C.fl fun h4 f4 u4 => ?_)
          obtain ⟨oe4, _, e4, z4, d4⟩ := f4.there
          have S4 := (C.at f4 u4).suite e4 d4 C.na C.nL C.nF
          refine store_ok (X := X.suite a ((a, oe4) :: (X.pn ++ pins))) (v := .ref a) S4 hN hi (.inl hl) rfl (fun s5 S5 => ?_) (.inr hl)
          refine wpAny_mono ((hsu a oe4 cls d (X.pn ++ pins) z4 ⟨_, d4⟩).run [] s5 _ H _ S5 (yes rfl a C.na)) (fun f s6 hp => ?_) fun _ _ z => z.elim
          have off : ∀ {σ6 : L2.St} {H6 : Hp} {Q : Shared → Prop}, Inv (X.suite a ((a, oe4) :: (X.pn ++ pins))) [] σ6 H6 s6 → (∀ s7, Inv X pins (σ6.set i none) H6 s7 → Q s7) → wpAny (model X.prog X.w) X.A (do bindName X.env n .none; unbindBehindTheSuite X.env n q2) (fun _ s7 => Q s7) X.xe s6 :=
            fun S6 hq => gone_ok (S6.unsuite C.ok) hN hi hl hq
          match f, hp with
          | .next, ⟨_, _, S6, q6⟩ => exact off S6 fun _ J7 => ⟨_, _, J7, q6⟩
          | .brk, ⟨_, _, S6, q6⟩ => exact off S6 fun _ J7 => ⟨_, _, J7, q6⟩
          | .cont, ⟨_, _, S6, q6⟩ => exact off S6 fun _ J7 => ⟨_, _, J7, q6⟩
          | .ret _, ⟨_, _, _, S6, r6, q6⟩ => exact off S6 fun _ J7 => ⟨_, _, _, J7, r6, q6⟩
/-- try: .. except X: .. except Y as n: .. -/
theorem ps_try_mix {body : List Stmt} {h0 : ExceptHandler} {hs : List ExceptHandler} {l : List Cl} {pos : Pos} {tb : WX → TS} (stk : X.stack = X.env :: X.outer) (frm : X.env.frame = some X.env.locals) (tk : Takes X Wo)
    (hb : ∀ (W : WX) (pn : List (Addr × Obj)) (xe : Value → Shared → Prop), Takes (X.tr pn xe) W → PassesOwn (model X.prog X.w) X.A X.env xe → PSs (X.tr pn xe) body (tb W)) (hh : ClsOk X (h0 :: hs) l) :
    PS X (.Try body (h0 :: hs) [] [] pos) (fun D σ H => tb (wMix X.K Wo D l) D σ H) := by
  refine ⟨fun pins s σ H D I h => wpAny_Try_except ?_⟩
  have ok := I.ok
  have fr : X.A.frames = some (X.env :: X.outer) := by rw [ok.frames, stk]
  have run := (hb (wMix X.K Wo D l) (X.pn ++ pins) (fun e t1 => wpAny (model X.prog X.w) X.A (noteFrame e X.env) (fun _ t2 => wpAny (model X.prog X.w) X.A (setFlight e none) (fun _ t3 => wpAny (model X.prog X.w) X.A (handleBy e X.env (h0 :: hs)) (SP X pins D) X.xe t3) X.xe t2) X.xe t1) ?_ PassesOwn.looking).run [] s σ H D (I.toTry _) h
  · refine wpAny_mono run (fun f s1 hp => ?_) fun _ _ he => he
    match f, hp with
    | .next, ⟨_, _, J, q⟩ => exact wpAny_execs_nil ⟨_, _, J.ofTry ok, q⟩
    | .brk, ⟨_, _, J, q⟩ => exact ⟨_, _, J.ofTry ok, q⟩
    | .cont, ⟨_, _, J, q⟩ => exact ⟨_, _, J.ofTry ok, q⟩
    | .ret _, ⟨_, _, _, J, r, q⟩ => exact ⟨_, _, _, J.ofTry ok, r, q⟩
  · rintro u s1 ⟨a, B, sI, pins2, σ2, H2, cls, d, rfl, J2, nb, up, sky, na, os, ag, w⟩
    have sky2 : Sky B (X.env :: X.outer) a (Zc cls d) X.env.locals s1.heap := by rw [← stk]; exact sky
    refine Sky.land Zc.steady fr frm sky2 fun h3 f3 u3 => ?_
    obtain ⟨oe, vs, he, _, hd⟩ := f3.there
    have far : a ∉ frs (X.env :: X.outer) := fun m => by
      obtain ⟨_, o2, e2, nf⟩ := f3.2.2.1.mem m
      rw [he] at e2; cases e2
      exact nf _ hd
    have nL : a ≠ X.env.locals := fun z => far (List.mem_filterMap.mpr ⟨X.env, List.mem_cons_self, by rw [frm, z]⟩)
    have nF : a ∉ X.fs := fun m => by
      obtain ⟨e, h1, h2⟩ := List.mem_filterMap.mp m
      exact far (List.mem_filterMap.mpr ⟨e, List.mem_cons_of_mem _ h1, h2⟩)
    exact caught_go ⟨ok, stk, frm, J2.ofTry ok, nb, up.trans u3, f3, na, nL, nF, os, ag⟩ tk hh w
end
/-- a promise that raises nothing, where one that may raise is asked; two promises of one def -/
theorem FnOk.lift {P : Program} {w : World} {K : PySem.W.Frag} {mg : Str → Option Value} {base : Heap} {CX : CXT} {k : Nat} {f : Addr} {fd : FuncData} {ps : List Str} {sp : Sp} (F : FnOk P w K mg base CX0 k f fd ps sp) : FnOk P w K mg base CX k f fd ps sp :=
  ⟨F.len, fun A outer s H args us vs Q E hr he hb hv h => codeAny_mono (F.run A outer s H args us vs Q E hr he hb hv h) fun r s2 q => match r, q with
    | .ok (.ret _), q => q⟩
theorem FnOk.or {P : Program} {w : World} {K : PySem.W.Frag} {mg : Str → Option Value} {base : Heap} {CX : CXT} {k : Nat} {f : Addr} {fd : FuncData} {ps : List Str} {sp sq : Sp} (F : FnOk P w K mg base CX k f fd ps sp) (G : FnOk P w K mg base CX k f fd ps sq) :
    FnOk P w K mg base CX k f fd ps (fun vs H Q E => sp vs H Q E ∨ sq vs H Q E) :=
  ⟨fun vs H Q E h => h.elim (F.len vs H Q E) (G.len vs H Q E), fun A outer s H args us vs Q E hr he hb hv h => h.elim (F.run A outer s H args us vs Q E hr he hb hv) (G.run A outer s H args us vs Q E hr he hb hv)⟩
end Sip
namespace Sip
open PySem PySem.Spec PyProof.Rows L2 TL
def topS (i : Nat) : Stmt := PySem.Challenge.pw_sipstack_k22_plain_refused.main.body.getD i (.Pass ⟨0, 0, 0, 0⟩)
abbrev s_iBadPlace : Stmt := inClass (topS 5) 0
abbrev N_iBadPlace : List Str := ["self", "goal"]
abbrev P_iBadPlace : List Str := ["self", "goal"]
theorem sc_iBadPlace : FnScope N_iBadPlace P_iBadPlace (defScope s_iBadPlace) := ⟨rfl, rfl, rfl, by decide +kernel, rfl, by decide +kernel, by decide +kernel⟩
abbrev s_iTooLong : Stmt := inClass (topS 4) 0
abbrev N_iTooLong : List Str := ["self", "length"]
abbrev P_iTooLong : List Str := ["self", "length"]
theorem sc_iTooLong : FnScope N_iTooLong P_iTooLong (defScope s_iTooLong) := ⟨rfl, rfl, rfl, by decide +kernel, rfl, by decide +kernel, by decide +kernel⟩
abbrev s_iNotByte : Stmt := inClass (topS 6) 0
abbrev N_iNotByte : List Str := ["self", "at"]
abbrev P_iNotByte : List Str := ["self", "at"]
theorem sc_iNotByte : FnScope N_iNotByte P_iNotByte (defScope s_iNotByte) := ⟨rfl, rfl, rfl, by decide +kernel, rfl, by decide +kernel, by decide +kernel⟩
abbrev s_laid : Stmt := topS 17
abbrev N_laid : List Str := ["row", "place", "data", "told"]
abbrev P_laid : List Str := ["row", "place", "data"]
theorem sc_laid : FnScope N_laid P_laid (defScope s_laid) := ⟨rfl, rfl, rfl, by decide +kernel, rfl, by decide +kernel, by decide +kernel⟩
abbrev s_whole : Stmt := topS 10
abbrev N_whole : List Str := ["thing"]
abbrev P_whole : List Str := ["thing"]
theorem sc_whole : FnScope N_whole P_whole (defScope s_whole) := ⟨rfl, rfl, rfl, by decide +kernel, rfl, by decide +kernel, by decide +kernel⟩
abbrev s_isbyte : Stmt := topS 11
abbrev N_isbyte : List Str := ["thing"]
abbrev P_isbyte : List Str := ["thing"]
theorem sc_isbyte : FnScope N_isbyte P_isbyte (defScope s_isbyte) := ⟨rfl, rfl, rfl, by decide +kernel, rfl, by decide +kernel, by decide +kernel⟩
abbrev s_cbytes : Stmt := topS 13
abbrev N_cbytes : List Str := ["data", "at", "thing"]
abbrev P_cbytes : List Str := ["data"]
theorem sc_cbytes : FnScope N_cbytes P_cbytes (defScope s_cbytes) := ⟨rfl, rfl, rfl, by decide +kernel, rfl, by decide +kernel, by decide +kernel⟩
abbrev s_clen : Stmt := topS 14
abbrev N_clen : List Str := ["length"]
abbrev P_clen : List Str := ["length"]
theorem sc_clen : FnScope N_clen P_clen (defScope s_clen) := ⟨rfl, rfl, rfl, by decide +kernel, rfl, by decide +kernel, by decide +kernel⟩
abbrev s_cgoal : Stmt := topS 15
abbrev N_cgoal : List Str := ["goal"]
abbrev P_cgoal : List Str := ["goal"]
theorem sc_cgoal : FnScope N_cgoal P_cgoal (defScope s_cgoal) := ⟨rfl, rfl, rfl, by decide +kernel, rfl, by decide +kernel, by decide +kernel⟩
abbrev s_ccount : Stmt := topS 12
abbrev N_ccount : List Str := ["count"]
abbrev P_ccount : List Str := ["count"]
theorem sc_ccount : FnScope N_ccount P_ccount (defScope s_ccount) := ⟨rfl, rfl, rfl, by decide +kernel, rfl, by decide +kernel, by decide +kernel⟩
abbrev s_sgoal : Stmt := topS 21
abbrev N_sgoal : List Str := ["place", "start", "cursor", "size", "goal"]
abbrev P_sgoal : List Str := ["place", "start", "cursor", "size"]
theorem sc_sgoal : FnScope N_sgoal P_sgoal (defScope s_sgoal) := ⟨rfl, rfl, rfl, by decide +kernel, rfl, by decide +kernel, by decide +kernel⟩
abbrev s_fline : Stmt := topS 20
abbrev N_fline : List Str := ["row", "limit", "line"]
abbrev P_fline : List Str := ["row", "limit"]
theorem sc_fline : FnScope N_fline P_fline (defScope s_fline) := ⟨rfl, rfl, rfl, by decide +kernel, rfl, by decide +kernel, by decide +kernel⟩
abbrev s_init : Stmt := inClass (topS 19) 0
abbrev N_init : List Str := ["self", "row", "place"]
abbrev P_init : List Str := ["self", "row", "place"]
theorem sc_init : FnScope N_init P_init (defScope s_init) := ⟨rfl, rfl, rfl, by decide +kernel, rfl, by decide +kernel, by decide +kernel⟩
abbrev s_write : Stmt := inClass (topS 19) 5
abbrev N_write : List Str := ["self", "data"]
abbrev P_write : List Str := ["self", "data"]
theorem sc_write : FnScope N_write P_write (defScope s_write) := ⟨rfl, rfl, rfl, by decide +kernel, rfl, by decide +kernel, by decide +kernel⟩
abbrev s_seek : Stmt := inClass (topS 19) 6
abbrev N_seek : List Str := ["self", "place", "start"]
abbrev P_seek : List Str := ["self", "place", "start"]
theorem sc_seek : FnScope N_seek P_seek (defScope s_seek) := ⟨rfl, rfl, rfl, by decide +kernel, rfl, by decide +kernel, by decide +kernel⟩
abbrev s_tell : Stmt := inClass (topS 19) 7
abbrev N_tell : List Str := ["self"]
abbrev P_tell : List Str := ["self"]
theorem sc_tell : FnScope N_tell P_tell (defScope s_tell) := ⟨rfl, rfl, rfl, by decide +kernel, rfl, by decide +kernel, by decide +kernel⟩
abbrev s_size : Stmt := inClass (topS 19) 8
abbrev N_size : List Str := ["self"]
abbrev P_size : List Str := ["self"]
theorem sc_size : FnScope N_size P_size (defScope s_size) := ⟨rfl, rfl, rfl, by decide +kernel, rfl, by decide +kernel, by decide +kernel⟩
abbrev s_pcut : Stmt := inClass (topS 19) 9
abbrev N_pcut : List Str := ["self", "size", "goal"]
abbrev P_pcut : List Str := ["self", "size"]
theorem sc_pcut : FnScope N_pcut P_pcut (defScope s_pcut) := ⟨rfl, rfl, rfl, by decide +kernel, rfl, by decide +kernel, by decide +kernel⟩
abbrev s_row : Stmt := inClass (topS 19) 10
abbrev N_row : List Str := ["self"]
abbrev P_row : List Str := ["self"]
theorem sc_row : FnScope N_row P_row (defScope s_row) := ⟨rfl, rfl, rfl, by decide +kernel, rfl, by decide +kernel, by decide +kernel⟩
abbrev s_ahead : Stmt := inClass (topS 19) 11
abbrev N_ahead : List Str := ["self"]
abbrev P_ahead : List Str := ["self"]
theorem sc_ahead : FnScope N_ahead P_ahead (defScope s_ahead) := ⟨rfl, rfl, rfl, by decide +kernel, rfl, by decide +kernel, by decide +kernel⟩
abbrev s_passed : Stmt := inClass (topS 19) 12
abbrev N_passed : List Str := ["self", "told"]
abbrev P_passed : List Str := ["self", "told"]
theorem sc_passed : FnScope N_passed P_passed (defScope s_passed) := ⟨rfl, rfl, rfl, by decide +kernel, rfl, by decide +kernel, by decide +kernel⟩
abbrev s_peek : Stmt := inClass (topS 19) 3
abbrev N_peek : List Str := ["self", "many"]
abbrev P_peek : List Str := ["self", "many"]
theorem sc_peek : FnScope N_peek P_peek (defScope s_peek) := ⟨rfl, rfl, rfl, by decide +kernel, rfl, by decide +kernel, by decide +kernel⟩
abbrev s_read : Stmt := inClass (topS 19) 1
abbrev N_read : List Str := ["self", "many"]
abbrev P_read : List Str := ["self", "many"]
theorem sc_read : FnScope N_read P_read (defScope s_read) := ⟨rfl, rfl, rfl, by decide +kernel, rfl, by decide +kernel, by decide +kernel⟩
abbrev s_rsome : Stmt := inClass (topS 19) 2
abbrev N_rsome : List Str := ["self", "many"]
abbrev P_rsome : List Str := ["self", "many"]
theorem sc_rsome : FnScope N_rsome P_rsome (defScope s_rsome) := ⟨rfl, rfl, rfl, by decide +kernel, rfl, by decide +kernel, by decide +kernel⟩
abbrev s_rline : Stmt := inClass (topS 19) 4
abbrev N_rline : List Str := ["self", "limit"]
abbrev P_rline : List Str := ["self", "limit"]
theorem sc_rline : FnScope N_rline P_rline (defScope s_rline) := ⟨rfl, rfl, rfl, by decide +kernel, rfl, by decide +kernel, by decide +kernel⟩
abbrev s_pool : Stmt := topS 23
abbrev N_pool : List Str := ["_law_script", "_law_at", "_law_cell", "_law_digits"]
abbrev P_pool : List Str := ["_law_script", "_law_at"]
theorem sc_pool : FnScope N_pool P_pool (defScope s_pool) := ⟨rfl, rfl, rfl, by decide +kernel, rfl, by decide +kernel, by decide +kernel⟩
abbrev s_take : Stmt := topS 24
abbrev N_take : List Str := ["_law_pool_here", "_law_wide", "_law_found", "_law_seed"]
abbrev P_take : List Str := ["_law_pool_here", "_law_wide"]
theorem sc_take : FnScope N_take P_take (defScope s_take) := ⟨rfl, rfl, rfl, by decide +kernel, rfl, by decide +kernel, by decide +kernel⟩
abbrev s_bytes : Stmt := topS 25
abbrev N_bytes : List Str := ["_law_pool_here", "_law_menu", "_law_found", "_law_k"]
abbrev P_bytes : List Str := ["_law_pool_here", "_law_menu"]
theorem sc_bytes : FnScope N_bytes P_bytes (defScope s_bytes) := ⟨rfl, rfl, rfl, by decide +kernel, rfl, by decide +kernel, by decide +kernel⟩
abbrev s_goal : Stmt := topS 26
abbrev N_goal : List Str := ["_law_pool_here", "_law_row", "_law_place", "_law_way"]
abbrev P_goal : List Str := ["_law_pool_here", "_law_row", "_law_place"]
theorem sc_goal : FnScope N_goal P_goal (defScope s_goal) := ⟨rfl, rfl, rfl, by decide +kernel, rfl, by decide +kernel, by decide +kernel⟩
abbrev s_things : Stmt := topS 27
abbrev N_things : List Str := ["_law_pool_here", "_law_data", "_law_k", "_law_thing"]
abbrev P_things : List Str := ["_law_pool_here"]
theorem sc_things : FnScope N_things P_things (defScope s_things) := ⟨rfl, rfl, rfl, by decide +kernel, rfl, by decide +kernel, by decide +kernel⟩
abbrev s_lbyte : Stmt := topS 28
abbrev N_lbyte : List Str := ["_law_thing"]
abbrev P_lbyte : List Str := ["_law_thing"]
theorem sc_lbyte : FnScope N_lbyte P_lbyte (defScope s_lbyte) := ⟨rfl, rfl, rfl, by decide +kernel, rfl, by decide +kernel, by decide +kernel⟩
abbrev s_pdue : Stmt := topS 29
abbrev N_pdue : List Str := ["_law_goal_here"]
abbrev P_pdue : List Str := ["_law_goal_here"]
theorem sc_pdue : FnScope N_pdue P_pdue (defScope s_pdue) := ⟨rfl, rfl, rfl, by decide +kernel, rfl, by decide +kernel, by decide +kernel⟩
abbrev s_wdue : Stmt := topS 30
abbrev N_wdue : List Str := ["_law_row", "_law_place", "_law_data", "_law_k"]
abbrev P_wdue : List Str := ["_law_row", "_law_place", "_law_data"]
theorem sc_wdue : FnScope N_wdue P_wdue (defScope s_wdue) := ⟨rfl, rfl, rfl, by decide +kernel, rfl, by decide +kernel, by decide +kernel⟩
abbrev s_reads : Stmt := topS 31
abbrev N_reads : List Str := ["_law_file", "_law_way", "_law_many"]
abbrev P_reads : List Str := ["_law_file", "_law_way", "_law_many"]
theorem sc_reads : FnScope N_reads P_reads (defScope s_reads) := ⟨rfl, rfl, rfl, by decide +kernel, rfl, by decide +kernel, by decide +kernel⟩
abbrev s_does : Stmt := topS 32
abbrev N_does : List Str := ["_law_file", "_law_deed_here"]
abbrev P_does : List Str := ["_law_file", "_law_deed_here"]
theorem sc_does : FnScope N_does P_does (defScope s_does) := ⟨rfl, rfl, rfl, by decide +kernel, rfl, by decide +kernel, by decide +kernel⟩
abbrev s_tries : Stmt := topS 33
abbrev N_tries : List Str := ["_law_file", "_law_deed_here", "_law_found", "e"]
abbrev P_tries : List Str := ["_law_file", "_law_deed_here"]
theorem sc_tries : FnScope N_tries P_tries (defScope s_tries) := ⟨rfl, rfl, rfl, by decide +kernel, rfl, by decide +kernel, by decide +kernel⟩
abbrev s_deed : Stmt := topS 34
abbrev N_deed : List Str := ["_law_pool_here", "_law_row", "_law_place", "_law_way", "_law_word", "_law_goal_here"]
abbrev P_deed : List Str := ["_law_pool_here", "_law_row", "_law_place"]
theorem sc_deed : FnScope N_deed P_deed (defScope s_deed) := ⟨rfl, rfl, rfl, by decide +kernel, rfl, by decide +kernel, by decide +kernel⟩
abbrev s_due : Stmt := topS 35
abbrev N_due : List Str := ["_law_row", "_law_place", "_law_deed_here", "_law_due_here"]
abbrev P_due : List Str := ["_law_row", "_law_place", "_law_deed_here"]
theorem sc_due : FnScope N_due P_due (defScope s_due) := ⟨rfl, rfl, rfl, by decide +kernel, rfl, by decide +kernel, by decide +kernel⟩
abbrev s_moved : Stmt := topS 36
abbrev N_moved : List Str := ["_law_row", "_law_place", "_law_deed_here", "_law_due_here", "_law_found", "_law_k"]
abbrev P_moved : List Str := ["_law_row", "_law_place", "_law_deed_here", "_law_due_here", "_law_found"]
theorem sc_moved : FnScope N_moved P_moved (defScope s_moved) := ⟨rfl, rfl, rfl, by decide +kernel, rfl, by decide +kernel, by decide +kernel⟩
abbrev s_law : Stmt := topS 37
abbrev N_law : List Str := ["_law_script", "_law_pool_here", "_law_row", "_law_place", "_law_file", "_law_k", "_law_deed_here", "_law_due_here", "_law_found"]
abbrev P_law : List Str := ["_law_script"]
theorem sc_law : FnScope N_law P_law (defScope s_law) := ⟨rfl, rfl, rfl, by decide +kernel, rfl, by decide +kernel, by decide +kernel⟩

def pfs (l : Addr) (c : Nat) : Fs := [("cells", .ref l), ("cursor", .int c)]
theorem pfs_cells (l : Addr) (c : Nat) : (pfs l c).lookup ("cells" : Str) = some (.ref l) := by unfold pfs; kernel_rfl
theorem pfs_cursor (l : Addr) (c : Nat) : (pfs l c).lookup ("cursor" : Str) = some (.int c) := by unfold pfs; kernel_rfl
theorem pfs_put_h (l m : Addr) (c : Nat) : putF ("cells" : Str) (.ref m) (pfs l c) = pfs m c := by unfold pfs; kernel_rfl
theorem pfs_put_c (l : Addr) (c d : Nat) : putF ("cursor" : Str) (.int d) (pfs l c) = pfs l d := by unfold pfs; kernel_rfl
theorem pfs_new (l : Addr) (c : Nat) : putF ("cursor" : Str) (.int c) (putF ("cells" : Str) (.ref l) []) = pfs l c := by unfold pfs; kernel_rfl
theorem pfs_few (l : Addr) (c : Nat) : (pfs l c).length < 1000 := by show 2 < 1000; decide
theorem pfs_no (l : Addr) (c : Nat) : ∀ m ∈ (["read", "read_some", "peek", "readline", "write", "seek", "tell", "size", "row", "cut", "ahead", "passed"] : List Str), (pfs l c).lookup m = none := by
  intro m hm
  simp only [List.mem_cons, List.mem_nil_iff, or_false] at hm
  unfold pfs
  rcases hm with rfl | rfl | rfl | rfl | rfl | rfl | rfl | rfl | rfl | rfl | rfl | rfl <;> kernel_rfl
def PlainAt (C : Addr) : PP := fun H p F r c => ∃ dx l, H p = some (.ins C dx (pfs l c)) ∧ H l = some (.lst (r.map V.int)) ∧ ∀ b, F b ↔ b = p ∨ b = l
theorem isPlain (C : Addr) : IsPlain C (PlainAt C) where
  loc := by
    rintro H H' p F r c ⟨dx, l, h1, h2, h3⟩ k
    exact ⟨dx, l, k _ _ ((h3 p).mpr (.inl rfl)) h1, k _ _ ((h3 l).mpr (.inr rfl)) h2, h3⟩
  own := by
    rintro H p F r c ⟨dx, l, h1, h2, h3⟩ b f
    rcases (h3 b).mp f with rfl | rfl
    · exact ⟨_, h1⟩
    · exact ⟨_, h2⟩
  ins := by
    rintro H p F r c ⟨dx, l, h1, h2, h3⟩
    exact ⟨dx, _, h1, fun m hm => pfs_no l c m (show m ∈ (["read", "read_some", "peek", "readline", "write", "seek", "tell", "size", "row", "cut"] : List Str) ++ (["ahead", "passed"] : List Str) from List.mem_append.mpr (.inl hm))⟩
def spLen : Sp := fun vs H Q _ => ∃ g : Int, vs = [.int g] ∧ g ≤ 4000 ∧ Q .non H
def spGoalC : Sp := fun vs H Q _ => ∃ g : Int, vs = [.int g] ∧ 0 ≤ g ∧ g ≤ 4000 ∧ Q .non H
def spWhole : Sp := fun vs H Q _ => ∃ v : Int, vs = [.int v] ∧ Q (.bl true) H
def spByte : Sp := fun vs H Q _ => ∃ v : Int, vs = [.int v] ∧ 0 ≤ v ∧ v ≤ 255 ∧ Q (.bl true) H
def spBytesC : Sp := fun vs H Q _ => ∃ (b : Addr) (d : List Int), vs = [.ref b] ∧ H b = some (.lst (d.map V.int)) ∧ Bytes d ∧ ∀ H', Same H H' → Q .non H'
def spSeekGoal : Sp := fun vs H Q _ => ∃ (pl : Int) (st : Str) (c n g : Nat), vs = [.int pl, .str st, .int c, .int n] ∧
  ((st = Str.ofString "head" ∧ (g : Int) = pl) ∨ (st = Str.ofString "here" ∧ (g : Int) = c + pl) ∨ (st = Str.ofString "tail" ∧ (g : Int) = n + pl)) ∧ g ≤ 4000 ∧ Q (.int g) H
/-- p and its list are stored to, m is new or its list -/
theorem own_step {F : Addr → Prop} {H H' : Hp} {p l m : Addr} (hF : ∀ b, F b ↔ b = p ∨ b = l) (k : Kp [p, l] H H') (n : m = l ∨ H m = none) : Step F H (fun b => b = p ∨ b = m) H' := by
  refine ⟨fun b o nf e => k b o (fun z => nf ((hF b).mpr (by simpa using z))) e, fun b z => ?_⟩
  rcases z with rfl | rfl
  · exact .inl ((hF _).mpr (.inl rfl))
  · rcases n with rfl | n
    · exact .inl ((hF _).mpr (.inr rfl))
    · exact .inr n
theorem del_from (r : List Int) (g : Nat) : delV (r.map V.int) (some (g : Int)) none = (r.take g).map V.int := by
  unfold delV delL
  rw [HT.sIx_none, HT.sIx_nat, List.length_map, List.drop_of_length_le (by rw [List.length_map]; omega), List.append_nil, ← List.map_take]
  congr 1
  by_cases h : g ≤ r.length
  · rw [Nat.min_eq_left h]
  · rw [Nat.min_eq_right (by omega), List.take_of_length_le (by omega), List.take_of_length_le (by omega)]

def errN (H : Hp) (E : XK) (C : Addr) : Prop := ∀ (H' : Hp), Same H H' → E (.ref C) none H'
def errG (H : Hp) (E : XK) (C : Addr) (f : Str) (v : V) : Prop := ∀ (H' : Hp) (d : Addr), Same H H' → H' d = some (.xd [(f, v)]) → E (.ref C) (some d) H'
theorem errG.raise {H : Hp} {E : XK} {C : Addr} {f : Str} {v : V} (h : errG H E C f v) : ∀ d, H d = none → E (.ref C) (some d) (upd H d (.xd [(f, v)])) := fun d nd => h _ d (Kp.new (ps := []) nd).same upd_same
theorem errG.of {H H1 : Hp} {E : XK} {C : Addr} {f : Str} {v : V} (h : errG H E C f v) (s : Same H H1) : errG H1 E C f v := fun H' d s' e => h H' d (s.trans s') e
theorem errN.of {H H1 : Hp} {E : XK} {C : Addr} (h : errN H E C) (s : Same H H1) : errN H1 E C := fun H' s' => h H' (s.trans s')
/-- a thing in a row that is to be written -/
inductive Th
  | i (n : Int) | b (v : Bool) | s (x : Str) | n
def thV : Th → V
  | .i n => .int n
  | .b v => .bl v
  | .s x => .str x
  | .n => .non
def thI : Th → Bool
  | .i _ => true
  | _ => false
def thB : Th → Bool
  | .i n => decide (0 ≤ n) && decide (n ≤ 255)
  | _ => false
def spWholeT : Sp := fun vs H Q _ => ∃ t : Th, vs = [thV t] ∧ Q (.bl (thI t)) H
def spByteT : Sp := fun vs H Q _ => ∃ t : Th, vs = [thV t] ∧ Q (.bl (thB t)) H
def spBytesT (C : Addr) : Sp := fun vs H Q E => ∃ (b : Addr) (ts : List Th), vs = [.ref b] ∧ H b = some (.lst (ts.map thV)) ∧
  ((∀ t ∈ ts, thB t = true) → ∀ H', Same H H' → Q .non H') ∧ (∀ (k : Nat) (t : Th), ts[k]? = some t → thB t = false → (∀ j t', j < k → ts[j]? = some t' → thB t' = true) → errG H E C "at" (.int k))
def spLenT (C : Addr) : Sp := fun vs H Q E => ∃ g : Int, vs = [.int g] ∧ (g ≤ 4000 → Q .non H) ∧ (4000 < g → errG H E C "length" (.int g))
def spGoalT (C1 C2 : Addr) : Sp := fun vs H Q E => ∃ g : Int, vs = [.int g] ∧ (0 ≤ g → g ≤ 4000 → Q .non H) ∧ (g < 0 → errG H E C1 "goal" (.int g)) ∧ (4000 < g → errG H E C2 "length" (.int g))
/-- the goal of a seek: none where the word is no start -/
def goalF (pl : Int) (st : Str) (c n : Nat) : Option Int :=
  if st = Str.ofString "head" then some pl else if st = Str.ofString "here" then some (c + pl) else if st = Str.ofString "tail" then some (n + pl) else none
def spSGoalT (C1 C2 C3 : Addr) : Sp := fun vs H Q E => ∃ (pl : Int) (st : Str) (c n : Nat), vs = [.int pl, .str st, .int c, .int n] ∧
  (goalF pl st c n = none → errN H E C3) ∧ ∀ g, goalF pl st c n = some g → (0 ≤ g → g ≤ 4000 → Q (.int g) H) ∧ (g < 0 → errG H E C1 "goal" (.int g)) ∧ (4000 < g → errG H E C2 "length" (.int g))
def spSeekT (PA : PP) (C1 C2 C3 : Addr) : Sp := fun vs H Q E => ∃ (p : Addr) (F : Addr → Prop) (r : List Int) (c : Nat) (pl : Int) (st : Str), vs = [.ref p, .int pl, .str st] ∧ PA H p F r c ∧
  (goalF pl st c r.length = none → errN H E C3) ∧ ∀ g, goalF pl st c r.length = some g → (0 ≤ g → g ≤ 4000 → ∀ (H' : Hp) (F' : Addr → Prop), PA H' p F' r g.toNat → Step F H F' H' → Q (.int g) H') ∧ (g < 0 → errG H E C1 "goal" (.int g)) ∧ (4000 < g → errG H E C2 "length" (.int g))
def spCutT (PA : PP) (C1 C2 : Addr) : Sp := fun vs H Q E => ∃ (p : Addr) (F : Addr → Prop) (r : List Int) (c : Nat) (g : Int), vs = [.ref p, .int g] ∧ PA H p F r c ∧
  (0 ≤ g → g ≤ 4000 → ∀ (H' : Hp) (F' : Addr → Prop), PA H' p F' (r.take g.toNat) c → Step F H F' H' → Q .non H') ∧ (g < 0 → errG H E C1 "goal" (.int g)) ∧ (4000 < g → errG H E C2 "length" (.int g))
def spWriteT (PA : PP) (C1 C2 : Addr) : Sp := fun vs H Q E => ∃ (p b : Addr) (F : Addr → Prop) (r : List Int) (c : Nat) (ts : List Th), vs = [.ref p, .ref b] ∧ PA H p F r c ∧ ¬ F b ∧ H b = some (.lst (ts.map thV)) ∧ r.length ≤ 4000 ∧ c ≤ 4000 ∧ ts.length ≤ 400 ∧
  (∀ d : List Int, ts = d.map Th.i → Bytes d → (d ≠ [] → c + d.length ≤ 4000) → ∀ (H' : Hp) (F' : Addr → Prop), PA H' p F' (laidF r c d) (c + d.length) → Step F H F' H' → Q (.int d.length) H') ∧
  (∀ d : List Int, ts = d.map Th.i → Bytes d → d ≠ [] → 4000 < c + d.length → errG H E C2 "length" (.int (c + d.length : Nat))) ∧
  (∀ (k : Nat) (t : Th), ts[k]? = some t → thB t = false → (∀ j t', j < k → ts[j]? = some t' → thB t' = true) → errG H E C1 "at" (.int k))
def spCountT (C : Addr) : Sp := fun vs H Q E => ∃ n : Int, vs = [.int n] ∧ (0 ≤ n → Q .non H) ∧ (n < 0 → errN H E C)
def spPeekT (PA : PP) (C : Addr) : Sp := fun vs H Q E => ∃ (p : Addr) (F : Addr → Prop) (r : List Int) (c : Nat) (n : Int), vs = [.ref p, .int n] ∧ PA H p F r c ∧
  (0 ≤ n → ∀ (H' : Hp) (q : Addr), H q = none → H' q = some (.lst ((takeO (some n.toNat) (r.drop c)).map V.int)) → Same H H' → Q (.ref q) H') ∧ (n < 0 → errN H E C)
def spReadT (PA : PP) (C : Addr) (f : Nat → List Int → List Int) : Sp := fun vs H Q E => ∃ (p : Addr) (F : Addr → Prop) (r : List Int) (c : Nat) (n : Int), vs = [.ref p, .int n] ∧ PA H p F r c ∧ r.length ≤ 4000 ∧
  (0 ≤ n → ∀ (H' : Hp) (F' : Addr → Prop) (q : Addr), PA H' p F' r (c + (f n.toNat (r.drop c)).length) → H q = none → ¬ F' q → H' q = some (.lst ((f n.toNat (r.drop c)).map V.int)) → Step F H F' H' → Q (.ref q) H') ∧ (n < 0 → errN H E C)
def readF0 (n : Nat) (xs : List Int) : List Int := takeO (some n) xs
def lineF0 (n : Nat) (xs : List Int) : List Int := takeO (some n) (lineF xs)
/-- all bytes, or a first thing that is none -/
theorem th_cases : ∀ ts : List Th, (∃ d : List Int, ts = d.map Th.i ∧ Bytes d) ∨ ∃ (k : Nat) (t : Th), ts[k]? = some t ∧ thB t = false ∧ ∀ j t', j < k → ts[j]? = some t' → thB t' = true
  | [] => .inl ⟨[], rfl, fun _ h => nomatch h⟩
  | t :: ts => by
    cases ht : thB t with
    | false => exact .inr ⟨0, t, rfl, ht, fun j t' h => absurd h (by omega)⟩
    | true =>
      rcases th_cases ts with ⟨d, rfl, hd⟩ | ⟨k, u, hk, hu, ho⟩
      · refine .inl ?_
        cases t with
        | i n =>
          have h : (decide (0 ≤ n) && decide (n ≤ 255)) = true := ht
          rw [Bool.and_eq_true, decide_eq_true_eq, decide_eq_true_eq] at h
          exact ⟨n :: d, rfl, fun v hv => (List.mem_cons.mp hv).elim (fun e => e ▸ h) (hd v)⟩
        | b v => cases ht
        | s x => cases ht
        | n => cases ht
      · refine .inr ⟨k + 1, u, hk, hu, fun j t' hj hjt => ?_⟩
        cases j with
        | zero => cases hjt; exact ht
        | succ j => exact ho j t' (by omega) hjt
theorem th_bytes {d : List Int} (h : Bytes d) : ∀ t ∈ d.map Th.i, thB t = true := fun t ht => by
  obtain ⟨n, hn, rfl⟩ := List.mem_map.mp ht
  show (decide (0 ≤ n) && decide (n ≤ 255)) = true
  rw [decide_eq_true (h n hn).1, decide_eq_true (h n hn).2]; rfl
theorem th_vals (d : List Int) : (d.map Th.i).map thV = d.map V.int := by rw [List.map_map]; rfl

def spGoal22 (K : PySem.W.Frag) : Sp := fun vs H Q _ => ∃ (p x : Addr) (n : Int) (o : HO) (r : List Int) (c : Nat), vs = [.ref p, .ref x, .int c] ∧ p ≠ x ∧ H p = some o ∧ PoolO n o ∧ n ≤ 900000000 ∧ H x = some (.lst (r.map V.int)) ∧ r.length ≤ 4000 ∧ c ≤ 4000 ∧
  ∀ (H' : Hp) (g : Int) (o' : HO), -1000000 ≤ g → g ≤ 1000000 → H' p = some o' → PoolO (n + 4) o' → Kp [p] H H' → Q (.int g) H'
theorem cpow_10_6 : CPow 10 6 := by unfold CPow; decide +kernel
theorem cpow_10_12 : CPow 10 12 := by unfold CPow; decide +kernel
def things8 : List V := [V.int 256, .int (-1), .int (10 ^ 12), .bl true, .bl false, .str (Str.ofString "a"), .non, .int (-255)]
theorem thing_at {w : Int} (w0 : 0 ≤ w) (w1 : w < 8) : ∃ th : Th, atI things8 w = some (thV th) := by
  rcases (show w = 0 ∨ w = 1 ∨ w = 2 ∨ w = 3 ∨ w = 4 ∨ w = 5 ∨ w = 6 ∨ w = 7 by omega) with rfl | rfl | rfl | rfl | rfl | rfl | rfl | rfl
  · exact ⟨.i 256, rfl⟩
  · exact ⟨.i (-1), rfl⟩
  · exact ⟨.i (10 ^ 12), rfl⟩
  · exact ⟨.b true, rfl⟩
  · exact ⟨.b false, rfl⟩
  · exact ⟨.s (Str.ofString "a"), rfl⟩
  · exact ⟨.n, rfl⟩
  · exact ⟨.i (-255), rfl⟩
theorem few_at {w : Int} (w0 : 0 ≤ w) (w1 : w < 4) : ∃ N : Int, 0 ≤ N ∧ N ≤ 2 ∧ atI [V.int 0, .int 0, .int 1, .int 2] w = some (.int N) := by
  rcases (show w = 0 ∨ w = 1 ∨ w = 2 ∨ w = 3 by omega) with rfl | rfl | rfl | rfl
  · exact ⟨0, by decide, by decide, rfl⟩
  · exact ⟨0, by decide, by decide, rfl⟩
  · exact ⟨1, by decide, by decide, rfl⟩
  · exact ⟨2, by decide, by decide, rfl⟩
theorem ins_map (ts : List Th) (th : Th) (g : Nat) : (ts.map thV).take g ++ [thV th] ++ (ts.map thV).drop g = (ts.take g ++ [th] ++ ts.drop g).map thV := by
  rw [List.map_append, List.map_append, List.map_take, List.map_drop]; rfl
theorem th_at {ts : List Th} {i : Nat} {t : Th} (h : ts[i]? = some t) : atI (ts.map thV) (0 + (i : Int)) = some (thV t) := by
  rw [Int.zero_add]
  exact atI_nat (by rw [List.getElem?_map, h]; rfl)
def spThings22 (K : PySem.W.Frag) : Sp := fun vs H Q _ => ∃ (p : Addr) (n : Int) (o : HO), vs = [.ref p] ∧ H p = some o ∧ PoolO n o ∧ n ≤ 800000000 ∧
  ∀ (H' : Hp) (b : Addr) (ts : List Th), H b = none → H' b = some (.lst (ts.map thV)) → ts.length ≤ 62 → Kp [p] H H' → H' p ≠ none → Q (.ref b) H'
def pdueL (g : Int) : List V := if g < 0 then [.str (Str.ofString "refused"), .str (Str.ofString "BadPlace"), .int g] else if 4000 < g then [.str (Str.ofString "refused"), .str (Str.ofString "TooLong"), .int g] else [.str (Str.ofString "told"), .int g]
def spPDue22 : Sp := fun vs H Q _ => ∃ g : Int, vs = [.int g] ∧ ∀ (H' : Hp) (u : Addr), H u = none → H' u = some (.tup (pdueL g)) → Same H H' → Q (.ref u) H'
def spWDue22 : Sp := fun vs H Q _ => ∃ (x b : Addr) (c : Nat) (ts : List Th), vs = [.ref x, .int c, .ref b] ∧ H b = some (.lst (ts.map thV)) ∧ ts.length ≤ 400 ∧ c ≤ 4000 ∧
  (∀ d : List Int, ts = d.map Th.i → Bytes d → (d ≠ [] → c + d.length ≤ 4000) → ∀ (H' : Hp) (u : Addr), H u = none → H' u = some (.tup [.str (Str.ofString "told"), .int d.length]) → Same H H' → Q (.ref u) H') ∧
  (∀ d : List Int, ts = d.map Th.i → Bytes d → d ≠ [] → 4000 < c + d.length → ∀ (H' : Hp) (u : Addr), H u = none → H' u = some (.tup [.str (Str.ofString "refused"), .str (Str.ofString "TooLong"), .int (c + d.length : Nat)]) → Same H H' → Q (.ref u) H') ∧
  (∀ (k : Nat) (t : Th), ts[k]? = some t → thB t = false → (∀ j t', j < k → ts[j]? = some t' → thB t' = true) → ∀ (H' : Hp) (u : Addr), H u = none → H' u = some (.tup [.str (Str.ofString "refused"), .str (Str.ofString "NotByte"), .int k]) → Same H H' → Q (.ref u) H')

/-- a deed that law_k22 draws -/
inductive Dd
  | wr (b : Addr) (ts : List Th) | sk (pl : Int) (st : Str) | ct (g : Int) | rd (way : Nat) (n : Int)
def ddV : Dd → List V
  | .wr b _ => [.str (Str.ofString "write"), .ref b]
  | .sk pl st => [.str (Str.ofString "seek"), .int pl, .str st]
  | .ct g => [.str (Str.ofString "cut"), .int g]
  | .rd w n => [.str (Str.ofString "reads"), .int w, .int n]
def DdOk (H : Hp) : Dd → Prop
  | .wr b ts => H b = some (.lst (ts.map thV)) ∧ ts.length ≤ 62
  | .rd w _ => w ≤ 3
  | .sk pl _ => -1100000 ≤ pl ∧ pl ≤ 1100000
  | .ct g => -1100000 ≤ g ∧ g ≤ 1100000
/-- what comes of a deed: told with a value, or refused with a class, a field's name and its value -/
def Outs (PA : PP) (H : Hp) (p : Addr) (F : Addr → Prop) (r : List Int) (c : Nat) (Q : VK) (eB eS : Prop) (eA eL eG : V → Prop) : Dd → Prop
  | .wr _ ts => (∀ d : List Int, ts = d.map Th.i → Bytes d → (d ≠ [] → c + d.length ≤ 4000) → ∀ (H' : Hp) (F' : Addr → Prop), PA H' p F' (laidF r c d) (c + d.length) → Step F H F' H' → Q (.int d.length) H') ∧
      (∀ d : List Int, ts = d.map Th.i → Bytes d → d ≠ [] → 4000 < c + d.length → eL (.int (c + d.length : Nat))) ∧
      (∀ (k : Nat) (t : Th), ts[k]? = some t → thB t = false → (∀ j t', j < k → ts[j]? = some t' → thB t' = true) → eA (.int k))
  | .sk pl st => (goalF pl st c r.length = none → eS) ∧ ∀ g, goalF pl st c r.length = some g → (0 ≤ g → g ≤ 4000 → ∀ (H' : Hp) (F' : Addr → Prop), PA H' p F' r g.toNat → Step F H F' H' → Q (.int g) H') ∧ (g < 0 → eG (.int g)) ∧ (4000 < g → eL (.int g))
  | .ct g => (0 ≤ g → g ≤ 4000 → ∀ (H' : Hp) (F' : Addr → Prop), PA H' p F' (r.take g.toNat) c → Step F H F' H' → Q .non H') ∧ (g < 0 → eG (.int g)) ∧ (4000 < g → eL (.int g))
  | .rd w n => (0 ≤ n → ∀ (H' : Hp) (F' : Addr → Prop) (q : Addr) (xs : List Int), PA H' p F' r (if w = 2 then c else c + xs.length) → H q = none → ¬ F' q → H' q = some (.lst (xs.map V.int)) → xs.length ≤ r.length - c → Step F H F' H' → Q (.ref q) H') ∧ (n < 0 → eB)
def spReads22 (PA : PP) (C : Addr) : Sp := fun vs H Q E => ∃ (p : Addr) (F : Addr → Prop) (r : List Int) (c w : Nat) (n : Int), vs = [.ref p, .int w, .int n] ∧ PA H p F r c ∧ r.length ≤ 4000 ∧ w ≤ 3 ∧ Outs PA H p F r c Q (errN H E C) True (fun _ => True) (fun _ => True) (fun _ => True) (.rd w n)
def spDoes22 (PA : PP) (CB CN CT CS CP : Addr) : Sp := fun vs H Q E => ∃ (p t : Addr) (F : Addr → Prop) (r : List Int) (c : Nat) (D : Dd), vs = [.ref p, .ref t] ∧ PA H p F r c ∧ H t = some (.tup (ddV D)) ∧ DdOk H D ∧ (∀ b ts, D = .wr b ts → ¬ F b) ∧ r.length ≤ 4000 ∧ c ≤ 4000 ∧ Outs PA H p F r c Q (errN H E CB) (errN H E CS) (errG H E CN "at") (errG H E CT "length") (errG H E CP "goal") D
theorem readF0_le (n : Nat) (xs : List Int) : (readF0 n xs).length ≤ xs.length := by unfold readF0 takeO; show (xs.take n).length ≤ _; rw [List.length_take]; omega
theorem lineF0_le (n : Nat) (xs : List Int) : (lineF0 n xs).length ≤ xs.length := by unfold lineF0 lineF takeO; show ((xs.take _).take n).length ≤ _; rw [List.length_take, List.length_take]; omega

def refP (Q : VK) (H : Hp) (w : Str) (v : V) : Prop := ∀ (H' : Hp) (u : Addr), H' u = some (.tup [.str (Str.ofString "refused"), .str w, v]) → Same H H' → Q (.ref u) H'
def OutR (PA : PP) (Q : VK) (H : Hp) (p : Addr) (F : Addr → Prop) (r : List Int) (c : Nat) (D : Dd) : Prop :=
  Outs PA H p F r c (fun v H' => ∀ (H2 : Hp) (u : Addr), H2 u = some (.tup [.str (Str.ofString "told"), v]) → Same H' H2 → Q (.ref u) H2) (refP Q H (Str.ofString "BadCount") .non) (refP Q H (Str.ofString "BadStart") .non) (refP Q H (Str.ofString "NotByte")) (refP Q H (Str.ofString "TooLong")) (refP Q H (Str.ofString "BadPlace")) D
def spTries22 (PA : PP) : Sp := fun vs H Q _ => ∃ (p t : Addr) (F : Addr → Prop) (r : List Int) (c : Nat) (D : Dd), vs = [.ref p, .ref t] ∧ PA H p F r c ∧ H t = some (.tup (ddV D)) ∧ DdOk H D ∧ (∀ b ts, D = .wr b ts → ¬ F b) ∧ r.length ≤ 4000 ∧ c ≤ 4000 ∧
  OutR PA Q H p F r c D
/-- what comes of a deed, told otherwise -/
theorem Outs.mono {PA : PP} {H : Hp} {p : Addr} {F : Addr → Prop} {r : List Int} {c : Nat} {Q Q' : VK} {eB eS eB' eS' : Prop} {eA eL eG eA' eL' eG' : V → Prop} {D : Dd} (h : Outs PA H p F r c Q eB eS eA eL eG D)
    (hq : ∀ v H', Q v H' → Q' v H') (hB : eB → eB') (hS : eS → eS') (hA : ∀ v, eA v → eA' v) (hL : ∀ v, eL v → eL' v) (hG : ∀ v, eG v → eG' v) : Outs PA H p F r c Q' eB' eS' eA' eL' eG' D := by
  cases D with
  | wr b ts => exact ⟨fun d e bd fit H' F' a st => hq _ _ (h.1 d e bd fit H' F' a st), fun d e bd d0 big => hL _ (h.2.1 d e bd d0 big), fun k t hk ht ho => hA _ (h.2.2 k t hk ht ho)⟩
  | sk pl st => exact ⟨fun e => hS (h.1 e), fun g e => ⟨fun g0 g4 H' F' a st => hq _ _ ((h.2 g e).1 g0 g4 H' F' a st), fun z => hG _ ((h.2 g e).2.1 z), fun z => hL _ ((h.2 g e).2.2 z)⟩⟩
  | ct g => exact ⟨fun g0 g4 H' F' a st => hq _ _ (h.1 g0 g4 H' F' a st), fun z => hG _ (h.2.1 z), fun z => hL _ (h.2.2 z)⟩
  | rd w n => exact ⟨fun n0 H' F' x xs a b c d e st => hq _ _ (h.1 n0 H' F' x xs a b c d e st), fun z => hB (h.2 z)⟩

def dueP (Q : VK) (H : Hp) (vs : List V) : Prop := ∀ (H' : Hp) (u : Addr), H u = none → H' u = some (.tup vs) → Same H H' → Q (.ref u) H'
def rfV (w : Str) (v : V) : List V := [.str (Str.ofString "refused"), .str w, v]
def tlV (v : V) : List V := [.str (Str.ofString "told"), v]
/-- what is due -/
def DueOf (r : List Int) (c : Nat) (P : List V → Prop) : Dd → Prop
  | .wr _ ts => (∀ d : List Int, ts = d.map Th.i → Bytes d → (d ≠ [] → c + d.length ≤ 4000) → P (tlV (.int d.length))) ∧
      (∀ d : List Int, ts = d.map Th.i → Bytes d → d ≠ [] → 4000 < c + d.length → P (rfV (Str.ofString "TooLong") (.int (c + d.length : Nat)))) ∧
      (∀ (k : Nat) (t : Th), ts[k]? = some t → thB t = false → (∀ j t', j < k → ts[j]? = some t' → thB t' = true) → P (rfV (Str.ofString "NotByte") (.int k)))
  | .sk pl st => (goalF pl st c r.length = none → P (rfV (Str.ofString "BadStart") .non)) ∧ ∀ g, goalF pl st c r.length = some g → P (pdueL g)
  | .ct g => (0 ≤ g → g ≤ 4000 → P (tlV .non)) ∧ (g < 0 ∨ 4000 < g → P (pdueL g))
  | .rd _ n => (0 ≤ n → P (tlV (.str (Str.ofString "reads")))) ∧ (n < 0 → P (rfV (Str.ofString "BadCount") .non))
def twoK (r : List Int) (c : Nat) : List (Key × V) := [(Sum.inr (Str.ofString "here"), .int c), (Sum.inr (Str.ofString "tail"), .int ((r.map V.int).length : Nat))]
theorem two_val {r : List Int} {c : Nat} {pl g : Int} {st : Str} (h : goalF pl st c r.length = some g) : (valV (mergeK [] (twoK r c)) (Sum.inr st)).getD (.int 0) = .int (g - pl) := by
  unfold goalF at h
  by_cases h1 : st = Str.ofString "head"
  · rw [if_pos h1] at h; cases h; subst h1
    rw [show pl - pl = 0 by omega]; rfl
  rw [if_neg h1] at h
  by_cases h2 : st = Str.ofString "here"
  · rw [if_pos h2] at h; cases h; subst h2
    rw [show (c : Int) + pl - pl = c by omega]; rfl
  rw [if_neg h2] at h
  by_cases h3 : st = Str.ofString "tail"
  · rw [if_pos h3] at h; cases h; subst h3
    rw [show (r.length : Int) + pl - pl = ((r.map V.int).length : Nat) by rw [List.length_map]; omega]; rfl
  rw [if_neg h3] at h; cases h
theorem goal_in {pl : Int} {st : Str} {c n : Nat} : inV (V.str st) [.str (Str.ofString "head"), .str (Str.ofString "here"), .str (Str.ofString "tail")] = (goalF pl st c n).isSome := by
  unfold goalF
  by_cases h1 : st = Str.ofString "head"
  · rw [if_pos h1]; subst h1; show inV _ _ = true; decide +kernel
  rw [if_neg h1]
  by_cases h2 : st = Str.ofString "here"
  · rw [if_pos h2]; subst h2; show inV _ _ = true; decide +kernel
  rw [if_neg h2]
  by_cases h3 : st = Str.ofString "tail"
  · rw [if_pos h3]; subst h3; show inV _ _ = true; decide +kernel
  rw [if_neg h3]
  have ne : ∀ a : Str, ¬ st = a → eqV (V.str a) (V.str st) = false := fun a h => beq_eq_false_iff_ne.mpr (fun z => h z.symm)
  show ([V.str (Str.ofString "head"), .str (Str.ofString "here"), .str (Str.ofString "tail")].any fun y => eqV y (V.str st)) = false
  simp only [List.any_cons, List.any_nil, ne _ h1, ne _ h2, ne _ h3, Bool.or_false]
def spDue22 (K : PySem.W.Frag) : Sp := fun vs H Q _ => ∃ (x t : Addr) (r : List Int) (c : Nat) (D : Dd), vs = [.ref x, .int c, .ref t] ∧ H x = some (.lst (r.map V.int)) ∧ H t = some (.tup (ddV D)) ∧ DdOk H D ∧ c ≤ 4000 ∧ DueOf r c (dueP Q H) D

def spDeed22 (K : PySem.W.Frag) : Sp := fun vs H Q _ => ∃ (p x : Addr) (n : Int) (o : HO) (r : List Int) (c : Nat), vs = [.ref p, .ref x, .int c] ∧ p ≠ x ∧ H p = some o ∧ PoolO n o ∧ n ≤ 700000000 ∧ H x = some (.lst (r.map V.int)) ∧ r.length ≤ 4000 ∧ c ≤ 4000 ∧
  ∀ (H' : Hp) (t : Addr) (D : Dd), H' t = some (.tup (ddV D)) → DdOk H' D → (∀ b ts, D = .wr b ts → H b = none) → H t = none → Kp [p] H H' → Q (.ref t) H'
def starts6 : List V := [V.str (Str.ofString "head"), .str (Str.ofString "here"), .str (Str.ofString "tail"), .str (Str.ofString "Head"), .str (Str.ofString "end"), .str (Str.ofString "")]
theorem start_at {w : Int} (w0 : 0 ≤ w) (w1 : w < 6) : ∃ st : Str, atI starts6 w = some (.str st) := by
  rcases (show w = 0 ∨ w = 1 ∨ w = 2 ∨ w = 3 ∨ w = 4 ∨ w = 5 by omega) with rfl | rfl | rfl | rfl | rfl | rfl <;> exact ⟨_, rfl⟩
theorem count_at {w : Int} (w0 : 0 ≤ w) (w1 : w < 6) : ∃ n : Int, atI [V.int (-1), .int (-3), .int (-(10 ^ 9)), .int 0, .int 1, .int 3] w = some (.int n) := by
  rcases (show w = 0 ∨ w = 1 ∨ w = 2 ∨ w = 3 ∨ w = 4 ∨ w = 5 by omega) with rfl | rfl | rfl | rfl | rfl | rfl <;> exact ⟨_, rfl⟩
theorem two_some (r : List Int) (c : Nat) (st : Str) (lr : r.length ≤ 4000) (lc : c ≤ 4000) : ∃ j : Int, 0 ≤ j ∧ j ≤ 4000 ∧ (valV (mergeK [] (twoK r c)) (Sum.inr st)).getD (.int 0) = .int j := by
  by_cases h2 : st = Str.ofString "here"
  · subst h2; exact ⟨c, by omega, by omega, rfl⟩
  by_cases h3 : st = Str.ofString "tail"
  · subst h3; exact ⟨((r.map V.int).length : Nat), by omega, by rw [List.length_map]; omega, rfl⟩
  refine ⟨0, by decide, by decide, ?_⟩
  have e : valV (mergeK [] (twoK r c)) (Sum.inr st) = none := by
    show (([(Sum.inr (Str.ofString "here"), V.int c), (Sum.inr (Str.ofString "tail"), V.int ((r.map V.int).length : Nat))] : List (Key × V)).find? fun kv => decide (kv.1 = Sum.inr st)).map (·.2) = none
    rw [List.find?_cons_of_neg (by simpa using fun z : Str.ofString "here" = st => h2 z.symm), List.find?_cons_of_neg (by simpa using fun z : Str.ofString "tail" = st => h3 z.symm)]
    rfl
  rw [e]; rfl
theorem cpow_10_9 : CPow 10 9 := by unfold CPow; decide +kernel

theorem laid_old {r d : List Int} {c : Nat} (d0 : d ≠ []) : (r ++ List.replicate (c - r.length) (0 : Int)).take c ++ d ++ r.drop (c + d.length) = laidF r c d := by
  rw [laidF_cons d0]
  congr 1
  by_cases h : c ≤ r.length
  · rw [show c - r.length = 0 by omega]; simp
  · rw [List.drop_of_length_le (l := r) (by omega), List.drop_of_length_le]
    rw [List.length_append, List.length_replicate]; omega
def MovedTo (H : Hp) (r : List Int) (c : Nat) (fo : Addr) (dv : List V) (r' : List Int) (c' : Nat) (D : Dd) : Prop :=
  (∃ w v, dv = rfV w v ∧ r' = r ∧ c' = c) ∨ ∃ v, dv = tlV v ∧ match D with
    | .wr _ ts => ∃ d : List Int, ts = d.map Th.i ∧ r' = laidF r c d ∧ c' = c + d.length
    | .sk _ _ => v = .int c' ∧ r' = r
    | .ct g => ∃ m : Nat, g = m ∧ r' = r.take m ∧ c' = c
    | .rd w _ => ∃ (q : Addr) (xs : List Int), H fo = some (.tup (tlV (.ref q))) ∧ H q = some (.lst (xs.map V.int)) ∧ r' = r ∧ c' = if w = 2 then c else c + xs.length
def spMoved22 (K : PySem.W.Frag) : Sp := fun vs H Q _ => ∃ (x t du fo : Addr) (r r' : List Int) (c c' : Nat) (D : Dd) (dv : List V), vs = [.ref x, .int c, .ref t, .ref du, .ref fo] ∧ H x = some (.lst (r.map V.int)) ∧ H t = some (.tup (ddV D)) ∧ DdOk H D ∧ H du = some (.tup dv) ∧ r.length ≤ 4000 ∧ c ≤ 4000 ∧
  MovedTo H r c fo dv r' c' D ∧ ∀ (H' : Hp) (u x' : Addr), H' u = some (.tup [.ref x', .int c']) → H' x' = some (.lst (r'.map V.int)) → (x' = x ∨ H x' = none) → Same H H' → Q (.ref u) H'

def Flat (vs : List V) : Prop := ∃ d : PyData, Sh 200000 5 d ∧ ∀ (K : PySem.W.Frag) (H : Hp) (u : Addr), H u = some (.tup vs) → Dp K H (.ref u) d
theorem len_refused : (Str.ofString "refused").length = 7 := by decide +kernel
theorem flat_rn {w : Str} (h : (w.cps.toList.all fun c => decide (c < 16 ^ 8)) = true) (l : w.length ≤ 100) : Flat (rfV w .non) :=
  ⟨.tuple [.str (Str.ofString "refused"), .str w, .none], (sh_tuple (shA_cons (sh_str (by decide +kernel)) (shA_cons (sh_str h) (shA_cons sh_non shA_nil)))).up (by rw [len_refused]; omega) (by decide), fun K H u e => .tup (.inl (.inl e)) (.cons (.str _) (.cons (.str _) (.cons .non .nil)))⟩
theorem flat_ri {w : Str} {i : Int} (h : (w.cps.toList.all fun c => decide (c < 16 ^ 8)) = true) (l : w.length ≤ 100) (hi : i.natAbs < 10 ^ 12) : Flat (rfV w (.int i)) :=
  ⟨.tuple [.str (Str.ofString "refused"), .str w, .int i], (sh_tuple (shA_cons (sh_str (by decide +kernel)) (shA_cons (sh_str h) (shA_cons (sh_int hi) shA_nil)))).up (by rw [len_refused]; omega) (by decide), fun K H u e => .tup (.inl (.inl e)) (.cons (.str _) (.cons (.str _) (.cons (.int _) .nil)))⟩
theorem flat_tn : Flat (tlV .non) :=
  ⟨.tuple [.str (Str.ofString "told"), .none], (sh_tuple (shA_cons (sh_str (by decide +kernel)) (shA_cons sh_non shA_nil))).up (by decide +kernel) (by decide), fun K H u e => .tup (.inl (.inl e)) (.cons (.str _) (.cons .non .nil))⟩
theorem flat_ti {i : Int} (hi : i.natAbs < 10 ^ 12) : Flat (tlV (.int i)) :=
  ⟨.tuple [.str (Str.ofString "told"), .int i], (sh_tuple (shA_cons (sh_str (by decide +kernel)) (shA_cons (sh_int hi) shA_nil))).up (by decide +kernel) (by decide), fun K H u e => .tup (.inl (.inl e)) (.cons (.str _) (.cons (.int _) .nil))⟩
/-- what becomes of a deed: it is refused, or told, or it reads -/
theorem fate {H0 : Hp} {r : List Int} {c : Nat} {D : Dd} (hv : DdOk H0 D) (lr : r.length ≤ 4000) (lc : c ≤ 4000) :
    (∃ (w : Str) (v : V), Flat (rfV w v) ∧ (∀ P : List V → Prop, P (rfV w v) → DueOf r c P D) ∧ ∀ (PA : PP) (Q : VK) (H : Hp) (p : Addr) (F : Addr → Prop), refP Q H w v → OutR PA Q H p F r c D) ∨
    (∃ (v : V) (r' : List Int) (c' : Nat), Flat (tlV v) ∧ (∀ w n, D ≠ .rd w n) ∧ (∀ P : List V → Prop, P (tlV v) → DueOf r c P D) ∧ r'.length ≤ 4000 ∧ c' ≤ 4000 ∧ (∀ H fo, MovedTo H r c fo (tlV v) r' c' D) ∧
      ∀ (PA : PP) (Q : VK) (H : Hp) (p : Addr) (F : Addr → Prop), (∀ H' F', PA H' p F' r' c' → Step F H F' H' → ∀ (H2 : Hp) (u : Addr), H2 u = some (.tup (tlV v)) → Same H' H2 → Q (.ref u) H2) → OutR PA Q H p F r c D) ∨
    ∃ (w : Nat) (n : Int), D = .rd w n ∧ 0 ≤ n := by
  cases D with
  | wr b ts =>
    rcases th_cases ts with ⟨d, rfl, bd⟩ | ⟨k, t, hk, ht, ho⟩
    · have inj : ∀ d' : List Int, d.map Th.i = d'.map Th.i → d' = d := fun d' e => by
        have h := congrArg (List.map thV) e
        rw [th_vals, th_vals] at h
        exact ((List.map_inj_right (fun a b h => V.int.inj h)).mp h).symm
      have no : ∀ (k : Nat) (t : Th), (d.map Th.i)[k]? = some t → thB t = false → False := fun k t hk ht => by
        have := th_bytes bd t (List.mem_of_getElem? hk)
        rw [ht] at this; cases this
      have ld : d.length ≤ 62 := by have := hv.2; rw [List.length_map] at this; exact this
      by_cases fit : d ≠ [] → c + d.length ≤ 4000
      · refine .inr (.inl ⟨.int d.length, laidF r c d, c + d.length, flat_ti (by omega), fun _ _ e => (nomatch e), fun P hP => ⟨fun d' e _ _ => by rw [inj d' e]; exact hP, fun d' e _ d0 big => by rw [inj d' e] at d0 big; exact absurd (fit d0) (by omega), fun k t hk ht _ => (no k t hk ht).elim⟩, ?_, ?_, fun H fo => .inr ⟨_, rfl, d, rfl, rfl, rfl⟩, fun PA Q H p F hq => ⟨fun d' e _ _ H' F' a st => by rw [inj d' e] at a ⊢; exact hq H' F' a st, fun d' e _ d0 big => by rw [inj d' e] at d0 big; exact absurd (fit d0) (by omega), fun k t hk ht _ => (no k t hk ht).elim⟩⟩)
        · by_cases d0 : d = []
          · subst d0; rw [laidF_nil]; exact lr
          · exact laidF_le ⟨lr, fit d0⟩
        · by_cases d0 : d = []
          · subst d0; exact lc
          · exact fit d0
      · have d0 : d ≠ [] := fun z => fit (fun y => absurd z y)
        have big : 4000 < c + d.length := by
          by_cases h : c + d.length ≤ 4000
          · exact absurd (fun _ => h) fit
          · omega
        exact .inl ⟨Str.ofString "TooLong", .int (c + d.length : Nat), flat_ri (by decide +kernel) (by decide +kernel) (by omega), fun P hP => ⟨fun d' e _ f => by rw [inj d' e] at f; exact absurd f fit, fun d' e _ _ _ => by rw [inj d' e]; exact hP, fun k t hk ht _ => (no k t hk ht).elim⟩, fun PA Q H p F hq => ⟨fun d' e _ f => by rw [inj d' e] at f; exact absurd f fit, fun d' e _ _ _ => by rw [inj d' e]; exact hq, fun k t hk ht _ => (no k t hk ht).elim⟩⟩
    · have no : ∀ d : List Int, ts = d.map Th.i → Bytes d → False := fun d e bd => by
        subst e
        have := th_bytes bd t (List.mem_of_getElem? hk)
        rw [ht] at this; cases this
      have kl := (List.getElem?_eq_some_iff.mp hk).1
      have one : ∀ (k' : Nat) (t' : Th), ts[k']? = some t' → thB t' = false → (∀ j t', j < k' → ts[j]? = some t' → thB t' = true) → k' = k := fun k' t' hk' ht' ho' => by
        rcases Nat.lt_trichotomy k' k with h | h | h
        · have := ho k' t' h hk'; rw [ht'] at this; cases this
        · exact h
        · have := ho' k t h hk; rw [ht] at this; cases this
      exact .inl ⟨Str.ofString "NotByte", .int k, flat_ri (by decide +kernel) (by decide +kernel) (by have := hv.2; omega), fun P hP => ⟨fun d e bd => (no d e bd).elim, fun d e bd => (no d e bd).elim, fun k' t' a b c => by rw [one k' t' a b c]; exact hP⟩, fun PA Q H p F hq => ⟨fun d e bd => (no d e bd).elim, fun d e bd => (no d e bd).elim, fun k' t' a b c => by rw [one k' t' a b c]; exact hq⟩⟩
  | sk pl st =>
    cases hg : goalF pl st c r.length with
    | none =>
      exact .inl ⟨Str.ofString "BadStart", .non, flat_rn (by decide +kernel) (by decide +kernel), fun P hP => ⟨fun _ => hP, fun g e => by rw [hg] at e; cases e⟩, fun PA Q H p F hq => ⟨fun _ => hq, fun g e => by rw [hg] at e; cases e⟩⟩
    | some g =>
      have gb : -1200000 ≤ g ∧ g ≤ 1200000 := by
        obtain ⟨a, b⟩ := hv
        unfold goalF at hg
        split at hg
        · cases hg; omega
        split at hg
        · cases hg; omega
        split at hg
        · cases hg; omega
        · cases hg
      by_cases g0 : g < 0
      · have eP : pdueL g = rfV (Str.ofString "BadPlace") (.int g) := by unfold pdueL; rw [if_pos g0]; rfl
        exact .inl ⟨Str.ofString "BadPlace", .int g, flat_ri (by decide +kernel) (by decide +kernel) (by omega), fun P hP => ⟨fun e => (nomatch (hg.symm.trans e)), fun g' e => by rw [hg] at e; cases e; rw [eP]; exact hP⟩, fun PA Q H p F hq => ⟨fun e => (nomatch (hg.symm.trans e)), fun g' e => by rw [hg] at e; cases e; exact ⟨fun a => absurd g0 (by omega), fun _ => hq, fun a => absurd g0 (by omega)⟩⟩⟩
      by_cases g4 : 4000 < g
      · have eP : pdueL g = rfV (Str.ofString "TooLong") (.int g) := by unfold pdueL; rw [if_neg g0, if_pos g4]; rfl
        exact .inl ⟨Str.ofString "TooLong", .int g, flat_ri (by decide +kernel) (by decide +kernel) (by omega), fun P hP => ⟨fun e => (nomatch (hg.symm.trans e)), fun g' e => by rw [hg] at e; cases e; rw [eP]; exact hP⟩, fun PA Q H p F hq => ⟨fun e => (nomatch (hg.symm.trans e)), fun g' e => by rw [hg] at e; cases e; exact ⟨fun _ a => absurd g4 (by omega), fun a => absurd g4 (by omega), fun _ => hq⟩⟩⟩
      have eP : pdueL g = tlV (.int g) := by unfold pdueL; rw [if_neg g0, if_neg g4]; rfl
      obtain ⟨m, rfl⟩ := Int.eq_ofNat_of_zero_le (show 0 ≤ g by omega)
      exact .inr (.inl ⟨.int m, r, m, flat_ti (by omega), fun _ _ e => (nomatch e), fun P hP => ⟨fun e => (nomatch (hg.symm.trans e)), fun g' e => by rw [hg] at e; cases e; rw [eP]; exact hP⟩, lr, by omega, fun H fo => .inr ⟨_, rfl, rfl, rfl⟩, fun PA Q H p F hq => ⟨fun e => (nomatch (hg.symm.trans e)), fun g' e => by rw [hg] at e; cases e; exact ⟨fun _ _ H' F' a st => hq H' F' a st, fun a => absurd a (by omega), fun a => absurd a (by omega)⟩⟩⟩)
  | ct g =>
    by_cases g0 : g < 0
    · have eP : pdueL g = rfV (Str.ofString "BadPlace") (.int g) := by unfold pdueL; rw [if_pos g0]; rfl
      exact .inl ⟨Str.ofString "BadPlace", .int g, flat_ri (by decide +kernel) (by decide +kernel) (by have := hv.1; omega), fun P hP => ⟨fun a => absurd g0 (by omega), fun _ => by rw [eP]; exact hP⟩, fun PA Q H p F hq => ⟨fun a => absurd g0 (by omega), fun _ => hq, fun a => absurd g0 (by omega)⟩⟩
    by_cases g4 : 4000 < g
    · have eP : pdueL g = rfV (Str.ofString "TooLong") (.int g) := by unfold pdueL; rw [if_neg g0, if_pos g4]; rfl
      exact .inl ⟨Str.ofString "TooLong", .int g, flat_ri (by decide +kernel) (by decide +kernel) (by have := hv.2; omega), fun P hP => ⟨fun _ a => absurd g4 (by omega), fun _ => by rw [eP]; exact hP⟩, fun PA Q H p F hq => ⟨fun _ a => absurd g4 (by omega), fun a => absurd g4 (by omega), fun _ => hq⟩⟩
    obtain ⟨m, rfl⟩ := Int.eq_ofNat_of_zero_le (show 0 ≤ g by omega)
    exact .inr (.inl ⟨.non, r.take m, c, flat_tn, fun _ _ e => (nomatch e), fun P hP => ⟨fun _ _ => hP, fun a => absurd a (by omega)⟩, by rw [List.length_take]; omega, lc, fun H fo => .inr ⟨_, rfl, m, rfl, rfl, rfl⟩, fun PA Q H p F hq => ⟨fun _ _ H' F' a st => hq H' F' a st, fun a => absurd a (by omega), fun a => absurd a (by omega)⟩⟩)
  | rd w n =>
    by_cases n0 : n < 0
    · exact .inl ⟨Str.ofString "BadCount", .non, flat_rn (by decide +kernel) (by decide +kernel), fun P hP => ⟨fun a => absurd n0 (by omega), fun _ => hP⟩, fun PA Q H p F hq => ⟨fun a => absurd n0 (by omega), fun _ => hq⟩⟩
    · exact .inr (.inr ⟨w, n, rfl, by omega⟩)
theorem ddOk_same {H H' : Hp} {D : Dd} (h : DdOk H D) (s : Same H H') : DdOk H' D := by
  cases D with
  | wr b ts => exact ⟨s _ _ h.1, h.2⟩
  | sk pl st => exact h
  | ct g => exact h
  | rd w n => exact h
theorem dd_word (D : Dd) : ∃ w, atI (ddV D) ((0 : Nat) : Int) = some (.str w) ∧ ((∀ w n, D ≠ .rd w n) → w ≠ Str.ofString "reads") := by
  cases D with
  | wr b ts => exact ⟨_, rfl, fun _ => by decide +kernel⟩
  | sk pl st => exact ⟨_, rfl, fun _ => by decide +kernel⟩
  | ct g => exact ⟨_, rfl, fun _ => by decide +kernel⟩
  | rd w n => exact ⟨_, rfl, fun h => absurd rfl (h w n)⟩
structure Tx (K : PySem.W.Frag) (mg : Str → Option Value) where
  C_Plain : Addr
  C_SipError : Addr
  C_BadPlace : Addr
  C_TooLong : Addr
  C_NotByte : Addr
  C_BadCount : Addr
  C_BadStart : Addr
  f_iBadPlace : Addr
  fd_iBadPlace : FuncData
  D_iBadPlace : FunA K "__init__" "BadPlace.__init__" s_iBadPlace f_iBadPlace fd_iBadPlace
  f_iTooLong : Addr
  fd_iTooLong : FuncData
  D_iTooLong : FunA K "__init__" "TooLong.__init__" s_iTooLong f_iTooLong fd_iTooLong
  f_iNotByte : Addr
  fd_iNotByte : FuncData
  D_iNotByte : FunA K "__init__" "NotByte.__init__" s_iNotByte f_iNotByte fd_iNotByte
  f_laid : Addr
  fd_laid : FuncData
  D_laid : Dg K mg "laid" s_laid f_laid fd_laid
  f_whole : Addr
  fd_whole : FuncData
  D_whole : Dg K mg "is_whole" s_whole f_whole fd_whole
  f_isbyte : Addr
  fd_isbyte : FuncData
  D_isbyte : Dg K mg "is_byte" s_isbyte f_isbyte fd_isbyte
  f_cbytes : Addr
  fd_cbytes : FuncData
  D_cbytes : Dg K mg "check_bytes" s_cbytes f_cbytes fd_cbytes
  f_clen : Addr
  fd_clen : FuncData
  D_clen : Dg K mg "check_length" s_clen f_clen fd_clen
  f_cgoal : Addr
  fd_cgoal : FuncData
  D_cgoal : Dg K mg "check_goal" s_cgoal f_cgoal fd_cgoal
  f_ccount : Addr
  fd_ccount : FuncData
  D_ccount : Dg K mg "check_count" s_ccount f_ccount fd_ccount
  f_sgoal : Addr
  fd_sgoal : FuncData
  D_sgoal : Dg K mg "seek_goal" s_sgoal f_sgoal fd_sgoal
  f_fline : Addr
  fd_fline : FuncData
  D_fline : Dg K mg "first_line" s_fline f_fline fd_fline
  f_init : Addr
  fd_init : FuncData
  D_init : Mf K C_Plain "__init__" "Plain.__init__" s_init f_init fd_init
  f_write : Addr
  fd_write : FuncData
  D_write : Mf K C_Plain "write" "Plain.write" s_write f_write fd_write
  f_seek : Addr
  fd_seek : FuncData
  D_seek : Mf K C_Plain "seek" "Plain.seek" s_seek f_seek fd_seek
  f_tell : Addr
  fd_tell : FuncData
  D_tell : Mf K C_Plain "tell" "Plain.tell" s_tell f_tell fd_tell
  f_size : Addr
  fd_size : FuncData
  D_size : Mf K C_Plain "size" "Plain.size" s_size f_size fd_size
  f_pcut : Addr
  fd_pcut : FuncData
  D_pcut : Mf K C_Plain "cut" "Plain.cut" s_pcut f_pcut fd_pcut
  f_row : Addr
  fd_row : FuncData
  D_row : Mf K C_Plain "row" "Plain.row" s_row f_row fd_row
  f_ahead : Addr
  fd_ahead : FuncData
  D_ahead : Mf K C_Plain "ahead" "Plain.ahead" s_ahead f_ahead fd_ahead
  f_passed : Addr
  fd_passed : FuncData
  D_passed : Mf K C_Plain "passed" "Plain.passed" s_passed f_passed fd_passed
  f_peek : Addr
  fd_peek : FuncData
  D_peek : Mf K C_Plain "peek" "Plain.peek" s_peek f_peek fd_peek
  f_read : Addr
  fd_read : FuncData
  D_read : Mf K C_Plain "read" "Plain.read" s_read f_read fd_read
  f_rsome : Addr
  fd_rsome : FuncData
  D_rsome : Mf K C_Plain "read_some" "Plain.read_some" s_rsome f_rsome fd_rsome
  f_rline : Addr
  fd_rline : FuncData
  D_rline : Mf K C_Plain "readline" "Plain.readline" s_rline f_rline fd_rline
  f_pool : Addr
  fd_pool : FuncData
  D_pool : Dg K mg "_law_pool" s_pool f_pool fd_pool
  f_take : Addr
  fd_take : FuncData
  D_take : Dg K mg "_law_take" s_take f_take fd_take
  f_bytes : Addr
  fd_bytes : FuncData
  D_bytes : Dg K mg "_law_bytes" s_bytes f_bytes fd_bytes
  f_goal : Addr
  fd_goal : FuncData
  D_goal : Dg K mg "_law_goal" s_goal f_goal fd_goal
  f_things : Addr
  fd_things : FuncData
  D_things : Dg K mg "_law_things" s_things f_things fd_things
  f_lbyte : Addr
  fd_lbyte : FuncData
  D_lbyte : Dg K mg "_law_is_byte" s_lbyte f_lbyte fd_lbyte
  f_pdue : Addr
  fd_pdue : FuncData
  D_pdue : Dg K mg "_law_place_due" s_pdue f_pdue fd_pdue
  f_wdue : Addr
  fd_wdue : FuncData
  D_wdue : Dg K mg "_law_write_due" s_wdue f_wdue fd_wdue
  f_reads : Addr
  fd_reads : FuncData
  D_reads : Dg K mg "_law_reads" s_reads f_reads fd_reads
  f_does : Addr
  fd_does : FuncData
  D_does : Dg K mg "_law_does" s_does f_does fd_does
  f_tries : Addr
  fd_tries : FuncData
  D_tries : Dg K mg "_law_tries" s_tries f_tries fd_tries
  f_deed : Addr
  fd_deed : FuncData
  D_deed : Dg K mg "_law_deed" s_deed f_deed fd_deed
  f_due : Addr
  fd_due : FuncData
  D_due : Dg K mg "_law_due" s_due f_due fd_due
  f_moved : Addr
  fd_moved : FuncData
  D_moved : Dg K mg "_law_moved" s_moved f_moved fd_moved
  f_law : Addr
  fd_law : FuncData
  D_law : Dg K mg "law" s_law f_law fd_law
  cl_Plain : Cls K C_Plain
  g_Plain : mg "Plain" = some (.ref C_Plain)
  mk_Plain : Mk K C_Plain f_init
  n_Plain_cells : NoAttr K C_Plain "cells"
  n_Plain_cursor : NoAttr K C_Plain "cursor"
  g_SipError : mg "SipError" = some (.ref C_SipError)
  g_BadPlace : mg "BadPlace" = some (.ref C_BadPlace)
  g_TooLong : mg "TooLong" = some (.ref C_TooLong)
  g_NotByte : mg "NotByte" = some (.ref C_NotByte)
  g_BadCount : mg "BadCount" = some (.ref C_BadCount)
  g_BadStart : mg "BadStart" = some (.ref C_BadStart)
  o_BadPlace : OexC K C_BadPlace
  e_BadPlace : ExcC K C_BadPlace
  n_BadPlace : PySem.W.findIn K (.ref C_BadPlace) "goal" = some none
  ini_BadPlace : PySem.W.findIn K (.ref C_BadPlace) "__init__" = some (some (.ref f_iBadPlace))
  tI_BadPlace : PySem.W.typeIn K (.ref f_iBadPlace) = some (.type "function")
  te_BadPlace : PySem.W.exmOne K (.ref C_BadPlace) (.ref C_SipError) = some true
  o_TooLong : OexC K C_TooLong
  e_TooLong : ExcC K C_TooLong
  n_TooLong : PySem.W.findIn K (.ref C_TooLong) "length" = some none
  ini_TooLong : PySem.W.findIn K (.ref C_TooLong) "__init__" = some (some (.ref f_iTooLong))
  tI_TooLong : PySem.W.typeIn K (.ref f_iTooLong) = some (.type "function")
  te_TooLong : PySem.W.exmOne K (.ref C_TooLong) (.ref C_SipError) = some true
  o_NotByte : OexC K C_NotByte
  e_NotByte : ExcC K C_NotByte
  n_NotByte : PySem.W.findIn K (.ref C_NotByte) "at" = some none
  ini_NotByte : PySem.W.findIn K (.ref C_NotByte) "__init__" = some (some (.ref f_iNotByte))
  tI_NotByte : PySem.W.typeIn K (.ref f_iNotByte) = some (.type "function")
  te_NotByte : PySem.W.exmOne K (.ref C_NotByte) (.ref C_SipError) = some true
  x_BadCount : PySem.W.excIn K C_BadCount [.type "ValueError", .type "Exception", .type "BaseException", .type "object"] "ValueError.__new__" = true
  kk_BadCount : PySem.W.keepIn K (.ref C_BadCount) = true
  bx_BadCount : PySem.W.subIn K (.ref C_BadCount) (.type "BaseException") = some true
  tx_BadCount : PySem.W.typeIn K (.ref C_BadCount) = some (.type "type")
  x_BadStart : PySem.W.excIn K C_BadStart [.type "ValueError", .type "Exception", .type "BaseException", .type "object"] "ValueError.__new__" = true
  kk_BadStart : PySem.W.keepIn K (.ref C_BadStart) = true
  bx_BadStart : PySem.W.subIn K (.ref C_BadStart) (.type "BaseException") = some true
  tx_BadStart : PySem.W.typeIn K (.ref C_BadStart) = some (.type "type")
  te_BadPlace_BadCount : PySem.W.exmOne K (.ref C_BadPlace) (.ref C_BadCount) = some false
  te_BadPlace_NotByte : PySem.W.exmOne K (.ref C_BadPlace) (.ref C_NotByte) = some false
  te_BadPlace_TooLong : PySem.W.exmOne K (.ref C_BadPlace) (.ref C_TooLong) = some false
  te_BadPlace_BadStart : PySem.W.exmOne K (.ref C_BadPlace) (.ref C_BadStart) = some false
  te_BadPlace_BadPlace : PySem.W.exmOne K (.ref C_BadPlace) (.ref C_BadPlace) = some true
  te_TooLong_BadCount : PySem.W.exmOne K (.ref C_TooLong) (.ref C_BadCount) = some false
  te_TooLong_NotByte : PySem.W.exmOne K (.ref C_TooLong) (.ref C_NotByte) = some false
  te_TooLong_TooLong : PySem.W.exmOne K (.ref C_TooLong) (.ref C_TooLong) = some true
  te_TooLong_BadStart : PySem.W.exmOne K (.ref C_TooLong) (.ref C_BadStart) = some false
  te_TooLong_BadPlace : PySem.W.exmOne K (.ref C_TooLong) (.ref C_BadPlace) = some false
  te_NotByte_BadCount : PySem.W.exmOne K (.ref C_NotByte) (.ref C_BadCount) = some false
  te_NotByte_NotByte : PySem.W.exmOne K (.ref C_NotByte) (.ref C_NotByte) = some true
  te_NotByte_TooLong : PySem.W.exmOne K (.ref C_NotByte) (.ref C_TooLong) = some false
  te_NotByte_BadStart : PySem.W.exmOne K (.ref C_NotByte) (.ref C_BadStart) = some false
  te_NotByte_BadPlace : PySem.W.exmOne K (.ref C_NotByte) (.ref C_BadPlace) = some false
  te_BadCount_BadCount : PySem.W.exmOne K (.ref C_BadCount) (.ref C_BadCount) = some true
  te_BadCount_NotByte : PySem.W.exmOne K (.ref C_BadCount) (.ref C_NotByte) = some false
  te_BadCount_TooLong : PySem.W.exmOne K (.ref C_BadCount) (.ref C_TooLong) = some false
  te_BadCount_BadStart : PySem.W.exmOne K (.ref C_BadCount) (.ref C_BadStart) = some false
  te_BadCount_BadPlace : PySem.W.exmOne K (.ref C_BadCount) (.ref C_BadPlace) = some false
  te_BadStart_BadCount : PySem.W.exmOne K (.ref C_BadStart) (.ref C_BadCount) = some false
  te_BadStart_NotByte : PySem.W.exmOne K (.ref C_BadStart) (.ref C_NotByte) = some false
  te_BadStart_TooLong : PySem.W.exmOne K (.ref C_BadStart) (.ref C_TooLong) = some false
  te_BadStart_BadStart : PySem.W.exmOne K (.ref C_BadStart) (.ref C_BadStart) = some true
  te_BadStart_BadPlace : PySem.W.exmOne K (.ref C_BadStart) (.ref C_BadPlace) = some false
  bb_ahead : Binds K fd_ahead P_ahead []
  bb_bytes : Binds K fd_bytes P_bytes []
  bb_cbytes : Binds K fd_cbytes P_cbytes []
  bb_ccount : Binds K fd_ccount P_ccount []
  bb_cgoal : Binds K fd_cgoal P_cgoal []
  bb_clen : Binds K fd_clen P_clen []
  bb_deed : Binds K fd_deed P_deed []
  bb_does : Binds K fd_does P_does []
  bb_due : Binds K fd_due P_due []
  bb_fline : Binds K fd_fline P_fline []
  bb_goal : Binds K fd_goal P_goal []
  bb_iBadPlace : Binds K fd_iBadPlace P_iBadPlace []
  bb_iNotByte : Binds K fd_iNotByte P_iNotByte []
  bb_iTooLong : Binds K fd_iTooLong P_iTooLong []
  bb_init : Binds K fd_init P_init []
  bb_isbyte : Binds K fd_isbyte P_isbyte []
  bb_laid : Binds K fd_laid P_laid []
  bb_lbyte : Binds K fd_lbyte P_lbyte []
  bb_moved : Binds K fd_moved P_moved []
  bb_passed : Binds K fd_passed P_passed []
  bb_pcut : Binds K fd_pcut P_pcut []
  bb_pdue : Binds K fd_pdue P_pdue []
  bb_peek : Binds K fd_peek P_peek []
  bb_pool : Binds K fd_pool P_pool []
  bb_read : Binds K fd_read P_read []
  bb_reads : Binds K fd_reads P_reads []
  bb_rline : Binds K fd_rline P_rline []
  bb_row : Binds K fd_row P_row []
  bb_rsome : Binds K fd_rsome P_rsome []
  bb_sgoal : Binds K fd_sgoal P_sgoal []
  bb_take : Binds K fd_take P_take []
  bb_tell : Binds K fd_tell P_tell []
  bb_things : Binds K fd_things P_things []
  bb_tries : Binds K fd_tries P_tries []
  bb_wdue : Binds K fd_wdue P_wdue []
  bb_whole : Binds K fd_whole P_whole []
  bb_write : Binds K fd_write P_write []
  kb_seek_1_start : KBn K fd_seek P_seek 2 ["start"] (fun us ws => us ++ ws) (fun vs zs => vs ++ zs)
  t_LONGEST : Tok
  c_LONGEST : mg "LONGEST" = some (.int 4000 t_LONGEST)
  t_LINE_FEED : Tok
  c_LINE_FEED : mg "LINE_FEED" = some (.int 10 t_LINE_FEED)
  m_list : mg "list" = none
  m_len : mg "len" = none
  m_range : mg "range" = none
  m_max : mg "max" = none
  m_min : mg "min" = none
  m_isinstance : mg "isinstance" = none
  m_int : mg "int" = none
  m_bool : mg "bool" = none
  m_all : mg "all" = none
  m_enumerate : mg "enumerate" = none
  m_repr : mg "repr" = none
section
variable {P : Program} {w : World} {K : PySem.W.Frag} {mg : Str → Option Value} {base : Heap}

theorem ok_pool (T : Tx K mg) : FnOk P w K mg base CX0 1 T.f_pool T.fd_pool P_pool (spPool K) := by
  have sz : sizeLine = 16777216 := sizeLine_eq
  refine T.D_pool.F.ok sc_pool (fun vs H Q E h => ?_) (fun cdv A outer s H vs Q E hr h => ?_)
  · obtain ⟨a, ns, i, rfl, _⟩ := h
    rfl
  · obtain ⟨a, ns, i, rfl, hS, h63, i0, i1, q⟩ := h
    refine ⟨_, (pss_cons (ps_set (i := 2) sc_pool.nd rfl (.inl rfl) pe_int)
      (C8.pss_cut (ps_if (pt_cmpR op_gt (pe_callB call_len_seq (by rfl) T.m_len PySem.boot_len (pa_cons (pv 0) pa_nil)) pe_int (nomark _)) (pss_one (ps_set (i := 2) sc_pool.nd rfl (.inl rfl) (pe_ix ix_list (pv 0) (pe_op op_mod (pv 1) (pe_callB call_len_seq (by rfl) T.m_len PySem.boot_len (pa_cons (pv 0) pa_nil))) (fun _ _ => rfl)))) pss_nil)
      (pss_cons (ps_set (i := 3) sc_pool.nd rfl (.inl rfl) pe_int)
      (C8.pss_cut (ps_if (PW.pt (pw_and (pt_cmpR op_ge (pv 2) (pe_op op_pow pe_int pe_int) (nomark _)) (pw_and1 (pt_cmpR op_lt (pv 1) (pe_callB call_len_seq (by rfl) T.m_len PySem.boot_len (pa_cons (pv 0) pa_nil)) (nomark _))))) (pss_one (ps_set (i := 3) sc_pool.nd rfl (.inl rfl) (pv 2))) pss_nil)
      (pss_one (ps_ret (pe_lst (pa_cons (pv 3) (pa_cons (pe_op op_mul pe_int (pv 1)) (pa_cons (pv 2) pa_nil)))))))))), ?_⟩
    refine ⟨fun σ' H' => H' = H ∧ ∃ c : Int, σ' = [some (.ref a), some (.int i), some (.int c), none], ?_, fun σ' H' hm => ?_⟩
    · refine ⟨.ref a, rfl, a, ns.map V.int, rfl, .inl hS, _, _, rfl, rfl, _, rfl, ite2 (fun e => ?_) (fun e => ?_)⟩
      · have e1 : (0 : Int) < ((ns.map V.int).length : Int) := of_decide_eq_true e
        rw [List.length_map] at e1
        obtain ⟨m, _, em, _⟩ := atI_int (ms := ns) (i := i % (ns.length : Int)) (Int.emod_nonneg _ (by omega)) (Int.emod_lt_of_pos _ e1)
        refine ⟨.ref a, rfl, .int i, rfl, .ref a, rfl, a, ns.map V.int, rfl, .inl hS, _, _, rfl, rfl, ?_, a, _, _, .int m, rfl, rfl, hS, ?_, rfl, m, rfl⟩
        · rw [List.length_map]; exact e1
        · rw [List.length_map]; exact em
      · exact ⟨rfl, 0, rfl⟩
    · obtain ⟨rfl, c, rfl⟩ := hm
      refine ⟨fun σ' H'' => H'' = H' ∧ ∃ d : Int, 0 ≤ d ∧ σ' = [some (.ref a), some (.int i), some (.int c), some (.int d)], ?_, fun σ' H'' hm => ?_⟩
      · refine ⟨.int c, rfl, _, _, rfl, rfl, ⟨by decide, by decide, by decide⟩, _, _, rfl, rfl, _, rfl, ite2 (fun e => ?_) (fun e => iteF ⟨rfl, 0, by decide, rfl⟩)⟩
        have e1 : ((10 : Int) ^ (18 : Int).toNat) ≤ c := of_decide_eq_true e
        refine ⟨.int i, rfl, .ref a, rfl, a, ns.map V.int, rfl, .inl hS, _, _, rfl, rfl, _, rfl, ite2 (fun e => ?_) (fun e => ⟨rfl, 0, by decide, rfl⟩)⟩
        exact ⟨.int c, rfl, rfl, c, Int.le_trans (by decide) e1, rfl⟩
      · obtain ⟨rfl, d, d0, rfl⟩ := hm
        refine ⟨.int d, rfl, .int i, rfl, _, _, rfl, rfl, .inl ⟨by decide, by decide⟩, .int c, rfl, by show (3 : Nat) ≤ sizeLine; decide, fun p np => q p _ np ⟨d, 1000 * i, c, rfl, d0, by omega, by omega⟩⟩


theorem ok_take (T : Tx K mg) : FnOk P w K mg base CX0 1 T.f_take T.fd_take P_take (spTake) := by
  have sz : sizeLine = 16777216 := sizeLine_eq
  refine T.D_take.F.ok sc_take (fun vs H Q E h => ?_) (fun cdv A outer s H vs Q E hr h => ?_)
  · obtain ⟨p, n, wd, o, rfl, _⟩ := h
    rfl
  · obtain ⟨p, n, wd, o, rfl, hp, ⟨d, c, x, rfl, d0, c0, cn⟩, n9, w0, w1, q⟩ := h
    refine ⟨_, (pss_cons (ps_if (pt_cmpR op_gt (pe_ix ix_list (pv 0) pe_int (fun _ _ => rfl)) pe_int (nomark _)) (pss_cons (ps_set (i := 2) sc_take.nd rfl (.inl rfl) (pe_op op_mod (pe_ix ix_list (pv 0) pe_int (fun _ _ => rfl)) (pv 1)))
      (pss_cons (ps_asg (pe_op op_fdiv (pe_ix ix_list (pv 0) pe_int (fun _ _ => rfl)) (pv 1)) (pg_sub (pv 0) pe_int set_list))
      (pss_one (ps_ret (pv 2))))) pss_nil)
      (pss_cons (ps_asg (pe_op op_add (pe_ix ix_list (pv 0) pe_int (fun _ _ => rfl)) pe_int) (pg_sub (pv 0) pe_int set_list))
      (pss_cons (ps_set (i := 3) sc_take.nd rfl (.inl rfl) (pe_op op_mod (pe_op op_pow (pe_op op_add (pe_op op_mod (pe_ix ix_list (pv 0) pe_int (fun _ _ => rfl)) pe_int) (pe_op op_mul pe_int (pe_ix ix_list (pv 0) pe_int (fun _ _ => rfl)))) pe_int) pe_int))
      (pss_cons (ps_set (i := 3) sc_take.nd rfl (.inl rfl) (pe_op op_add (pe_op op_mul (pv 3) pe_int) (pe_op op_mul (pe_op op_mul (pe_ix ix_list (pv 0) pe_int (fun _ _ => rfl)) (pe_ix ix_list (pv 0) pe_int (fun _ _ => rfl))) pe_int)))
      (pss_one (ps_ret (pe_op op_mod (pe_op op_fdiv (pe_op op_mod (pe_op op_add (pv 3) (pe_op op_fdivW (pe_ix ix_list (pv 0) pe_int (fun _ _ => rfl)) pe_int)) pe_int) pe_int) (pv 1)))))))), ?_⟩
    have S0 : SqL K H p [.int d, .int c, .int x] := sq_at hp
    refine ⟨.ref p, rfl, p, _, 0, .int d, rfl, rfl, S0, rfl, d, 0, rfl, rfl, _, rfl, ite2 (fun e => ?_) (fun e => ?_)⟩
    · refine ⟨.ref p, rfl, p, _, 0, .int d, rfl, rfl, S0, rfl, .int wd, rfl, d, wd, rfl, rfl, w0, ?_⟩
      refine ⟨.ref p, rfl, p, _, 0, .int d, rfl, rfl, S0, rfl, .int wd, rfl, d, wd, rfl, rfl, ⟨w0, w1⟩, ?_⟩
      refine ⟨.ref p, rfl, p, _, 0, 0, rfl, rfl, hp, rfl, .int (d % wd), rfl, ?_⟩
      exact q _ _ (Int.emod_nonneg _ (by omega)) (Int.emod_lt_of_pos _ w0) ⟨d / wd, c, x, rfl, Int.ediv_nonneg d0 (by omega), c0, by omega⟩
    · refine ⟨.ref p, rfl, p, _, 1, .int c, rfl, rfl, S0, rfl, c, 1, rfl, rfl, .ref p, rfl, p, _, 1, 1, rfl, rfl, hp, rfl, ?_⟩
      have S1 : SqL K (upd H p (.lst [.int d, .int (c + 1), .int x])) p [.int d, .int (c + 1), .int x] := sq_new
      have y0 : 0 ≤ x % 2147483647 := Int.emod_nonneg _ (by decide)
      have y1 : x % 2147483647 < 2147483647 := Int.emod_lt_of_pos _ (by decide)
      refine ⟨.ref p, rfl, p, _, 2, .int x, rfl, rfl, S1, rfl, x, _, rfl, rfl, by show (0 : Int) < 2147483647; decide, .ref p, rfl, p, _, 1, .int (c + 1), rfl, rfl, S1, rfl, 40503, c + 1, rfl, rfl, .inl ⟨by decide, by decide⟩, _, _, rfl, rfl, _, 5, rfl, rfl, ⟨by decide, by decide, ?_⟩, _, 2147483647, rfl, rfl, by show (0 : Int) < 2147483647; decide, ?_⟩
      · show (x % 2147483647 + 40503 * (c + 1)).natAbs < 18446744073709551616
        omega
      · refine ⟨_, rfl, _, 48271, rfl, rfl, .inr ⟨by decide, by decide⟩, .ref p, rfl, p, _, 1, .int (c + 1), rfl, rfl, S1, rfl, .ref p, rfl, p, _, 1, .int (c + 1), rfl, rfl, S1, rfl, c + 1, c + 1, rfl, rfl, .inl ⟨by omega, by omega⟩, _, 39373, rfl, rfl, .inr ⟨by decide, by decide⟩, _, _, rfl, rfl, ?_⟩
        refine ⟨_, rfl, .ref p, rfl, p, _, 2, .int x, rfl, rfl, S1, rfl, x, _, rfl, rfl, wide_div (b := 32) (by decide) (by decide) (by decide) (by decide), _, _, rfl, rfl, _, _, rfl, rfl, by show (0 : Int) < 1000000007; decide, _, 16, rfl, rfl, ⟨by decide, by decide⟩, .int wd, rfl, _, wd, rfl, rfl, w0, ?_⟩
        exact q _ _ (Int.emod_nonneg _ (by omega)) (Int.emod_lt_of_pos _ w0) ⟨d, c + 1, x, rfl, d0, by omega, by omega⟩


theorem ok_laid (T : Tx K mg) : FnOk P w K mg base CX0 1 T.f_laid T.fd_laid P_laid (spLaid K) := by
  have sz : sizeLine = 16777216 := sizeLine_eq
  refine T.D_laid.F.ok sc_laid (fun vs H Q E h => ?_) (fun cdv A outer s H vs Q E hr h => ?_)
  · obtain ⟨a, b, r, n, d, rfl, _⟩ := h
    rfl
  · obtain ⟨a, b, r, n, d, rfl, hA, hB, lr, ln, ld, q⟩ := h
    refine ⟨_, (pss_cons (ps_set (i := 3) sc_laid.nd rfl (.inl rfl) (pe_callTy call_list_of (by rfl) T.m_list (by decide +kernel) (pa_cons (pv 0) pa_nil)))
      (pss_cons (ps_if (pt_not (pt_truth (pv 2) (by intro _; rfl))) (pss_one (ps_ret (pv 3))) pss_nil)
      (pss_cons (ps_expr (pe_bm PySem.F.plainAttrs_list PySem.F.slot_list_extend PySem.F.type_list_extend mt_extend (pv 3) (pa_cons (pe_op op_rep (pe_lst (pa_cons pe_int pa_nil)) (pe_op op_sub (pv 1) (pe_callB call_len_seq (by rfl) T.m_len PySem.boot_len (pa_cons (pv 3) pa_nil)))) pa_nil)))
      (pss_cons (ps_asg (pv 2) (Sip.pg_cut (pv 3) (po_some (pv 1)) (po_some (pe_op op_add (pv 1) (pe_callB call_len_seq (by rfl) T.m_len PySem.boot_len (pa_cons (pv 2) pa_nil))))))
      (pss_one (ps_ret (pv 3))))))), ?_⟩
    refine ⟨.ref a, rfl, a, _, rfl, .inl hA, fun t nt => ?_⟩
    have bt : b ≠ t := ne_of_none hB nt
    have hB1 : (upd H t (.lst (r.map V.int))) b = some (.lst (d.map V.int)) := by rw [upd_ne bt]; exact hB
    refine ⟨.ref b, rfl, _, .inl ⟨_, sq_at hB1, rfl⟩, ite2 (fun e => ?_) (fun e => ?_)⟩
    · have d0 : d = [] := by
        cases d with
        | nil => rfl
        | cons x y => cases e
      subst d0
      exact ⟨.ref t, rfl, q _ t nt (by rw [upd_same, laidF_nil]) (Kp.new (ps := []) nt).same⟩
    · have d0 : d ≠ [] := fun z => by subst z; exact e rfl
      refine ⟨.ref t, rfl, .inl ⟨rfl, _, sq_new⟩, by show (1 : Nat) ≤ sizeLine; decide, fun l nl => ?_⟩
      have tl : t ≠ l := ne_of_none (upd_same : (upd H t (.lst (r.map V.int))) t = _) nl
      have bl : b ≠ l := ne_of_none hB1 nl
      refine ⟨.int n, rfl, .ref t, rfl, t, _, rfl, .inl (sq_at (by rw [upd_ne tl]; exact upd_same)), _, _, rfl, rfl, l, _, [.int 0], rfl, rfl, upd_same, ?_, ?_, ?_, fun z nz => ?_⟩
      · rw [List.length_map]; omega
      · rw [List.length_map]; omega
      · rw [List.length_map]; show 1 * ((n : Int) - (r.length : Int)).toNat ≤ sizeLine; omega
      · have tz : t ≠ z := ne_of_none (by rw [upd_ne tl]; exact upd_same) nz
        have bz : b ≠ z := ne_of_none (by rw [upd_ne bl]; exact hB1) nz
        have ez : (List.replicate ((n : Int) - ((r.map V.int).length : Int)).toNat [V.int 0]).flatten = (List.replicate (n - r.length) (0 : Int)).map V.int := by
          rw [List.length_map, flat_rep, List.map_replicate]
          congr 1
          omega
        rw [ez]
        refine ⟨t, z, _, _, rfl, rfl, by rw [upd_ne tz, upd_ne tl]; exact upd_same, upd_same, by rw [List.length_map, List.length_map, List.length_replicate]; omega, ?_⟩
        rw [← List.map_append]
        refine ⟨.ref b, rfl, .ref t, rfl, .int n, rfl, n, rfl, .int n, rfl, .ref b, rfl, b, d.map V.int, rfl, .inl (sq_at (by rw [upd_ne bt, upd_ne bz, upd_ne bl]; exact hB1)), _, _, rfl, rfl, _, rfl, ?_⟩
        refine ⟨t, b, _, _, _, _, rfl, rfl, rfl, rfl, upd_same, by rw [upd_ne bt, upd_ne bz, upd_ne bl]; exact hB1, bt.symm, by omega, by omega, ?_, ?_, ?_⟩
        · rw [List.length_map, List.length_append, List.length_replicate]; omega
        · rw [List.length_map, List.length_append, List.length_replicate, List.length_map]; omega
        · refine ⟨.ref t, rfl, q _ t nt ?_ ?_⟩
          · rw [upd_same]
            have e1 : ((n : Int)).toNat = n := Int.toNat_natCast n
            have e2 : ((n : Int) + ((d.map V.int).length : Int)).toNat = n + d.length := by rw [List.length_map]; omega
            rw [e1, e2, laidF_cons d0, ← List.map_take, ← List.map_drop, ← List.map_append, ← List.map_append]
          · refine Kp.same ?_
            exact ((((Kp.new nt).trans (Kp.new nl)).trans (Kp.new nz)).put nt).put nt


theorem ok_bytes (T : Tx K mg) : FnOk P w K mg base CX0 2 T.f_bytes T.fd_bytes P_bytes (spBytesM K) := by
  have G_take := ok_take (P := P) (w := w) (base := base) T
  have sz : sizeLine = 16777216 := sizeLine_eq
  refine T.D_bytes.F.ok sc_bytes (fun vs H Q E h => ?_) (fun cdv A outer s H vs Q E hr h => ?_)
  · obtain ⟨p, m, n, o, ms, rfl, _⟩ := h
    rfl
  · obtain ⟨p, m, n, o, ms, rfl, hp, hP, n9, hM, pm, m0, ml, mz, q⟩ := h
    refine ⟨_, (pss_cons (ps_set (i := 2) sc_bytes.nd rfl (.inl rfl) (pe_lst pa_nil))
      (pss_cons (ps_for PassesOwn.never rfl (pi_range1 (by rfl) T.m_range (pa_cons (pe_ix ix_list (pv 1) (pe_call G_take (hr.mono (by decide)) (by rfl) T.D_take.g T.D_take.F.kp T.bb_take .nil pass0 (pa_cons (pv 0) (pa_cons (pe_callB call_len_seq (by rfl) T.m_len PySem.boot_len (pa_cons (pv 1) pa_nil)) pa_nil))) (fun _ _ => rfl)) pa_nil)) (pg_name (i := 3) sc_bytes.nd rfl (.inl rfl)) (pss_one (ps_if (pt_cmpR op_eq (pe_call G_take (hr.mono (by decide)) (by rfl) T.D_take.g T.D_take.F.kp T.bb_take .nil pass0 (pa_cons (pv 0) (pa_cons pe_int pa_nil))) pe_int (nomark _)) (pss_one (ps_expr (pe_bm PySem.F.plainAttrs_list PySem.F.slot_list_append PySem.F.type_list_append mt_append (pv 2) (pa_cons (pe_ix ix_list (pe_lst (pa_cons pe_int (pa_cons pe_int (pa_cons pe_int (pa_cons pe_int pa_nil))))) (pe_call G_take (hr.mono (by decide)) (by rfl) T.D_take.g T.D_take.F.kp T.bb_take .nil pass0 (pa_cons (pv 0) (pa_cons pe_int pa_nil))) (fun _ _ => rfl)) pa_nil)))) (pss_one (ps_expr (pe_bm PySem.F.plainAttrs_list PySem.F.slot_list_append PySem.F.type_list_append mt_append (pv 2) (pa_cons (pe_call G_take (hr.mono (by decide)) (by rfl) T.D_take.g T.D_take.F.kp T.bb_take .nil pass0 (pa_cons (pv 0) (pa_cons pe_int pa_nil))) pa_nil)))))))
      (pss_one (ps_ret (pv 2))))), ?_⟩
    refine ⟨Nat.zero_le _, fun a na => ?_⟩
    have pa : p ≠ a := ne_of_none hp na
    have s1 : Same H (upd H a (.lst [])) := (Kp.new (ps := []) na).same
    have lm : 0 < ms.length := List.length_pos_iff.mpr m0
    refine ⟨.ref m, rfl, .ref p, rfl, .ref m, rfl, m, _, rfl, .inl (s1.seq hM), p, n, _, o, rfl, s1 _ _ hp, hP, by omega, by rw [List.length_map]; omega, by rw [List.length_map]; omega, fun r o1 r0 r1 hP1 => ?_⟩
    rw [List.length_map] at r1
    obtain ⟨z, zm, ez, _⟩ := atI_int (ms := ms) (i := r) r0 r1
    obtain ⟨z0, z1⟩ := mz z zm
    have k2 : Kp [p] H (upd (upd H a (.lst [])) p o1) := (Kp.new na).trans (Kp.at (by simp))
    refine ⟨m, _, r, .int z, rfl, rfl, k2.seq (by simpa using pm.symm) hM, ez, z, rfl, by omega, by omega, for_range (lo := 0) (n := z.toNat) (fun i σ H' => ∃ (bs : List Int) (o2 : HO) (y : Option V), σ = [some (.ref p), some (.ref m), some (.ref a), y] ∧ H' a = some (.lst (bs.map V.int)) ∧ bs.length = i ∧ Bytes bs ∧ H' p = some o2 ∧ PoolO (n + 1 + 2 * i) o2 ∧ Kp [p] H H') ?_ (fun i σ H' hi hW => ?_) (fun σ H' hW => ?_)⟩
    · exact ⟨[], o1, none, rfl, by rw [upd_ne pa.symm]; exact upd_same, rfl, fun b hb => by simp at hb, upd_same, hP1.up (by omega), k2⟩
    · obtain ⟨bs, o2, y, rfl, ea, eb, hb, ep, hP2, kk⟩ := hW
      have fit : (bs.map V.int).length < sizeLine := by rw [List.length_map]; exact small1000 (by omega)
      refine ⟨.ref p, rfl, p, _, 4, o2, rfl, ep, hP2, by omega, by decide, by decide, fun r2 o3 s0 s1 hP3 => ?_⟩
      have ea3 : (upd H' p o3) a = some (.lst (bs.map V.int)) := by rw [upd_ne pa.symm]; exact ea
      have k3 : Kp [p] H (upd H' p o3) := kk.trans (Kp.at (by simp))
      refine ⟨rfl, _, rfl, ite2 (fun e => ?_) (fun e => ?_)⟩
      · refine ⟨.ref a, rfl, .inl ⟨rfl, _, sq_at ea3⟩, by show (4 : Nat) ≤ sizeLine; decide, fun l2 nl2 => ?_⟩
        have pl2 : p ≠ l2 := ne_of_none (upd_same : (upd H' p o3) p = some o3) nl2
        have al2 : a ≠ l2 := ne_of_none ea3 nl2
        refine ⟨.ref p, rfl, p, _, 4, o3, rfl, by rw [upd_ne pl2]; exact upd_same, hP3, by omega, by decide, by decide, fun r3 o4 t0 t1 hP4 => ?_⟩
        obtain ⟨v, mv, ev, _⟩ := atI_int (ms := [0, 10, 10, 255]) (i := r3) t0 t1
        have vb : 0 ≤ v ∧ v ≤ 255 := (show ∀ y ∈ ([0, 10, 10, 255] : List Int), 0 ≤ y ∧ y ≤ 255 by decide) v mv
        refine ⟨l2, _, r3, .int v, rfl, rfl, .inl (.inl (by rw [upd_ne pl2.symm, upd_same]; rfl)), ev, a, bs.map V.int, .int v, rfl, rfl, by rw [upd_ne pa.symm, upd_ne al2]; exact ea3, fit, ?_⟩
        refine ⟨bs ++ [v], o4, _, rfl, by rw [upd_same, List.map_append]; rfl, by rw [List.length_append, eb]; rfl, ?_, by rw [upd_ne pa]; exact upd_same, hP4.up (by omega), ((k3.trans (Kp.new nl2)).trans (Kp.at (by simp))).put na⟩
        intro b hb2
        rcases List.mem_append.mp hb2 with hb3 | hb3
        · exact hb b hb3
        · rw [List.mem_singleton.mp hb3]; exact vb
      · refine ⟨.ref a, rfl, .inl ⟨rfl, _, sq_at ea3⟩, .ref p, rfl, p, _, 256, o3, rfl, upd_same, hP3, by omega, by decide, by decide, fun v o4 t0 t1 hP4 => ?_⟩
        refine ⟨a, bs.map V.int, .int v, rfl, rfl, by rw [upd_ne pa.symm]; exact ea3, fit, ?_⟩
        refine ⟨bs ++ [v], o4, _, rfl, by rw [upd_same, List.map_append]; rfl, by rw [List.length_append, eb]; rfl, ?_, by rw [upd_ne pa]; exact upd_same, hP4.up (by omega), (k3.trans (Kp.at (by simp))).put na⟩
        intro b hb2
        rcases List.mem_append.mp hb2 with hb3 | hb3
        · exact hb b hb3
        · rw [List.mem_singleton.mp hb3]; exact ⟨t0, by omega⟩
    · obtain ⟨bs, o2, y, rfl, ea, eb, hb, ep, hP2, kk⟩ := hW
      exact ⟨.ref a, rfl, q H' a bs o2 na ea ep (hP2.up (by omega)) kk ⟨z, zm, by omega⟩ hb⟩


theorem ok_init (T : Tx K mg) : FnOk P w K mg base CX0 1 T.f_init T.fd_init P_init (spPInit K T.C_Plain (PlainAt T.C_Plain)) := by
  have sz : sizeLine = 16777216 := sizeLine_eq
  refine T.D_init.F.ok sc_init (fun vs H Q E h => ?_) (fun cdv A outer s H vs Q E hr h => ?_)
  · obtain ⟨p, a, dx, r, c, rfl, _⟩ := h
    rfl
  · obtain ⟨p, a, dx, r, c, rfl, hp, hd, hA, pa, lr, lc, q⟩ := h
    refine ⟨_, (pss_cons (ps_fld (pv 0) (pe_callTy call_list_of (by rfl) T.m_list (by decide +kernel) (pa_cons (pv 1) pa_nil)) rfl)
      (pss_one (ps_fld (pv 0) (pv 2) rfl))), ?_⟩
    refine ⟨.ref a, rfl, a, _, rfl, .inl hA, fun l nl => ?_⟩
    have pl : p ≠ l := ne_of_none hp nl
    refine ⟨.ref p, rfl, p, T.C_Plain, dx, [], rfl, by rw [upd_ne pl]; exact hp, T.cl_Plain, T.n_Plain_cells, by show 0 < 1000; decide, ?_⟩
    refine ⟨.int c, rfl, .ref p, rfl, p, T.C_Plain, dx, _, rfl, upd_same, T.cl_Plain, T.n_Plain_cursor, by show 1 < 1000; decide, ?_⟩
    rw [pfs_new, upd_upd]
    refine q _ (fun b => b = p ∨ b = l) ⟨dx, l, upd_same, by rw [upd_ne pl.symm]; exact upd_same, fun _ => Iff.rfl⟩ ⟨fun b o nf e => ?_, fun b z => ?_⟩
    · rw [upd_ne (fun z => nf (.inl z)), upd_ne (ne_of_none e nl)]; exact e
    · rcases z with rfl | rfl
      · exact .inl (.inl rfl)
      · exact .inr nl

theorem ok_tell (T : Tx K mg) : FnOk P w K mg base CX0 1 T.f_tell T.fd_tell P_tell (spPTell (PlainAt T.C_Plain)) := by
  have sz : sizeLine = 16777216 := sizeLine_eq
  refine T.D_tell.F.ok sc_tell (fun vs H Q E h => ?_) (fun cdv A outer s H vs Q E hr h => ?_)
  · obtain ⟨p, F, r, c, rfl, _⟩ := h
    rfl
  · obtain ⟨p, F, r, c, rfl, ⟨dx, l, hp, hl, hF⟩, q⟩ := h
    refine ⟨_, (pss_one (ps_ret (pe_fld (pv 0) rfl))), ?_⟩
    exact ⟨.ref p, rfl, p, T.C_Plain, dx, _, _, rfl, hp, T.cl_Plain, T.n_Plain_cursor, pfs_cursor l c, q⟩

theorem ok_size (T : Tx K mg) : FnOk P w K mg base CX0 1 T.f_size T.fd_size P_size (spPSize (PlainAt T.C_Plain)) := by
  have sz : sizeLine = 16777216 := sizeLine_eq
  refine T.D_size.F.ok sc_size (fun vs H Q E h => ?_) (fun cdv A outer s H vs Q E hr h => ?_)
  · obtain ⟨p, F, r, c, rfl, _⟩ := h
    rfl
  · obtain ⟨p, F, r, c, rfl, ⟨dx, l, hp, hl, hF⟩, q⟩ := h
    refine ⟨_, (pss_one (ps_ret (pe_callB call_len_seq (by rfl) T.m_len PySem.boot_len (pa_cons (pe_fld (pv 0) rfl) pa_nil)))), ?_⟩
    refine ⟨.ref p, rfl, p, T.C_Plain, dx, _, _, rfl, hp, T.cl_Plain, T.n_Plain_cells, pfs_cells l c, l, _, rfl, .inl (sq_at hl), ?_⟩
    rw [List.length_map]
    exact q

theorem ok_row (T : Tx K mg) : FnOk P w K mg base CX0 1 T.f_row T.fd_row P_row (spPRow (PlainAt T.C_Plain)) := by
  have sz : sizeLine = 16777216 := sizeLine_eq
  refine T.D_row.F.ok sc_row (fun vs H Q E h => ?_) (fun cdv A outer s H vs Q E hr h => ?_)
  · obtain ⟨p, F, r, c, rfl, _⟩ := h
    rfl
  · obtain ⟨p, F, r, c, rfl, ⟨dx, l, hp, hl, hF⟩, q⟩ := h
    refine ⟨_, (pss_one (ps_ret (pe_callTy call_list_of (by rfl) T.m_list (by decide +kernel) (pa_cons (pe_fld (pv 0) rfl) pa_nil)))), ?_⟩
    exact ⟨.ref p, rfl, p, T.C_Plain, dx, _, _, rfl, hp, T.cl_Plain, T.n_Plain_cells, pfs_cells l c, l, _, rfl, .inl (sq_at hl), fun m nm => q _ m nm upd_same (Kp.new (ps := []) nm).same⟩

theorem ok_ahead (T : Tx K mg) : FnOk P w K mg base CX0 1 T.f_ahead T.fd_ahead P_ahead (spAhead (PlainAt T.C_Plain)) := by
  have sz : sizeLine = 16777216 := sizeLine_eq
  refine T.D_ahead.F.ok sc_ahead (fun vs H Q E h => ?_) (fun cdv A outer s H vs Q E hr h => ?_)
  · obtain ⟨p, F, r, c, rfl, _⟩ := h
    rfl
  · obtain ⟨p, F, r, c, rfl, ⟨dx, l, hp, hl, hF⟩, q⟩ := h
    refine ⟨_, (pss_one (ps_ret (pe_slice sl_list (pe_fld (pv 0) rfl) (po_some (pe_fld (pv 0) rfl)) po_none))), ?_⟩
    refine ⟨.ref p, rfl, p, T.C_Plain, dx, _, _, rfl, hp, T.cl_Plain, T.n_Plain_cells, pfs_cells l c, .ref p, rfl, p, T.C_Plain, dx, _, _, rfl, hp, T.cl_Plain, T.n_Plain_cursor, pfs_cursor l c, _, rfl, l, _, rfl, sq_at hl, fun m nm => ?_⟩
    rw [drop_cut]
    exact q _ m nm upd_same (Kp.new (ps := []) nm).same

theorem ok_passed (T : Tx K mg) : FnOk P w K mg base CX0 1 T.f_passed T.fd_passed P_passed (spPassed (PlainAt T.C_Plain)) := by
  have sz : sizeLine = 16777216 := sizeLine_eq
  refine T.D_passed.F.ok sc_passed (fun vs H Q E h => ?_) (fun cdv A outer s H vs Q E hr h => ?_)
  · obtain ⟨p, t, F, r, xs, c, rfl, _⟩ := h
    rfl
  · obtain ⟨p, t, F, r, xs, c, rfl, ⟨dx, l, hp, hl, hF⟩, nt, et, q⟩ := h
    refine ⟨_, (pss_cons (ps_fldaug (pv 0) (pe_callB call_len_seq (by rfl) T.m_len PySem.boot_len (pa_cons (pv 1) pa_nil)) in_add)
      (pss_one (ps_ret (pv 1)))), ?_⟩
    have pt : p ≠ t := fun z => nt ((hF t).mpr (.inl z.symm))
    have lt : l ≠ t := fun z => nt ((hF t).mpr (.inr z.symm))
    have pl' : l ≠ p := ne_of hl hp (by intro z; cases z)
    refine ⟨.ref p, rfl, p, T.C_Plain, dx, _, _, rfl, hp, T.cl_Plain, T.n_Plain_cursor, pfs_cursor l c, .ref t, rfl, t, _, rfl, .inl (sq_at et), _, _, rfl, rfl, dx, _, hp, pfs_few l c, ?_⟩
    have e2 : (V.int ((c : Int) + ((xs.map V.int).length : Int))) = V.int ((c + xs.length : Nat) : Int) := by rw [List.length_map]; congr 1
    rw [e2, pfs_put_c]
    exact ⟨.ref t, rfl, q _ _ ⟨dx, l, upd_same, by rw [upd_ne pl']; exact hl, fun _ => Iff.rfl⟩ (fun z => z.elim (fun z => pt z.symm) (fun z => lt z.symm)) (by rw [upd_ne pt.symm]; exact et) (own_step hF (Kp.at (by simp)) (.inl rfl))⟩

theorem ok_fline (T : Tx K mg) : FnOk P w K mg base CX0 1 T.f_fline T.fd_fline P_fline (spFLine K) := by
  have sz : sizeLine = 16777216 := sizeLine_eq
  refine T.D_fline.F.ok sc_fline (fun vs H Q E h => ?_) (fun cdv A outer s H vs Q E hr h => ?_)
  · obtain ⟨a, xs, k, rfl, _⟩ := h
    rfl
  · obtain ⟨a, xs, k, rfl, hA, lx, q⟩ := h
    refine ⟨_, (pss_cons (ps_set (i := 2) sc_fline.nd rfl (.inl rfl) (pe_slice sl_list (pv 0) po_none (Sip.po_opt (pv 1))))
      (pss_cons (ps_if (pt_cmpR op_in_seq (pe_glob (v := .int 10) (by rfl) T.c_LINE_FEED ⟨_, rfl⟩) (pv 2) rfl) (pss_one (ps_ret (pe_slice sl_list (pv 2) po_none (po_some (pe_op op_add (pe_bm PySem.F.plainAttrs_list PySem.F.slot_list_index PySem.F.type_list_index mt_index (pv 2) (pa_cons (pe_glob (v := .int 10) (by rfl) T.c_LINE_FEED ⟨_, rfl⟩) pa_nil)) pe_int))))) pss_nil)
      (pss_one (ps_ret (pv 2))))), ?_⟩
    refine ⟨.ref a, rfl, cntV k, rfl, cntI k, cntV_eq k, a, _, rfl, hA, fun m nm => ?_⟩
    rw [cut_O]
    have s1 : Same H (upd H m (.lst ((takeO k xs).map V.int))) := (Kp.new (ps := []) nm).same
    have lz : (takeO k xs).length ≤ 10000 := Nat.le_trans (takeO_len k xs) lx
    refine ⟨.ref m, rfl, m, _, rfl, .inl sq_new, rfl, flat_ints _, _, rfl, ?_⟩
    rw [show (if false = true then !inV (V.int 10) ((takeO k xs).map V.int) else inV (V.int 10) ((takeO k xs).map V.int)) = decide ((10 : Int) ∈ takeO k xs) from inV_ten _ _]
    refine ite2 (fun e => ?_) (fun e => ?_)
    · have h10 := of_decide_eq_true e
      obtain ⟨i1, i2⟩ := idx_facts h10
      refine ⟨.ref m, rfl, .ref m, rfl, .inl ⟨rfl, _, sq_new⟩, m, _, .int 10, (takeO k xs).idxOf 10, .int 10, rfl, rfl, sq_new, rfl, flat_ints _, i1, by decide +kernel, i2, ?_⟩
      refine ⟨_, _, rfl, rfl, _, rfl, m, _, rfl, sq_new, fun z nz => ?_⟩
      rw [show (((takeO k xs).idxOf 10 : Nat) : Int) + 1 = (((takeO k xs).idxOf 10 + 1 : Nat) : Int) by omega, take_cut]
      exact q _ z (s1.free nz) (by rw [upd_same, ← lineF_O]; rfl) (s1.trans (Kp.new (ps := []) nz).same)
    · have h10 : (10 : Int) ∉ takeO k xs := fun z => e (decide_eq_true z)
      exact ⟨.ref m, rfl, q _ m nm (by rw [upd_same, ← lineF_O, lineF_no h10]) s1⟩

theorem ok_iBadPlace (T : Tx K mg) : FnOk P w K mg base CX0 1 T.f_iBadPlace T.fd_iBadPlace P_iBadPlace (spErr1 T.C_BadPlace "goal") := by
  have sz : sizeLine = 16777216 := sizeLine_eq
  refine T.D_iBadPlace.ok sc_iBadPlace (fun vs H Q E h => ?_) (fun cdv A outer s H vs Q E hr h => ?_)
  · obtain ⟨a, v, rfl, _⟩ := h
    rfl
  · obtain ⟨a, v, rfl, hA, q⟩ := h
    refine ⟨_, (pss_one (ps_ost (pv 0) (pv 1))), ?_⟩
    exact ⟨v, rfl, .ref a, rfl, a, T.C_BadPlace, rfl, T.o_BadPlace, T.n_BadPlace, .inl ⟨hA, q⟩⟩

theorem ok_iTooLong (T : Tx K mg) : FnOk P w K mg base CX0 1 T.f_iTooLong T.fd_iTooLong P_iTooLong (spErr1 T.C_TooLong "length") := by
  have sz : sizeLine = 16777216 := sizeLine_eq
  refine T.D_iTooLong.ok sc_iTooLong (fun vs H Q E h => ?_) (fun cdv A outer s H vs Q E hr h => ?_)
  · obtain ⟨a, v, rfl, _⟩ := h
    rfl
  · obtain ⟨a, v, rfl, hA, q⟩ := h
    refine ⟨_, (pss_one (ps_ost (pv 0) (pv 1))), ?_⟩
    exact ⟨v, rfl, .ref a, rfl, a, T.C_TooLong, rfl, T.o_TooLong, T.n_TooLong, .inl ⟨hA, q⟩⟩

theorem ok_iNotByte (T : Tx K mg) : FnOk P w K mg base CX0 1 T.f_iNotByte T.fd_iNotByte P_iNotByte (spErr1 T.C_NotByte "at") := by
  have sz : sizeLine = 16777216 := sizeLine_eq
  refine T.D_iNotByte.ok sc_iNotByte (fun vs H Q E h => ?_) (fun cdv A outer s H vs Q E hr h => ?_)
  · obtain ⟨a, v, rfl, _⟩ := h
    rfl
  · obtain ⟨a, v, rfl, hA, q⟩ := h
    refine ⟨_, (pss_one (ps_ost (pv 0) (pv 1))), ?_⟩
    exact ⟨v, rfl, .ref a, rfl, a, T.C_NotByte, rfl, T.o_NotByte, T.n_NotByte, .inl ⟨hA, q⟩⟩

theorem ok_whole (T : Tx K mg) : FnOk P w K mg base CX0 1 T.f_whole T.fd_whole P_whole (spWholeT) := by
  have sz : sizeLine = 16777216 := sizeLine_eq
  refine T.D_whole.F.ok sc_whole (fun vs H Q E h => ?_) (fun cdv A outer s H vs Q E hr h => ?_)
  · obtain ⟨t, rfl, _⟩ := h
    rfl
  · obtain ⟨t, rfl, q⟩ := h
    refine ⟨_, (pss_one (ps_ret (pe_and (pe_callB (id := "isinstance") (r := rIsi K) call_isi (by rfl) T.m_isinstance (by decide +kernel) (pa_cons (pv 0) (pa_cons (pe_bltn (v := .ty "int") (by rfl) T.m_int (by decide +kernel) rfl) pa_nil))) (pe_one (pe_not (pe_callB (id := "isinstance") (r := rIsi K) call_isi (by rfl) T.m_isinstance (by decide +kernel) (pa_cons (pv 0) (pa_cons (pe_bltn (v := .ty "bool") (by rfl) T.m_bool (by decide +kernel) rfl) pa_nil)))))))), ?_⟩
    cases t with
    | i v =>
      refine ⟨.int v, rfl, .int v, .ty "int", _, _, true, rfl, .ty "int", .base (.int v), kit_ty (by decide +kernel), true, rfl, ?_⟩
      exact ⟨.int v, rfl, .int v, .ty "bool", _, _, false, rfl, .ty "bool", .base (.int v), kit_ty (by decide +kernel), false, rfl, q⟩
    | b v =>
      refine ⟨.bl v, rfl, .bl v, .ty "int", _, _, true, rfl, .ty "int", .base (.bl v), kit_ty (by decide +kernel), true, rfl, ?_⟩
      exact ⟨.bl v, rfl, .bl v, .ty "bool", _, _, true, rfl, .ty "bool", .base (.bl v), kit_ty (by decide +kernel), true, rfl, q⟩
    | s x => exact ⟨.str x, rfl, .str x, .ty "int", _, _, false, rfl, .ty "int", .base (.str x), kit_ty (by decide +kernel), false, rfl, q⟩
    | n => exact ⟨.non, rfl, .non, .ty "int", _, _, false, rfl, .ty "int", .base .non, kit_ty (by decide +kernel), false, rfl, q⟩

theorem ok_isbyte (T : Tx K mg) : FnOk P w K mg base CX0 2 T.f_isbyte T.fd_isbyte P_isbyte (spByteT) := by
  have G_whole := ok_whole (P := P) (w := w) (base := base) T
  have sz : sizeLine = 16777216 := sizeLine_eq
  refine T.D_isbyte.F.ok sc_isbyte (fun vs H Q E h => ?_) (fun cdv A outer s H vs Q E hr h => ?_)
  · obtain ⟨t, rfl, _⟩ := h
    rfl
  · obtain ⟨t, rfl, q⟩ := h
    refine ⟨_, (pss_one (ps_ret (pe_and (pe_call G_whole (hr.mono (by decide)) (by rfl) T.D_whole.g T.D_whole.F.kp T.bb_whole .nil pass0 (pa_cons (pv 0) pa_nil)) (pe_one (pe_chain op_le op_le pe_int (pv 0) pe_int))))), ?_⟩
    cases t with
    | i v =>
      refine ⟨.int v, rfl, .i v, rfl, true, rfl, ?_⟩
      refine ⟨.int v, rfl, _, _, rfl, rfl, _, rfl, ?_⟩
      by_cases v0 : 0 ≤ v
      · rw [if_pos (decide_eq_true v0)]
        refine ⟨_, _, rfl, rfl, ?_⟩
        have e : thB (.i v) = decide (v ≤ 255) := by show (decide (0 ≤ v) && decide (v ≤ 255)) = _; rw [decide_eq_true v0]; rfl
        rw [e] at q
        exact q
      · rw [if_neg (by simpa using v0)]
        have e : thB (.i v) = false := by show (decide (0 ≤ v) && decide (v ≤ 255)) = _; rw [decide_eq_false v0]; rfl
        rw [e] at q
        exact q
    | b v => exact ⟨.bl v, rfl, .b v, rfl, false, rfl, q⟩
    | s x => exact ⟨.str x, rfl, .s x, rfl, false, rfl, q⟩
    | n => exact ⟨.non, rfl, .n, rfl, false, rfl, q⟩

theorem ok_clen (T : Tx K mg) : FnOk P w K mg base (L2.CX P w) 3 T.f_clen T.fd_clen P_clen (spLenT T.C_TooLong) := by
  have G_iTooLong := ok_iTooLong (P := P) (w := w) (base := base) T
  have sz : sizeLine = 16777216 := sizeLine_eq
  refine T.D_clen.F.okX sc_clen (fun vs H Q E h => ?_) (fun cdv A outer s H vs Q E hr h => ?_)
  · obtain ⟨g, rfl, _⟩ := h
    rfl
  · obtain ⟨g, rfl, q, e1⟩ := h
    refine ⟨_, (pss_one (ps_if (pt_cmpR op_gt (pv 0) (pe_glob (v := .int 4000) (by rfl) T.c_LONGEST ⟨_, rfl⟩) (nomark _)) (pss_one (ps_raise rfl (takes_of rfl rfl rfl rfl) (pmk_oex T.o_TooLong T.ini_TooLong T.tI_TooLong G_iTooLong (hr.mono (by decide)) T.bb_iTooLong .nil pass0 (by rfl) T.g_TooLong (pa_cons (pv 0) pa_nil)))) pss_nil)), ?_⟩
    refine ⟨.int g, rfl, _, _, rfl, rfl, _, rfl, ite2 (fun e => ?_) (fun e => q ?_)⟩
    · have h : (4000 : Int) < g := of_decide_eq_true e
      exact ⟨.int g, rfl, mk1_fin (e1 h).raise⟩
    · have h : ¬ (4000 : Int) < g := fun z => e (decide_eq_true z)
      omega

theorem ok_cgoal (T : Tx K mg) : FnOk P w K mg base (L2.CX P w) 4 T.f_cgoal T.fd_cgoal P_cgoal (spGoalT T.C_BadPlace T.C_TooLong) := by
  have G_clen := ok_clen (P := P) (w := w) (base := base) T
  have G_iBadPlace := ok_iBadPlace (P := P) (w := w) (base := base) T
  have sz : sizeLine = 16777216 := sizeLine_eq
  refine T.D_cgoal.F.okX sc_cgoal (fun vs H Q E h => ?_) (fun cdv A outer s H vs Q E hr h => ?_)
  · obtain ⟨g, rfl, _⟩ := h
    rfl
  · obtain ⟨g, rfl, q, e1, e2⟩ := h
    refine ⟨_, (pss_cons (ps_if (pt_cmpR op_lt (pv 0) pe_int (nomark _)) (pss_one (ps_raise rfl (takes_of rfl rfl rfl rfl) (pmk_oex T.o_BadPlace T.ini_BadPlace T.tI_BadPlace G_iBadPlace (hr.mono (by decide)) T.bb_iBadPlace .nil pass0 (by rfl) T.g_BadPlace (pa_cons (pv 0) pa_nil)))) pss_nil)
      (pss_one (ps_expr (pe_call G_clen (hr.mono (by decide)) (by rfl) T.D_clen.g T.D_clen.F.kp T.bb_clen .nil (Sip.passX (takes_of rfl rfl rfl rfl)) (pa_cons (pv 0) pa_nil))))), ?_⟩
    refine ⟨.int g, rfl, _, _, rfl, rfl, _, rfl, ite2 (fun e => ?_) (fun e => ?_)⟩
    · exact ⟨.int g, rfl, mk1_fin (e1 (of_decide_eq_true e)).raise⟩
    · have h : ¬ g < 0 := fun z => e (decide_eq_true z)
      exact ⟨.int g, rfl, g, rfl, fun h4 => q (by omega) h4, e2⟩

theorem ok_cbytes (T : Tx K mg) : FnOk P w K mg base (L2.CX P w) 3 T.f_cbytes T.fd_cbytes P_cbytes (spBytesT T.C_NotByte) := by
  have G_isbyte := ok_isbyte (P := P) (w := w) (base := base) T
  have G_iNotByte := ok_iNotByte (P := P) (w := w) (base := base) T
  have sz : sizeLine = 16777216 := sizeLine_eq
  refine T.D_cbytes.F.okX sc_cbytes (fun vs H Q E h => ?_) (fun cdv A outer s H vs Q E hr h => ?_)
  · obtain ⟨b, ts, rfl, _⟩ := h
    rfl
  · obtain ⟨b, ts, rfl, hb, q, e1⟩ := h
    refine ⟨_, (pss_one (ps_for (passes_of rfl) rfl (pi_enum (by rfl) T.m_enumerate (pa_cons (pv 0) pa_nil)) (pg_tup rfl (pgs_cons (pg_name (i := 1) sc_cbytes.nd rfl (.inl rfl)) (pgs_cons (pg_name (i := 2) sc_cbytes.nd rfl (.inl rfl)) pgs_nil))) (pss_one (ps_if (pt_not (pt_val (pe_call G_isbyte (hr.mono (by decide)) (by rfl) T.D_isbyte.g T.D_isbyte.F.kp T.bb_isbyte .nil pass0 (pa_cons (pv 2) pa_nil)))) (pss_one (ps_raise rfl (takes_of rfl rfl rfl rfl) (pmk_oex T.o_NotByte T.ini_NotByte T.tI_NotByte G_iNotByte (hr.mono (by decide)) T.bb_iNotByte .nil pass0 (by rfl) T.g_NotByte (pa_cons (pv 1) pa_nil)))) pss_nil)))), ?_⟩
    refine ⟨.ref b, rfl, b, _, rfl, sq_at hb, ?_⟩
    refine for_enum (xs := ts.map thV) (fun i σ H' => (∃ y z, σ = [some (.ref b), y, z]) ∧ Same H H' ∧ ∀ j t, j < i → ts[j]? = some t → thB t = true) ⟨⟨none, none, rfl⟩, Same.refl _, fun j t h => absurd h (by omega)⟩ (fun i σ H' _ h => h.2.1.seq (sq_at hb)) (fun i x σ H' t hx hP nt => ?_) (fun σ H' hP => q (fun t ht => ?_) _ hP.2.1)
    · obtain ⟨⟨y, z, rfl⟩, sm, ok⟩ := hP
      rw [List.getElem?_map] at hx
      obtain ⟨v, hv, rfl⟩ := Option.map_eq_some_iff.mp hx
      have s1 := sm.trans (Kp.new (ps := []) (o := HO.tup [.int i, thV v]) nt).same
      refine ⟨t, _, rfl, .inl (.inl upd_same), rfl, ?_⟩
      refine ⟨_, _, rfl, _, _, rfl, rfl, thV v, rfl, v, rfl, _, rfl, ?_⟩
      cases hB : thB v with
      | true => exact iteF ⟨⟨_, _, rfl⟩, s1, fun j t' hj ht' => by
          by_cases e : j = i
          · subst e; rw [hv] at ht'; cases ht'; exact hB
          · exact ok j t' (by omega) ht'⟩
      | false => exact iteT ⟨_, rfl, mk1_fin ((e1 i v hv hB ok).of s1).raise⟩
    · obtain ⟨j, hj⟩ := List.mem_iff_getElem?.mp ht
      have := (List.getElem?_eq_some_iff.mp hj).1
      exact hP.2.2 j t (by rw [List.length_map]; omega) hj

theorem ok_sgoal (T : Tx K mg) : FnOk P w K mg base (L2.CX P w) 5 T.f_sgoal T.fd_sgoal P_sgoal (spSGoalT T.C_BadPlace T.C_TooLong T.C_BadStart) := by
  have G_cgoal := ok_cgoal (P := P) (w := w) (base := base) T
  have sz : sizeLine = 16777216 := sizeLine_eq
  refine T.D_sgoal.F.okX sc_sgoal (fun vs H Q E h => ?_) (fun cdv A outer s H vs Q E hr h => ?_)
  · obtain ⟨pl, st, c, n, rfl, _⟩ := h
    rfl
  · obtain ⟨pl, st, c, n, rfl, e3, q⟩ := h
    refine ⟨_, (C8.pss_cut (ps_if (pt_cmpR op_eq (pv 1) pe_str (nomark _)) (pss_one (ps_set (i := 4) sc_sgoal.nd rfl (.inl rfl) (pv 0))) (pss_one (ps_if (pt_cmpR op_eq (pv 1) pe_str (nomark _)) (pss_one (ps_set (i := 4) sc_sgoal.nd rfl (.inl rfl) (pe_op op_add (pv 2) (pv 0)))) (pss_one (ps_if (pt_cmpR op_eq (pv 1) pe_str (nomark _)) (pss_one (ps_set (i := 4) sc_sgoal.nd rfl (.inl rfl) (pe_op op_add (pv 3) (pv 0)))) (pss_one (ps_raise rfl (takes_of rfl rfl rfl rfl) (Sip.pmk_own0 PySem.F.excBase_ValueError T.x_BadStart T.g_BadStart T.kk_BadStart (raises_own T.bx_BadStart T.tx_BadStart) (by rfl)))))))))
      (pss_cons (ps_expr (pe_call G_cgoal (hr.mono (by decide)) (by rfl) T.D_cgoal.g T.D_cgoal.F.kp T.bb_cgoal .nil (Sip.passX (takes_of rfl rfl rfl rfl)) (pa_cons (pv 4) pa_nil)))
      (pss_one (ps_ret (pv 4))))), ?_⟩
    by_cases h1 : st = Str.ofString "head"
    · have hg : goalF pl st c n = some pl := by unfold goalF; rw [if_pos h1]
      refine ⟨fun σ' H' => σ' = [some (V.int pl), some (V.str st), some (V.int c), some (V.int n), some (V.int pl)] ∧ H' = H, ?_, fun σ' H' hm => ?_⟩
      · exact ⟨_, rfl, rfl, _, rfl, iteTc (decide_eq_true (congrArg V.str h1)) ⟨.int pl, rfl, rfl, rfl⟩⟩
      · obtain ⟨rfl, rfl⟩ := hm
        obtain ⟨q1, e1, e2⟩ := q _ hg
        exact ⟨.int _, rfl, _, rfl, fun a b => ⟨.int _, rfl, q1 a b⟩, e1, e2⟩
    by_cases h2 : st = Str.ofString "here"
    · have hg : goalF pl st c n = some (c + pl) := by unfold goalF; rw [if_neg h1, if_pos h2]
      refine ⟨fun σ' H' => σ' = [some (V.int pl), some (V.str st), some (V.int c), some (V.int n), some (V.int (c + pl))] ∧ H' = H, ?_, fun σ' H' hm => ?_⟩
      · refine ⟨_, rfl, rfl, _, rfl, iteFc (decide_eq_false (fun z => h1 (V.str.inj z))) ?_⟩
        exact ⟨_, rfl, rfl, _, rfl, iteTc (decide_eq_true (congrArg V.str h2)) ⟨.int c, rfl, .int pl, rfl, _, _, rfl, rfl, rfl, rfl⟩⟩
      · obtain ⟨rfl, rfl⟩ := hm
        obtain ⟨q1, e1, e2⟩ := q _ hg
        exact ⟨.int _, rfl, _, rfl, fun a b => ⟨.int _, rfl, q1 a b⟩, e1, e2⟩
    by_cases h3 : st = Str.ofString "tail"
    · have hg : goalF pl st c n = some (n + pl) := by unfold goalF; rw [if_neg h1, if_neg h2, if_pos h3]
      refine ⟨fun σ' H' => σ' = [some (V.int pl), some (V.str st), some (V.int c), some (V.int n), some (V.int (n + pl))] ∧ H' = H, ?_, fun σ' H' hm => ?_⟩
      · refine ⟨_, rfl, rfl, _, rfl, iteFc (decide_eq_false (fun z => h1 (V.str.inj z))) ?_⟩
        refine ⟨_, rfl, rfl, _, rfl, iteFc (decide_eq_false (fun z => h2 (V.str.inj z))) ?_⟩
        exact ⟨_, rfl, rfl, _, rfl, iteTc (decide_eq_true (congrArg V.str h3)) ⟨.int n, rfl, .int pl, rfl, _, _, rfl, rfl, rfl, rfl⟩⟩
      · obtain ⟨rfl, rfl⟩ := hm
        obtain ⟨q1, e1, e2⟩ := q _ hg
        exact ⟨.int _, rfl, _, rfl, fun a b => ⟨.int _, rfl, q1 a b⟩, e1, e2⟩
    refine ⟨fun σ' H' => False, ?_, fun σ' H' hm => hm.elim⟩
    have hg : goalF pl st c n = none := by unfold goalF; rw [if_neg h1, if_neg h2, if_neg h3]
    refine ⟨_, rfl, rfl, _, rfl, iteFc (decide_eq_false (fun z => h1 (V.str.inj z))) ?_⟩
    refine ⟨_, rfl, rfl, _, rfl, iteFc (decide_eq_false (fun z => h2 (V.str.inj z))) ?_⟩
    refine ⟨_, rfl, rfl, _, rfl, iteFc (decide_eq_false (fun z => h3 (V.str.inj z))) ?_⟩
    exact e3 hg _ (Same.refl _)

theorem ok_seek (T : Tx K mg) : FnOk P w K mg base (L2.CX P w) 6 T.f_seek T.fd_seek P_seek (spSeekT (PlainAt T.C_Plain) T.C_BadPlace T.C_TooLong T.C_BadStart) := by
  have G_sgoal := ok_sgoal (P := P) (w := w) (base := base) T
  have sz : sizeLine = 16777216 := sizeLine_eq
  refine T.D_seek.F.okX sc_seek (fun vs H Q E h => ?_) (fun cdv A outer s H vs Q E hr h => ?_)
  · obtain ⟨p, F, r, c, pl, st, rfl, _⟩ := h
    rfl
  · obtain ⟨p, F, r, c, pl, st, rfl, ⟨dx, l, hp, hl, hF⟩, e3, q⟩ := h
    refine ⟨_, (pss_cons (ps_fld (pv 0) (pe_call G_sgoal (hr.mono (by decide)) (by rfl) T.D_sgoal.g T.D_sgoal.F.kp T.bb_sgoal .nil (Sip.passX (takes_of rfl rfl rfl rfl)) (pa_cons (pv 1) (pa_cons (pv 2) (pa_cons (pe_fld (pv 0) rfl) (pa_cons (pe_callB call_len_seq (by rfl) T.m_len PySem.boot_len (pa_cons (pe_fld (pv 0) rfl) pa_nil)) pa_nil))))) rfl)
      (pss_one (ps_ret (pe_fld (pv 0) rfl)))), ?_⟩
    refine ⟨.int pl, rfl, .str st, rfl, .ref p, rfl, p, T.C_Plain, dx, _, _, rfl, hp, T.cl_Plain, T.n_Plain_cursor, pfs_cursor l c, .ref p, rfl, p, T.C_Plain, dx, _, _, rfl, hp, T.cl_Plain, T.n_Plain_cells, pfs_cells l c, l, _, rfl, .inl (sq_at hl), ?_⟩
    rw [List.length_map]
    refine ⟨pl, st, c, r.length, rfl, e3, fun g hg => ⟨fun g0 g4 => ?_, (q g hg).2.1, (q g hg).2.2⟩⟩
    have q1 := (q g hg).1 g0 g4
    obtain ⟨m, rfl⟩ := Int.eq_ofNat_of_zero_le g0
    refine ⟨.ref p, rfl, p, T.C_Plain, dx, _, rfl, hp, T.cl_Plain, T.n_Plain_cursor, pfs_few l c, ?_⟩
    have pl' : l ≠ p := ne_of hl hp (by intro z; cases z)
    rw [pfs_put_c]
    exact ⟨.ref p, rfl, p, T.C_Plain, dx, _, _, rfl, upd_same, T.cl_Plain, T.n_Plain_cursor, pfs_cursor l m, q1 _ _ ⟨dx, l, upd_same, by rw [upd_ne pl']; exact hl, fun _ => Iff.rfl⟩ (own_step hF (Kp.at (by simp)) (.inl rfl))⟩

theorem ok_pcut (T : Tx K mg) : FnOk P w K mg base (L2.CX P w) 5 T.f_pcut T.fd_pcut P_pcut (spCutT (PlainAt T.C_Plain) T.C_BadPlace T.C_TooLong) := by
  have G_cgoal := ok_cgoal (P := P) (w := w) (base := base) T
  have sz : sizeLine = 16777216 := sizeLine_eq
  refine T.D_pcut.F.okX sc_pcut (fun vs H Q E h => ?_) (fun cdv A outer s H vs Q E hr h => ?_)
  · obtain ⟨p, F, r, c, g, rfl, _⟩ := h
    rfl
  · obtain ⟨p, F, r, c, g, rfl, ⟨dx, l, hp, hl, hF⟩, q, e1, e2⟩ := h
    refine ⟨_, (pss_cons (ps_set (i := 2) sc_pcut.nd rfl (.inl rfl) (pe_ifExp (pt_cmpR op_isN (pv 1) pe_non (nomark _)) (pe_fld (pv 0) rfl) (pv 1)))
      (pss_cons (ps_expr (pe_call G_cgoal (hr.mono (by decide)) (by rfl) T.D_cgoal.g T.D_cgoal.F.kp T.bb_cgoal .nil (Sip.passX (takes_of rfl rfl rfl rfl)) (pa_cons (pv 2) pa_nil)))
      (pss_one (Sip.ps_delS (pe_fld (pv 0) rfl) (po_some (pv 2)) po_none)))), ?_⟩
    have pl' : l ≠ p := ne_of hl hp (by intro z; cases z)
    refine ⟨.int g, rfl, rfl, _, rfl, iteFc (by rfl) ?_⟩
    refine ⟨.int g, rfl, ?_⟩
    refine ⟨.int g, rfl, g, rfl, fun g0 g4 => ?_, e1, e2⟩
    have q1 := q g0 g4
    obtain ⟨m, rfl⟩ := Int.eq_ofNat_of_zero_le g0
    refine ⟨.ref p, rfl, p, T.C_Plain, dx, _, _, rfl, hp, T.cl_Plain, T.n_Plain_cells, pfs_cells l c, .int m, rfl, _, rfl, l, _, rfl, hl, ?_⟩
    rw [del_from]
    exact q1 _ _ ⟨dx, l, by rw [upd_ne pl'.symm]; exact hp, upd_same, fun _ => Iff.rfl⟩ (own_step hF (Kp.at (by simp)) (.inl rfl))

theorem ok_write (T : Tx K mg) : FnOk P w K mg base (L2.CX P w) 5 T.f_write T.fd_write P_write (spWriteT (PlainAt T.C_Plain) T.C_NotByte T.C_TooLong) := by
  have G_cbytes := ok_cbytes (P := P) (w := w) (base := base) T
  have G_clen := ok_clen (P := P) (w := w) (base := base) T
  have G_laid := ok_laid (P := P) (w := w) (base := base) T
  have sz : sizeLine = 16777216 := sizeLine_eq
  refine T.D_write.F.okX sc_write (fun vs H Q E h => ?_) (fun cdv A outer s H vs Q E hr h => ?_)
  · obtain ⟨p, b, F, r, c, ts, rfl, _⟩ := h
    rfl
  · obtain ⟨p, b, F, r, c, ts, rfl, ⟨dx, l, hp, hl, hF⟩, nb, hb, lr, lc, lt, q, e2, e1⟩ := h
    refine ⟨_, (pss_cons (ps_expr (pe_call G_cbytes (hr.mono (by decide)) (by rfl) T.D_cbytes.g T.D_cbytes.F.kp T.bb_cbytes .nil (Sip.passX (takes_of rfl rfl rfl rfl)) (pa_cons (pv 1) pa_nil)))
      (C8.pss_cut (ps_if (pt_truth (pv 1) (by intro _; rfl)) (pss_one (ps_expr (pe_call G_clen (hr.mono (by decide)) (by rfl) T.D_clen.g T.D_clen.F.kp T.bb_clen .nil (Sip.passX (takes_of rfl rfl rfl rfl)) (pa_cons (pe_callB (call_max2 rfl) (by rfl) T.m_max (by decide +kernel) (pa_cons (pe_callB call_len_seq (by rfl) T.m_len PySem.boot_len (pa_cons (pe_fld (pv 0) rfl) pa_nil)) (pa_cons (pe_op op_add (pe_fld (pv 0) rfl) (pe_callB call_len_seq (by rfl) T.m_len PySem.boot_len (pa_cons (pv 1) pa_nil))) pa_nil))) pa_nil)))) pss_nil)
      (pss_cons (ps_fld (pv 0) (pe_call G_laid (hr.mono (by decide)) (by rfl) T.D_laid.g T.D_laid.F.kp T.bb_laid .nil pass0 (pa_cons (pe_fld (pv 0) rfl) (pa_cons (pe_fld (pv 0) rfl) (pa_cons (pv 1) pa_nil)))) rfl)
      (pss_cons (ps_fldaug (pv 0) (pe_callB call_len_seq (by rfl) T.m_len PySem.boot_len (pa_cons (pv 1) pa_nil)) in_add)
      (pss_one (ps_ret (pe_callB call_len_seq (by rfl) T.m_len PySem.boot_len (pa_cons (pv 1) pa_nil)))))))), ?_⟩
    rcases th_cases ts with ⟨d, rfl, bd⟩ | ⟨k, t, hk, ht, ho⟩
    rotate_left
    · exact ⟨.ref b, rfl, b, ts, rfl, hb, fun h => absurd (h t (List.mem_of_getElem? hk)) (by rw [ht]; decide), e1⟩
    have ld : d.length ≤ 400 := by rw [List.length_map] at lt; exact lt
    refine ⟨.ref b, rfl, b, _, rfl, hb, fun _ H1 s1 => ?_, fun k t hk ht => absurd (th_bytes bd t (List.mem_of_getElem? hk)) (by rw [ht]; decide)⟩
    rw [th_vals] at hb
    have hp1 := s1 _ _ hp
    have hl1 := s1 _ _ hl
    have hb1 := s1 _ _ hb
    refine ⟨fun σ' H' => σ' = [some (V.ref p), some (V.ref b)] ∧ H' = H1 ∧ (d ≠ [] → c + d.length ≤ 4000), ?_, fun σ' H' hm => ?_⟩
    · refine ⟨.ref b, rfl, _, .inl ⟨_, sq_at hb1, rfl⟩, ite2 (fun e => ?_) (fun e => ⟨rfl, rfl, fun z => ?_⟩)⟩
      · have d0 : d ≠ [] := fun z => by subst z; cases e
        refine ⟨.ref p, rfl, p, T.C_Plain, dx, _, _, rfl, hp1, T.cl_Plain, T.n_Plain_cells, pfs_cells l c, l, _, rfl, .inl (sq_at hl1), .ref p, rfl, p, T.C_Plain, dx, _, _, rfl, hp1, T.cl_Plain, T.n_Plain_cursor, pfs_cursor l c, .ref b, rfl, b, _, rfl, .inl (sq_at hb1), _, _, rfl, rfl, _, _, rfl, _, rfl, ?_, ?_⟩
        · intro h
          rw [List.length_map, List.length_map] at h
          refine ⟨rfl, rfl, fun _ => ?_⟩
          split at h <;> omega
        · intro h
          rw [List.length_map, List.length_map] at h ⊢
          have hgt : (c : Int) + (d.length : Int) > (r.length : Int) := by split at h <;> omega
          rw [if_pos hgt] at h ⊢
          have e4 := e2 d rfl bd d0 (by omega)
          rw [show (c : Int) + (d.length : Int) = ((c + d.length : Nat) : Int) by omega]
          exact e4.of s1
      · cases d with
        | nil => exact absurd rfl z
        | cons v d => exact absurd rfl e
    · obtain ⟨rfl, rfl, fit⟩ := hm
      refine ⟨.ref p, rfl, p, T.C_Plain, dx, _, _, rfl, hp1, T.cl_Plain, T.n_Plain_cells, pfs_cells l c, .ref p, rfl, p, T.C_Plain, dx, _, _, rfl, hp1, T.cl_Plain, T.n_Plain_cursor, pfs_cursor l c, .ref b, rfl, l, b, r, c, d, rfl, sq_at hl1, hb1, by omega, by omega, by omega, fun H2 t nt et s2 => ?_⟩
      have hp2 := s2 _ _ hp1
      have pt : p ≠ t := ne_of_none hp1 nt
      have bp : b ≠ p := ne_of hb hp (by intro z; cases z)
      refine ⟨.ref p, rfl, p, T.C_Plain, dx, _, rfl, hp2, T.cl_Plain, T.n_Plain_cells, pfs_few l c, ?_⟩
      rw [pfs_put_h]
      refine ⟨.ref p, rfl, p, T.C_Plain, dx, _, _, rfl, upd_same, T.cl_Plain, T.n_Plain_cursor, pfs_cursor t c, .ref b, rfl, b, _, rfl, .inl (sq_at (by rw [upd_ne bp]; exact s2 _ _ hb1)), _, _, rfl, rfl, dx, _, upd_same, pfs_few t c, ?_⟩
      have e2 : (V.int ((c : Int) + ((d.map V.int).length : Int))) = V.int ((c + d.length : Nat) : Int) := by rw [List.length_map]; congr 1
      rw [e2, pfs_put_c, upd_upd]
      refine ⟨.ref b, rfl, b, _, rfl, .inl (sq_at (by rw [upd_ne bp]; exact s2 _ _ hb1)), ?_⟩
      rw [List.length_map]
      exact q d rfl bd fit _ _ ⟨dx, t, upd_same, by rw [upd_ne pt.symm]; exact et, fun _ => Iff.rfl⟩ (own_step hF ((Kp.of (s1.trans s2)).trans (Kp.at (by simp))) (.inr (s1.free nt)))

theorem ok_ccount (T : Tx K mg) : FnOk P w K mg base (L2.CX P w) 1 T.f_ccount T.fd_ccount P_ccount (spCountT T.C_BadCount) := by
  have sz : sizeLine = 16777216 := sizeLine_eq
  refine T.D_ccount.F.okX sc_ccount (fun vs H Q E h => ?_) (fun cdv A outer s H vs Q E hr h => ?_)
  · obtain ⟨n, rfl, _⟩ := h
    rfl
  · obtain ⟨n, rfl, q, e1⟩ := h
    refine ⟨_, (pss_one (ps_if (PW.pt (pw_and (pt_cmpR op_notN (pv 0) pe_non (nomark _)) (pw_and1 (pt_cmpR op_lt (pv 0) pe_int (nomark _))))) (pss_one (ps_raise rfl (takes_of rfl rfl rfl rfl) (Sip.pmk_own0 PySem.F.excBase_ValueError T.x_BadCount T.g_BadCount T.kk_BadCount (raises_own T.bx_BadCount T.tx_BadCount) (by rfl)))) pss_nil)), ?_⟩
    refine ⟨.int n, rfl, rfl, _, rfl, iteTc (by rfl) ?_⟩
    refine ⟨.int n, rfl, _, _, rfl, rfl, _, rfl, ite2 (fun e => ?_) (fun e => ?_)⟩
    · exact e1 (of_decide_eq_true e) _ (Same.refl _)
    · have h : ¬ n < 0 := fun z => e (decide_eq_true z)
      exact q (by omega)

theorem ok_peek (T : Tx K mg) : FnOk P w K mg base (L2.CX P w) 2 T.f_peek T.fd_peek P_peek (spPeekT (PlainAt T.C_Plain) T.C_BadCount) := by
  have G_ccount := ok_ccount (P := P) (w := w) (base := base) T
  have G_ahead := ok_ahead (P := P) (w := w) (base := base) T
  have sz : sizeLine = 16777216 := sizeLine_eq
  refine T.D_peek.F.okX sc_peek (fun vs H Q E h => ?_) (fun cdv A outer s H vs Q E hr h => ?_)
  · obtain ⟨p, F, r, c, n, rfl, _⟩ := h
    rfl
  · obtain ⟨p, F, r, c, n, rfl, hPA, q, e1⟩ := h
    refine ⟨_, (pss_cons (ps_expr (pe_call G_ccount (hr.mono (by decide)) (by rfl) T.D_ccount.g T.D_ccount.F.kp T.bb_ccount .nil (Sip.passX (takes_of rfl rfl rfl rfl)) (pa_cons (pv 1) pa_nil)))
      (pss_one (ps_ret (pe_slice sl_list (pe_meth0 (pv 0) T.cl_Plain T.D_ahead.m G_ahead (hr.mono (by decide)) T.bb_ahead .nil pass0) po_none (Sip.po_opt (pv 1)))))), ?_⟩
    have hPA' := hPA
    obtain ⟨dx, l, hp, hl, hF⟩ := hPA'
    refine ⟨.int n, rfl, n, rfl, fun n0 => ?_, e1⟩
    have q1 := q n0
    obtain ⟨m, rfl⟩ := Int.eq_ofNat_of_zero_le n0
    refine ⟨.ref p, rfl, p, dx, _, rfl, hp, pfs_no l c "ahead" (by decide +kernel), p, F, r, c, rfl, hPA, fun H2 t nt et s2 => ?_⟩
    refine ⟨cntV (some m), rfl, cntI (some m), cntV_eq (some m), t, _, rfl, sq_at et, fun z nz => ?_⟩
    rw [cut_O]
    exact q1 _ z (s2.free nz) upd_same (s2.trans (Kp.new (ps := []) nz).same)

theorem ok_read (T : Tx K mg) : FnOk P w K mg base (L2.CX P w) 3 T.f_read T.fd_read P_read (spReadT (PlainAt T.C_Plain) T.C_BadCount readF0) := by
  have G_peek := ok_peek (P := P) (w := w) (base := base) T
  have G_passed := ok_passed (P := P) (w := w) (base := base) T
  have sz : sizeLine = 16777216 := sizeLine_eq
  refine T.D_read.F.okX sc_read (fun vs H Q E h => ?_) (fun cdv A outer s H vs Q E hr h => ?_)
  · obtain ⟨p, F, r, c, n, rfl, _⟩ := h
    rfl
  · obtain ⟨p, F, r, c, n, rfl, hPA, lr, q, e1⟩ := h
    refine ⟨_, (pss_one (ps_ret (pe_meth (pv 0) T.cl_Plain T.D_passed.m G_passed (hr.mono (by decide)) T.bb_passed .nil pass0 (pa_cons (pe_meth (pv 0) T.cl_Plain T.D_peek.m G_peek (hr.mono (by decide)) T.bb_peek .nil (Sip.passX (takes_of rfl rfl rfl rfl)) (pa_cons (pv 1) pa_nil)) pa_nil)))), ?_⟩
    have hPA' := hPA
    obtain ⟨dx, l, hp, hl, hF⟩ := hPA'
    refine ⟨.ref p, rfl, p, dx, _, rfl, hp, pfs_no l c "passed" (by decide +kernel), .ref p, rfl, p, dx, _, rfl, hp, pfs_no l c "peek" (by decide +kernel), .int n, rfl, p, F, r, c, n, rfl, hPA, fun n0 H2 t nt et s2 => ?_, e1⟩
    have hPA2 := (isPlain T.C_Plain).same hPA s2
    exact ⟨p, t, F, r, _, c, rfl, hPA2, (isPlain T.C_Plain).new hPA nt, et, fun H3 F3 hPA3 nt3 et3 st3 => q n0 _ F3 t hPA3 nt nt3 et3 ((Step.of s2).trans st3)⟩

theorem ok_rsome (T : Tx K mg) : FnOk P w K mg base (L2.CX P w) 3 T.f_rsome T.fd_rsome P_rsome (spReadT (PlainAt T.C_Plain) T.C_BadCount readF0) := by
  have G_peek := ok_peek (P := P) (w := w) (base := base) T
  have G_passed := ok_passed (P := P) (w := w) (base := base) T
  have sz : sizeLine = 16777216 := sizeLine_eq
  refine T.D_rsome.F.okX sc_rsome (fun vs H Q E h => ?_) (fun cdv A outer s H vs Q E hr h => ?_)
  · obtain ⟨p, F, r, c, n, rfl, _⟩ := h
    rfl
  · obtain ⟨p, F, r, c, n, rfl, hPA, lr, q, e1⟩ := h
    refine ⟨_, (pss_one (ps_ret (pe_meth (pv 0) T.cl_Plain T.D_passed.m G_passed (hr.mono (by decide)) T.bb_passed .nil pass0 (pa_cons (pe_meth (pv 0) T.cl_Plain T.D_peek.m G_peek (hr.mono (by decide)) T.bb_peek .nil (Sip.passX (takes_of rfl rfl rfl rfl)) (pa_cons (pv 1) pa_nil)) pa_nil)))), ?_⟩
    have hPA' := hPA
    obtain ⟨dx, l, hp, hl, hF⟩ := hPA'
    refine ⟨.ref p, rfl, p, dx, _, rfl, hp, pfs_no l c "passed" (by decide +kernel), .ref p, rfl, p, dx, _, rfl, hp, pfs_no l c "peek" (by decide +kernel), .int n, rfl, p, F, r, c, n, rfl, hPA, fun n0 H2 t nt et s2 => ?_, e1⟩
    have hPA2 := (isPlain T.C_Plain).same hPA s2
    exact ⟨p, t, F, r, _, c, rfl, hPA2, (isPlain T.C_Plain).new hPA nt, et, fun H3 F3 hPA3 nt3 et3 st3 => q n0 _ F3 t hPA3 nt nt3 et3 ((Step.of s2).trans st3)⟩

theorem ok_rline (T : Tx K mg) : FnOk P w K mg base (L2.CX P w) 2 T.f_rline T.fd_rline P_rline (spReadT (PlainAt T.C_Plain) T.C_BadCount lineF0) := by
  have G_ccount := ok_ccount (P := P) (w := w) (base := base) T
  have G_ahead := ok_ahead (P := P) (w := w) (base := base) T
  have G_passed := ok_passed (P := P) (w := w) (base := base) T
  have G_fline := ok_fline (P := P) (w := w) (base := base) T
  have sz : sizeLine = 16777216 := sizeLine_eq
  refine T.D_rline.F.okX sc_rline (fun vs H Q E h => ?_) (fun cdv A outer s H vs Q E hr h => ?_)
  · obtain ⟨p, F, r, c, n, rfl, _⟩ := h
    rfl
  · obtain ⟨p, F, r, c, n, rfl, hPA, lr, q, e1⟩ := h
    refine ⟨_, (pss_cons (ps_expr (pe_call G_ccount (hr.mono (by decide)) (by rfl) T.D_ccount.g T.D_ccount.F.kp T.bb_ccount .nil (Sip.passX (takes_of rfl rfl rfl rfl)) (pa_cons (pv 1) pa_nil)))
      (pss_one (ps_ret (pe_meth (pv 0) T.cl_Plain T.D_passed.m G_passed (hr.mono (by decide)) T.bb_passed .nil pass0 (pa_cons (pe_call G_fline (hr.mono (by decide)) (by rfl) T.D_fline.g T.D_fline.F.kp T.bb_fline .nil pass0 (pa_cons (pe_meth0 (pv 0) T.cl_Plain T.D_ahead.m G_ahead (hr.mono (by decide)) T.bb_ahead .nil pass0) (pa_cons (pv 1) pa_nil))) pa_nil))))), ?_⟩
    have hPA' := hPA
    obtain ⟨dx, l, hp, hl, hF⟩ := hPA'
    refine ⟨.int n, rfl, n, rfl, fun n0 => ?_, e1⟩
    have q1 := q n0
    obtain ⟨m, rfl⟩ := Int.eq_ofNat_of_zero_le n0
    refine ⟨.ref p, rfl, p, dx, _, rfl, hp, pfs_no l c "passed" (by decide +kernel), .ref p, rfl, p, dx, _, rfl, hp, pfs_no l c "ahead" (by decide +kernel), p, F, r, c, rfl, hPA, fun H1 t nt et s1 => ?_⟩
    refine ⟨cntV (some m), rfl, t, r.drop c, some m, rfl, sq_at et, by rw [List.length_drop]; omega, fun H2 z nz ez s2 => ?_⟩
    have s12 := s1.trans s2
    have nz' := s1.free nz
    have hPA2 := (isPlain T.C_Plain).same hPA s12
    exact ⟨p, z, F, r, _, c, rfl, hPA2, (isPlain T.C_Plain).new hPA nz', ez, fun H3 F3 hPA3 nt3 et3 st3 => q1 _ F3 z hPA3 nz' nt3 et3 ((Step.of s12).trans st3)⟩

theorem ok_goal (T : Tx K mg) : FnOk P w K mg base CX0 2 T.f_goal T.fd_goal P_goal (spGoal22 K) := by
  have G_take := ok_take (P := P) (w := w) (base := base) T
  have sz : sizeLine = 16777216 := sizeLine_eq
  refine T.D_goal.F.ok sc_goal (fun vs H Q E h => ?_) (fun cdv A outer s H vs Q E hr h => ?_)
  · obtain ⟨p, x, n, o, r, c, rfl, _⟩ := h
    rfl
  · obtain ⟨p, x, n, o, r, c, rfl, px, hp, hP, n9, hx, lr, lc, q⟩ := h
    refine ⟨_, (pss_cons (ps_set (i := 3) sc_goal.nd rfl (.inl rfl) (pe_call G_take (hr.mono (by decide)) (by rfl) T.D_take.g T.D_take.F.kp T.bb_take .nil pass0 (pa_cons (pv 0) (pa_cons pe_int pa_nil))))
      (pss_cons (ps_if (pt_cmpR op_eq (pv 3) pe_int (nomark _)) (pss_one (ps_ret (pe_op op_sub pe_int (pe_call G_take (hr.mono (by decide)) (by rfl) T.D_take.g T.D_take.F.kp T.bb_take .nil pass0 (pa_cons (pv 0) (pa_cons pe_int pa_nil)))))) pss_nil)
      (pss_cons (ps_if (pt_cmpR op_eq (pv 3) pe_int (nomark _)) (pss_one (ps_ret (pe_op op_add pe_int (pe_call G_take (hr.mono (by decide)) (by rfl) T.D_take.g T.D_take.F.kp T.bb_take .nil pass0 (pa_cons (pv 0) (pa_cons pe_int pa_nil)))))) pss_nil)
      (pss_cons (ps_if (pt_cmpR op_eq (pv 3) pe_int (nomark _)) (pss_one (ps_ret (pe_op op_mul (pe_op op_sub pe_int (pe_op op_mul pe_int (pe_call G_take (hr.mono (by decide)) (by rfl) T.D_take.g T.D_take.F.kp T.bb_take .nil pass0 (pa_cons (pv 0) (pa_cons pe_int pa_nil))))) (pe_call G_take (hr.mono (by decide)) (by rfl) T.D_take.g T.D_take.F.kp T.bb_take .nil pass0 (pa_cons (pv 0) (pa_cons (pe_op op_pow pe_int pe_int) pa_nil)))))) pss_nil)
      (pss_one (ps_ret (pe_call G_take (hr.mono (by decide)) (by rfl) T.D_take.g T.D_take.F.kp T.bb_take .nil pass0 (pa_cons (pv 0) (pa_cons (pe_op op_add (pe_callB (call_max2 rfl) (by rfl) T.m_max (by decide +kernel) (pa_cons (pe_callB call_len_seq (by rfl) T.m_len PySem.boot_len (pa_cons (pv 1) pa_nil)) (pa_cons (pv 2) pa_nil))) pe_int) pa_nil))))))))), ?_⟩
    refine ⟨.ref p, rfl, p, n, 5, o, rfl, hp, hP, by omega, by decide, by decide, fun w o1 w0 w1 hP1 => ?_⟩
    have ep1 : (upd H p o1) p = some o1 := upd_same
    have k1 : Kp [p] H (upd H p o1) := Kp.at (by simp)
    have ex1 : (upd H p o1) x = some (.lst (r.map V.int)) := by rw [upd_ne px.symm]; exact hx
    generalize upd H p o1 = H1 at ep1 k1 ex1 ⊢
    refine ⟨.int w, rfl, rfl, _, rfl, ite2 (fun _ => ?_) (fun _ => ?_)⟩
    · exact ⟨.ref p, rfl, p, _, 4, o1, rfl, ep1, hP1, by omega, by decide, by decide, fun g o2 g0 g1 hP2 => ⟨_, _, rfl, rfl, q _ _ o2 (by omega) (by omega) upd_same (hP2.up (by omega)) (k1.trans (Kp.at (by simp)))⟩⟩
    refine ⟨.int w, rfl, rfl, _, rfl, ite2 (fun _ => ?_) (fun _ => ?_)⟩
    · exact ⟨.ref p, rfl, p, _, 5, o1, rfl, ep1, hP1, by omega, by decide, by decide, fun g o2 g0 g1 hP2 => ⟨_, _, rfl, rfl, q _ _ o2 (by omega) (by omega) upd_same (hP2.up (by omega)) (k1.trans (Kp.at (by simp)))⟩⟩
    refine ⟨.int w, rfl, rfl, _, rfl, ite2 (fun _ => ?_) (fun _ => ?_)⟩
    · refine ⟨.ref p, rfl, p, _, 2, o1, rfl, ep1, hP1, by omega, by decide, by decide, fun t o2 t0 t1 hP2 => ?_⟩
      refine ⟨_, _, rfl, rfl, .inl ⟨by decide, by decide⟩, _, _, rfl, rfl, .ref p, rfl, _, _, rfl, rfl, cpow_10_6, p, _, _, o2, rfl, upd_same, hP2, by omega, by decide, by decide, fun u o3 u0 u1 hP3 => ?_⟩
      have u2 : u < 1000000 := u1
      refine ⟨_, _, rfl, rfl, .inl ⟨by omega, by omega⟩, q _ _ o3 ?_ ?_ upd_same (hP3.up (by omega)) ((k1.trans (Kp.at (by simp))).trans (Kp.at (by simp)))⟩
      · rcases (show t = 0 ∨ t = 1 by omega) with rfl | rfl <;> omega
      · rcases (show t = 0 ∨ t = 1 by omega) with rfl | rfl <;> omega
    · refine ⟨.ref p, rfl, .ref x, rfl, x, _, rfl, .inl (sq_at ex1), .int c, rfl, _, _, rfl, _, _, rfl, rfl, p, _, _, o1, rfl, ep1, hP1, by omega, ?_, ?_, fun g o2 g0 g1 hP2 => ?_⟩
      · rw [List.length_map]; split <;> omega
      · rw [List.length_map]; split <;> omega
      · rw [List.length_map] at g1
        refine q _ _ o2 (by omega) ?_ upd_same (hP2.up (by omega)) (k1.trans (Kp.at (by simp)))
        split at g1 <;> omega

theorem ok_lbyte (T : Tx K mg) : FnOk P w K mg base CX0 1 T.f_lbyte T.fd_lbyte P_lbyte (spByteT) := by
  have sz : sizeLine = 16777216 := sizeLine_eq
  refine T.D_lbyte.F.ok sc_lbyte (fun vs H Q E h => ?_) (fun cdv A outer s H vs Q E hr h => ?_)
  · obtain ⟨t, rfl, _⟩ := h
    rfl
  · obtain ⟨t, rfl, q⟩ := h
    refine ⟨_, (pss_one (ps_ret (pe_and (pe_callB (id := "isinstance") (r := rIsi K) call_isi (by rfl) T.m_isinstance (by decide +kernel) (pa_cons (pv 0) (pa_cons (pe_bltn (v := .ty "int") (by rfl) T.m_int (by decide +kernel) rfl) pa_nil))) (pe_and (pe_not (pe_callB (id := "isinstance") (r := rIsi K) call_isi (by rfl) T.m_isinstance (by decide +kernel) (pa_cons (pv 0) (pa_cons (pe_bltn (v := .ty "bool") (by rfl) T.m_bool (by decide +kernel) rfl) pa_nil)))) (pe_and (pe_cmpR op_ge (pv 0) pe_int (nomark _)) (pe_one (pe_cmpR op_lt (pv 0) pe_int (nomark _)))))))), ?_⟩
    cases t with
    | i v =>
      refine ⟨.int v, rfl, .int v, .ty "int", _, _, true, rfl, .ty "int", .base (.int v), kit_ty (by decide +kernel), true, rfl, ?_⟩
      refine ⟨.int v, rfl, .int v, .ty "bool", _, _, false, rfl, .ty "bool", .base (.int v), kit_ty (by decide +kernel), false, rfl, ?_⟩
      refine ⟨true, rfl, iteT ⟨.int v, rfl, _, _, rfl, rfl, _, rfl, ?_⟩⟩
      by_cases v0 : 0 ≤ v
      · rw [if_pos (decide_eq_true v0)]
        refine ⟨.int v, rfl, _, _, rfl, rfl, ?_⟩
        have e : thB (.i v) = decide (v < 256) := by
          show (decide (0 ≤ v) && decide (v ≤ 255)) = decide (v < 256)
          rw [decide_eq_true v0]
          show decide (v ≤ 255) = decide (v < 256)
          exact decide_eq_decide.mpr (by omega)
        rw [e] at q
        exact q
      · rw [if_neg (by simpa using v0)]
        have e : thB (.i v) = false := by show (decide (0 ≤ v) && decide (v ≤ 255)) = _; rw [decide_eq_false v0]; rfl
        rw [e] at q
        exact q
    | b v =>
      refine ⟨.bl v, rfl, .bl v, .ty "int", _, _, true, rfl, .ty "int", .base (.bl v), kit_ty (by decide +kernel), true, rfl, ?_⟩
      exact ⟨.bl v, rfl, .bl v, .ty "bool", _, _, true, rfl, .ty "bool", .base (.bl v), kit_ty (by decide +kernel), true, rfl, false, rfl, q⟩
    | s x => exact ⟨.str x, rfl, .str x, .ty "int", _, _, false, rfl, .ty "int", .base (.str x), kit_ty (by decide +kernel), false, rfl, q⟩
    | n => exact ⟨.non, rfl, .non, .ty "int", _, _, false, rfl, .ty "int", .base .non, kit_ty (by decide +kernel), false, rfl, q⟩

theorem ok_pdue (T : Tx K mg) : FnOk P w K mg base CX0 1 T.f_pdue T.fd_pdue P_pdue (spPDue22) := by
  have sz : sizeLine = 16777216 := sizeLine_eq
  refine T.D_pdue.F.ok sc_pdue (fun vs H Q E h => ?_) (fun cdv A outer s H vs Q E hr h => ?_)
  · obtain ⟨g, rfl, _⟩ := h
    rfl
  · obtain ⟨g, rfl, q⟩ := h
    refine ⟨_, (pss_cons (ps_if (pt_cmpR op_lt (pv 0) pe_int (nomark _)) (pss_one (ps_ret (pe_tup (pa_cons pe_str (pa_cons pe_str (pa_cons (pv 0) pa_nil)))))) pss_nil)
      (pss_cons (ps_if (pt_cmpR op_gt (pv 0) pe_int (nomark _)) (pss_one (ps_ret (pe_tup (pa_cons pe_str (pa_cons pe_str (pa_cons (pv 0) pa_nil)))))) pss_nil)
      (pss_one (ps_ret (pe_tup (pa_cons pe_str (pa_cons (pv 0) pa_nil))))))), ?_⟩
    refine ⟨.int g, rfl, _, _, rfl, rfl, _, rfl, ite2 (fun e => ?_) (fun e => ?_)⟩
    · have h : g < 0 := of_decide_eq_true e
      refine ⟨_, rfl, by show (3 : Nat) ≤ sizeLine; omega, fun u nu => q _ u nu ?_ (Kp.new (ps := []) nu).same⟩
      rw [upd_same]; unfold pdueL; rw [if_pos h]
    have h : ¬ g < 0 := fun z => e (decide_eq_true z)
    refine ⟨.int g, rfl, _, _, rfl, rfl, _, rfl, ite2 (fun e => ?_) (fun e => ?_)⟩
    · have h2 : 4000 < g := of_decide_eq_true e
      refine ⟨_, rfl, by show (3 : Nat) ≤ sizeLine; omega, fun u nu => q _ u nu ?_ (Kp.new (ps := []) nu).same⟩
      rw [upd_same]; unfold pdueL; rw [if_neg h, if_pos h2]
    have h2 : ¬ 4000 < g := fun z => e (decide_eq_true z)
    refine ⟨_, rfl, by show (2 : Nat) ≤ sizeLine; omega, fun u nu => q _ u nu ?_ (Kp.new (ps := []) nu).same⟩
    rw [upd_same]; unfold pdueL; rw [if_neg h, if_neg h2]

theorem ok_things (T : Tx K mg) : FnOk P w K mg base CX0 3 T.f_things T.fd_things P_things (spThings22 K) := by
  have G_bytes := ok_bytes (P := P) (w := w) (base := base) T
  have G_take := ok_take (P := P) (w := w) (base := base) T
  have sz : sizeLine = 16777216 := sizeLine_eq
  refine T.D_things.F.ok sc_things (fun vs H Q E h => ?_) (fun cdv A outer s H vs Q E hr h => ?_)
  · obtain ⟨p, n, o, rfl, _⟩ := h
    rfl
  · obtain ⟨p, n, o, rfl, hp, hP, n9, q⟩ := h
    refine ⟨_, (pss_cons (ps_set (i := 1) sc_things.nd rfl (.inl rfl) (pe_call G_bytes (hr.mono (by decide)) (by rfl) T.D_bytes.g T.D_bytes.F.kp T.bb_bytes .nil pass0 (pa_cons (pv 0) (pa_cons (pe_lst (pa_cons pe_int (pa_cons pe_int (pa_cons pe_int (pa_cons pe_int (pa_cons pe_int (pa_cons pe_int (pa_cons pe_int pa_nil)))))))) pa_nil))))
      (pss_cons (ps_for PassesOwn.never rfl (pi_range1 (by rfl) T.m_range (pa_cons (pe_ix ix_list (pe_lst (pa_cons pe_int (pa_cons pe_int (pa_cons pe_int (pa_cons pe_int pa_nil))))) (pe_call G_take (hr.mono (by decide)) (by rfl) T.D_take.g T.D_take.F.kp T.bb_take .nil pass0 (pa_cons (pv 0) (pa_cons pe_int pa_nil))) (fun _ _ => rfl)) pa_nil)) (pg_name (i := 2) sc_things.nd rfl (.inl rfl)) (pss_cons (ps_set (i := 3) sc_things.nd rfl (.inl rfl) (pe_ix ix_list (pe_lst (pa_cons pe_int (pa_cons (pe_un un_neg pe_int) (pa_cons (pe_op op_pow pe_int pe_int) (pa_cons pe_bl (pa_cons pe_bl (pa_cons pe_str (pa_cons pe_non (pa_cons (pe_un un_neg pe_int) pa_nil))))))))) (pe_call G_take (hr.mono (by decide)) (by rfl) T.D_take.g T.D_take.F.kp T.bb_take .nil pass0 (pa_cons (pv 0) (pa_cons pe_int pa_nil))) (fun _ _ => rfl)))
      (pss_one (ps_expr (pe_bm PySem.F.plainAttrs_list PySem.F.slot_list_insert PySem.F.type_list_insert mt_insert (pv 1) (pa_cons (pe_call G_take (hr.mono (by decide)) (by rfl) T.D_take.g T.D_take.F.kp T.bb_take .nil pass0 (pa_cons (pv 0) (pa_cons (pe_op op_add (pe_callB call_len_seq (by rfl) T.m_len PySem.boot_len (pa_cons (pv 1) pa_nil)) pe_int) pa_nil))) (pa_cons (pv 3) pa_nil)))))))
      (pss_one (ps_ret (pv 1))))), ?_⟩
    refine ⟨.ref p, rfl, by show (7 : Nat) ≤ sizeLine; omega, fun m nm => ?_⟩
    have c0 := (Kp.new (ps := []) (o := HO.lst [V.int 0, .int 1, .int 2, .int 3, .int 8, .int 30, .int 60]) nm).same
    have pm : p ≠ m := ne_of_none hp nm
    refine ⟨p, m, n, o, [0, 1, 2, 3, 8, 30, 60], rfl, by rw [upd_ne pm]; exact hp, hP, by omega, .inl (.inl (by rw [upd_same]; rfl)), pm, by decide, by decide, by decide, fun H1 b bs o1 nb eb ep hP1 kk lz hb => ?_⟩
    have lb : bs.length ≤ 60 := by
      obtain ⟨z, zm, ze⟩ := lz
      have := (show ∀ y ∈ ([0, 1, 2, 3, 8, 30, 60] : List Int), y ≤ 60 by decide) z zm
      omega
    have k1 : Kp [p] H H1 := (Kp.of c0).trans kk
    have nb0 : H b = none := c0.free nb
    have pb : p ≠ b := ne_of_none hp nb0
    refine ⟨by show (4 : Nat) ≤ sizeLine; omega, fun l nl => ?_⟩
    have pl : p ≠ l := ne_of_none ep nl
    have bl : b ≠ l := ne_of_none eb nl
    refine ⟨.ref p, rfl, p, _, 4, o1, rfl, by rw [upd_ne pl]; exact ep, hP1, by omega, by decide, by decide, fun w o2 w0 w1 hP2 => ?_⟩
    obtain ⟨N, N0, N2, eN⟩ := few_at w0 w1
    refine ⟨l, _, _, .int N, rfl, rfl, sq_at (by rw [upd_ne pl.symm]; exact upd_same), eN, ?_⟩
    have k2 : Kp [p] H (upd (upd H1 l (.lst [V.int 0, .int 0, .int 1, .int 2])) p o2) := (k1.trans (Kp.of (Kp.new (ps := []) nl).same)).trans (Kp.at (by simp))
    have ep2 : (upd (upd H1 l (.lst [V.int 0, .int 0, .int 1, .int 2])) p o2) p = some o2 := upd_same
    have eb2 : (upd (upd H1 l (.lst [V.int 0, .int 0, .int 1, .int 2])) p o2) b = some (.lst ((bs.map Th.i).map thV)) := by rw [upd_ne pb.symm, upd_ne bl, th_vals]; exact eb
    generalize upd (upd H1 l (.lst [V.int 0, .int 0, .int 1, .int 2])) p o2 = H2 at k2 ep2 eb2 ⊢
    refine ⟨N, rfl, by omega, by omega, for_range (lo := 0) (n := N.toNat) (fun i σ H' => ∃ (ts : List Th) (o : HO) (y2 y3 : Option V), σ = [some (.ref p), some (.ref b), y2, y3] ∧ H' p = some o ∧ PoolO (n + 1001 + 2 * i) o ∧ H' b = some (.lst (ts.map thV)) ∧ ts.length ≤ 60 + i ∧ Kp [p] H H') ⟨bs.map Th.i, o2, none, none, rfl, ep2, hP2.up (by omega), eb2, by rw [List.length_map]; omega, k2⟩ (fun i σ H' hi hW => ?_) (fun σ H' hW => ?_)⟩
    · obtain ⟨ts, o, y2, y3, rfl, ep, hP, eb, lt, kk⟩ := hW
      refine ⟨_, rfl, _, _, rfl, rfl, cpow_10_12, _, rfl, by show (8 : Nat) ≤ sizeLine; omega, fun l nl => ?_⟩
      have pl : p ≠ l := ne_of_none ep nl
      have bl : b ≠ l := ne_of_none eb nl
      refine ⟨.ref p, rfl, p, _, 8, o, rfl, by rw [upd_ne pl]; exact ep, hP, by omega, by decide, by decide, fun w o2 w0 w1 hP2 => ?_⟩
      obtain ⟨th, eth⟩ := thing_at w0 w1
      refine ⟨l, things8, w, thV th, rfl, rfl, sq_at (by rw [upd_ne pl.symm]; exact upd_same), eth, ?_⟩
      generalize hG : upd _ p o2 = H3
      have k3 : Kp [p] H H3 := by rw [← hG]; exact (kk.trans (Kp.of (Kp.new (ps := []) nl).same)).trans (Kp.at (by simp))
      have ep3 : H3 p = some o2 := by rw [← hG]; exact upd_same
      have eb3 : H3 b = some (.lst (ts.map thV)) := by rw [← hG, upd_ne pb.symm, upd_ne bl]; exact eb
      clear hG
      have lm : ((ts.map thV).length : Int) = ts.length := by rw [List.length_map]
      refine ⟨.ref b, rfl, .inl ⟨rfl, _, sq_at eb3⟩, .ref p, rfl, .ref b, rfl, b, _, rfl, .inl (sq_at eb3), _, _, rfl, rfl, p, _, _, o2, rfl, ep3, hP2, by omega, by omega, by omega, fun g o3 g0 g1 hP3 => ?_⟩
      have eb4 : (upd H3 p o3) b = some (.lst (ts.map thV)) := by rw [upd_ne pb.symm]; exact eb3
      refine ⟨thV th, rfl, b, _, g, _, rfl, rfl, eb4, by rw [List.length_map]; omega, g0, by omega, ?_⟩
      rw [ins_map]
      refine ⟨_, o3, _, _, rfl, by rw [upd_ne pb]; exact upd_same, hP3.up (by omega), upd_same, ?_, Kp.put (k3.trans (Kp.at (by simp))) nb0⟩
      rw [List.length_append, List.length_append, List.length_take, List.length_drop]
      show min g.toNat ts.length + 1 + (ts.length - g.toNat) ≤ _
      omega
    · obtain ⟨ts, o, y2, y3, rfl, ep, hP, eb, lt, kk⟩ := hW
      exact ⟨.ref b, rfl, q _ b ts nb0 eb (by omega) kk (by rw [ep]; exact fun z => nomatch z)⟩

theorem ok_wdue (T : Tx K mg) : FnOk P w K mg base CX0 2 T.f_wdue T.fd_wdue P_wdue (spWDue22) := by
  have G_lbyte := ok_lbyte (P := P) (w := w) (base := base) T
  have sz : sizeLine = 16777216 := sizeLine_eq
  refine T.D_wdue.F.ok sc_wdue (fun vs H Q E h => ?_) (fun cdv A outer s H vs Q E hr h => ?_)
  · obtain ⟨x, b, c, ts, rfl, _⟩ := h
    rfl
  · obtain ⟨x, b, c, ts, rfl, hb, lt, lc, q, q2, q1⟩ := h
    refine ⟨_, (pss_cons (ps_for PassesOwn.never rfl (pi_range1 (by rfl) T.m_range (pa_cons (pe_callB call_len_seq (by rfl) T.m_len PySem.boot_len (pa_cons (pv 2) pa_nil)) pa_nil)) (pg_name (i := 3) sc_wdue.nd rfl (.inl rfl)) (pss_one (ps_if (pt_not (pt_val (pe_call G_lbyte (hr.mono (by decide)) (by rfl) T.D_lbyte.g T.D_lbyte.F.kp T.bb_lbyte .nil pass0 (pa_cons (pe_ix ix_list (pv 2) (pv 3) (fun _ _ => rfl)) pa_nil)))) (pss_one (ps_ret (pe_tup (pa_cons pe_str (pa_cons pe_str (pa_cons (pv 3) pa_nil)))))) pss_nil)))
      (pss_cons (ps_if (PW.pt (pw_and (pt_cmpR op_gt (pe_callB call_len_seq (by rfl) T.m_len PySem.boot_len (pa_cons (pv 2) pa_nil)) pe_int (nomark _)) (pw_and1 (pt_cmpR op_gt (pe_op op_add (pv 1) (pe_callB call_len_seq (by rfl) T.m_len PySem.boot_len (pa_cons (pv 2) pa_nil))) pe_int (nomark _))))) (pss_one (ps_ret (pe_tup (pa_cons pe_str (pa_cons pe_str (pa_cons (pe_op op_add (pv 1) (pe_callB call_len_seq (by rfl) T.m_len PySem.boot_len (pa_cons (pv 2) pa_nil))) pa_nil)))))) pss_nil)
      (pss_one (ps_ret (pe_tup (pa_cons pe_str (pa_cons (pe_callB call_len_seq (by rfl) T.m_len PySem.boot_len (pa_cons (pv 2) pa_nil)) pa_nil))))))), ?_⟩
    have lm : ((ts.map thV).length : Int) = ts.length := by rw [List.length_map]
    refine ⟨.ref b, rfl, b, _, rfl, .inl (sq_at hb), _, rfl, by omega, by omega, for_range (lo := 0) (n := ((ts.map thV).length : Int).toNat) (fun i σ H' => ∃ y, σ = [some (.ref x), some (.int c), some (.ref b), y] ∧ Same H H' ∧ ∀ j t, j < i → ts[j]? = some t → thB t = true) ⟨none, rfl, Same.refl _, fun j t h => absurd h (by omega)⟩ (fun i σ H' hi hW => ?_) (fun σ H' hW => ?_)⟩
    · obtain ⟨y, rfl, sm, ok⟩ := hW
      have il : i < ts.length := by omega
      have hv : ts[i]? = some ts[i] := List.getElem?_eq_getElem il
      refine ⟨.ref b, rfl, _, rfl, b, _, _, thV ts[i], rfl, rfl, sq_at (sm _ _ hb), ?_, ?_⟩
      · exact th_at hv
      refine ⟨ts[i], rfl, _, rfl, ?_⟩
      cases hB : thB ts[i] with
      | true =>
        exact iteF ⟨_, rfl, sm, fun j t' hj ht' => by
          by_cases e : j = i
          · subst e; rw [hv] at ht'; cases ht'; exact hB
          · exact ok j t' (by omega) ht'⟩
      | false =>
        refine iteT ⟨_, rfl, by show (3 : Nat) ≤ sizeLine; omega, fun u nu => q1 i ts[i] hv hB ok _ u (sm.free nu) ?_ (sm.trans (Kp.new (ps := []) nu).same)⟩
        rw [upd_same]
        show some (HO.tup [_, _, V.int (0 + (i : Int))]) = _
        rw [Int.zero_add]
    · obtain ⟨y, rfl, sm, ok⟩ := hW
      have hb1 := sm _ _ hb
      rcases th_cases ts with ⟨d, rfl, bd⟩ | ⟨k, t, hk, ht, ho⟩
      rotate_left
      · have := ok k t (by have := (List.getElem?_eq_some_iff.mp hk).1; omega) hk
        rw [ht] at this; cases this
      have ll : (((d.map Th.i).map thV).length : Int) = d.length := by rw [List.length_map, List.length_map]
      refine ⟨.ref b, rfl, b, _, rfl, .inl (sq_at hb1), _, _, rfl, rfl, _, rfl, ?_⟩
      rw [ll]
      by_cases d0 : d = []
      · refine iteFc (decide_eq_false (by subst d0; decide)) (iteF ?_)
        refine ⟨.ref b, rfl, b, _, rfl, .inl (sq_at hb1), by show (2 : Nat) ≤ sizeLine; omega, fun u nu => ?_⟩
        rw [ll]
        exact q d rfl bd (fun z => absurd d0 z) _ u (sm.free nu) upd_same (sm.trans (Kp.new (ps := []) nu).same)
      have dp := List.length_pos_iff.mpr d0
      refine iteTc (decide_eq_true (by omega)) ?_
      refine ⟨.int c, rfl, .ref b, rfl, b, _, rfl, .inl (sq_at hb1), _, _, rfl, rfl, _, _, rfl, rfl, _, rfl, ?_⟩
      rw [ll]
      refine ite2 (fun e => ?_) (fun e => ?_)
      · have h : (4000 : Int) < (c : Int) + d.length := of_decide_eq_true e
        refine ⟨.int c, rfl, .ref b, rfl, b, _, rfl, .inl (sq_at hb1), _, _, rfl, rfl, by show (3 : Nat) ≤ sizeLine; omega, fun u nu => ?_⟩
        rw [ll]
        exact q2 d rfl bd d0 (by omega) _ u (sm.free nu) (by rw [upd_same]; rfl) (sm.trans (Kp.new (ps := []) nu).same)
      · have h : ¬ (4000 : Int) < (c : Int) + d.length := fun z => e (decide_eq_true z)
        refine ⟨.ref b, rfl, b, _, rfl, .inl (sq_at hb1), by show (2 : Nat) ≤ sizeLine; omega, fun u nu => ?_⟩
        rw [ll]
        exact q d rfl bd (fun _ => by omega) _ u (sm.free nu) upd_same (sm.trans (Kp.new (ps := []) nu).same)

theorem ok_reads (T : Tx K mg) : FnOk P w K mg base (L2.CX P w) 4 T.f_reads T.fd_reads P_reads (spReads22 (PlainAt T.C_Plain) T.C_BadCount) := by
  have G_read := ok_read (P := P) (w := w) (base := base) T
  have G_rsome := ok_rsome (P := P) (w := w) (base := base) T
  have G_peek := ok_peek (P := P) (w := w) (base := base) T
  have G_rline := ok_rline (P := P) (w := w) (base := base) T
  have sz : sizeLine = 16777216 := sizeLine_eq
  refine T.D_reads.F.okX sc_reads (fun vs H Q E h => ?_) (fun cdv A outer s H vs Q E hr h => ?_)
  · obtain ⟨p, F, r, c, w, n, rfl, _⟩ := h
    rfl
  · obtain ⟨p, F, r, c, w, n, rfl, hPA, lr, w3, q, e1⟩ := h
    refine ⟨_, (pss_cons (ps_if (pt_cmpR op_eq (pv 1) pe_int (nomark _)) (pss_one (ps_ret (pe_meth (pv 0) T.cl_Plain T.D_read.m G_read (hr.mono (by decide)) T.bb_read .nil (Sip.passX (takes_of rfl rfl rfl rfl)) (pa_cons (pv 2) pa_nil)))) pss_nil)
      (pss_cons (ps_if (pt_cmpR op_eq (pv 1) pe_int (nomark _)) (pss_one (ps_ret (pe_meth (pv 0) T.cl_Plain T.D_rsome.m G_rsome (hr.mono (by decide)) T.bb_rsome .nil (Sip.passX (takes_of rfl rfl rfl rfl)) (pa_cons (pv 2) pa_nil)))) pss_nil)
      (pss_cons (ps_if (pt_cmpR op_eq (pv 1) pe_int (nomark _)) (pss_one (ps_ret (pe_meth (pv 0) T.cl_Plain T.D_peek.m G_peek (hr.mono (by decide)) T.bb_peek .nil (Sip.passX (takes_of rfl rfl rfl rfl)) (pa_cons (pv 2) pa_nil)))) pss_nil)
      (pss_one (ps_ret (pe_meth (pv 0) T.cl_Plain T.D_rline.m G_rline (hr.mono (by decide)) T.bb_rline .nil (Sip.passX (takes_of rfl rfl rfl rfl)) (pa_cons (pv 2) pa_nil))))))), ?_⟩
    obtain ⟨dx, fs, hi, no⟩ := (isPlain T.C_Plain).ins hPA
    have dl : (r.drop c).length = r.length - c := List.length_drop
    rcases (show w = 0 ∨ w = 1 ∨ w = 2 ∨ w = 3 by omega) with rfl | rfl | rfl | rfl
    · refine ⟨_, rfl, rfl, _, rfl, iteTc (by decide) ?_⟩
      exact ⟨.ref p, rfl, p, dx, fs, rfl, hi, no "read" (by decide +kernel), .int n, rfl, p, F, r, c, n, rfl, hPA, lr, fun n0 H1 F1 x hPA1 nx nF ex st => q n0 H1 F1 x _ hPA1 nx nF ex (by have := readF0_le n.toNat (r.drop c); omega) st, e1⟩
    · refine ⟨_, rfl, rfl, _, rfl, iteFc (by decide) ?_⟩
      refine ⟨_, rfl, rfl, _, rfl, iteTc (by decide) ?_⟩
      exact ⟨.ref p, rfl, p, dx, fs, rfl, hi, no "read_some" (by decide +kernel), .int n, rfl, p, F, r, c, n, rfl, hPA, lr, fun n0 H1 F1 x hPA1 nx nF ex st => q n0 H1 F1 x _ hPA1 nx nF ex (by have := readF0_le n.toNat (r.drop c); omega) st, e1⟩
    · refine ⟨_, rfl, rfl, _, rfl, iteFc (by decide) ?_⟩
      refine ⟨_, rfl, rfl, _, rfl, iteFc (by decide) ?_⟩
      refine ⟨_, rfl, rfl, _, rfl, iteTc (by decide) ?_⟩
      exact ⟨.ref p, rfl, p, dx, fs, rfl, hi, no "peek" (by decide +kernel), .int n, rfl, p, F, r, c, n, rfl, hPA, fun n0 H1 x nx ex s1 => q n0 H1 F x _ ((isPlain T.C_Plain).same hPA s1) nx ((isPlain T.C_Plain).new hPA nx) ex (by have := readF0_le n.toNat (r.drop c); exact Nat.le_trans this (by omega)) (Step.of s1), e1⟩
    · refine ⟨_, rfl, rfl, _, rfl, iteFc (by decide) ?_⟩
      refine ⟨_, rfl, rfl, _, rfl, iteFc (by decide) ?_⟩
      refine ⟨_, rfl, rfl, _, rfl, iteFc (by decide) ?_⟩
      exact ⟨.ref p, rfl, p, dx, fs, rfl, hi, no "readline" (by decide +kernel), .int n, rfl, p, F, r, c, n, rfl, hPA, lr, fun n0 H1 F1 x hPA1 nx nF ex st => q n0 H1 F1 x _ hPA1 nx nF ex (by have := lineF0_le n.toNat (r.drop c); omega) st, e1⟩

theorem ok_does (T : Tx K mg) : FnOk P w K mg base (L2.CX P w) 7 T.f_does T.fd_does P_does (spDoes22 (PlainAt T.C_Plain) T.C_BadCount T.C_NotByte T.C_TooLong T.C_BadStart T.C_BadPlace) := by
  have G_write := ok_write (P := P) (w := w) (base := base) T
  have G_seek := ok_seek (P := P) (w := w) (base := base) T
  have G_pcut := ok_pcut (P := P) (w := w) (base := base) T
  have G_reads := ok_reads (P := P) (w := w) (base := base) T
  have sz : sizeLine = 16777216 := sizeLine_eq
  refine T.D_does.F.okX sc_does (fun vs H Q E h => ?_) (fun cdv A outer s H vs Q E hr h => ?_)
  · obtain ⟨p, t, F, r, c, D, rfl, _⟩ := h
    rfl
  · obtain ⟨p, t, F, r, c, D, rfl, hPA, ht, hv, nb, lr, lc, q⟩ := h
    refine ⟨_, (pss_cons (ps_if (pt_cmpR op_eq (pe_ix ix_tup (pv 1) pe_int (fun _ _ => rfl)) pe_str (nomark _)) (pss_one (ps_ret (pe_meth (pv 0) T.cl_Plain T.D_write.m G_write (hr.mono (by decide)) T.bb_write .nil (Sip.passX (takes_of rfl rfl rfl rfl)) (pa_cons (pe_callTy call_list_of (by rfl) T.m_list (by decide +kernel) (pa_cons (pe_ix ix_tup (pv 1) pe_int (fun _ _ => rfl)) pa_nil)) pa_nil)))) pss_nil)
      (pss_cons (ps_if (pt_cmpR op_eq (pe_ix ix_tup (pv 1) pe_int (fun _ _ => rfl)) pe_str (nomark _)) (pss_one (ps_ret (Sip.pe_methN (pv 0) T.cl_Plain T.D_seek.m G_seek (hr.mono (by decide)) T.kb_seek_1_start (Sip.passX (takes_of rfl rfl rfl rfl)) (pa_cons (pe_ix ix_tup (pv 1) pe_int (fun _ _ => rfl)) pa_nil) (pk_cons (pe_ix ix_tup (pv 1) pe_int (fun _ _ => rfl)) pk_nil)))) pss_nil)
      (pss_cons (ps_if (pt_cmpR op_eq (pe_ix ix_tup (pv 1) pe_int (fun _ _ => rfl)) pe_str (nomark _)) (pss_one (ps_ret (pe_meth (pv 0) T.cl_Plain T.D_pcut.m G_pcut (hr.mono (by decide)) T.bb_pcut .nil (Sip.passX (takes_of rfl rfl rfl rfl)) (pa_cons (pe_ix ix_tup (pv 1) pe_int (fun _ _ => rfl)) pa_nil)))) pss_nil)
      (pss_one (ps_ret (pe_call G_reads (hr.mono (by decide)) (by rfl) T.D_reads.g T.D_reads.F.kp T.bb_reads .nil (Sip.passX (takes_of rfl rfl rfl rfl)) (pa_cons (pv 0) (pa_cons (pe_ix ix_tup (pv 1) pe_int (fun _ _ => rfl)) (pa_cons (pe_ix ix_tup (pv 1) pe_int (fun _ _ => rfl)) pa_nil))))))))), ?_⟩
    obtain ⟨dx, fs, hi, no⟩ := (isPlain T.C_Plain).ins hPA
    cases D with
    | wr b ts =>
      refine ⟨.ref t, rfl, t, _, _, .str (Str.ofString "write"), rfl, rfl, .inl (.inl ht), rfl, rfl, _, rfl,  iteTc (by decide +kernel) ?_⟩
      refine ⟨.ref p, rfl, p, dx, fs, rfl, hi, no "write" (by decide +kernel), .ref t, rfl, t, _, _, .ref b, rfl, rfl, .inl (.inl ht), rfl, b, _, rfl, .inl (sq_at hv.1), fun h nh => ?_⟩
      have s1 := (Kp.new (ps := []) (o := HO.lst (ts.map thV)) nh).same
      obtain ⟨q1, q2, q3⟩ := q
      exact ⟨p, h, F, r, c, ts, rfl, (isPlain T.C_Plain).same hPA s1, (isPlain T.C_Plain).new hPA nh, upd_same, lr, lc, by have := hv.2; omega, fun d e bd fit H' F' hPA' st => q1 d e bd fit H' F' hPA' ((Step.of s1).trans st), fun d e bd d0 big => (q2 d e bd d0 big).of s1, fun k t hk ht ho => (q3 k t hk ht ho).of s1⟩
    | sk pl st =>
      refine ⟨.ref t, rfl, t, _, _, .str (Str.ofString "seek"), rfl, rfl, .inl (.inl ht), rfl, rfl, _, rfl,  iteFc (by decide +kernel) ?_⟩
      refine ⟨.ref t, rfl, t, _, _, .str (Str.ofString "seek"), rfl, rfl, .inl (.inl ht), rfl, rfl, _, rfl,  iteTc (by decide +kernel) ?_⟩
      exact ⟨.ref p, rfl, p, dx, fs, rfl, hi, no "seek" (by decide +kernel), .ref t, rfl, t, _, _, .int pl, rfl, rfl, .inl (.inl ht), rfl, .ref t, rfl, t, _, _, .str st, rfl, rfl, .inl (.inl ht), rfl, rfl, rfl, p, F, r, c, pl, st, rfl, hPA, q.1, q.2⟩
    | ct g =>
      refine ⟨.ref t, rfl, t, _, _, .str (Str.ofString "cut"), rfl, rfl, .inl (.inl ht), rfl, rfl, _, rfl,  iteFc (by decide +kernel) ?_⟩
      refine ⟨.ref t, rfl, t, _, _, .str (Str.ofString "cut"), rfl, rfl, .inl (.inl ht), rfl, rfl, _, rfl,  iteFc (by decide +kernel) ?_⟩
      refine ⟨.ref t, rfl, t, _, _, .str (Str.ofString "cut"), rfl, rfl, .inl (.inl ht), rfl, rfl, _, rfl,  iteTc (by decide +kernel) ?_⟩
      exact ⟨.ref p, rfl, p, dx, fs, rfl, hi, no "cut" (by decide +kernel), .ref t, rfl, t, _, _, .int g, rfl, rfl, .inl (.inl ht), rfl, p, F, r, c, g, rfl, hPA, q.1, q.2.1, q.2.2⟩
    | rd w n =>
      refine ⟨.ref t, rfl, t, _, _, .str (Str.ofString "reads"), rfl, rfl, .inl (.inl ht), rfl, rfl, _, rfl,  iteFc (by decide +kernel) ?_⟩
      refine ⟨.ref t, rfl, t, _, _, .str (Str.ofString "reads"), rfl, rfl, .inl (.inl ht), rfl, rfl, _, rfl,  iteFc (by decide +kernel) ?_⟩
      refine ⟨.ref t, rfl, t, _, _, .str (Str.ofString "reads"), rfl, rfl, .inl (.inl ht), rfl, rfl, _, rfl,  iteFc (by decide +kernel) ?_⟩
      exact ⟨.ref p, rfl, .ref t, rfl, t, _, _, .int w, rfl, rfl, .inl (.inl ht), rfl, .ref t, rfl, t, _, _, .int n, rfl, rfl, .inl (.inl ht), rfl, p, F, r, c, w, n, rfl, hPA, lr, hv, q⟩

theorem ok_tries (T : Tx K mg) : FnOk P w K mg base CX0 8 T.f_tries T.fd_tries P_tries (spTries22 (PlainAt T.C_Plain)) := by
  have G_does := ok_does (P := P) (w := w) (base := base) T
  have sz : sizeLine = 16777216 := sizeLine_eq
  refine T.D_tries.F.ok sc_tries (fun vs H Q E h => ?_) (fun cdv A outer s H vs Q E hr h => ?_)
  · obtain ⟨p, t, F, r, c, D, rfl, _⟩ := h
    rfl
  · obtain ⟨p, t, F, r, c, D, rfl, hPA, ht, hv, nb, lr, lc, q⟩ := h
    refine ⟨_, (pss_cons (ps_set (i := 2) sc_tries.nd rfl (.inl rfl) pe_non)
      (pss_cons (Sip.ps_try_mix rfl rfl takes0 (fun W pn xe tk _ => (pss_one (ps_set (i := 2) sc_tries.nd rfl (.inl rfl) (pe_tup (pa_cons pe_str (pa_cons (by exact (pe_callS G_does (hr.mono (by decide)) (by rfl) T.D_does.g T.D_does.F.kp T.bb_does (fun σ => passAt tk σ) (by exact (pa_cons (pv 0) (pa_cons (pv 1) pa_nil))))) pa_nil)))))) (Sip.ClsOk.cons (o := none) ⟨rfl, by decide, .inl T.g_BadCount⟩ trivial (fun a oe cls d pn hz hf => (pss_one (ps_set (i := 2) sc_tries.nd rfl (.inl rfl) (pe_tup (pa_cons pe_str (pa_cons pe_str (pa_cons pe_non pa_nil))))))) (Sip.ClsOk.cons (o := some 3) ⟨rfl, by decide, .inl T.g_NotByte⟩ ⟨sc_tries.nd, rfl, rfl⟩ (fun a oe cls d pn hz hf => (pss_one (ps_set (i := 2) sc_tries.nd rfl (.inl rfl) (pe_tup (pa_cons pe_str (pa_cons pe_str (pa_cons (show PE _ _ (Sip.tXf K "at" a cls d _) from Sip.pe_xf (f := "at") hz hf (pv 3)) pa_nil))))))) (Sip.ClsOk.cons (o := some 3) ⟨rfl, by decide, .inl T.g_TooLong⟩ ⟨sc_tries.nd, rfl, rfl⟩ (fun a oe cls d pn hz hf => (pss_one (ps_set (i := 2) sc_tries.nd rfl (.inl rfl) (pe_tup (pa_cons pe_str (pa_cons pe_str (pa_cons (show PE _ _ (Sip.tXf K "length" a cls d _) from Sip.pe_xf (f := "length") hz hf (pv 3)) pa_nil))))))) (Sip.ClsOk.cons (o := none) ⟨rfl, by decide, .inl T.g_BadStart⟩ trivial (fun a oe cls d pn hz hf => (pss_one (ps_set (i := 2) sc_tries.nd rfl (.inl rfl) (pe_tup (pa_cons pe_str (pa_cons pe_str (pa_cons pe_non pa_nil))))))) (Sip.ClsOk.cons (o := some 3) ⟨rfl, by decide, .inl T.g_BadPlace⟩ ⟨sc_tries.nd, rfl, rfl⟩ (fun a oe cls d pn hz hf => (pss_one (ps_set (i := 2) sc_tries.nd rfl (.inl rfl) (pe_tup (pa_cons pe_str (pa_cons pe_str (pa_cons (show PE _ _ (Sip.tXf K "goal" a cls d _) from Sip.pe_xf (f := "goal") hz hf (pv 3)) pa_nil))))))) Sip.ClsOk.nil))))))
      (pss_one (ps_ret (pv 2))))), ?_⟩
    refine ⟨_, rfl, _, rfl, p, t, F, r, c, D, rfl, hPA, ht, hv, nb, lr, lc, Outs.mono q (fun v H1 q1 => ?_) (fun q1 H1 s1 => ?_) (fun q1 H1 s1 => ?_) (fun v q1 H1 d s1 hd => ?_) (fun v q1 H1 d s1 hd => ?_) (fun v q1 H1 d s1 hd => ?_)⟩
    · exact ⟨by show (2 : Nat) ≤ sizeLine; omega, fun u nu => ⟨_, rfl, q1 _ u upd_same (Kp.new (ps := []) nu).same⟩⟩
    · refine ⟨true, T.te_BadCount_BadCount, fun _ e ne => ?_, fun h => nomatch h⟩
      refine ⟨by show (3 : Nat) ≤ sizeLine; omega, fun u nu => ?_⟩
      exact ⟨_, rfl, q1 _ u upd_same (s1.trans (Kp.new (ps := []) nu).same)⟩
    · refine ⟨false, T.te_BadStart_BadCount, (fun h => nomatch h), fun _ => ⟨false, T.te_BadStart_NotByte, (fun h => nomatch h), fun _ => ⟨false, T.te_BadStart_TooLong, (fun h => nomatch h), fun _ => ⟨true, T.te_BadStart_BadStart, fun _ e ne => ?_, fun h => nomatch h⟩⟩⟩⟩
      refine ⟨by show (3 : Nat) ≤ sizeLine; omega, fun u nu => ?_⟩
      exact ⟨_, rfl, q1 _ u upd_same (s1.trans (Kp.new (ps := []) nu).same)⟩
    · refine ⟨false, T.te_NotByte_BadCount, (fun h => nomatch h), fun _ => ⟨true, T.te_NotByte_NotByte, fun _ e ne => ?_, fun h => nomatch h⟩⟩
      refine ⟨.ref e, rfl, T.C_NotByte, d, _, v, rfl, rfl, T.e_NotByte, T.n_NotByte, rfl, hd, (by kernel_rfl), by show (3 : Nat) ≤ sizeLine; omega, fun u nu => ?_⟩
      exact ⟨_, rfl, q1 _ u upd_same (s1.trans (Kp.new (ps := []) nu).same)⟩
    · refine ⟨false, T.te_TooLong_BadCount, (fun h => nomatch h), fun _ => ⟨false, T.te_TooLong_NotByte, (fun h => nomatch h), fun _ => ⟨true, T.te_TooLong_TooLong, fun _ e ne => ?_, fun h => nomatch h⟩⟩⟩
      refine ⟨.ref e, rfl, T.C_TooLong, d, _, v, rfl, rfl, T.e_TooLong, T.n_TooLong, rfl, hd, (by kernel_rfl), by show (3 : Nat) ≤ sizeLine; omega, fun u nu => ?_⟩
      exact ⟨_, rfl, q1 _ u upd_same (s1.trans (Kp.new (ps := []) nu).same)⟩
    · refine ⟨false, T.te_BadPlace_BadCount, (fun h => nomatch h), fun _ => ⟨false, T.te_BadPlace_NotByte, (fun h => nomatch h), fun _ => ⟨false, T.te_BadPlace_TooLong, (fun h => nomatch h), fun _ => ⟨false, T.te_BadPlace_BadStart, (fun h => nomatch h), fun _ => ⟨true, T.te_BadPlace_BadPlace, fun _ e ne => ?_, fun h => nomatch h⟩⟩⟩⟩⟩
      refine ⟨.ref e, rfl, T.C_BadPlace, d, _, v, rfl, rfl, T.e_BadPlace, T.n_BadPlace, rfl, hd, (by kernel_rfl), by show (3 : Nat) ≤ sizeLine; omega, fun u nu => ?_⟩
      exact ⟨_, rfl, q1 _ u upd_same (s1.trans (Kp.new (ps := []) nu).same)⟩

theorem ok_due (T : Tx K mg) : FnOk P w K mg base CX0 3 T.f_due T.fd_due P_due (spDue22 K) := by
  have G_wdue := ok_wdue (P := P) (w := w) (base := base) T
  have G_pdue := ok_pdue (P := P) (w := w) (base := base) T
  have sz : sizeLine = 16777216 := sizeLine_eq
  refine T.D_due.F.ok sc_due (fun vs H Q E h => ?_) (fun cdv A outer s H vs Q E hr h => ?_)
  · obtain ⟨x, t, r, c, D, rfl, _⟩ := h
    rfl
  · obtain ⟨x, t, r, c, D, rfl, hx, ht, hv, lc, q⟩ := h
    refine ⟨_, (pss_cons (ps_if (pt_cmpR op_eq (pe_ix ix_tup (pv 2) pe_int (fun _ _ => rfl)) pe_str (nomark _)) (pss_one (ps_ret (pe_call G_wdue (hr.mono (by decide)) (by rfl) T.D_wdue.g T.D_wdue.F.kp T.bb_wdue .nil pass0 (pa_cons (pv 0) (pa_cons (pv 1) (pa_cons (pe_ix ix_tup (pv 2) pe_int (fun _ _ => rfl)) pa_nil)))))) pss_nil)
      (pss_cons (ps_if (pt_cmpR op_eq (pe_ix ix_tup (pv 2) pe_int (fun _ _ => rfl)) pe_str (nomark _)) (pss_cons (ps_if (pt_cmpR op_notIn_seq (pe_ix ix_tup (pv 2) pe_int (fun _ _ => rfl)) (pe_lst (pa_cons pe_str (pa_cons pe_str (pa_cons pe_str pa_nil)))) rfl) (pss_one (ps_ret (pe_tup (pa_cons pe_str (pa_cons pe_str (pa_cons pe_non pa_nil)))))) pss_nil)
      (pss_one (ps_ret (pe_call G_pdue (hr.mono (by decide)) (by rfl) T.D_pdue.g T.D_pdue.F.kp T.bb_pdue .nil pass0 (pa_cons (pe_op op_add (pe_ix ix_tup (pv 2) pe_int (fun _ _ => rfl)) (pe_dget2 (hu_of hr) (pe_disp (pps_cons pe_str (pv 1) (pps_cons pe_str (pe_callB call_len_seq (by rfl) T.m_len PySem.boot_len (pa_cons (pv 0) pa_nil)) pps_nil)) (by rfl) (by rfl) (fun z => by cases z) (by decide)) (pe_ix ix_tup (pv 2) pe_int (fun _ _ => rfl)) pe_int ⟨rfl, rfl, rfl, rfl⟩)) pa_nil))))) pss_nil)
      (pss_cons (ps_if (pt_cmpR op_eq (pe_ix ix_tup (pv 2) pe_int (fun _ _ => rfl)) pe_str (nomark _)) (pss_cons (ps_set (i := 3) sc_due.nd rfl (.inl rfl) (pe_call G_pdue (hr.mono (by decide)) (by rfl) T.D_pdue.g T.D_pdue.F.kp T.bb_pdue .nil pass0 (pa_cons (pe_ix ix_tup (pv 2) pe_int (fun _ _ => rfl)) pa_nil)))
      (pss_one (ps_ret (pe_ix ix_list (pe_lst (pa_cons (pv 3) (pa_cons (pe_tup (pa_cons pe_str (pa_cons pe_non pa_nil))) pa_nil))) (pe_callTy call_int1 (by rfl) T.m_int (by decide +kernel) (pa_cons (pe_cmpR op_eq (pe_ix ix_tup (pv 3) pe_int (fun _ _ => rfl)) pe_str (nomark _)) pa_nil)) (fun _ _ => rfl))))) pss_nil)
      (pss_cons (ps_if (pt_cmpR op_lt (pe_ix ix_tup (pv 2) pe_int (fun _ _ => rfl)) pe_int (nomark _)) (pss_one (ps_ret (pe_tup (pa_cons pe_str (pa_cons pe_str (pa_cons pe_non pa_nil)))))) pss_nil)
      (pss_one (ps_ret (pe_tup (pa_cons pe_str (pa_cons pe_str pa_nil))))))))), ?_⟩
    cases D with
    | wr b ts =>
      refine ⟨.ref t, rfl, t, _, _, .str (Str.ofString "write"), rfl, rfl, .inl (.inl ht), rfl, rfl, _, rfl,  iteTc (by decide +kernel) ?_⟩
      exact ⟨.ref x, rfl, .int c, rfl, .ref t, rfl, t, _, _, .ref b, rfl, rfl, .inl (.inl ht), rfl, x, b, c, ts, rfl, hv.1, by have := hv.2; omega, lc, fun d e bd fit => q.1 d e bd fit, fun d e bd d0 big => q.2.1 d e bd d0 big, fun k t hk ht ho => q.2.2 k t hk ht ho⟩
    | sk pl st =>
      refine ⟨.ref t, rfl, t, _, _, .str (Str.ofString "seek"), rfl, rfl, .inl (.inl ht), rfl, rfl, _, rfl,  iteFc (by decide +kernel) ?_⟩
      refine ⟨.ref t, rfl, t, _, _, .str (Str.ofString "seek"), rfl, rfl, .inl (.inl ht), rfl, rfl, _, rfl,  iteTc (by decide +kernel) ?_⟩
      refine ⟨.ref t, rfl, t, _, _, .str st, rfl, rfl, .inl (.inl ht), rfl, by show (3 : Nat) ≤ sizeLine; omega, fun l nl => ?_⟩
      have c1 := (Kp.new (ps := []) (o := HO.lst [.str (Str.ofString "head"), .str (Str.ofString "here"), .str (Str.ofString "tail")]) nl).same
      refine ⟨l, _, rfl, .inl sq_new, rfl, rfl, _, rfl, ?_⟩
      rw [goal_in (pl := pl) (c := c) (n := r.length)]
      cases hg : goalF pl st c r.length with
      | none =>
        refine iteT ⟨by show (3 : Nat) ≤ sizeLine; omega, fun u nu => q.1 hg _ u (c1.free nu) upd_same (c1.trans (Kp.new (ps := []) nu).same)⟩
      | some g =>
        refine iteF ?_
        refine ⟨.ref t, rfl, t, _, _, .int pl, rfl, rfl, .inl (.inl (c1 _ _ ht)), rfl, ?_⟩
        intro d nd
        have s2 := (Kp.new (ps := []) (o := HO.dK []) nd).same
        refine ⟨_, rfl, .ref x, rfl, x, _, rfl, .inl (sq_at (s2 _ _ (c1 _ _ hx))), ?_⟩
        refine ⟨upd_same, twoK r c, rfl, by show (2 : Nat) ≤ 15; decide, ?_⟩
        rw [L2.upd_upd]
        have s3 := (Kp.new (ps := []) (o := HO.dK (mergeK [] (twoK r c))) nd).same
        refine ⟨d, rfl, .inl ⟨_, .inl upd_same⟩, .ref t, rfl, t, _, _, .str st, rfl, rfl, .inl (.inl (s3 _ _ (c1 _ _ ht))), rfl, _, DGet.k (k := Sum.inr st) upd_same, ?_⟩
        rw [two_val hg]
        have s4 := c1.trans s3
        refine ⟨_, _, rfl, rfl, pl + (g - pl), rfl, fun H' u nu eu s5 => q.2 g hg H' u (s4.free nu) ?_ (s4.trans s5)⟩
        rw [eu, show pl + (g - pl) = g by omega]
    | ct g =>
      refine ⟨.ref t, rfl, t, _, _, .str (Str.ofString "cut"), rfl, rfl, .inl (.inl ht), rfl, rfl, _, rfl,  iteFc (by decide +kernel) ?_⟩
      refine ⟨.ref t, rfl, t, _, _, .str (Str.ofString "cut"), rfl, rfl, .inl (.inl ht), rfl, rfl, _, rfl,  iteFc (by decide +kernel) ?_⟩
      refine ⟨.ref t, rfl, t, _, _, .str (Str.ofString "cut"), rfl, rfl, .inl (.inl ht), rfl, rfl, _, rfl,  iteTc (by decide +kernel) ?_⟩
      refine ⟨.ref t, rfl, t, _, _, .int g, rfl, rfl, .inl (.inl ht), rfl, g, rfl, fun H1 u nu eu s1 => ?_⟩
      have e0 : ∃ w0 rest, pdueL g = .str w0 :: rest ∧ (w0 = Str.ofString "told" ↔ 0 ≤ g ∧ g ≤ 4000) := by
        unfold pdueL
        by_cases h1 : g < 0
        · rw [if_pos h1]; exact ⟨_, _, rfl, fun z => absurd z (by decide +kernel), fun z => by omega⟩
        rw [if_neg h1]
        by_cases h2 : 4000 < g
        · rw [if_pos h2]; exact ⟨_, _, rfl, fun z => absurd z (by decide +kernel), fun z => by omega⟩
        rw [if_neg h2]; exact ⟨_, _, rfl, fun _ => by omega, fun _ => rfl⟩
      obtain ⟨w0, rest, ep, hw⟩ := e0
      refine ⟨_, rfl, by show (2 : Nat) ≤ sizeLine; omega, fun v nv => ?_⟩
      have c1 := (Kp.new (ps := []) (o := HO.tup [.str (Str.ofString "told"), .non]) nv).same
      refine ⟨by show (2 : Nat) ≤ sizeLine; omega, fun l nl => ?_⟩
      have c2 := (Kp.new (ps := []) (o := HO.lst [.ref u, .ref v]) nl).same
      have eu1 := eu
      rw [ep] at eu1
      refine ⟨.ref u, rfl, u, _, _, .str w0, rfl, rfl, .inl (.inl (c2 _ _ (c1 _ _ eu1))), (show atI (V.str w0 :: rest) ((0 : Nat) : Int) = some (V.str w0) from atI_nat rfl), rfl, .inr ⟨_, rfl, ?_⟩⟩
      have s3 := (s1.trans c1).trans c2
      by_cases hg : 0 ≤ g ∧ g ≤ 4000
      · have := hw.mpr hg
        subst this
        refine ⟨l, _, _, .ref v, rfl, rfl, .inl (.inl upd_same), rfl, ?_⟩
        exact q.1 hg.1 hg.2 _ v (s1.free nv) (c2 _ _ upd_same) s3
      · have hn : ¬ w0 = Str.ofString "told" := fun z => hg (hw.mp z)
        rw [decide_eq_false (fun z => hn (V.str.inj z))]
        refine ⟨l, _, _, .ref u, rfl, rfl, .inl (.inl upd_same), rfl, ?_⟩
        exact q.2 (by omega) _ u nu (c2 _ _ (c1 _ _ eu)) s3
    | rd w n =>
      refine ⟨.ref t, rfl, t, _, _, .str (Str.ofString "reads"), rfl, rfl, .inl (.inl ht), rfl, rfl, _, rfl,  iteFc (by decide +kernel) ?_⟩
      refine ⟨.ref t, rfl, t, _, _, .str (Str.ofString "reads"), rfl, rfl, .inl (.inl ht), rfl, rfl, _, rfl,  iteFc (by decide +kernel) ?_⟩
      refine ⟨.ref t, rfl, t, _, _, .str (Str.ofString "reads"), rfl, rfl, .inl (.inl ht), rfl, rfl, _, rfl,  iteFc (by decide +kernel) ?_⟩
      refine ⟨.ref t, rfl, t, _, _, .int n, rfl, rfl, .inl (.inl ht), rfl, _, _, rfl, rfl, _, rfl, ite2 (fun e => ?_) (fun e => ?_)⟩
      · exact ⟨by show (3 : Nat) ≤ sizeLine; omega, fun u nu => q.2 (of_decide_eq_true e) _ u nu upd_same (Kp.new (ps := []) nu).same⟩
      · have h : ¬ n < 0 := fun z => e (decide_eq_true z)
        exact ⟨by show (2 : Nat) ≤ sizeLine; omega, fun u nu => q.1 (by omega) _ u nu upd_same (Kp.new (ps := []) nu).same⟩

theorem ok_deed (T : Tx K mg) : FnOk P w K mg base CX0 4 T.f_deed T.fd_deed P_deed (spDeed22 K) := by
  have G_take := ok_take (P := P) (w := w) (base := base) T
  have G_goal := ok_goal (P := P) (w := w) (base := base) T
  have G_things := ok_things (P := P) (w := w) (base := base) T
  have sz : sizeLine = 16777216 := sizeLine_eq
  refine T.D_deed.F.ok sc_deed (fun vs H Q E h => ?_) (fun cdv A outer s H vs Q E hr h => ?_)
  · obtain ⟨p, x, n, o, r, c, rfl, _⟩ := h
    rfl
  · obtain ⟨p, x, n, o, r, c, rfl, px, hp, hP, n9, hx, lr, lc, q⟩ := h
    refine ⟨_, (pss_cons (ps_set (i := 3) sc_deed.nd rfl (.inl rfl) (pe_call G_take (hr.mono (by decide)) (by rfl) T.D_take.g T.D_take.F.kp T.bb_take .nil pass0 (pa_cons (pv 0) (pa_cons pe_int pa_nil))))
      (pss_cons (ps_if (pt_cmpR op_lt (pv 3) pe_int (nomark _)) (pss_one (ps_ret (pe_tup (pa_cons pe_str (pa_cons (pe_call G_things (hr.mono (by decide)) (by rfl) T.D_things.g T.D_things.F.kp T.bb_things .nil pass0 (pa_cons (pv 0) pa_nil)) pa_nil))))) pss_nil)
      (pss_cons (ps_if (pt_cmpR op_lt (pv 3) pe_int (nomark _)) (pss_cons (ps_set (i := 4) sc_deed.nd rfl (.inl rfl) (pe_ix ix_list (pe_lst (pa_cons pe_str (pa_cons pe_str (pa_cons pe_str (pa_cons pe_str (pa_cons pe_str (pa_cons pe_str pa_nil))))))) (pe_call G_take (hr.mono (by decide)) (by rfl) T.D_take.g T.D_take.F.kp T.bb_take .nil pass0 (pa_cons (pv 0) (pa_cons pe_int pa_nil))) (fun _ _ => rfl)))
      (pss_cons (ps_set (i := 5) sc_deed.nd rfl (.inl rfl) (pe_call G_goal (hr.mono (by decide)) (by rfl) T.D_goal.g T.D_goal.F.kp T.bb_goal .nil pass0 (pa_cons (pv 0) (pa_cons (pv 1) (pa_cons (pv 2) pa_nil)))))
      (pss_one (ps_ret (pe_tup (pa_cons pe_str (pa_cons (pe_op op_sub (pv 5) (pe_dget2 (hu_of hr) (pe_disp (pps_cons pe_str (pv 2) (pps_cons pe_str (pe_callB call_len_seq (by rfl) T.m_len PySem.boot_len (pa_cons (pv 1) pa_nil)) pps_nil)) (by rfl) (by rfl) (fun z => by cases z) (by decide)) (pv 4) pe_int ⟨rfl, rfl, rfl, rfl⟩)) (pa_cons (pv 4) pa_nil)))))))) pss_nil)
      (pss_cons (ps_if (pt_cmpR op_eq (pv 3) pe_int (nomark _)) (pss_one (ps_ret (pe_tup (pa_cons pe_str (pa_cons (pe_call G_goal (hr.mono (by decide)) (by rfl) T.D_goal.g T.D_goal.F.kp T.bb_goal .nil pass0 (pa_cons (pv 0) (pa_cons (pv 1) (pa_cons (pv 2) pa_nil)))) pa_nil))))) pss_nil)
      (pss_one (ps_ret (pe_tup (pa_cons pe_str (pa_cons (pe_call G_take (hr.mono (by decide)) (by rfl) T.D_take.g T.D_take.F.kp T.bb_take .nil pass0 (pa_cons (pv 0) (pa_cons pe_int pa_nil))) (pa_cons (pe_ix ix_list (pe_lst (pa_cons (pe_un un_neg pe_int) (pa_cons (pe_un un_neg pe_int) (pa_cons (pe_un un_neg (pe_op op_pow pe_int pe_int)) (pa_cons pe_int (pa_cons pe_int (pa_cons pe_int pa_nil))))))) (pe_call G_take (hr.mono (by decide)) (by rfl) T.D_take.g T.D_take.F.kp T.bb_take .nil pass0 (pa_cons (pv 0) (pa_cons pe_int pa_nil))) (fun _ _ => rfl)) pa_nil)))))))))), ?_⟩
    refine ⟨.ref p, rfl, p, n, 7, o, rfl, hp, hP, by omega, by decide, by decide, fun w o1 w0 w1 hP1 => ?_⟩
    have ep1 : (upd H p o1) p = some o1 := upd_same
    have k1 : Kp [p] H (upd H p o1) := Kp.at (by simp)
    have ex1 : (upd H p o1) x = some (.lst (r.map V.int)) := by rw [upd_ne px.symm]; exact hx
    generalize upd H p o1 = H1 at ep1 k1 ex1 ⊢
    have new : ∀ {H' : Hp} {t : Addr}, Kp [p] H H' → H' p ≠ none → H' t = none → H t = none := fun {H' t} kk hn nt => by
      cases e : H t with
      | none => rfl
      | some o =>
        by_cases z : t = p
        · subst z; exact absurd nt hn
        · rw [kk t o (by simpa using z) e] at nt; cases nt
    refine ⟨.int w, rfl, _, _, rfl, rfl, _, rfl, ite2 (fun _ => ?_) (fun _ => ?_)⟩
    · refine ⟨.ref p, rfl, p, _, o1, rfl, ep1, hP1, by omega, fun H2 b ts nb eb lt k2 np2 => ?_⟩
      refine ⟨by show (2 : Nat) ≤ sizeLine; omega, fun t nt => ?_⟩
      have c3 := (Kp.new (ps := []) (o := HO.tup [.str (Str.ofString "write"), .ref b]) nt).same
      have np1 : H1 p ≠ none := by rw [ep1]; exact fun z => nomatch z
      exact q _ t (.wr b ts) upd_same ⟨c3 _ _ eb, lt⟩ (fun b' ts' e => by cases e; exact new k1 np1 nb) (new (k1.trans k2) np2 nt) ((k1.trans k2).trans (Kp.of c3))
    refine ⟨.int w, rfl, _, _, rfl, rfl, _, rfl, ite2 (fun _ => ?_) (fun _ => ?_)⟩
    · refine ⟨by show (6 : Nat) ≤ sizeLine; omega, fun l nl => ?_⟩
      have pl : p ≠ l := ne_of_none ep1 nl
      have xl : x ≠ l := ne_of_none ex1 nl
      refine ⟨.ref p, rfl, p, _, 6, o1, rfl, by rw [upd_ne pl]; exact ep1, hP1, by omega, by decide, by decide, fun v o2 v0 v1 hP2 => ?_⟩
      obtain ⟨st, est⟩ := start_at v0 v1
      refine ⟨l, starts6, v, .str st, rfl, rfl, sq_at (by rw [upd_ne pl.symm]; exact upd_same), est, ?_⟩
      generalize hG : upd _ p o2 = H2
      have k2 : Kp [p] H H2 := by rw [← hG]; exact (k1.trans (Kp.of (Kp.new (ps := []) nl).same)).trans (Kp.at (by simp))
      have ep2 : H2 p = some o2 := by rw [← hG]; exact upd_same
      have ex2 : H2 x = some (.lst (r.map V.int)) := by rw [← hG, upd_ne px.symm, upd_ne xl]; exact ex1
      clear hG
      refine ⟨.ref p, rfl, .ref x, rfl, .int c, rfl, p, x, _, o2, r, c, rfl, px, ep2, hP2, by omega, ex2, lr, lc, fun H3 g o3 g0 g1 ep3 hP3 k3 => ?_⟩
      have ex3 := k3 x _ (by simpa using px.symm) ex2
      refine ⟨.int g, rfl, ?_⟩
      intro d nd
      have s2 := (Kp.new (ps := []) (o := HO.dK []) nd).same
      refine ⟨_, rfl, .ref x, rfl, x, _, rfl, .inl (sq_at (s2 _ _ ex3)), ?_⟩
      refine ⟨upd_same, twoK r c, rfl, by show (2 : Nat) ≤ 15; decide, ?_⟩
      rw [L2.upd_upd]
      have s3 := (Kp.new (ps := []) (o := HO.dK (mergeK [] (twoK r c))) nd).same
      refine ⟨d, rfl, .inl ⟨_, .inl upd_same⟩, .str st, rfl, _, DGet.k (k := Sum.inr st) upd_same, ?_⟩
      obtain ⟨j, j0, j1, ej⟩ := two_some r c st lr lc
      rw [ej]
      have k4 : Kp [p] H (upd H3 d (.dK (mergeK [] (twoK r c)))) := (k2.trans k3).trans (Kp.of s3)
      have np4 : (upd H3 d (.dK (mergeK [] (twoK r c)))) p ≠ none := by rw [s3 _ _ ep3]; exact fun z => nomatch z
      refine ⟨_, _, rfl, rfl, .str st, rfl, by show (3 : Nat) ≤ sizeLine; omega, fun t nt => ?_⟩
      exact q _ t (.sk (g - j) st) upd_same ⟨by omega, by omega⟩ (fun _ _ e => by cases e) (new k4 np4 nt) (k4.trans (Kp.of (Kp.new (ps := []) nt).same))
    refine ⟨.int w, rfl, rfl, _, rfl, ite2 (fun _ => ?_) (fun _ => ?_)⟩
    · refine ⟨.ref p, rfl, .ref x, rfl, .int c, rfl, p, x, _, o1, r, c, rfl, px, ep1, hP1, by omega, ex1, lr, lc, fun H3 g o3 g0 g1 ep3 hP3 k3 => ?_⟩
      refine ⟨by show (2 : Nat) ≤ sizeLine; omega, fun t nt => ?_⟩
      exact q _ t (.ct g) upd_same ⟨by omega, by omega⟩ (fun _ _ e => by cases e) (new (k1.trans k3) (by rw [ep3]; exact fun z => nomatch z) nt) ((k1.trans k3).trans (Kp.of (Kp.new (ps := []) nt).same))
    · refine ⟨.ref p, rfl, p, _, 4, o1, rfl, ep1, hP1, by omega, by decide, by decide, fun v o2 v0 v1 hP2 => ?_⟩
      have k2 : Kp [p] H (upd H1 p o2) := k1.trans (Kp.at (by simp))
      have ep2 : (upd H1 p o2) p = some o2 := upd_same
      generalize upd H1 p o2 = H2 at k2 ep2 ⊢
      refine ⟨_, rfl, _, rfl, _, _, rfl, rfl, cpow_10_9, _, rfl, by show (6 : Nat) ≤ sizeLine; omega, fun l nl => ?_⟩
      have pl : p ≠ l := ne_of_none ep2 nl
      refine ⟨.ref p, rfl, p, _, 6, o2, rfl, by rw [upd_ne pl]; exact ep2, hP2, by omega, by decide, by decide, fun u o3 u0 u1 hP3 => ?_⟩
      obtain ⟨m, em⟩ := count_at u0 u1
      refine ⟨l, _, u, .int m, rfl, rfl, sq_at (by rw [upd_ne pl.symm]; exact upd_same), em, ?_⟩
      generalize hG : upd _ p o3 = H3
      have k3 : Kp [p] H H3 := by rw [← hG]; exact (k2.trans (Kp.of (Kp.new (ps := []) nl).same)).trans (Kp.at (by simp))
      have np3 : H3 p ≠ none := by rw [← hG, upd_same]; exact fun z => nomatch z
      clear hG
      obtain ⟨v, rfl⟩ := Int.eq_ofNat_of_zero_le v0
      refine ⟨by show (3 : Nat) ≤ sizeLine; omega, fun t nt => ?_⟩
      exact q _ t (.rd v m) upd_same (show v ≤ 3 by omega) (fun _ _ e => by cases e) (new k3 np3 nt) (k3.trans (Kp.of (Kp.new (ps := []) nt).same))

theorem ok_moved (T : Tx K mg) : FnOk P w K mg base CX0 1 T.f_moved T.fd_moved P_moved (spMoved22 K) := by
  have sz : sizeLine = 16777216 := sizeLine_eq
  refine T.D_moved.F.ok sc_moved (fun vs H Q E h => ?_) (fun cdv A outer s H vs Q E hr h => ?_)
  · obtain ⟨x, t, du, fo, r, r1, c, c1, D, dv, rfl, _⟩ := h
    rfl
  · obtain ⟨x, t, du, fo, r, r1, c, c1, D, dv, rfl, hx, ht, hv, hd, lr, lc, hm, q⟩ := h
    refine ⟨_, (pss_cons (ps_if (pt_cmpR op_eq (pe_ix ix_tup (pv 3) pe_int (fun _ _ => rfl)) pe_str (nomark _)) (pss_one (ps_ret (pe_tup (pa_cons (pv 0) (pa_cons (pv 1) pa_nil))))) pss_nil)
      (pss_cons (ps_if (PW.pt (pw_and (pt_cmpR op_eq (pe_ix ix_tup (pv 2) pe_int (fun _ _ => rfl)) pe_str (nomark _)) (pw_and1 (pt_cmpR op_gt (pe_callB call_len_seq (by rfl) T.m_len PySem.boot_len (pa_cons (pe_ix ix_tup (pv 2) pe_int (fun _ _ => rfl)) pa_nil)) pe_int (nomark _))))) (pss_cons (ps_set (i := 0) sc_moved.nd rfl (.inl rfl) (pe_op op_cat (pe_op op_cat (pe_slice sl_list (pe_op op_cat (pv 0) (pe_lc (own := [("_law_k", 5)]) (g := gName 5) (tt := tYes) (by rfl) sc_moved.nd (pi_range2 (by rfl) T.m_range (pa_cons (pe_callB call_len_seq (by rfl) T.m_len PySem.boot_len (pa_cons (pv 0) pa_nil)) (pa_cons (pv 1) pa_nil))) (blkOk_by (own := [("_law_k", 5)]) (N := N_moved) (sc := defScope s_moved) (by decide +kernel)) (fun _ _ _ _ _ => pg_name (i := 5) sc_moved.nd rfl (Or.inl rfl)) (fun _ _ _ _ _ => pts_nil) (fun _ _ _ _ _ => pe_int))) po_none (po_some (pv 1))) (pe_ix ix_tup (pv 2) pe_int (fun _ _ => rfl))) (pe_slice sl_list (pv 0) (po_some (pe_op op_add (pv 1) (pe_callB call_len_seq (by rfl) T.m_len PySem.boot_len (pa_cons (pe_ix ix_tup (pv 2) pe_int (fun _ _ => rfl)) pa_nil)))) po_none)))
      (pss_one (ps_ret (pe_tup (pa_cons (pv 0) (pa_cons (pe_op op_add (pv 1) (pe_callB call_len_seq (by rfl) T.m_len PySem.boot_len (pa_cons (pe_ix ix_tup (pv 2) pe_int (fun _ _ => rfl)) pa_nil))) pa_nil)))))) pss_nil)
      (pss_cons (ps_if (pt_cmpR op_eq (pe_ix ix_tup (pv 2) pe_int (fun _ _ => rfl)) pe_str (nomark _)) (pss_one (ps_ret (pe_tup (pa_cons (pv 0) (pa_cons (pe_ix ix_tup (pv 3) pe_int (fun _ _ => rfl)) pa_nil))))) pss_nil)
      (pss_cons (ps_if (pt_cmpR op_eq (pe_ix ix_tup (pv 2) pe_int (fun _ _ => rfl)) pe_str (nomark _)) (pss_one (ps_ret (pe_tup (pa_cons (pe_slice sl_list (pv 0) po_none (po_some (pe_ix ix_tup (pv 2) pe_int (fun _ _ => rfl)))) (pa_cons (pv 1) pa_nil))))) pss_nil)
      (pss_cons (ps_if (PW.pt (pw_and (pt_cmpR op_eq (pe_ix ix_tup (pv 2) pe_int (fun _ _ => rfl)) pe_str (nomark _)) (pw_and1 (pt_cmpR op_ne (pe_ix ix_tup (pv 2) pe_int (fun _ _ => rfl)) pe_int (nomark _))))) (pss_one (ps_ret (pe_tup (pa_cons (pv 0) (pa_cons (pe_op op_add (pv 1) (pe_callB call_len_seq (by rfl) T.m_len PySem.boot_len (pa_cons (pe_ix ix_tup (pv 4) pe_int (fun _ _ => rfl)) pa_nil))) pa_nil))))) pss_nil)
      (pss_one (ps_ret (pe_tup (pa_cons (pv 0) (pa_cons (pv 1) pa_nil)))))))))), ?_⟩
    rcases hm with ⟨w, v, rfl, rfl, rfl⟩ | ⟨v, rfl, hm⟩
    · refine ⟨.ref du, rfl, du, _, _, .str (Str.ofString "refused"), rfl, rfl, .inl (.inl hd), rfl, rfl, _, rfl, iteTc (by decide +kernel) ?_⟩
      exact ⟨_, rfl, _, rfl, by show (2 : Nat) ≤ sizeLine; omega, fun u nu => q _ u x upd_same (by rw [upd_ne (ne_of_none hx nu)]; exact hx) (.inl rfl) (Kp.new (ps := []) nu).same⟩
    refine ⟨.ref du, rfl, du, _, _, .str (Str.ofString "told"), rfl, rfl, .inl (.inl hd), rfl, rfl, _, rfl, iteFc (by decide +kernel) ?_⟩
    cases D with
    | wr b ts =>
      obtain ⟨d, rfl, rfl, rfl⟩ := hm
      refine ⟨.ref t, rfl, t, _, _, .str (Str.ofString "write"), rfl, rfl, .inl (.inl ht), rfl, rfl, _, rfl, iteTc (by decide +kernel) ?_⟩
      obtain ⟨hb, ld⟩ := hv
      rw [th_vals] at hb
      rw [List.length_map] at ld
      refine ⟨.ref t, rfl, t, _, _, .ref b, rfl, rfl, .inl (.inl ht), rfl, b, _, rfl, .inl (sq_at hb), _, _, rfl, rfl, _, rfl, ?_⟩
      rw [List.length_map]
      by_cases d0 : d = []
      · subst d0
        refine iteFc (by rfl) ?_
        refine ⟨.ref t, rfl, t, _, _, .str (Str.ofString "write"), rfl, rfl, .inl (.inl ht), rfl, rfl, _, rfl, iteFc (by decide +kernel) ?_⟩
        refine ⟨.ref t, rfl, t, _, _, .str (Str.ofString "write"), rfl, rfl, .inl (.inl ht), rfl, rfl, _, rfl, iteFc (by decide +kernel) ?_⟩
        refine ⟨.ref t, rfl, t, _, _, .str (Str.ofString "write"), rfl, rfl, .inl (.inl ht), rfl, rfl, _, rfl, iteFc (by decide +kernel) (iteF ?_)⟩
        refine ⟨_, rfl, _, rfl, by show (2 : Nat) ≤ sizeLine; omega, fun u nu => ?_⟩
        exact q _ u x (by rw [upd_same]; rfl) (by rw [laidF_nil, upd_ne (ne_of_none hx nu)]; exact hx) (.inl rfl) (Kp.new (ps := []) nu).same
      have dp := List.length_pos_iff.mpr d0
      refine iteTc (decide_eq_true (by omega)) ?_
      refine ⟨.ref x, rfl, .ref x, rfl, x, _, rfl, .inl (sq_at hx), .int c, rfl, ?_⟩
      refine ⟨_, _, rfl, ⟨by rw [List.length_map]; omega, by rw [List.length_map]; omega, by omega, by omega⟩, fun D nD => ?_⟩
      have zn : (((c : Int) - ((r.map V.int).length : Int)).toNat) = c - r.length := by rw [List.length_map]; omega
      rw [zn]
      refine lc_range (lo := ((r.map V.int).length : Int)) (n := c - r.length) (fun j H' => H' D = some (.lst ((List.replicate j (0 : Int)).map V.int)) ∧ Same H H') ⟨by rw [upd_same]; rfl, (Kp.new (ps := []) nD).same⟩ (fun j H' hj hP => ?_) (fun H4 hP => ?_)
      · obtain ⟨eD, s⟩ := hP
        refine ⟨rfl, ?_⟩
        refine ⟨_, eD, by rw [List.length_map, List.length_replicate]; omega, ?_, (Kp.put (ps := []) (Kp.of s) nD).same⟩
        rw [upd_same, List.replicate_succ', List.map_append]; rfl
      · obtain ⟨eD, s4⟩ := hP
        refine ⟨x, D, _, _, rfl, rfl, s4 _ _ hx, eD, by rw [List.length_map, List.length_map, List.length_replicate]; omega, fun l1 nl1 => ?_⟩
        rw [← List.map_append]
        have lz : (r ++ List.replicate (c - r.length) (0 : Int)).length ≤ 9000 := by rw [List.length_append, List.length_replicate]; omega
        have e1 := (Kp.new (ps := []) (o := HO.lst ((r ++ List.replicate (c - r.length) (0 : Int)).map V.int)) nl1).same
        refine ⟨_, rfl, _, rfl, l1, _, rfl, sq_new, fun l2 nl2 => ?_⟩
        rw [take_cut]
        have e2 := (Kp.new (ps := []) (o := HO.lst (((r ++ List.replicate (c - r.length) (0 : Int)).take c).map V.int)) nl2).same
        have s6 := (s4.trans e1).trans e2
        refine ⟨.ref t, rfl, t, _, _, .ref b, rfl, rfl, .inl (.inl (s6 _ _ ht)), rfl, l2, b, _, _, rfl, rfl, upd_same, s6 _ _ hb, by rw [List.length_map, List.length_map, List.length_take]; omega, fun l3 nl3 => ?_⟩
        rw [← List.map_append]
        have e3 := (Kp.new (ps := []) (o := HO.lst (((r ++ List.replicate (c - r.length) (0 : Int)).take c ++ d).map V.int)) nl3).same
        have s7 := s6.trans e3
        refine ⟨.ref x, rfl, .int c, rfl, .ref t, rfl, t, _, _, .ref b, rfl, rfl, .inl (.inl (s7 _ _ ht)), rfl, b, _, rfl, .inl (sq_at (s7 _ _ hb)), _, _, rfl, rfl, _, rfl, x, _, rfl, sq_at (s7 _ _ hx), fun l4 nl4 => ?_⟩
        rw [List.length_map, show ((c : Int) + (d.length : Int)) = ((c + d.length : Nat) : Int) by omega, drop_cut]
        have e4 := (Kp.new (ps := []) (o := HO.lst ((r.drop (c + d.length)).map V.int)) nl4).same
        refine ⟨l3, l4, _, _, rfl, rfl, e4 _ _ upd_same, upd_same, by rw [List.length_map, List.length_map, List.length_append, List.length_take, List.length_drop]; omega, fun l5 nl5 => ?_⟩
        rw [← List.map_append, laid_old d0]
        have s8 := s7.trans e4
        have e5 := (Kp.new (ps := []) (o := HO.lst ((laidF r c d).map V.int)) nl5).same
        have s9 := s8.trans e5
        refine ⟨_, rfl, .int c, rfl, .ref t, rfl, t, _, _, .ref b, rfl, rfl, .inl (.inl (s9 _ _ ht)), rfl, b, _, rfl, .inl (sq_at (s9 _ _ hb)), _, _, rfl, rfl, by show (2 : Nat) ≤ sizeLine; omega, fun u nu => ?_⟩
        rw [List.length_map]
        exact q _ u l5 (by rw [upd_same]; rfl) (by rw [upd_ne (ne_of_none upd_same nu)]; exact upd_same) (.inr (s8.free nl5)) (s9.trans (Kp.new (ps := []) nu).same)
    | sk pl st =>
      obtain ⟨rfl, rfl⟩ := hm
      refine ⟨.ref t, rfl, t, _, _, .str (Str.ofString "seek"), rfl, rfl, .inl (.inl ht), rfl, rfl, _, rfl, iteFc (by decide +kernel) (iteF ?_)⟩
      refine ⟨.ref t, rfl, t, _, _, .str (Str.ofString "seek"), rfl, rfl, .inl (.inl ht), rfl, rfl, _, rfl, iteTc (by decide +kernel) ?_⟩
      refine ⟨_, rfl, .ref du, rfl, du, _, _, .int c1, rfl, rfl, .inl (.inl hd), rfl, by show (2 : Nat) ≤ sizeLine; omega, fun u nu => ?_⟩
      exact q _ u x upd_same (by rw [upd_ne (ne_of_none hx nu)]; exact hx) (.inl rfl) (Kp.new (ps := []) nu).same
    | ct g =>
      obtain ⟨m, rfl, rfl, rfl⟩ := hm
      refine ⟨.ref t, rfl, t, _, _, .str (Str.ofString "cut"), rfl, rfl, .inl (.inl ht), rfl, rfl, _, rfl, iteFc (by decide +kernel) (iteF ?_)⟩
      refine ⟨.ref t, rfl, t, _, _, .str (Str.ofString "cut"), rfl, rfl, .inl (.inl ht), rfl, rfl, _, rfl, iteFc (by decide +kernel) ?_⟩
      refine ⟨.ref t, rfl, t, _, _, .str (Str.ofString "cut"), rfl, rfl, .inl (.inl ht), rfl, rfl, _, rfl, iteTc (by decide +kernel) ?_⟩
      refine ⟨.ref x, rfl, .ref t, rfl, t, _, _, .int m, rfl, rfl, .inl (.inl ht), rfl, _, rfl, x, _, rfl, sq_at hx, fun f nf => ?_⟩
      rw [take_cut]
      have s2 := (Kp.new (ps := []) (o := HO.lst ((r.take m).map V.int)) nf).same
      refine ⟨_, rfl, by show (2 : Nat) ≤ sizeLine; omega, fun u nu => ?_⟩
      exact q _ u f upd_same (by rw [upd_ne (ne_of_none upd_same nu)]; exact upd_same) (.inr nf) (s2.trans (Kp.new (ps := []) nu).same)
    | rd w n =>
      obtain ⟨z, xs, hf, hz, rfl, rfl⟩ := hm
      refine ⟨.ref t, rfl, t, _, _, .str (Str.ofString "reads"), rfl, rfl, .inl (.inl ht), rfl, rfl, _, rfl, iteFc (by decide +kernel) (iteF ?_)⟩
      refine ⟨.ref t, rfl, t, _, _, .str (Str.ofString "reads"), rfl, rfl, .inl (.inl ht), rfl, rfl, _, rfl, iteFc (by decide +kernel) ?_⟩
      refine ⟨.ref t, rfl, t, _, _, .str (Str.ofString "reads"), rfl, rfl, .inl (.inl ht), rfl, rfl, _, rfl, iteFc (by decide +kernel) ?_⟩
      refine ⟨.ref t, rfl, t, _, _, .str (Str.ofString "reads"), rfl, rfl, .inl (.inl ht), rfl, rfl, _, rfl, iteTc (by decide +kernel) ?_⟩
      refine ⟨.ref t, rfl, t, _, _, .int w, rfl, rfl, .inl (.inl ht), rfl, rfl, _, rfl, ?_⟩
      by_cases e2 : w = 2
      · subst e2
        refine iteFc (by decide) ?_
        refine ⟨_, rfl, _, rfl, by show (2 : Nat) ≤ sizeLine; omega, fun u nu => ?_⟩
        exact q _ u x (by rw [upd_same]; rfl) (by rw [upd_ne (ne_of_none hx nu)]; exact hx) (.inl rfl) (Kp.new (ps := []) nu).same
      · refine iteTc (by rw [decide_eq_false (fun z => e2 (by have := V.int.inj z; omega))]; rfl) ?_
        refine ⟨_, rfl, _, rfl, .ref fo, rfl, fo, _, _, .ref z, rfl, rfl, .inl (.inl hf), rfl, z, _, rfl, .inl (sq_at hz), _, _, rfl, rfl, by show (2 : Nat) ≤ sizeLine; omega, fun u nu => ?_⟩
        rw [List.length_map]
        exact q _ u x (by rw [upd_same, if_neg e2]; rfl) (by rw [upd_ne (ne_of_none hx nu)]; exact hx) (.inl rfl) (Kp.new (ps := []) nu).same

theorem ok_law (T : Tx K mg) : FnG P w K mg base CX0 9 T.f_law T.fd_law P_law (spLaw K) := by
  have G_pool := ok_pool (P := P) (w := w) (base := base) T
  have G_bytes := ok_bytes (P := P) (w := w) (base := base) T
  have G_init := ok_init (P := P) (w := w) (base := base) T
  have G_take := ok_take (P := P) (w := w) (base := base) T
  have G_deed := ok_deed (P := P) (w := w) (base := base) T
  have G_due := ok_due (P := P) (w := w) (base := base) T
  have G_tries := ok_tries (P := P) (w := w) (base := base) T
  have G_moved := ok_moved (P := P) (w := w) (base := base) T
  have G_tell := ok_tell (P := P) (w := w) (base := base) T
  have G_row := ok_row (P := P) (w := w) (base := base) T
  have sz : sizeLine = 16777216 := sizeLine_eq
  refine T.D_law.F.okG0 sc_law (fun vs H Q E h => ?_) (fun cdv A outer s H vs Q E hG hr h => ?_)
  · obtain ⟨a, ns, rfl, _⟩ := h
    rfl
  · obtain ⟨a, ns, rfl, hS, h63, q⟩ := h
    refine ⟨_, (pss_cons (ps_set (i := 1) sc_law.nd rfl (.inl rfl) (pe_call G_pool (hr.mono (by decide)) (by rfl) T.D_pool.g T.D_pool.F.kp T.bb_pool .nil pass0 (pa_cons (pv 0) (pa_cons pe_int pa_nil))))
      (pss_cons (ps_set (i := 2) sc_law.nd rfl (.inl rfl) (pe_call G_bytes (hr.mono (by decide)) (by rfl) T.D_bytes.g T.D_bytes.F.kp T.bb_bytes .nil pass0 (pa_cons (pv 1) (pa_cons (pe_lst (pa_cons pe_int (pa_cons pe_int (pa_cons pe_int (pa_cons pe_int (pa_cons pe_int (pa_cons pe_int (pa_cons pe_int pa_nil)))))))) pa_nil))))
      (pss_cons (ps_set (i := 3) sc_law.nd rfl (.inl rfl) (pe_ix ix_list (pe_lst (pa_cons (pe_call G_take (hr.mono (by decide)) (by rfl) T.D_take.g T.D_take.F.kp T.bb_take .nil pass0 (pa_cons (pv 1) (pa_cons (pe_op op_add (pe_callB call_len_seq (by rfl) T.m_len PySem.boot_len (pa_cons (pv 2) pa_nil)) pe_int) pa_nil))) (pa_cons (pe_op op_add pe_int (pe_call G_take (hr.mono (by decide)) (by rfl) T.D_take.g T.D_take.F.kp T.bb_take .nil pass0 (pa_cons (pv 1) (pa_cons pe_int pa_nil)))) pa_nil))) (pe_call G_take (hr.mono (by decide)) (by rfl) T.D_take.g T.D_take.F.kp T.bb_take .nil pass0 (pa_cons (pv 1) (pa_cons pe_int pa_nil))) (fun _ _ => rfl)))
      (pss_cons (ps_set (i := 4) sc_law.nd rfl (.inl rfl) (pe_make T.mk_Plain G_init (hr.mono (by decide)) (by rfl) T.g_Plain T.bb_init .nil pass0 (pa_cons (pe_callTy call_list_of (by rfl) T.m_list (by decide +kernel) (pa_cons (pv 2) pa_nil)) (pa_cons (pv 3) pa_nil))))
      (pss_cons (ps_for PassesOwn.never rfl (pi_range2 (by rfl) T.m_range (pa_cons pe_int (pa_cons (pe_callB (call_max2 rfl) (by rfl) T.m_max (by decide +kernel) (pa_cons pe_int (pa_cons (pe_callB (call_min2 rfl) (by rfl) T.m_min (by decide +kernel) (pa_cons pe_int (pa_cons (pe_callB call_len_seq (by rfl) T.m_len PySem.boot_len (pa_cons (pv 0) pa_nil)) pa_nil))) pa_nil))) pa_nil))) (pg_name (i := 5) sc_law.nd rfl (.inl rfl)) (pss_cons (ps_set (i := 6) sc_law.nd rfl (.inl rfl) (pe_call G_deed (hr.mono (by decide)) (by rfl) T.D_deed.g T.D_deed.F.kp T.bb_deed .nil pass0 (pa_cons (pe_call G_pool (hr.mono (by decide)) (by rfl) T.D_pool.g T.D_pool.F.kp T.bb_pool .nil pass0 (pa_cons (pv 0) (pa_cons (pv 5) pa_nil))) (pa_cons (pv 2) (pa_cons (pv 3) pa_nil)))))
      (pss_cons (ps_set (i := 7) sc_law.nd rfl (.inl rfl) (pe_call G_due (hr.mono (by decide)) (by rfl) T.D_due.g T.D_due.F.kp T.bb_due .nil pass0 (pa_cons (pv 2) (pa_cons (pv 3) (pa_cons (pv 6) pa_nil)))))
      (pss_cons (ps_set (i := 8) sc_law.nd rfl (.inl rfl) (pe_call G_tries (hr.mono (by decide)) (by rfl) T.D_tries.g T.D_tries.F.kp T.bb_tries .nil pass0 (pa_cons (pv 4) (pa_cons (pv 6) pa_nil))))
      (C8.pss_cut (ps_if (PW.pt (pw_and (pt_cmpR op_eq (pe_ix ix_tup (pv 6) pe_int (fun _ _ => rfl)) pe_str (nomark _)) (pw_and1 (pt_cmpR op_eq (pe_ix ix_tup (pv 7) pe_int (fun _ _ => rfl)) pe_str (nomark _))))) (pss_one (ps_if (PW.pt (pw_or (pt_cmpR op_ne (pe_ix ix_tup (pv 8) pe_int (fun _ _ => rfl)) pe_str (nomark _)) (pw_or1 (pt_not (pt_val (pe_callB (id := "isinstance") (r := rIsi K) call_isi (by rfl) T.m_isinstance (by decide +kernel) (pa_cons (pe_ix ix_tup (pv 8) pe_int (fun _ _ => rfl)) (pa_cons (pe_bltn (v := .ty "list") (by rfl) T.m_list (by decide +kernel) rfl) pa_nil)))))))) (pss_one (ps_ret pe_bl)) pss_nil)) (pss_one (ps_if (pt_cmpR op_ne (pe_callB (id := "repr") (r := Sip.rRepr K) (Sip.call_reprD (by exact hG) (by exact hr.units)) (by rfl) T.m_repr (by decide +kernel) (pa_cons (pv 8) pa_nil)) (pe_callB (id := "repr") (r := Sip.rRepr K) (Sip.call_reprD (by exact hG) (by exact hr.units)) (by rfl) T.m_repr (by decide +kernel) (pa_cons (pv 7) pa_nil)) (nomark _)) (pss_one (ps_ret pe_bl)) pss_nil)))
      (pss_cons (ps_asg (pe_call G_moved (hr.mono (by decide)) (by rfl) T.D_moved.g T.D_moved.F.kp T.bb_moved .nil pass0 (pa_cons (pv 2) (pa_cons (pv 3) (pa_cons (pv 6) (pa_cons (pv 7) (pa_cons (pv 8) pa_nil)))))) (pg_tup rfl (pgs_cons (pg_name (i := 2) sc_law.nd rfl (.inl rfl)) (pgs_cons (pg_name (i := 3) sc_law.nd rfl (.inl rfl)) pgs_nil))))
      (pss_one (ps_if (PW.pt (pw_or (pt_cmpR op_ne (pe_meth0 (pv 4) T.cl_Plain T.D_tell.m G_tell (hr.mono (by decide)) T.bb_tell .nil pass0) (pv 3) (nomark _)) (pw_or1 (pt_cmpR (op_neI hr.units) (pe_meth0 (pv 4) T.cl_Plain T.D_row.m G_row (hr.mono (by decide)) T.bb_row .nil pass0) (pv 2) (nomark _))))) (pss_one (ps_ret pe_bl)) pss_nil))))))))
      (pss_one (ps_ret pe_bl))))))), ?_⟩
    refine ⟨.ref a, rfl, a, ns, 0, rfl, hS, h63, by decide, by decide, fun p o1 np hP1 => ?_⟩
    have s1 : Same H (upd H p o1) := (Kp.new (ps := []) np).same
    refine ⟨.ref p, rfl, by show (7 : Nat) ≤ sizeLine; omega, fun m nm => ?_⟩
    have s2 := s1.trans (Kp.new (ps := []) (o := HO.lst [.int 0, .int 1, .int 2, .int 3, .int 8, .int 20, .int 40]) nm).same
    have pm : p ≠ m := ne_of_none (upd_same : (upd H p o1) p = some o1) nm
    refine ⟨p, m, _, o1, [0, 1, 2, 3, 8, 20, 40], rfl, by rw [upd_ne pm]; exact upd_same, hP1, by omega, .inl (.inl (by rw [upd_same]; rfl)), pm, by decide, by decide, by decide, fun H2 x r o2 nx ex ep hP2 kk lz hb => ?_⟩
    have s3 : Same H H2 := step_same s2 np kk
    have lr : r.length ≤ 40 := by
      obtain ⟨z, zm, ze⟩ := lz
      have := (show ∀ y ∈ ([0, 1, 2, 3, 8, 20, 40] : List Int), y ≤ 40 by decide) z zm
      omega
    have px : p ≠ x := fun z => by
      rw [← z, upd_ne pm, upd_same] at nx; cases nx
    have lm : ((r.map V.int).length : Int) = r.length := by rw [List.length_map]
    refine ⟨.ref p, rfl, .ref x, rfl, x, _, rfl, .inl (sq_at ex), _, _, rfl, rfl, p, _, _, o2, rfl, ep, hP2, by omega, by omega, by omega, fun w o3 w0 w1 hP3 => ?_⟩
    have s3b : Same H (upd H2 p o3) := put_same s3 np
    have ex3 : (upd H2 p o3) x = some (.lst (r.map V.int)) := by rw [upd_ne px.symm]; exact ex
    have ep3 : (upd H2 p o3) p = some o3 := upd_same
    generalize upd H2 p o3 = H3 at s3b ex3 ep3 ⊢
    refine ⟨.ref p, rfl, p, _, 41, o3, rfl, ep3, hP3, by omega, by decide, by decide, fun w' o4 w0' w1' hP4 => ?_⟩
    refine ⟨_, _, rfl, rfl, by show (2 : Nat) ≤ sizeLine; omega, fun l nl => ?_⟩
    have s3c : Same H (upd H3 p o4) := put_same s3b np
    have ex3c : (upd H3 p o4) x = some (.lst (r.map V.int)) := by rw [upd_ne px.symm]; exact ex3
    have ep3c : (upd H3 p o4) p = some o4 := upd_same
    generalize upd H3 p o4 = H3c at nl s3c ex3c ep3c ⊢
    have pl : p ≠ l := ne_of_none ep3c nl
    have xl : x ≠ l := ne_of_none ex3c nl
    refine ⟨.ref p, rfl, p, _, 2, o4, rfl, by rw [upd_ne pl]; exact ep3c, hP4, by omega, by decide, by decide, fun t o5 t0 t1 hP5 => ?_⟩
    have s4 : Same H (upd (upd H3c l (.lst [.int w, .int (3960 + w')])) p o5) := put_same (s3c.trans (Kp.new (ps := []) nl).same) np
    have ex4 : (upd (upd H3c l (.lst [.int w, .int (3960 + w')])) p o5) x = some (.lst (r.map V.int)) := by rw [upd_ne px.symm, upd_ne xl]; exact ex3c
    have el4 : (upd (upd H3c l (.lst [.int w, .int (3960 + w')])) p o5) l = some (.lst [.int w, .int (3960 + w')]) := by rw [upd_ne pl.symm]; exact upd_same
    have hc : ∃ c : Nat, c ≤ 4000 ∧ atI [V.int w, .int (3960 + w')] t = some (.int c) := by
      rcases (show t = 0 ∨ t = 1 by omega) with rfl | rfl
      · exact ⟨w.toNat, by omega, by rw [show ((w.toNat : Nat) : Int) = w by omega]; rfl⟩
      · exact ⟨(3960 + w').toNat, by omega, by rw [show (((3960 + w').toNat : Nat) : Int) = 3960 + w' by omega]; rfl⟩
    obtain ⟨c, c9, hc⟩ := hc
    generalize upd (upd H3c l (.lst [.int w, .int (3960 + w')])) p o5 = H4 at s4 ex4 el4 ⊢
    refine ⟨l, _, _, .int c, rfl, rfl, sq_at el4, hc, ?_⟩
    refine ⟨.ref x, rfl, x, _, rfl, .inl (sq_at ex4), fun h nh => ?_⟩
    have xh : x ≠ h := ne_of_none ex4 nh
    have s5 : Same H (upd H4 h (.lst (r.map V.int))) := s4.trans (Kp.new (ps := []) nh).same
    have eh5 : (upd H4 h (.lst (r.map V.int))) h = some (.lst (r.map V.int)) := upd_same
    have ex5 : (upd H4 h (.lst (r.map V.int))) x = some (.lst (r.map V.int)) := by rw [upd_ne xh]; exact ex4
    generalize upd H4 h (.lst (r.map V.int)) = H5 at s5 eh5 ex5 ⊢
    refine ⟨.int c, rfl, fun f dx nf ndx nfx => ?_⟩
    have hf : h ≠ f := ne_of_none eh5 nf
    have hd : h ≠ dx := ne_of_none eh5 ndx
    refine ⟨f, h, dx, r, c, rfl, upd_same, by rw [upd_ne nfx]; exact upd_same, sq_at (by rw [upd_ne hf, upd_ne hd]; exact eh5), hf.symm, by omega, by omega, fun H6 F hPA st => ⟨rfl, ?_⟩⟩
    obtain ⟨sN, nF⟩ := made_new st nf ndx
    have s6 := s5.trans sN
    refine ⟨.ref a, rfl, a, _, rfl, .inl (s6.seq hS), _, _, rfl, _, _, rfl, _, _, rfl, ?_, ?_⟩
    · refine ⟨by decide, by decide, ?_, ?_⟩ <;> split <;> (split <;> omega)
    have en : ∃ n : Nat, n ≤ 24 ∧ ((if (if (((ns.map V.int).length : Nat) : Int) < 25 then (((ns.map V.int).length : Nat) : Int) else 25) > 4 then (if (((ns.map V.int).length : Nat) : Int) < 25 then (((ns.map V.int).length : Nat) : Int) else 25) else 4) - 1).toNat = n := by
      refine ⟨_, ?_, rfl⟩
      split <;> (split <;> omega)
    obtain ⟨n, n63, en⟩ := en
    rw [en]
    refine for_range (lo := 1) (n := n) (fun i σ H' => ∃ (x : Addr) (r : List Int) (c : Nat) (F : Addr → Prop) (y5 y6 y7 y8 : Option V), σ = [some (.ref a), some (.ref p), some (.ref x), some (.int c), some (.ref f), y5, y6, y7, y8] ∧ PlainAt T.C_Plain H' f F r c ∧ H' x = some (.lst (r.map V.int)) ∧ ¬ F x ∧ r.length ≤ 4000 ∧ c ≤ 4000 ∧ (∀ b o, H b = some o → ¬ F b) ∧ Same H H') ⟨x, r, c, F, none, none, none, none, rfl, hPA, sN _ _ ex5, nF _ _ ex5, by omega, by omega, fun b o e => nF _ _ (s5 _ _ e), s6⟩ (fun i σ H' hi hW => ?_) (fun σ H' hW => q _)
    clear hPA st sN nF s6 nx ex kk lz hb s3 lr px lm ep hP2 ex3 ex4 el4 ex5 eh5 s5 s4 s3b s3c ex3c ep3c xh xl hf hd nf ndx nfx nh nl hc hP3 hP4 hP5 ep3 pl w0 w1 t0 t1 w0' w1' c9
    obtain ⟨x, r, c, F, y5, y6, y7, y8, rfl, hPA, hx, nFx, lr, lc, nF, sm⟩ := hW
    refine ⟨.ref a, rfl, _, rfl, a, ns, 1 + (i : Int), rfl, sm.seq hS, h63, by omega, by omega, fun p1 o1 np1 hP1 => ?_⟩
    have s1 : Same H' (upd H' p1 o1) := (Kp.new (ps := []) np1).same
    have p1x : p1 ≠ x := (ne_of_none hx np1).symm
    refine ⟨.ref x, rfl, .int c, rfl, p1, x, _, o1, r, c, rfl, p1x, upd_same, hP1, by omega, s1 _ _ hx, lr, lc, fun H3 t D ht hv hn nt kk => ?_⟩
    have s3 : Same H' H3 := step_same s1 np1 kk
    have nb : ∀ b d, D = .wr b d → ¬ F b := fun b d e => (isPlain T.C_Plain).new hPA (s1.free (hn b d e))
    have hPA3 := (isPlain T.C_Plain).same hPA s3
    have nF3 : ∀ b, H3 b = none → ¬ F b := fun b e => (isPlain T.C_Plain).new hPA3 e
    have nFt : ¬ F t := (isPlain T.C_Plain).new hPA (s1.free nt)
    rcases fate hv lr lc with ⟨w, v, ⟨d, dsh, ddp⟩, hdue, hout⟩ | ⟨v, r1, c1, ⟨d, dsh, ddp⟩, nrd, hdue, lr1, lc1, hmv, hout⟩ | ⟨w, n, rfl, n0⟩
    · refine ⟨.ref x, rfl, .int c, rfl, .ref t, rfl, x, t, r, c, D, rfl, s3 _ _ hx, ht, hv, lc, hdue _ (fun H4 u nu hu s4 => ?_)⟩
      refine ⟨.ref f, rfl, .ref t, rfl, f, t, F, r, c, D, rfl, (isPlain T.C_Plain).same hPA3 s4, s4 _ _ ht, ddOk_same hv s4, nb, lr, lc, hout _ _ _ _ _ (fun H5 u6 e6 s6 => ?_)⟩
      have s36 := s4.trans s6
      have hu6 := s6 _ _ hu
      have et6 := s36 _ _ ht
      have ex6 := s36 _ _ (s3 _ _ hx)
      have hv6 := ddOk_same hv s36
      have hPA6 := (isPlain T.C_Plain).same hPA3 s36
      have nFx6 := nFx
      have keep : ∀ b o, H b = some o → H5 b = some o ∧ ¬ F b := fun b o e => ⟨s36 _ _ (s3 _ _ (sm _ _ e)), nF b o e⟩
      refine ⟨fun σ' H6 => σ' = [some (.ref a), some (.ref p), some (.ref x), some (.int c), some (.ref f), some (.int (1 + (i : Int))), some (.ref t), some (.ref u), some (.ref u6)] ∧ H6 = H5, ?_, fun σ' H6 hm => ?_⟩
      · obtain ⟨w0, ew, _⟩ := dd_word D
        refine ⟨.ref t, rfl, t, _, _, .str w0, rfl, rfl, .inl (.inl et6), ew, rfl, _, rfl, ite2 (fun e => ?_) (fun e => ?_)⟩
        · refine ⟨.ref u, rfl, u, _, _, .str (Str.ofString "refused"), rfl, rfl, .inl (.inl hu6), rfl, rfl, _, rfl, iteFc (by decide +kernel) ?_⟩
          refine ⟨.ref u6, rfl, u6, d, _, _, rfl, ddp _ _ _ e6, dsh, by decide, by decide, ?_⟩
          refine ⟨.ref u, rfl, u, d, _, _, rfl, ddp _ _ _ hu6, dsh, by decide, by decide, ?_⟩
          refine ⟨rfl, _, rfl, ?_⟩
          rw [show decide (V.str d.shown = V.str d.shown) = true from decide_eq_true rfl]
          exact iteF ⟨rfl, rfl⟩
        · refine iteF ?_
          refine ⟨.ref u6, rfl, u6, d, _, _, rfl, ddp _ _ _ e6, dsh, by decide, by decide, ?_⟩
          refine ⟨.ref u, rfl, u, d, _, _, rfl, ddp _ _ _ hu6, dsh, by decide, by decide, ?_⟩
          refine ⟨rfl, _, rfl, ?_⟩
          rw [show decide (V.str d.shown = V.str d.shown) = true from decide_eq_true rfl]
          exact iteF ⟨rfl, rfl⟩
      obtain ⟨rfl, rfl⟩ := hm
      refine ⟨.ref x, rfl, .int c, rfl, .ref t, rfl, .ref u, rfl, .ref u6, rfl, x, t, u, u6, r, r, c, c, _, _, rfl, ex6, et6, hv6, hu6, lr, lc, .inl ⟨w, v, rfl, rfl, rfl⟩, fun H7 uu x' e7 ex7 hor s7 => ?_⟩
      refine ⟨uu, _, rfl, .inl (.inl e7), rfl, ?_⟩
      have hPA7 := (isPlain T.C_Plain).same hPA6 s7
      have nFx7 : ¬ F x' := by
        rcases hor with e | e
        · rw [e]; exact nFx6
        · exact (isPlain T.C_Plain).new hPA6 e
      obtain ⟨dx, fs, hi, no⟩ := (isPlain T.C_Plain).ins hPA7
      refine ⟨.ref x', _, rfl, .int _, _, rfl, rfl, ?_⟩
      refine ⟨.ref f, rfl, f, dx, fs, rfl, hi, no "tell" (by decide +kernel), f, F, _, _, rfl, hPA7, ?_⟩
      refine ⟨_, rfl, rfl, _, rfl, iteNS rfl ?_⟩
      refine ⟨.ref f, rfl, f, dx, fs, rfl, hi, no "row" (by decide +kernel), f, F, _, _, rfl, hPA7, fun H8 w8 n8 e8 s8 => ?_⟩
      refine ⟨.ref x', rfl, w8, x', r, r, rfl, rfl, sq_at e8, sq_at (s8 _ _ ex7), _, rfl, iteNS rfl ?_⟩
      have s10 := s7.trans s8
      exact ⟨x', _, _, F, _, _, _, _, rfl, (isPlain T.C_Plain).same hPA6 s10, s8 _ _ ex7, nFx7, by omega, by omega, fun b o e => (keep b o e).2, fun b o e => s10 _ _ (keep b o e).1⟩
    · refine ⟨.ref x, rfl, .int c, rfl, .ref t, rfl, x, t, r, c, D, rfl, s3 _ _ hx, ht, hv, lc, hdue _ (fun H4 u nu hu s4 => ?_)⟩
      refine ⟨.ref f, rfl, .ref t, rfl, f, t, F, r, c, D, rfl, (isPlain T.C_Plain).same hPA3 s4, s4 _ _ ht, ddOk_same hv s4, nb, lr, lc, hout _ _ _ _ _ (fun H5 F6 hPA5 st H6 u6 e6 s6 => ?_)⟩
      have stp : Step F H3 F6 H6 := ((Step.of s4).trans st).trans (Step.of s6)
      have hu6 := s6 _ _ (st.keep (nF3 _ nu) hu).1
      have et6 := (stp.keep nFt ht).1
      obtain ⟨ex6, nFx6⟩ := stp.keep nFx (s3 _ _ hx)
      have hv6 : DdOk H6 D := by
        cases D with
        | wr b ts => exact ⟨(stp.keep (nb b ts rfl) hv.1).1, hv.2⟩
        | sk pl st => exact hv
        | ct g => exact hv
        | rd w n => exact hv
      have hPA6 := (isPlain T.C_Plain).same hPA5 s6
      have keep : ∀ b o, H b = some o → H6 b = some o ∧ ¬ F6 b := fun b o e => stp.keep (nF b o e) (s3 _ _ (sm _ _ e))
      refine ⟨fun σ' H7 => σ' = [some (.ref a), some (.ref p), some (.ref x), some (.int c), some (.ref f), some (.int (1 + (i : Int))), some (.ref t), some (.ref u), some (.ref u6)] ∧ H7 = H6, ?_, fun σ' H7 hm => ?_⟩
      · obtain ⟨w0, ew, hne⟩ := dd_word D
        refine ⟨.ref t, rfl, t, _, _, .str w0, rfl, rfl, .inl (.inl et6), ew, rfl, _, rfl, ite2 (fun e => absurd (V.str.inj (of_decide_eq_true e)) (hne nrd)) (fun e => ?_)⟩
        refine iteF ?_
        refine ⟨.ref u6, rfl, u6, d, _, _, rfl, ddp _ _ _ e6, dsh, by decide, by decide, ?_⟩
        refine ⟨.ref u, rfl, u, d, _, _, rfl, ddp _ _ _ hu6, dsh, by decide, by decide, ?_⟩
        refine ⟨rfl, _, rfl, ?_⟩
        rw [show decide (V.str d.shown = V.str d.shown) = true from decide_eq_true rfl]
        exact iteF ⟨rfl, rfl⟩
      obtain ⟨rfl, rfl⟩ := hm
      refine ⟨.ref x, rfl, .int c, rfl, .ref t, rfl, .ref u, rfl, .ref u6, rfl, x, t, u, u6, r, r1, c, c1, _, _, rfl, ex6, et6, hv6, hu6, lr, lc, hmv _ _, fun H7 uu x' e7 ex7 hor s7 => ?_⟩
      refine ⟨uu, _, rfl, .inl (.inl e7), rfl, ?_⟩
      have hPA7 := (isPlain T.C_Plain).same hPA6 s7
      have nFx7 : ¬ F6 x' := by
        rcases hor with e | e
        · rw [e]; exact nFx6
        · exact (isPlain T.C_Plain).new hPA6 e
      obtain ⟨dx, fs, hi, no⟩ := (isPlain T.C_Plain).ins hPA7
      refine ⟨.ref x', _, rfl, .int _, _, rfl, rfl, ?_⟩
      refine ⟨.ref f, rfl, f, dx, fs, rfl, hi, no "tell" (by decide +kernel), f, F6, _, _, rfl, hPA7, ?_⟩
      refine ⟨_, rfl, rfl, _, rfl, iteNS rfl ?_⟩
      refine ⟨.ref f, rfl, f, dx, fs, rfl, hi, no "row" (by decide +kernel), f, F6, _, _, rfl, hPA7, fun H8 w8 n8 e8 s8 => ?_⟩
      refine ⟨.ref x', rfl, w8, x', r1, r1, rfl, rfl, sq_at e8, sq_at (s8 _ _ ex7), _, rfl, iteNS rfl ?_⟩
      have s10 := s7.trans s8
      exact ⟨x', _, _, F6, _, _, _, _, rfl, (isPlain T.C_Plain).same hPA6 s10, s8 _ _ ex7, nFx7, by omega, by omega, fun b o e => (keep b o e).2, fun b o e => s10 _ _ (keep b o e).1⟩
    · refine ⟨.ref x, rfl, .int c, rfl, .ref t, rfl, x, t, r, c, _, rfl, s3 _ _ hx, ht, hv, lc, ⟨fun _ H4 u nu hu s4 => ?_, fun z => absurd z (by omega)⟩⟩
      refine ⟨.ref f, rfl, .ref t, rfl, f, t, F, r, c, _, rfl, (isPlain T.C_Plain).same hPA3 s4, s4 _ _ ht, ddOk_same hv s4, nb, lr, lc, ⟨fun _ H5 F6 z xs hPA5 nz nFz ez lxs st H6 u6 e6 s6 => ?_, fun z => absurd z (by omega)⟩⟩
      have stp : Step F H3 F6 H6 := ((Step.of s4).trans st).trans (Step.of s6)
      have hu6 := s6 _ _ (st.keep (nF3 _ nu) hu).1
      have et6 := (stp.keep nFt ht).1
      obtain ⟨ex6, nFx6⟩ := stp.keep nFx (s3 _ _ hx)
      have hv6 : DdOk H6 (.rd w n) := hv
      have hPA6 := (isPlain T.C_Plain).same hPA5 s6
      have ez6 := s6 _ _ ez
      have keep : ∀ b o, H b = some o → H6 b = some o ∧ ¬ F6 b := fun b o e => stp.keep (nF b o e) (s3 _ _ (sm _ _ e))
      have lc2 : (if w = 2 then c else c + xs.length) ≤ 4000 := by split <;> omega
      refine ⟨fun σ' H7 => σ' = [some (.ref a), some (.ref p), some (.ref x), some (.int c), some (.ref f), some (.int (1 + (i : Int))), some (.ref t), some (.ref u), some (.ref u6)] ∧ H7 = H6, ?_, fun σ' H7 hm => ?_⟩
      · refine ⟨.ref t, rfl, t, _, _, .str (Str.ofString "reads"), rfl, rfl, .inl (.inl et6), rfl, rfl, _, rfl, iteTc (by decide +kernel) ?_⟩
        refine ⟨.ref u, rfl, u, _, _, .str (Str.ofString "told"), rfl, rfl, .inl (.inl hu6), rfl, rfl, _, rfl, iteTc (by decide +kernel) ?_⟩
        refine ⟨.ref u6, rfl, u6, _, _, .str (Str.ofString "told"), rfl, rfl, .inl (.inl e6), rfl, rfl, _, rfl, iteNS rfl ?_⟩
        exact ⟨.ref u6, rfl, u6, _, _, .ref z, rfl, rfl, .inl (.inl e6), rfl, .ref z, .ty "list", _, _, true, rfl, .ty "list", .base (.lst ez6), kit_ty (by decide +kernel), true, rfl, iteF ⟨rfl, rfl⟩⟩
      obtain ⟨rfl, rfl⟩ := hm
      refine ⟨.ref x, rfl, .int c, rfl, .ref t, rfl, .ref u, rfl, .ref u6, rfl, x, t, u, u6, r, r, c, (if w = 2 then c else c + xs.length), _, _, rfl, ex6, et6, hv6, hu6, lr, lc, .inr ⟨_, rfl, z, xs, e6, ez6, rfl, rfl⟩, fun H7 uu x' e7 ex7 hor s7 => ?_⟩
      refine ⟨uu, _, rfl, .inl (.inl e7), rfl, ?_⟩
      have hPA7 := (isPlain T.C_Plain).same hPA6 s7
      have nFx7 : ¬ F6 x' := by
        rcases hor with e | e
        · rw [e]; exact nFx6
        · exact (isPlain T.C_Plain).new hPA6 e
      obtain ⟨dx, fs, hi, no⟩ := (isPlain T.C_Plain).ins hPA7
      refine ⟨.ref x', _, rfl, .int _, _, rfl, rfl, ?_⟩
      refine ⟨.ref f, rfl, f, dx, fs, rfl, hi, no "tell" (by decide +kernel), f, F6, _, _, rfl, hPA7, ?_⟩
      refine ⟨_, rfl, rfl, _, rfl, iteNS rfl ?_⟩
      refine ⟨.ref f, rfl, f, dx, fs, rfl, hi, no "row" (by decide +kernel), f, F6, _, _, rfl, hPA7, fun H8 w8 n8 e8 s8 => ?_⟩
      refine ⟨.ref x', rfl, w8, x', r, r, rfl, rfl, sq_at e8, sq_at (s8 _ _ ex7), _, rfl, iteNS rfl ?_⟩
      have s10 := s7.trans s8
      exact ⟨x', _, _, F6, _, _, _, _, rfl, (isPlain T.C_Plain).same hPA6 s10, s8 _ _ ex7, nFx7, by omega, by omega, fun b o e => (keep b o e).2, fun b o e => s10 _ _ (keep b o e).1⟩
end
set_option maxHeartbeats 0 in
theorem all_mk {l : PySem.W.OpenLaw} {w : World} {K : PySem.W.Frag} {h : Heap} {mg : Str → Option Value} {fa C_Plain C_SipError C_BadPlace C_TooLong C_NotByte C_BadCount C_BadStart f_iBadPlace f_iTooLong f_iNotByte f_laid f_whole f_isbyte f_cbytes f_clen f_cgoal f_ccount f_sgoal f_fline f_init T_init f_write f_seek K_seek f_tell f_size f_pcut T_pcut f_row f_ahead f_passed f_peek T_peek f_read T_read f_rsome f_rline T_rline f_pool f_take f_bytes f_goal f_things f_lbyte f_pdue f_wdue f_reads f_does f_tries f_deed f_due f_moved f_law : Addr} (X : K.In h) (G : h.Ns mainGlobals mg) (hfa : mg "law" = some (.ref fa))
    {od_iBadPlace an_iBadPlace : Option Addr} {sl_iBadPlace : Array (Option Value)} {oc_iBadPlace dc_iBadPlace pm_iBadPlace cd_iBadPlace ct_iBadPlace : Value}
    {kV_iBadPlace : Value}
    {od_iTooLong an_iTooLong : Option Addr} {sl_iTooLong : Array (Option Value)} {oc_iTooLong dc_iTooLong pm_iTooLong cd_iTooLong ct_iTooLong : Value}
    {kV_iTooLong : Value}
    {od_iNotByte an_iNotByte : Option Addr} {sl_iNotByte : Array (Option Value)} {oc_iNotByte dc_iNotByte pm_iNotByte cd_iNotByte ct_iNotByte : Value}
    {kV_iNotByte : Value}
    {od_laid an_laid : Option Addr} {sl_laid : Array (Option Value)} {oc_laid dc_laid pm_laid cd_laid ct_laid : Value}
    {kV_laid : Value}
    {od_whole an_whole : Option Addr} {sl_whole : Array (Option Value)} {oc_whole dc_whole pm_whole cd_whole ct_whole : Value}
    {kV_whole : Value}
    {od_isbyte an_isbyte : Option Addr} {sl_isbyte : Array (Option Value)} {oc_isbyte dc_isbyte pm_isbyte cd_isbyte ct_isbyte : Value}
    {kV_isbyte : Value}
    {od_cbytes an_cbytes : Option Addr} {sl_cbytes : Array (Option Value)} {oc_cbytes dc_cbytes pm_cbytes cd_cbytes ct_cbytes : Value}
    {kV_cbytes : Value}
    {od_clen an_clen : Option Addr} {sl_clen : Array (Option Value)} {oc_clen dc_clen pm_clen cd_clen ct_clen : Value}
    {kV_clen : Value}
    {od_cgoal an_cgoal : Option Addr} {sl_cgoal : Array (Option Value)} {oc_cgoal dc_cgoal pm_cgoal cd_cgoal ct_cgoal : Value}
    {kV_cgoal : Value}
    {od_ccount an_ccount : Option Addr} {sl_ccount : Array (Option Value)} {oc_ccount dc_ccount pm_ccount cd_ccount ct_ccount : Value}
    {kV_ccount : Value}
    {od_sgoal an_sgoal : Option Addr} {sl_sgoal : Array (Option Value)} {oc_sgoal dc_sgoal pm_sgoal cd_sgoal ct_sgoal : Value}
    {kV_sgoal : Value}
    {od_fline an_fline : Option Addr} {sl_fline : Array (Option Value)} {oc_fline dc_fline pm_fline cd_fline ct_fline : Value}
    {kV_fline : Value}
    {od_init an_init : Option Addr} {sl_init : Array (Option Value)} {oc_init dc_init pm_init cd_init ct_init : Value}
    {tk_init_0 : Tok}
    {uc_init : Value} {ud_init : Option Addr} {un_init : Nat} {us_init : Array (Option Value)}
    {kV_init : Value}
    {od_write an_write : Option Addr} {sl_write : Array (Option Value)} {oc_write dc_write pm_write cd_write ct_write : Value}
    {kV_write : Value}
    {od_seek an_seek : Option Addr} {sl_seek : Array (Option Value)} {oc_seek dc_seek pm_seek cd_seek ct_seek : Value}
    {kk_seek_0 : Tok}
    {od_tell an_tell : Option Addr} {sl_tell : Array (Option Value)} {oc_tell dc_tell pm_tell cd_tell ct_tell : Value}
    {kV_tell : Value}
    {od_size an_size : Option Addr} {sl_size : Array (Option Value)} {oc_size dc_size pm_size cd_size ct_size : Value}
    {kV_size : Value}
    {od_pcut an_pcut : Option Addr} {sl_pcut : Array (Option Value)} {oc_pcut dc_pcut pm_pcut cd_pcut ct_pcut : Value}
    {uc_pcut : Value} {ud_pcut : Option Addr} {un_pcut : Nat} {us_pcut : Array (Option Value)}
    {kV_pcut : Value}
    {od_row an_row : Option Addr} {sl_row : Array (Option Value)} {oc_row dc_row pm_row cd_row ct_row : Value}
    {kV_row : Value}
    {od_ahead an_ahead : Option Addr} {sl_ahead : Array (Option Value)} {oc_ahead dc_ahead pm_ahead cd_ahead ct_ahead : Value}
    {kV_ahead : Value}
    {od_passed an_passed : Option Addr} {sl_passed : Array (Option Value)} {oc_passed dc_passed pm_passed cd_passed ct_passed : Value}
    {kV_passed : Value}
    {od_peek an_peek : Option Addr} {sl_peek : Array (Option Value)} {oc_peek dc_peek pm_peek cd_peek ct_peek : Value}
    {tk_peek_0 : Tok}
    {uc_peek : Value} {ud_peek : Option Addr} {un_peek : Nat} {us_peek : Array (Option Value)}
    {kV_peek : Value}
    {od_read an_read : Option Addr} {sl_read : Array (Option Value)} {oc_read dc_read pm_read cd_read ct_read : Value}
    {uc_read : Value} {ud_read : Option Addr} {un_read : Nat} {us_read : Array (Option Value)}
    {kV_read : Value}
    {od_rsome an_rsome : Option Addr} {sl_rsome : Array (Option Value)} {oc_rsome dc_rsome pm_rsome cd_rsome ct_rsome : Value}
    {kV_rsome : Value}
    {od_rline an_rline : Option Addr} {sl_rline : Array (Option Value)} {oc_rline dc_rline pm_rline cd_rline ct_rline : Value}
    {uc_rline : Value} {ud_rline : Option Addr} {un_rline : Nat} {us_rline : Array (Option Value)}
    {kV_rline : Value}
    {od_pool an_pool : Option Addr} {sl_pool : Array (Option Value)} {oc_pool dc_pool pm_pool cd_pool ct_pool : Value}
    {kV_pool : Value}
    {od_take an_take : Option Addr} {sl_take : Array (Option Value)} {oc_take dc_take pm_take cd_take ct_take : Value}
    {kV_take : Value}
    {od_bytes an_bytes : Option Addr} {sl_bytes : Array (Option Value)} {oc_bytes dc_bytes pm_bytes cd_bytes ct_bytes : Value}
    {kV_bytes : Value}
    {od_goal an_goal : Option Addr} {sl_goal : Array (Option Value)} {oc_goal dc_goal pm_goal cd_goal ct_goal : Value}
    {kV_goal : Value}
    {od_things an_things : Option Addr} {sl_things : Array (Option Value)} {oc_things dc_things pm_things cd_things ct_things : Value}
    {kV_things : Value}
    {od_lbyte an_lbyte : Option Addr} {sl_lbyte : Array (Option Value)} {oc_lbyte dc_lbyte pm_lbyte cd_lbyte ct_lbyte : Value}
    {kV_lbyte : Value}
    {od_pdue an_pdue : Option Addr} {sl_pdue : Array (Option Value)} {oc_pdue dc_pdue pm_pdue cd_pdue ct_pdue : Value}
    {kV_pdue : Value}
    {od_wdue an_wdue : Option Addr} {sl_wdue : Array (Option Value)} {oc_wdue dc_wdue pm_wdue cd_wdue ct_wdue : Value}
    {kV_wdue : Value}
    {od_reads an_reads : Option Addr} {sl_reads : Array (Option Value)} {oc_reads dc_reads pm_reads cd_reads ct_reads : Value}
    {kV_reads : Value}
    {od_does an_does : Option Addr} {sl_does : Array (Option Value)} {oc_does dc_does pm_does cd_does ct_does : Value}
    {kV_does : Value}
    {od_tries an_tries : Option Addr} {sl_tries : Array (Option Value)} {oc_tries dc_tries pm_tries cd_tries ct_tries : Value}
    {kV_tries : Value}
    {od_deed an_deed : Option Addr} {sl_deed : Array (Option Value)} {oc_deed dc_deed pm_deed cd_deed ct_deed : Value}
    {kV_deed : Value}
    {od_due an_due : Option Addr} {sl_due : Array (Option Value)} {oc_due dc_due pm_due cd_due ct_due : Value}
    {kV_due : Value}
    {od_moved an_moved : Option Addr} {sl_moved : Array (Option Value)} {oc_moved dc_moved pm_moved cd_moved ct_moved : Value}
    {kV_moved : Value}
    {od_law an_law : Option Addr} {sl_law : Array (Option Value)} {oc_law dc_law pm_law cd_law ct_law : Value}
    {kV_law : Value}
    {t_LONGEST : Tok}
    {t_LINE_FEED : Tok}
    (qa_Plain : PySem.W.nsIn K mainGlobals "Plain" = some (some (.ref C_Plain)))
    (qa_SipError : PySem.W.nsIn K mainGlobals "SipError" = some (some (.ref C_SipError)))
    (qa_BadPlace : PySem.W.nsIn K mainGlobals "BadPlace" = some (some (.ref C_BadPlace)))
    (qa_TooLong : PySem.W.nsIn K mainGlobals "TooLong" = some (some (.ref C_TooLong)))
    (qa_NotByte : PySem.W.nsIn K mainGlobals "NotByte" = some (some (.ref C_NotByte)))
    (qa_BadCount : PySem.W.nsIn K mainGlobals "BadCount" = some (some (.ref C_BadCount)))
    (qa_BadStart : PySem.W.nsIn K mainGlobals "BadStart" = some (some (.ref C_BadStart)))
    (sb_SipError : PySem.W.subIn K (.ref C_SipError) (.type "BaseException") = some true)
    (sh_SipError : PySem.W.hasDictIn K C_SipError = true)
    (st_SipError : PySem.W.typeIn K (.ref C_SipError) = some (.type "type"))
    (qx_BadCount : PySem.W.excIn K C_BadCount [.type "ValueError", .type "Exception", .type "BaseException", .type "object"] "ValueError.__new__" = true)
    (qk_BadCount : PySem.W.keepIn K (.ref C_BadCount) = true)
    (qb_BadCount : PySem.W.subIn K (.ref C_BadCount) (.type "BaseException") = some true)
    (qt_BadCount : PySem.W.typeIn K (.ref C_BadCount) = some (.type "type"))
    (qx_BadStart : PySem.W.excIn K C_BadStart [.type "ValueError", .type "Exception", .type "BaseException", .type "object"] "ValueError.__new__" = true)
    (qk_BadStart : PySem.W.keepIn K (.ref C_BadStart) = true)
    (qb_BadStart : PySem.W.subIn K (.ref C_BadStart) (.type "BaseException") = some true)
    (qt_BadStart : PySem.W.typeIn K (.ref C_BadStart) = some (.type "type"))
    (hb_BadCount : PySem.W.subIn K (.ref C_BadCount) (.type "BaseException") = some true)
    (hh_BadCount : PySem.W.hasDictIn K C_BadCount = true)
    (hy_BadCount : PySem.W.typeIn K (.ref C_BadCount) = some (.type "type"))
    (hs_BadPlace_BadCount : PySem.W.subIn K (.ref C_BadPlace) (.ref C_BadCount) = some false)
    (hs_TooLong_BadCount : PySem.W.subIn K (.ref C_TooLong) (.ref C_BadCount) = some false)
    (hs_NotByte_BadCount : PySem.W.subIn K (.ref C_NotByte) (.ref C_BadCount) = some false)
    (hs_BadCount_BadCount : PySem.W.subIn K (.ref C_BadCount) (.ref C_BadCount) = some true)
    (hs_BadStart_BadCount : PySem.W.subIn K (.ref C_BadStart) (.ref C_BadCount) = some false)
    (hb_NotByte : PySem.W.subIn K (.ref C_NotByte) (.type "BaseException") = some true)
    (hh_NotByte : PySem.W.hasDictIn K C_NotByte = true)
    (hy_NotByte : PySem.W.typeIn K (.ref C_NotByte) = some (.type "type"))
    (hs_BadPlace_NotByte : PySem.W.subIn K (.ref C_BadPlace) (.ref C_NotByte) = some false)
    (hs_TooLong_NotByte : PySem.W.subIn K (.ref C_TooLong) (.ref C_NotByte) = some false)
    (hs_NotByte_NotByte : PySem.W.subIn K (.ref C_NotByte) (.ref C_NotByte) = some true)
    (hs_BadCount_NotByte : PySem.W.subIn K (.ref C_BadCount) (.ref C_NotByte) = some false)
    (hs_BadStart_NotByte : PySem.W.subIn K (.ref C_BadStart) (.ref C_NotByte) = some false)
    (hb_TooLong : PySem.W.subIn K (.ref C_TooLong) (.type "BaseException") = some true)
    (hh_TooLong : PySem.W.hasDictIn K C_TooLong = true)
    (hy_TooLong : PySem.W.typeIn K (.ref C_TooLong) = some (.type "type"))
    (hs_BadPlace_TooLong : PySem.W.subIn K (.ref C_BadPlace) (.ref C_TooLong) = some false)
    (hs_TooLong_TooLong : PySem.W.subIn K (.ref C_TooLong) (.ref C_TooLong) = some true)
    (hs_NotByte_TooLong : PySem.W.subIn K (.ref C_NotByte) (.ref C_TooLong) = some false)
    (hs_BadCount_TooLong : PySem.W.subIn K (.ref C_BadCount) (.ref C_TooLong) = some false)
    (hs_BadStart_TooLong : PySem.W.subIn K (.ref C_BadStart) (.ref C_TooLong) = some false)
    (hb_BadStart : PySem.W.subIn K (.ref C_BadStart) (.type "BaseException") = some true)
    (hh_BadStart : PySem.W.hasDictIn K C_BadStart = true)
    (hy_BadStart : PySem.W.typeIn K (.ref C_BadStart) = some (.type "type"))
    (hs_BadPlace_BadStart : PySem.W.subIn K (.ref C_BadPlace) (.ref C_BadStart) = some false)
    (hs_TooLong_BadStart : PySem.W.subIn K (.ref C_TooLong) (.ref C_BadStart) = some false)
    (hs_NotByte_BadStart : PySem.W.subIn K (.ref C_NotByte) (.ref C_BadStart) = some false)
    (hs_BadCount_BadStart : PySem.W.subIn K (.ref C_BadCount) (.ref C_BadStart) = some false)
    (hs_BadStart_BadStart : PySem.W.subIn K (.ref C_BadStart) (.ref C_BadStart) = some true)
    (hb_BadPlace : PySem.W.subIn K (.ref C_BadPlace) (.type "BaseException") = some true)
    (hh_BadPlace : PySem.W.hasDictIn K C_BadPlace = true)
    (hy_BadPlace : PySem.W.typeIn K (.ref C_BadPlace) = some (.type "type"))
    (hs_BadPlace_BadPlace : PySem.W.subIn K (.ref C_BadPlace) (.ref C_BadPlace) = some true)
    (hs_TooLong_BadPlace : PySem.W.subIn K (.ref C_TooLong) (.ref C_BadPlace) = some false)
    (hs_NotByte_BadPlace : PySem.W.subIn K (.ref C_NotByte) (.ref C_BadPlace) = some false)
    (hs_BadCount_BadPlace : PySem.W.subIn K (.ref C_BadCount) (.ref C_BadPlace) = some false)
    (hs_BadStart_BadPlace : PySem.W.subIn K (.ref C_BadStart) (.ref C_BadPlace) = some false)
    (xo_BadPlace : Sip.IsExcObj K C_BadPlace C_SipError)
    (sa_BadPlace : PySem.W.findIn K (.ref C_BadPlace) "__setattr__" = some (some (.builtin "object.__setattr__")))
    (ex_BadPlace : PySem.W.subIn K (.ref C_BadPlace) (.type "BaseException") = some true)
    (ty_BadPlace : PySem.W.typeIn K (.ref C_BadPlace) = some (.type "type"))
    (kx_BadPlace : PySem.W.keepIn K (.ref C_BadPlace) = true)
    (hg_BadPlace : PySem.W.findIn K (.ref C_BadPlace) "__getattribute__" = some (some (.builtin "BaseException.__getattribute__")))
    (hk_BadPlace : PySem.W.findIn K (.ref C_BadPlace) "__getattr__" = some none)
    (hd_BadPlace : PySem.W.hasDictIn K C_BadPlace = true)
    (ha_BadPlace : PySem.W.findIn K (.ref C_BadPlace) "__class__" = some (some (.builtin "object.__class__")))
    (hn_BadPlace : PySem.W.specialIn K (.builtin "object.__class__") "__get__" = some (some (.builtin "getset_descriptor.__get__")))
    (ht_BadPlace : PySem.W.takesIn K (.builtin "object.__class__") = some true)
    (hm_BadPlace : PySem.W.mroIn K C_BadPlace (.type "object") = some true)
    (no_BadPlace : PySem.W.findIn K (.ref C_BadPlace) "goal" = some none)
    (ss_BadPlace : PySem.W.subIn K (.ref C_BadPlace) (.ref C_SipError) = some true)
    (se_BadPlace : PySem.W.subIn K (.ref C_BadPlace) (.ref C_BadPlace) = some true)
    (xo_TooLong : Sip.IsExcObj K C_TooLong C_SipError)
    (sa_TooLong : PySem.W.findIn K (.ref C_TooLong) "__setattr__" = some (some (.builtin "object.__setattr__")))
    (ex_TooLong : PySem.W.subIn K (.ref C_TooLong) (.type "BaseException") = some true)
    (ty_TooLong : PySem.W.typeIn K (.ref C_TooLong) = some (.type "type"))
    (kx_TooLong : PySem.W.keepIn K (.ref C_TooLong) = true)
    (hg_TooLong : PySem.W.findIn K (.ref C_TooLong) "__getattribute__" = some (some (.builtin "BaseException.__getattribute__")))
    (hk_TooLong : PySem.W.findIn K (.ref C_TooLong) "__getattr__" = some none)
    (hd_TooLong : PySem.W.hasDictIn K C_TooLong = true)
    (ha_TooLong : PySem.W.findIn K (.ref C_TooLong) "__class__" = some (some (.builtin "object.__class__")))
    (hn_TooLong : PySem.W.specialIn K (.builtin "object.__class__") "__get__" = some (some (.builtin "getset_descriptor.__get__")))
    (ht_TooLong : PySem.W.takesIn K (.builtin "object.__class__") = some true)
    (hm_TooLong : PySem.W.mroIn K C_TooLong (.type "object") = some true)
    (no_TooLong : PySem.W.findIn K (.ref C_TooLong) "length" = some none)
    (ss_TooLong : PySem.W.subIn K (.ref C_TooLong) (.ref C_SipError) = some true)
    (se_TooLong : PySem.W.subIn K (.ref C_TooLong) (.ref C_TooLong) = some true)
    (xo_NotByte : Sip.IsExcObj K C_NotByte C_SipError)
    (sa_NotByte : PySem.W.findIn K (.ref C_NotByte) "__setattr__" = some (some (.builtin "object.__setattr__")))
    (ex_NotByte : PySem.W.subIn K (.ref C_NotByte) (.type "BaseException") = some true)
    (ty_NotByte : PySem.W.typeIn K (.ref C_NotByte) = some (.type "type"))
    (kx_NotByte : PySem.W.keepIn K (.ref C_NotByte) = true)
    (hg_NotByte : PySem.W.findIn K (.ref C_NotByte) "__getattribute__" = some (some (.builtin "BaseException.__getattribute__")))
    (hk_NotByte : PySem.W.findIn K (.ref C_NotByte) "__getattr__" = some none)
    (hd_NotByte : PySem.W.hasDictIn K C_NotByte = true)
    (ha_NotByte : PySem.W.findIn K (.ref C_NotByte) "__class__" = some (some (.builtin "object.__class__")))
    (hn_NotByte : PySem.W.specialIn K (.builtin "object.__class__") "__get__" = some (some (.builtin "getset_descriptor.__get__")))
    (ht_NotByte : PySem.W.takesIn K (.builtin "object.__class__") = some true)
    (hm_NotByte : PySem.W.mroIn K C_NotByte (.type "object") = some true)
    (no_NotByte : PySem.W.findIn K (.ref C_NotByte) "at" = some none)
    (ss_NotByte : PySem.W.subIn K (.ref C_NotByte) (.ref C_SipError) = some true)
    (se_NotByte : PySem.W.subIn K (.ref C_NotByte) (.ref C_NotByte) = some true)
    (a_iBadPlace : PySem.W.findIn K (.ref C_BadPlace) "__init__" = some (some (.ref f_iBadPlace)))
    (i_iBadPlace : PySem.W.typeIn K (.ref f_iBadPlace) = some (.type "function"))
    (l_iBadPlace : K.lookup f_iBadPlace = some ⟨oc_iBadPlace, od_iBadPlace, .func (PySem.W.fnOf "__init__" "BadPlace.__init__" (defArgs s_iBadPlace) (defBody s_iBadPlace) (defScope s_iBadPlace) .none kV_iBadPlace dc_iBadPlace pm_iBadPlace an_iBadPlace cd_iBadPlace ct_iBadPlace), sl_iBadPlace⟩)
    (c_iBadPlace : PySem.W.codeIn K cd_iBadPlace "BadPlace.__init__" = true)
    (k_iBadPlace : PySem.W.keepIn K (.ref f_iBadPlace) = true)
    (a_iTooLong : PySem.W.findIn K (.ref C_TooLong) "__init__" = some (some (.ref f_iTooLong)))
    (i_iTooLong : PySem.W.typeIn K (.ref f_iTooLong) = some (.type "function"))
    (l_iTooLong : K.lookup f_iTooLong = some ⟨oc_iTooLong, od_iTooLong, .func (PySem.W.fnOf "__init__" "TooLong.__init__" (defArgs s_iTooLong) (defBody s_iTooLong) (defScope s_iTooLong) .none kV_iTooLong dc_iTooLong pm_iTooLong an_iTooLong cd_iTooLong ct_iTooLong), sl_iTooLong⟩)
    (c_iTooLong : PySem.W.codeIn K cd_iTooLong "TooLong.__init__" = true)
    (k_iTooLong : PySem.W.keepIn K (.ref f_iTooLong) = true)
    (a_iNotByte : PySem.W.findIn K (.ref C_NotByte) "__init__" = some (some (.ref f_iNotByte)))
    (i_iNotByte : PySem.W.typeIn K (.ref f_iNotByte) = some (.type "function"))
    (l_iNotByte : K.lookup f_iNotByte = some ⟨oc_iNotByte, od_iNotByte, .func (PySem.W.fnOf "__init__" "NotByte.__init__" (defArgs s_iNotByte) (defBody s_iNotByte) (defScope s_iNotByte) .none kV_iNotByte dc_iNotByte pm_iNotByte an_iNotByte cd_iNotByte ct_iNotByte), sl_iNotByte⟩)
    (c_iNotByte : PySem.W.codeIn K cd_iNotByte "NotByte.__init__" = true)
    (k_iNotByte : PySem.W.keepIn K (.ref f_iNotByte) = true)
    (a_laid : PySem.W.nsIn K mainGlobals "laid" = some (some (.ref f_laid)))
    (l_laid : K.lookup f_laid = some ⟨oc_laid, od_laid, .func (PySem.W.fnOf "laid" "laid" (defArgs s_laid) (defBody s_laid) (defScope s_laid) .none kV_laid dc_laid pm_laid an_laid cd_laid ct_laid), sl_laid⟩)
    (c_laid : PySem.W.codeIn K cd_laid "laid" = true)
    (k_laid : PySem.W.keepIn K (.ref f_laid) = true)
    (a_whole : PySem.W.nsIn K mainGlobals "is_whole" = some (some (.ref f_whole)))
    (l_whole : K.lookup f_whole = some ⟨oc_whole, od_whole, .func (PySem.W.fnOf "is_whole" "is_whole" (defArgs s_whole) (defBody s_whole) (defScope s_whole) .none kV_whole dc_whole pm_whole an_whole cd_whole ct_whole), sl_whole⟩)
    (c_whole : PySem.W.codeIn K cd_whole "is_whole" = true)
    (k_whole : PySem.W.keepIn K (.ref f_whole) = true)
    (a_isbyte : PySem.W.nsIn K mainGlobals "is_byte" = some (some (.ref f_isbyte)))
    (l_isbyte : K.lookup f_isbyte = some ⟨oc_isbyte, od_isbyte, .func (PySem.W.fnOf "is_byte" "is_byte" (defArgs s_isbyte) (defBody s_isbyte) (defScope s_isbyte) .none kV_isbyte dc_isbyte pm_isbyte an_isbyte cd_isbyte ct_isbyte), sl_isbyte⟩)
    (c_isbyte : PySem.W.codeIn K cd_isbyte "is_byte" = true)
    (k_isbyte : PySem.W.keepIn K (.ref f_isbyte) = true)
    (a_cbytes : PySem.W.nsIn K mainGlobals "check_bytes" = some (some (.ref f_cbytes)))
    (l_cbytes : K.lookup f_cbytes = some ⟨oc_cbytes, od_cbytes, .func (PySem.W.fnOf "check_bytes" "check_bytes" (defArgs s_cbytes) (defBody s_cbytes) (defScope s_cbytes) .none kV_cbytes dc_cbytes pm_cbytes an_cbytes cd_cbytes ct_cbytes), sl_cbytes⟩)
    (c_cbytes : PySem.W.codeIn K cd_cbytes "check_bytes" = true)
    (k_cbytes : PySem.W.keepIn K (.ref f_cbytes) = true)
    (a_clen : PySem.W.nsIn K mainGlobals "check_length" = some (some (.ref f_clen)))
    (l_clen : K.lookup f_clen = some ⟨oc_clen, od_clen, .func (PySem.W.fnOf "check_length" "check_length" (defArgs s_clen) (defBody s_clen) (defScope s_clen) .none kV_clen dc_clen pm_clen an_clen cd_clen ct_clen), sl_clen⟩)
    (c_clen : PySem.W.codeIn K cd_clen "check_length" = true)
    (k_clen : PySem.W.keepIn K (.ref f_clen) = true)
    (a_cgoal : PySem.W.nsIn K mainGlobals "check_goal" = some (some (.ref f_cgoal)))
    (l_cgoal : K.lookup f_cgoal = some ⟨oc_cgoal, od_cgoal, .func (PySem.W.fnOf "check_goal" "check_goal" (defArgs s_cgoal) (defBody s_cgoal) (defScope s_cgoal) .none kV_cgoal dc_cgoal pm_cgoal an_cgoal cd_cgoal ct_cgoal), sl_cgoal⟩)
    (c_cgoal : PySem.W.codeIn K cd_cgoal "check_goal" = true)
    (k_cgoal : PySem.W.keepIn K (.ref f_cgoal) = true)
    (a_ccount : PySem.W.nsIn K mainGlobals "check_count" = some (some (.ref f_ccount)))
    (l_ccount : K.lookup f_ccount = some ⟨oc_ccount, od_ccount, .func (PySem.W.fnOf "check_count" "check_count" (defArgs s_ccount) (defBody s_ccount) (defScope s_ccount) .none kV_ccount dc_ccount pm_ccount an_ccount cd_ccount ct_ccount), sl_ccount⟩)
    (c_ccount : PySem.W.codeIn K cd_ccount "check_count" = true)
    (k_ccount : PySem.W.keepIn K (.ref f_ccount) = true)
    (a_sgoal : PySem.W.nsIn K mainGlobals "seek_goal" = some (some (.ref f_sgoal)))
    (l_sgoal : K.lookup f_sgoal = some ⟨oc_sgoal, od_sgoal, .func (PySem.W.fnOf "seek_goal" "seek_goal" (defArgs s_sgoal) (defBody s_sgoal) (defScope s_sgoal) .none kV_sgoal dc_sgoal pm_sgoal an_sgoal cd_sgoal ct_sgoal), sl_sgoal⟩)
    (c_sgoal : PySem.W.codeIn K cd_sgoal "seek_goal" = true)
    (k_sgoal : PySem.W.keepIn K (.ref f_sgoal) = true)
    (a_fline : PySem.W.nsIn K mainGlobals "first_line" = some (some (.ref f_fline)))
    (l_fline : K.lookup f_fline = some ⟨oc_fline, od_fline, .func (PySem.W.fnOf "first_line" "first_line" (defArgs s_fline) (defBody s_fline) (defScope s_fline) .none kV_fline dc_fline pm_fline an_fline cd_fline ct_fline), sl_fline⟩)
    (c_fline : PySem.W.codeIn K cd_fline "first_line" = true)
    (k_fline : PySem.W.keepIn K (.ref f_fline) = true)
    (a_init : PySem.W.findIn K (.ref C_Plain) "__init__" = some (some (.ref f_init)))
    (i_init : PySem.W.isFn K (.ref f_init) = true)
    (l_init : K.lookup f_init = some ⟨oc_init, od_init, .func (PySem.W.fnOf "__init__" "Plain.__init__" (defArgs s_init) (defBody s_init) (defScope s_init) (.ref T_init) kV_init dc_init pm_init an_init cd_init ct_init), sl_init⟩)
    (c_init : PySem.W.codeIn K cd_init "Plain.__init__" = true)
    (k_init : PySem.W.keepIn K (.ref f_init) = true)
    (t_init : K.lookup T_init = some ⟨uc_init, ud_init, .seq #[.int 0 tk_init_0] un_init, us_init⟩)
    (a_write : PySem.W.findIn K (.ref C_Plain) "write" = some (some (.ref f_write)))
    (i_write : PySem.W.isFn K (.ref f_write) = true)
    (l_write : K.lookup f_write = some ⟨oc_write, od_write, .func (PySem.W.fnOf "write" "Plain.write" (defArgs s_write) (defBody s_write) (defScope s_write) .none kV_write dc_write pm_write an_write cd_write ct_write), sl_write⟩)
    (c_write : PySem.W.codeIn K cd_write "Plain.write" = true)
    (k_write : PySem.W.keepIn K (.ref f_write) = true)
    (a_seek : PySem.W.findIn K (.ref C_Plain) "seek" = some (some (.ref f_seek)))
    (i_seek : PySem.W.isFn K (.ref f_seek) = true)
    (l_seek : K.lookup f_seek = some ⟨oc_seek, od_seek, .func (PySem.W.fnOf "seek" "Plain.seek" (defArgs s_seek) (defBody s_seek) (defScope s_seek) .none (.ref K_seek) dc_seek pm_seek an_seek cd_seek ct_seek), sl_seek⟩)
    (c_seek : PySem.W.codeIn K cd_seek "Plain.seek" = true)
    (k_seek : PySem.W.keepIn K (.ref f_seek) = true)
    (w_seek_0 : PySem.W.nsIn K K_seek "start" = some (some (.str (Str.ofString "head") kk_seek_0)))
    (a_tell : PySem.W.findIn K (.ref C_Plain) "tell" = some (some (.ref f_tell)))
    (i_tell : PySem.W.isFn K (.ref f_tell) = true)
    (l_tell : K.lookup f_tell = some ⟨oc_tell, od_tell, .func (PySem.W.fnOf "tell" "Plain.tell" (defArgs s_tell) (defBody s_tell) (defScope s_tell) .none kV_tell dc_tell pm_tell an_tell cd_tell ct_tell), sl_tell⟩)
    (c_tell : PySem.W.codeIn K cd_tell "Plain.tell" = true)
    (k_tell : PySem.W.keepIn K (.ref f_tell) = true)
    (a_size : PySem.W.findIn K (.ref C_Plain) "size" = some (some (.ref f_size)))
    (i_size : PySem.W.isFn K (.ref f_size) = true)
    (l_size : K.lookup f_size = some ⟨oc_size, od_size, .func (PySem.W.fnOf "size" "Plain.size" (defArgs s_size) (defBody s_size) (defScope s_size) .none kV_size dc_size pm_size an_size cd_size ct_size), sl_size⟩)
    (c_size : PySem.W.codeIn K cd_size "Plain.size" = true)
    (k_size : PySem.W.keepIn K (.ref f_size) = true)
    (a_pcut : PySem.W.findIn K (.ref C_Plain) "cut" = some (some (.ref f_pcut)))
    (i_pcut : PySem.W.isFn K (.ref f_pcut) = true)
    (l_pcut : K.lookup f_pcut = some ⟨oc_pcut, od_pcut, .func (PySem.W.fnOf "cut" "Plain.cut" (defArgs s_pcut) (defBody s_pcut) (defScope s_pcut) (.ref T_pcut) kV_pcut dc_pcut pm_pcut an_pcut cd_pcut ct_pcut), sl_pcut⟩)
    (c_pcut : PySem.W.codeIn K cd_pcut "Plain.cut" = true)
    (k_pcut : PySem.W.keepIn K (.ref f_pcut) = true)
    (t_pcut : K.lookup T_pcut = some ⟨uc_pcut, ud_pcut, .seq #[.none] un_pcut, us_pcut⟩)
    (a_row : PySem.W.findIn K (.ref C_Plain) "row" = some (some (.ref f_row)))
    (i_row : PySem.W.isFn K (.ref f_row) = true)
    (l_row : K.lookup f_row = some ⟨oc_row, od_row, .func (PySem.W.fnOf "row" "Plain.row" (defArgs s_row) (defBody s_row) (defScope s_row) .none kV_row dc_row pm_row an_row cd_row ct_row), sl_row⟩)
    (c_row : PySem.W.codeIn K cd_row "Plain.row" = true)
    (k_row : PySem.W.keepIn K (.ref f_row) = true)
    (a_ahead : PySem.W.findIn K (.ref C_Plain) "ahead" = some (some (.ref f_ahead)))
    (i_ahead : PySem.W.isFn K (.ref f_ahead) = true)
    (l_ahead : K.lookup f_ahead = some ⟨oc_ahead, od_ahead, .func (PySem.W.fnOf "ahead" "Plain.ahead" (defArgs s_ahead) (defBody s_ahead) (defScope s_ahead) .none kV_ahead dc_ahead pm_ahead an_ahead cd_ahead ct_ahead), sl_ahead⟩)
    (c_ahead : PySem.W.codeIn K cd_ahead "Plain.ahead" = true)
    (k_ahead : PySem.W.keepIn K (.ref f_ahead) = true)
    (a_passed : PySem.W.findIn K (.ref C_Plain) "passed" = some (some (.ref f_passed)))
    (i_passed : PySem.W.isFn K (.ref f_passed) = true)
    (l_passed : K.lookup f_passed = some ⟨oc_passed, od_passed, .func (PySem.W.fnOf "passed" "Plain.passed" (defArgs s_passed) (defBody s_passed) (defScope s_passed) .none kV_passed dc_passed pm_passed an_passed cd_passed ct_passed), sl_passed⟩)
    (c_passed : PySem.W.codeIn K cd_passed "Plain.passed" = true)
    (k_passed : PySem.W.keepIn K (.ref f_passed) = true)
    (a_peek : PySem.W.findIn K (.ref C_Plain) "peek" = some (some (.ref f_peek)))
    (i_peek : PySem.W.isFn K (.ref f_peek) = true)
    (l_peek : K.lookup f_peek = some ⟨oc_peek, od_peek, .func (PySem.W.fnOf "peek" "Plain.peek" (defArgs s_peek) (defBody s_peek) (defScope s_peek) (.ref T_peek) kV_peek dc_peek pm_peek an_peek cd_peek ct_peek), sl_peek⟩)
    (c_peek : PySem.W.codeIn K cd_peek "Plain.peek" = true)
    (k_peek : PySem.W.keepIn K (.ref f_peek) = true)
    (t_peek : K.lookup T_peek = some ⟨uc_peek, ud_peek, .seq #[.int 1 tk_peek_0] un_peek, us_peek⟩)
    (a_read : PySem.W.findIn K (.ref C_Plain) "read" = some (some (.ref f_read)))
    (i_read : PySem.W.isFn K (.ref f_read) = true)
    (l_read : K.lookup f_read = some ⟨oc_read, od_read, .func (PySem.W.fnOf "read" "Plain.read" (defArgs s_read) (defBody s_read) (defScope s_read) (.ref T_read) kV_read dc_read pm_read an_read cd_read ct_read), sl_read⟩)
    (c_read : PySem.W.codeIn K cd_read "Plain.read" = true)
    (k_read : PySem.W.keepIn K (.ref f_read) = true)
    (t_read : K.lookup T_read = some ⟨uc_read, ud_read, .seq #[.none] un_read, us_read⟩)
    (a_rsome : PySem.W.findIn K (.ref C_Plain) "read_some" = some (some (.ref f_rsome)))
    (i_rsome : PySem.W.isFn K (.ref f_rsome) = true)
    (l_rsome : K.lookup f_rsome = some ⟨oc_rsome, od_rsome, .func (PySem.W.fnOf "read_some" "Plain.read_some" (defArgs s_rsome) (defBody s_rsome) (defScope s_rsome) .none kV_rsome dc_rsome pm_rsome an_rsome cd_rsome ct_rsome), sl_rsome⟩)
    (c_rsome : PySem.W.codeIn K cd_rsome "Plain.read_some" = true)
    (k_rsome : PySem.W.keepIn K (.ref f_rsome) = true)
    (a_rline : PySem.W.findIn K (.ref C_Plain) "readline" = some (some (.ref f_rline)))
    (i_rline : PySem.W.isFn K (.ref f_rline) = true)
    (l_rline : K.lookup f_rline = some ⟨oc_rline, od_rline, .func (PySem.W.fnOf "readline" "Plain.readline" (defArgs s_rline) (defBody s_rline) (defScope s_rline) (.ref T_rline) kV_rline dc_rline pm_rline an_rline cd_rline ct_rline), sl_rline⟩)
    (c_rline : PySem.W.codeIn K cd_rline "Plain.readline" = true)
    (k_rline : PySem.W.keepIn K (.ref f_rline) = true)
    (t_rline : K.lookup T_rline = some ⟨uc_rline, ud_rline, .seq #[.none] un_rline, us_rline⟩)
    (a_pool : PySem.W.nsIn K mainGlobals "_law_pool" = some (some (.ref f_pool)))
    (l_pool : K.lookup f_pool = some ⟨oc_pool, od_pool, .func (PySem.W.fnOf "_law_pool" "_law_pool" (defArgs s_pool) (defBody s_pool) (defScope s_pool) .none kV_pool dc_pool pm_pool an_pool cd_pool ct_pool), sl_pool⟩)
    (c_pool : PySem.W.codeIn K cd_pool "_law_pool" = true)
    (k_pool : PySem.W.keepIn K (.ref f_pool) = true)
    (a_take : PySem.W.nsIn K mainGlobals "_law_take" = some (some (.ref f_take)))
    (l_take : K.lookup f_take = some ⟨oc_take, od_take, .func (PySem.W.fnOf "_law_take" "_law_take" (defArgs s_take) (defBody s_take) (defScope s_take) .none kV_take dc_take pm_take an_take cd_take ct_take), sl_take⟩)
    (c_take : PySem.W.codeIn K cd_take "_law_take" = true)
    (k_take : PySem.W.keepIn K (.ref f_take) = true)
    (a_bytes : PySem.W.nsIn K mainGlobals "_law_bytes" = some (some (.ref f_bytes)))
    (l_bytes : K.lookup f_bytes = some ⟨oc_bytes, od_bytes, .func (PySem.W.fnOf "_law_bytes" "_law_bytes" (defArgs s_bytes) (defBody s_bytes) (defScope s_bytes) .none kV_bytes dc_bytes pm_bytes an_bytes cd_bytes ct_bytes), sl_bytes⟩)
    (c_bytes : PySem.W.codeIn K cd_bytes "_law_bytes" = true)
    (k_bytes : PySem.W.keepIn K (.ref f_bytes) = true)
    (a_goal : PySem.W.nsIn K mainGlobals "_law_goal" = some (some (.ref f_goal)))
    (l_goal : K.lookup f_goal = some ⟨oc_goal, od_goal, .func (PySem.W.fnOf "_law_goal" "_law_goal" (defArgs s_goal) (defBody s_goal) (defScope s_goal) .none kV_goal dc_goal pm_goal an_goal cd_goal ct_goal), sl_goal⟩)
    (c_goal : PySem.W.codeIn K cd_goal "_law_goal" = true)
    (k_goal : PySem.W.keepIn K (.ref f_goal) = true)
    (a_things : PySem.W.nsIn K mainGlobals "_law_things" = some (some (.ref f_things)))
    (l_things : K.lookup f_things = some ⟨oc_things, od_things, .func (PySem.W.fnOf "_law_things" "_law_things" (defArgs s_things) (defBody s_things) (defScope s_things) .none kV_things dc_things pm_things an_things cd_things ct_things), sl_things⟩)
    (c_things : PySem.W.codeIn K cd_things "_law_things" = true)
    (k_things : PySem.W.keepIn K (.ref f_things) = true)
    (a_lbyte : PySem.W.nsIn K mainGlobals "_law_is_byte" = some (some (.ref f_lbyte)))
    (l_lbyte : K.lookup f_lbyte = some ⟨oc_lbyte, od_lbyte, .func (PySem.W.fnOf "_law_is_byte" "_law_is_byte" (defArgs s_lbyte) (defBody s_lbyte) (defScope s_lbyte) .none kV_lbyte dc_lbyte pm_lbyte an_lbyte cd_lbyte ct_lbyte), sl_lbyte⟩)
    (c_lbyte : PySem.W.codeIn K cd_lbyte "_law_is_byte" = true)
    (k_lbyte : PySem.W.keepIn K (.ref f_lbyte) = true)
    (a_pdue : PySem.W.nsIn K mainGlobals "_law_place_due" = some (some (.ref f_pdue)))
    (l_pdue : K.lookup f_pdue = some ⟨oc_pdue, od_pdue, .func (PySem.W.fnOf "_law_place_due" "_law_place_due" (defArgs s_pdue) (defBody s_pdue) (defScope s_pdue) .none kV_pdue dc_pdue pm_pdue an_pdue cd_pdue ct_pdue), sl_pdue⟩)
    (c_pdue : PySem.W.codeIn K cd_pdue "_law_place_due" = true)
    (k_pdue : PySem.W.keepIn K (.ref f_pdue) = true)
    (a_wdue : PySem.W.nsIn K mainGlobals "_law_write_due" = some (some (.ref f_wdue)))
    (l_wdue : K.lookup f_wdue = some ⟨oc_wdue, od_wdue, .func (PySem.W.fnOf "_law_write_due" "_law_write_due" (defArgs s_wdue) (defBody s_wdue) (defScope s_wdue) .none kV_wdue dc_wdue pm_wdue an_wdue cd_wdue ct_wdue), sl_wdue⟩)
    (c_wdue : PySem.W.codeIn K cd_wdue "_law_write_due" = true)
    (k_wdue : PySem.W.keepIn K (.ref f_wdue) = true)
    (a_reads : PySem.W.nsIn K mainGlobals "_law_reads" = some (some (.ref f_reads)))
    (l_reads : K.lookup f_reads = some ⟨oc_reads, od_reads, .func (PySem.W.fnOf "_law_reads" "_law_reads" (defArgs s_reads) (defBody s_reads) (defScope s_reads) .none kV_reads dc_reads pm_reads an_reads cd_reads ct_reads), sl_reads⟩)
    (c_reads : PySem.W.codeIn K cd_reads "_law_reads" = true)
    (k_reads : PySem.W.keepIn K (.ref f_reads) = true)
    (a_does : PySem.W.nsIn K mainGlobals "_law_does" = some (some (.ref f_does)))
    (l_does : K.lookup f_does = some ⟨oc_does, od_does, .func (PySem.W.fnOf "_law_does" "_law_does" (defArgs s_does) (defBody s_does) (defScope s_does) .none kV_does dc_does pm_does an_does cd_does ct_does), sl_does⟩)
    (c_does : PySem.W.codeIn K cd_does "_law_does" = true)
    (k_does : PySem.W.keepIn K (.ref f_does) = true)
    (a_tries : PySem.W.nsIn K mainGlobals "_law_tries" = some (some (.ref f_tries)))
    (l_tries : K.lookup f_tries = some ⟨oc_tries, od_tries, .func (PySem.W.fnOf "_law_tries" "_law_tries" (defArgs s_tries) (defBody s_tries) (defScope s_tries) .none kV_tries dc_tries pm_tries an_tries cd_tries ct_tries), sl_tries⟩)
    (c_tries : PySem.W.codeIn K cd_tries "_law_tries" = true)
    (k_tries : PySem.W.keepIn K (.ref f_tries) = true)
    (a_deed : PySem.W.nsIn K mainGlobals "_law_deed" = some (some (.ref f_deed)))
    (l_deed : K.lookup f_deed = some ⟨oc_deed, od_deed, .func (PySem.W.fnOf "_law_deed" "_law_deed" (defArgs s_deed) (defBody s_deed) (defScope s_deed) .none kV_deed dc_deed pm_deed an_deed cd_deed ct_deed), sl_deed⟩)
    (c_deed : PySem.W.codeIn K cd_deed "_law_deed" = true)
    (k_deed : PySem.W.keepIn K (.ref f_deed) = true)
    (a_due : PySem.W.nsIn K mainGlobals "_law_due" = some (some (.ref f_due)))
    (l_due : K.lookup f_due = some ⟨oc_due, od_due, .func (PySem.W.fnOf "_law_due" "_law_due" (defArgs s_due) (defBody s_due) (defScope s_due) .none kV_due dc_due pm_due an_due cd_due ct_due), sl_due⟩)
    (c_due : PySem.W.codeIn K cd_due "_law_due" = true)
    (k_due : PySem.W.keepIn K (.ref f_due) = true)
    (a_moved : PySem.W.nsIn K mainGlobals "_law_moved" = some (some (.ref f_moved)))
    (l_moved : K.lookup f_moved = some ⟨oc_moved, od_moved, .func (PySem.W.fnOf "_law_moved" "_law_moved" (defArgs s_moved) (defBody s_moved) (defScope s_moved) .none kV_moved dc_moved pm_moved an_moved cd_moved ct_moved), sl_moved⟩)
    (c_moved : PySem.W.codeIn K cd_moved "_law_moved" = true)
    (k_moved : PySem.W.keepIn K (.ref f_moved) = true)
    (a_law : PySem.W.nsIn K mainGlobals "law" = some (some (.ref f_law)))
    (l_law : K.lookup f_law = some ⟨oc_law, od_law, .func (PySem.W.fnOf "law" "law" (defArgs s_law) (defBody s_law) (defScope s_law) .none kV_law dc_law pm_law an_law cd_law ct_law), sl_law⟩)
    (c_law : PySem.W.codeIn K cd_law "law" = true)
    (k_law : PySem.W.keepIn K (.ref f_law) = true)
    (pg_Plain : PySem.W.plainGet K C_Plain Str.empty = true)
    (hd_Plain : PySem.W.hasDictIn K C_Plain = true)
    (po_Plain : PySem.W.plainOver K C_Plain = true)
    (sa_Plain : PySem.W.findIn K (.ref C_Plain) "__setattr__" = some (some (.builtin "object.__setattr__")))
    (mk_Plain : PySem.W.makesIn K C_Plain = true)
    (kc_Plain : PySem.W.keepIn K (.ref C_Plain) = true)
    (n_Plain_cells : PySem.W.findIn K (.ref C_Plain) "cells" = some none)
    (n_Plain_cursor : PySem.W.findIn K (.ref C_Plain) "cursor" = some none)
    (v_LONGEST : PySem.W.nsIn K mainGlobals "LONGEST" = some (some (.int 4000 t_LONGEST)))
    (v_LINE_FEED : PySem.W.nsIn K mainGlobals "LINE_FEED" = some (some (.int 10 t_LINE_FEED)))
    (z_list : PySem.W.nsIn K mainGlobals "list" = some none)
    (z_len : PySem.W.nsIn K mainGlobals "len" = some none)
    (z_range : PySem.W.nsIn K mainGlobals "range" = some none)
    (z_max : PySem.W.nsIn K mainGlobals "max" = some none)
    (z_min : PySem.W.nsIn K mainGlobals "min" = some none)
    (z_isinstance : PySem.W.nsIn K mainGlobals "isinstance" = some none)
    (z_int : PySem.W.nsIn K mainGlobals "int" = some none)
    (z_bool : PySem.W.nsIn K mainGlobals "bool" = some none)
    (z_all : PySem.W.nsIn K mainGlobals "all" = some none)
    (z_enumerate : PySem.W.nsIn K mainGlobals "enumerate" = some none)
    (z_repr : PySem.W.nsIn K mainGlobals "repr" = some none) :
    ∃ fd : FuncData, (∀ (s : Shared) (v : Value), BindsTo s fd ⟨[v], []⟩ [("_law_script", v)]) ∧ ∀ base : Heap, K.In base → base.Ns mainGlobals mg → FnG l.prog w K mg base CX0 9 fa fd ["_law_script"] (spLaw K) := by
  have e := hfa.symm.trans (PySem.W.mg_of X G a_law)
  cases e
  have F_iBadPlace := funA_mk (st := s_iBadPlace) l_iBadPlace c_iBadPlace k_iBadPlace
  have F_iTooLong := funA_mk (st := s_iTooLong) l_iTooLong c_iTooLong k_iTooLong
  have F_iNotByte := funA_mk (st := s_iNotByte) l_iNotByte c_iNotByte k_iNotByte
  have F_laid := funA_mk (st := s_laid) l_laid c_laid k_laid
  have F_whole := funA_mk (st := s_whole) l_whole c_whole k_whole
  have F_isbyte := funA_mk (st := s_isbyte) l_isbyte c_isbyte k_isbyte
  have F_cbytes := funA_mk (st := s_cbytes) l_cbytes c_cbytes k_cbytes
  have F_clen := funA_mk (st := s_clen) l_clen c_clen k_clen
  have F_cgoal := funA_mk (st := s_cgoal) l_cgoal c_cgoal k_cgoal
  have F_ccount := funA_mk (st := s_ccount) l_ccount c_ccount k_ccount
  have F_sgoal := funA_mk (st := s_sgoal) l_sgoal c_sgoal k_sgoal
  have F_fline := funA_mk (st := s_fline) l_fline c_fline k_fline
  have F_init := funA_mk (st := s_init) l_init c_init k_init
  have F_write := funA_mk (st := s_write) l_write c_write k_write
  have F_seek := funA_mk (st := s_seek) l_seek c_seek k_seek
  have F_tell := funA_mk (st := s_tell) l_tell c_tell k_tell
  have F_size := funA_mk (st := s_size) l_size c_size k_size
  have F_pcut := funA_mk (st := s_pcut) l_pcut c_pcut k_pcut
  have F_row := funA_mk (st := s_row) l_row c_row k_row
  have F_ahead := funA_mk (st := s_ahead) l_ahead c_ahead k_ahead
  have F_passed := funA_mk (st := s_passed) l_passed c_passed k_passed
  have F_peek := funA_mk (st := s_peek) l_peek c_peek k_peek
  have F_read := funA_mk (st := s_read) l_read c_read k_read
  have F_rsome := funA_mk (st := s_rsome) l_rsome c_rsome k_rsome
  have F_rline := funA_mk (st := s_rline) l_rline c_rline k_rline
  have F_pool := funA_mk (st := s_pool) l_pool c_pool k_pool
  have F_take := funA_mk (st := s_take) l_take c_take k_take
  have F_bytes := funA_mk (st := s_bytes) l_bytes c_bytes k_bytes
  have F_goal := funA_mk (st := s_goal) l_goal c_goal k_goal
  have F_things := funA_mk (st := s_things) l_things c_things k_things
  have F_lbyte := funA_mk (st := s_lbyte) l_lbyte c_lbyte k_lbyte
  have F_pdue := funA_mk (st := s_pdue) l_pdue c_pdue k_pdue
  have F_wdue := funA_mk (st := s_wdue) l_wdue c_wdue k_wdue
  have F_reads := funA_mk (st := s_reads) l_reads c_reads k_reads
  have F_does := funA_mk (st := s_does) l_does c_does k_does
  have F_tries := funA_mk (st := s_tries) l_tries c_tries k_tries
  have F_deed := funA_mk (st := s_deed) l_deed c_deed k_deed
  have F_due := funA_mk (st := s_due) l_due c_due k_due
  have F_moved := funA_mk (st := s_moved) l_moved c_moved k_moved
  have F_law := funA_mk (st := s_law) l_law c_law k_law
  have FD_init : FunD K "__init__" "Plain.__init__" (defArgs s_init) (defBody s_init) (defScope s_init) ([.int 0] : List V) ([] : List (Str × V)) f_init (PySem.W.fnOf "__init__" "Plain.__init__" (defArgs s_init) (defBody s_init) (defScope s_init) (.ref T_init) kV_init dc_init pm_init an_init cd_init ct_init) := ⟨⟨_, _, _, _, _, _, _, _, _, _, rfl, l_init, c_init, .inr ⟨by decide, T_init, _, _, un_init, rfl, t_init, rfl, (.cons ⟨tk_init_0, rfl⟩ .nil)⟩, .inl rfl⟩, k_init⟩
  have KW_seek : KwdV K (.ref K_seek) ([("start", .str (Str.ofString "head"))] : List (Str × V)) := by
    refine .inr ⟨K_seek, rfl, fun q hq => ?_⟩
    simp only [List.mem_cons, List.mem_nil_iff, or_false] at hq
    rcases hq with rfl
    · exact ⟨_, w_seek_0, ⟨kk_seek_0, rfl⟩⟩
  have FD_seek : FunD K "seek" "Plain.seek" (defArgs s_seek) (defBody s_seek) (defScope s_seek) ([] : List V) ([("start", .str (Str.ofString "head"))] : List (Str × V)) f_seek (PySem.W.fnOf "seek" "Plain.seek" (defArgs s_seek) (defBody s_seek) (defScope s_seek) .none (.ref K_seek) dc_seek pm_seek an_seek cd_seek ct_seek) := ⟨⟨_, _, _, _, _, _, _, _, _, _, rfl, l_seek, c_seek, .inl ⟨rfl, rfl⟩, KW_seek⟩, k_seek⟩
  have FD_pcut : FunD K "cut" "Plain.cut" (defArgs s_pcut) (defBody s_pcut) (defScope s_pcut) ([.non] : List V) ([] : List (Str × V)) f_pcut (PySem.W.fnOf "cut" "Plain.cut" (defArgs s_pcut) (defBody s_pcut) (defScope s_pcut) (.ref T_pcut) kV_pcut dc_pcut pm_pcut an_pcut cd_pcut ct_pcut) := ⟨⟨_, _, _, _, _, _, _, _, _, _, rfl, l_pcut, c_pcut, .inr ⟨by decide, T_pcut, _, _, un_pcut, rfl, t_pcut, rfl, (.cons rfl .nil)⟩, .inl rfl⟩, k_pcut⟩
  have FD_peek : FunD K "peek" "Plain.peek" (defArgs s_peek) (defBody s_peek) (defScope s_peek) ([.int 1] : List V) ([] : List (Str × V)) f_peek (PySem.W.fnOf "peek" "Plain.peek" (defArgs s_peek) (defBody s_peek) (defScope s_peek) (.ref T_peek) kV_peek dc_peek pm_peek an_peek cd_peek ct_peek) := ⟨⟨_, _, _, _, _, _, _, _, _, _, rfl, l_peek, c_peek, .inr ⟨by decide, T_peek, _, _, un_peek, rfl, t_peek, rfl, (.cons ⟨tk_peek_0, rfl⟩ .nil)⟩, .inl rfl⟩, k_peek⟩
  have FD_read : FunD K "read" "Plain.read" (defArgs s_read) (defBody s_read) (defScope s_read) ([.non] : List V) ([] : List (Str × V)) f_read (PySem.W.fnOf "read" "Plain.read" (defArgs s_read) (defBody s_read) (defScope s_read) (.ref T_read) kV_read dc_read pm_read an_read cd_read ct_read) := ⟨⟨_, _, _, _, _, _, _, _, _, _, rfl, l_read, c_read, .inr ⟨by decide, T_read, _, _, un_read, rfl, t_read, rfl, (.cons rfl .nil)⟩, .inl rfl⟩, k_read⟩
  have FD_rline : FunD K "readline" "Plain.readline" (defArgs s_rline) (defBody s_rline) (defScope s_rline) ([.non] : List V) ([] : List (Str × V)) f_rline (PySem.W.fnOf "readline" "Plain.readline" (defArgs s_rline) (defBody s_rline) (defScope s_rline) (.ref T_rline) kV_rline dc_rline pm_rline an_rline cd_rline ct_rline) := ⟨⟨_, _, _, _, _, _, _, _, _, _, rfl, l_rline, c_rline, .inr ⟨by decide, T_rline, _, _, un_rline, rfl, t_rline, rfl, (.cons rfl .nil)⟩, .inl rfl⟩, k_rline⟩
  have bb_ahead : Binds K (PySem.W.fnOf "ahead" "Plain.ahead" (defArgs s_ahead) (defBody s_ahead) (defScope s_ahead) .none kV_ahead dc_ahead pm_ahead an_ahead cd_ahead ct_ahead) P_ahead [] := .all fun us hl => match us, hl with | [_], _ => rfl
  have bb_bytes : Binds K (PySem.W.fnOf "_law_bytes" "_law_bytes" (defArgs s_bytes) (defBody s_bytes) (defScope s_bytes) .none kV_bytes dc_bytes pm_bytes an_bytes cd_bytes ct_bytes) P_bytes [] := .all fun us hl => match us, hl with | [_, _], _ => rfl
  have bb_cbytes : Binds K (PySem.W.fnOf "check_bytes" "check_bytes" (defArgs s_cbytes) (defBody s_cbytes) (defScope s_cbytes) .none kV_cbytes dc_cbytes pm_cbytes an_cbytes cd_cbytes ct_cbytes) P_cbytes [] := .all fun us hl => match us, hl with | [_], _ => rfl
  have bb_ccount : Binds K (PySem.W.fnOf "check_count" "check_count" (defArgs s_ccount) (defBody s_ccount) (defScope s_ccount) .none kV_ccount dc_ccount pm_ccount an_ccount cd_ccount ct_ccount) P_ccount [] := .all fun us hl => match us, hl with | [_], _ => rfl
  have bb_cgoal : Binds K (PySem.W.fnOf "check_goal" "check_goal" (defArgs s_cgoal) (defBody s_cgoal) (defScope s_cgoal) .none kV_cgoal dc_cgoal pm_cgoal an_cgoal cd_cgoal ct_cgoal) P_cgoal [] := .all fun us hl => match us, hl with | [_], _ => rfl
  have bb_clen : Binds K (PySem.W.fnOf "check_length" "check_length" (defArgs s_clen) (defBody s_clen) (defScope s_clen) .none kV_clen dc_clen pm_clen an_clen cd_clen ct_clen) P_clen [] := .all fun us hl => match us, hl with | [_], _ => rfl
  have bb_deed : Binds K (PySem.W.fnOf "_law_deed" "_law_deed" (defArgs s_deed) (defBody s_deed) (defScope s_deed) .none kV_deed dc_deed pm_deed an_deed cd_deed ct_deed) P_deed [] := .all fun us hl => match us, hl with | [_, _, _], _ => rfl
  have bb_does : Binds K (PySem.W.fnOf "_law_does" "_law_does" (defArgs s_does) (defBody s_does) (defScope s_does) .none kV_does dc_does pm_does an_does cd_does ct_does) P_does [] := .all fun us hl => match us, hl with | [_, _], _ => rfl
  have bb_due : Binds K (PySem.W.fnOf "_law_due" "_law_due" (defArgs s_due) (defBody s_due) (defScope s_due) .none kV_due dc_due pm_due an_due cd_due ct_due) P_due [] := .all fun us hl => match us, hl with | [_, _, _], _ => rfl
  have bb_fline : Binds K (PySem.W.fnOf "first_line" "first_line" (defArgs s_fline) (defBody s_fline) (defScope s_fline) .none kV_fline dc_fline pm_fline an_fline cd_fline ct_fline) P_fline [] := .all fun us hl => match us, hl with | [_, _], _ => rfl
  have bb_goal : Binds K (PySem.W.fnOf "_law_goal" "_law_goal" (defArgs s_goal) (defBody s_goal) (defScope s_goal) .none kV_goal dc_goal pm_goal an_goal cd_goal ct_goal) P_goal [] := .all fun us hl => match us, hl with | [_, _, _], _ => rfl
  have bb_iBadPlace : Binds K (PySem.W.fnOf "__init__" "BadPlace.__init__" (defArgs s_iBadPlace) (defBody s_iBadPlace) (defScope s_iBadPlace) .none kV_iBadPlace dc_iBadPlace pm_iBadPlace an_iBadPlace cd_iBadPlace ct_iBadPlace) P_iBadPlace [] := .all fun us hl => match us, hl with | [_, _], _ => rfl
  have bb_iNotByte : Binds K (PySem.W.fnOf "__init__" "NotByte.__init__" (defArgs s_iNotByte) (defBody s_iNotByte) (defScope s_iNotByte) .none kV_iNotByte dc_iNotByte pm_iNotByte an_iNotByte cd_iNotByte ct_iNotByte) P_iNotByte [] := .all fun us hl => match us, hl with | [_, _], _ => rfl
  have bb_iTooLong : Binds K (PySem.W.fnOf "__init__" "TooLong.__init__" (defArgs s_iTooLong) (defBody s_iTooLong) (defScope s_iTooLong) .none kV_iTooLong dc_iTooLong pm_iTooLong an_iTooLong cd_iTooLong ct_iTooLong) P_iTooLong [] := .all fun us hl => match us, hl with | [_, _], _ => rfl
  obtain ⟨ds_all_init, v_all_init, b_all_init⟩ := FD_init.binds1 (ps := P_init) 3 1 (by decide) rfl fun _ _ _ _ _ _ _ us its h1 h2 => match us, its, h1, h2 with | [_, _, _], [_], _, _ => ⟨_, rfl, rfl⟩
  have bb_init : Binds K (PySem.W.fnOf "__init__" "Plain.__init__" (defArgs s_init) (defBody s_init) (defScope s_init) (.ref T_init) kV_init dc_init pm_init an_init cd_init ct_init) P_init [] := by cases v_all_init; exact b_all_init
  have bb_isbyte : Binds K (PySem.W.fnOf "is_byte" "is_byte" (defArgs s_isbyte) (defBody s_isbyte) (defScope s_isbyte) .none kV_isbyte dc_isbyte pm_isbyte an_isbyte cd_isbyte ct_isbyte) P_isbyte [] := .all fun us hl => match us, hl with | [_], _ => rfl
  have bb_laid : Binds K (PySem.W.fnOf "laid" "laid" (defArgs s_laid) (defBody s_laid) (defScope s_laid) .none kV_laid dc_laid pm_laid an_laid cd_laid ct_laid) P_laid [] := .all fun us hl => match us, hl with | [_, _, _], _ => rfl
  have bb_lbyte : Binds K (PySem.W.fnOf "_law_is_byte" "_law_is_byte" (defArgs s_lbyte) (defBody s_lbyte) (defScope s_lbyte) .none kV_lbyte dc_lbyte pm_lbyte an_lbyte cd_lbyte ct_lbyte) P_lbyte [] := .all fun us hl => match us, hl with | [_], _ => rfl
  have bb_moved : Binds K (PySem.W.fnOf "_law_moved" "_law_moved" (defArgs s_moved) (defBody s_moved) (defScope s_moved) .none kV_moved dc_moved pm_moved an_moved cd_moved ct_moved) P_moved [] := .all fun us hl => match us, hl with | [_, _, _, _, _], _ => rfl
  have bb_passed : Binds K (PySem.W.fnOf "passed" "Plain.passed" (defArgs s_passed) (defBody s_passed) (defScope s_passed) .none kV_passed dc_passed pm_passed an_passed cd_passed ct_passed) P_passed [] := .all fun us hl => match us, hl with | [_, _], _ => rfl
  obtain ⟨ds_all_pcut, v_all_pcut, b_all_pcut⟩ := FD_pcut.binds1 (ps := P_pcut) 2 1 (by decide) rfl fun _ _ _ _ _ _ _ us its h1 h2 => match us, its, h1, h2 with | [_, _], [_], _, _ => ⟨_, rfl, rfl⟩
  have bb_pcut : Binds K (PySem.W.fnOf "cut" "Plain.cut" (defArgs s_pcut) (defBody s_pcut) (defScope s_pcut) (.ref T_pcut) kV_pcut dc_pcut pm_pcut an_pcut cd_pcut ct_pcut) P_pcut [] := by cases v_all_pcut; exact b_all_pcut
  have bb_pdue : Binds K (PySem.W.fnOf "_law_place_due" "_law_place_due" (defArgs s_pdue) (defBody s_pdue) (defScope s_pdue) .none kV_pdue dc_pdue pm_pdue an_pdue cd_pdue ct_pdue) P_pdue [] := .all fun us hl => match us, hl with | [_], _ => rfl
  obtain ⟨ds_all_peek, v_all_peek, b_all_peek⟩ := FD_peek.binds1 (ps := P_peek) 2 1 (by decide) rfl fun _ _ _ _ _ _ _ us its h1 h2 => match us, its, h1, h2 with | [_, _], [_], _, _ => ⟨_, rfl, rfl⟩
  have bb_peek : Binds K (PySem.W.fnOf "peek" "Plain.peek" (defArgs s_peek) (defBody s_peek) (defScope s_peek) (.ref T_peek) kV_peek dc_peek pm_peek an_peek cd_peek ct_peek) P_peek [] := by cases v_all_peek; exact b_all_peek
  have bb_pool : Binds K (PySem.W.fnOf "_law_pool" "_law_pool" (defArgs s_pool) (defBody s_pool) (defScope s_pool) .none kV_pool dc_pool pm_pool an_pool cd_pool ct_pool) P_pool [] := .all fun us hl => match us, hl with | [_, _], _ => rfl
  obtain ⟨ds_all_read, v_all_read, b_all_read⟩ := FD_read.binds1 (ps := P_read) 2 1 (by decide) rfl fun _ _ _ _ _ _ _ us its h1 h2 => match us, its, h1, h2 with | [_, _], [_], _, _ => ⟨_, rfl, rfl⟩
  have bb_read : Binds K (PySem.W.fnOf "read" "Plain.read" (defArgs s_read) (defBody s_read) (defScope s_read) (.ref T_read) kV_read dc_read pm_read an_read cd_read ct_read) P_read [] := by cases v_all_read; exact b_all_read
  have bb_reads : Binds K (PySem.W.fnOf "_law_reads" "_law_reads" (defArgs s_reads) (defBody s_reads) (defScope s_reads) .none kV_reads dc_reads pm_reads an_reads cd_reads ct_reads) P_reads [] := .all fun us hl => match us, hl with | [_, _, _], _ => rfl
  obtain ⟨ds_all_rline, v_all_rline, b_all_rline⟩ := FD_rline.binds1 (ps := P_rline) 2 1 (by decide) rfl fun _ _ _ _ _ _ _ us its h1 h2 => match us, its, h1, h2 with | [_, _], [_], _, _ => ⟨_, rfl, rfl⟩
  have bb_rline : Binds K (PySem.W.fnOf "readline" "Plain.readline" (defArgs s_rline) (defBody s_rline) (defScope s_rline) (.ref T_rline) kV_rline dc_rline pm_rline an_rline cd_rline ct_rline) P_rline [] := by cases v_all_rline; exact b_all_rline
  have bb_row : Binds K (PySem.W.fnOf "row" "Plain.row" (defArgs s_row) (defBody s_row) (defScope s_row) .none kV_row dc_row pm_row an_row cd_row ct_row) P_row [] := .all fun us hl => match us, hl with | [_], _ => rfl
  have bb_rsome : Binds K (PySem.W.fnOf "read_some" "Plain.read_some" (defArgs s_rsome) (defBody s_rsome) (defScope s_rsome) .none kV_rsome dc_rsome pm_rsome an_rsome cd_rsome ct_rsome) P_rsome [] := .all fun us hl => match us, hl with | [_, _], _ => rfl
  have bb_sgoal : Binds K (PySem.W.fnOf "seek_goal" "seek_goal" (defArgs s_sgoal) (defBody s_sgoal) (defScope s_sgoal) .none kV_sgoal dc_sgoal pm_sgoal an_sgoal cd_sgoal ct_sgoal) P_sgoal [] := .all fun us hl => match us, hl with | [_, _, _, _], _ => rfl
  have bb_take : Binds K (PySem.W.fnOf "_law_take" "_law_take" (defArgs s_take) (defBody s_take) (defScope s_take) .none kV_take dc_take pm_take an_take cd_take ct_take) P_take [] := .all fun us hl => match us, hl with | [_, _], _ => rfl
  have bb_tell : Binds K (PySem.W.fnOf "tell" "Plain.tell" (defArgs s_tell) (defBody s_tell) (defScope s_tell) .none kV_tell dc_tell pm_tell an_tell cd_tell ct_tell) P_tell [] := .all fun us hl => match us, hl with | [_], _ => rfl
  have bb_things : Binds K (PySem.W.fnOf "_law_things" "_law_things" (defArgs s_things) (defBody s_things) (defScope s_things) .none kV_things dc_things pm_things an_things cd_things ct_things) P_things [] := .all fun us hl => match us, hl with | [_], _ => rfl
  have bb_tries : Binds K (PySem.W.fnOf "_law_tries" "_law_tries" (defArgs s_tries) (defBody s_tries) (defScope s_tries) .none kV_tries dc_tries pm_tries an_tries cd_tries ct_tries) P_tries [] := .all fun us hl => match us, hl with | [_, _], _ => rfl
  have bb_wdue : Binds K (PySem.W.fnOf "_law_write_due" "_law_write_due" (defArgs s_wdue) (defBody s_wdue) (defScope s_wdue) .none kV_wdue dc_wdue pm_wdue an_wdue cd_wdue ct_wdue) P_wdue [] := .all fun us hl => match us, hl with | [_, _, _], _ => rfl
  have bb_whole : Binds K (PySem.W.fnOf "is_whole" "is_whole" (defArgs s_whole) (defBody s_whole) (defScope s_whole) .none kV_whole dc_whole pm_whole an_whole cd_whole ct_whole) P_whole [] := .all fun us hl => match us, hl with | [_], _ => rfl
  have bb_write : Binds K (PySem.W.fnOf "write" "Plain.write" (defArgs s_write) (defBody s_write) (defScope s_write) .none kV_write dc_write pm_write an_write cd_write ct_write) P_write [] := .all fun us hl => match us, hl with | [_, _], _ => rfl
  have kb_seek_1_start : KBn K (PySem.W.fnOf "seek" "Plain.seek" (defArgs s_seek) (defBody s_seek) (defScope s_seek) .none (.ref K_seek) dc_seek pm_seek an_seek cd_seek ct_seek) P_seek 2 ["start"] (fun us ws => us ++ ws) (fun vs zs => vs ++ zs) := ⟨fun s us ws X l1 l2 => .of_eq (match us, ws, l1, l2 with | [_, _], [_], _, _ => rfl), fun r1 r2 => Vals.append r1 r2⟩
  let T : Tx K mg := ⟨C_Plain, C_SipError, C_BadPlace, C_TooLong, C_NotByte, C_BadCount, C_BadStart, f_iBadPlace, _, F_iBadPlace, f_iTooLong, _, F_iTooLong, f_iNotByte, _, F_iNotByte, f_laid, _, ⟨F_laid, PySem.W.mg_of X G a_laid⟩, f_whole, _, ⟨F_whole, PySem.W.mg_of X G a_whole⟩, f_isbyte, _, ⟨F_isbyte, PySem.W.mg_of X G a_isbyte⟩, f_cbytes, _, ⟨F_cbytes, PySem.W.mg_of X G a_cbytes⟩, f_clen, _, ⟨F_clen, PySem.W.mg_of X G a_clen⟩, f_cgoal, _, ⟨F_cgoal, PySem.W.mg_of X G a_cgoal⟩, f_ccount, _, ⟨F_ccount, PySem.W.mg_of X G a_ccount⟩, f_sgoal, _, ⟨F_sgoal, PySem.W.mg_of X G a_sgoal⟩, f_fline, _, ⟨F_fline, PySem.W.mg_of X G a_fline⟩, f_init, _, ⟨F_init, ⟨a_init, i_init, k_init⟩⟩, f_write, _, ⟨F_write, ⟨a_write, i_write, k_write⟩⟩, f_seek, _, ⟨F_seek, ⟨a_seek, i_seek, k_seek⟩⟩, f_tell, _, ⟨F_tell, ⟨a_tell, i_tell, k_tell⟩⟩, f_size, _, ⟨F_size, ⟨a_size, i_size, k_size⟩⟩, f_pcut, _, ⟨F_pcut, ⟨a_pcut, i_pcut, k_pcut⟩⟩, f_row, _, ⟨F_row, ⟨a_row, i_row, k_row⟩⟩, f_ahead, _, ⟨F_ahead, ⟨a_ahead, i_ahead, k_ahead⟩⟩, f_passed, _, ⟨F_passed, ⟨a_passed, i_passed, k_passed⟩⟩, f_peek, _, ⟨F_peek, ⟨a_peek, i_peek, k_peek⟩⟩, f_read, _, ⟨F_read, ⟨a_read, i_read, k_read⟩⟩, f_rsome, _, ⟨F_rsome, ⟨a_rsome, i_rsome, k_rsome⟩⟩, f_rline, _, ⟨F_rline, ⟨a_rline, i_rline, k_rline⟩⟩, f_pool, _, ⟨F_pool, PySem.W.mg_of X G a_pool⟩, f_take, _, ⟨F_take, PySem.W.mg_of X G a_take⟩, f_bytes, _, ⟨F_bytes, PySem.W.mg_of X G a_bytes⟩, f_goal, _, ⟨F_goal, PySem.W.mg_of X G a_goal⟩, f_things, _, ⟨F_things, PySem.W.mg_of X G a_things⟩, f_lbyte, _, ⟨F_lbyte, PySem.W.mg_of X G a_lbyte⟩, f_pdue, _, ⟨F_pdue, PySem.W.mg_of X G a_pdue⟩, f_wdue, _, ⟨F_wdue, PySem.W.mg_of X G a_wdue⟩, f_reads, _, ⟨F_reads, PySem.W.mg_of X G a_reads⟩, f_does, _, ⟨F_does, PySem.W.mg_of X G a_does⟩, f_tries, _, ⟨F_tries, PySem.W.mg_of X G a_tries⟩, f_deed, _, ⟨F_deed, PySem.W.mg_of X G a_deed⟩, f_due, _, ⟨F_due, PySem.W.mg_of X G a_due⟩, f_moved, _, ⟨F_moved, PySem.W.mg_of X G a_moved⟩, fa, _, ⟨F_law, PySem.W.mg_of X G a_law⟩, ⟨pg_Plain, hd_Plain, po_Plain, sa_Plain⟩, PySem.W.mg_of X G qa_Plain, ⟨mk_Plain, a_init, i_init, kc_Plain⟩, n_Plain_cells, n_Plain_cursor, PySem.W.mg_of X G qa_SipError, PySem.W.mg_of X G qa_BadPlace, PySem.W.mg_of X G qa_TooLong, PySem.W.mg_of X G qa_NotByte, PySem.W.mg_of X G qa_BadCount, PySem.W.mg_of X G qa_BadStart, ⟨xo_BadPlace, sa_BadPlace, ex_BadPlace, ty_BadPlace, kx_BadPlace⟩, ⟨hg_BadPlace, hk_BadPlace, ex_BadPlace, hd_BadPlace, ha_BadPlace, hn_BadPlace, ht_BadPlace, hm_BadPlace⟩, no_BadPlace, a_iBadPlace, i_iBadPlace, PySem.W.exm_ref sb_SipError sh_SipError st_SipError ss_BadPlace, ⟨xo_TooLong, sa_TooLong, ex_TooLong, ty_TooLong, kx_TooLong⟩, ⟨hg_TooLong, hk_TooLong, ex_TooLong, hd_TooLong, ha_TooLong, hn_TooLong, ht_TooLong, hm_TooLong⟩, no_TooLong, a_iTooLong, i_iTooLong, PySem.W.exm_ref sb_SipError sh_SipError st_SipError ss_TooLong, ⟨xo_NotByte, sa_NotByte, ex_NotByte, ty_NotByte, kx_NotByte⟩, ⟨hg_NotByte, hk_NotByte, ex_NotByte, hd_NotByte, ha_NotByte, hn_NotByte, ht_NotByte, hm_NotByte⟩, no_NotByte, a_iNotByte, i_iNotByte, PySem.W.exm_ref sb_SipError sh_SipError st_SipError ss_NotByte, qx_BadCount, qk_BadCount, qb_BadCount, qt_BadCount, qx_BadStart, qk_BadStart, qb_BadStart, qt_BadStart, PySem.W.exm_ref hb_BadCount hh_BadCount hy_BadCount hs_BadPlace_BadCount, PySem.W.exm_ref hb_NotByte hh_NotByte hy_NotByte hs_BadPlace_NotByte, PySem.W.exm_ref hb_TooLong hh_TooLong hy_TooLong hs_BadPlace_TooLong, PySem.W.exm_ref hb_BadStart hh_BadStart hy_BadStart hs_BadPlace_BadStart, PySem.W.exm_ref hb_BadPlace hh_BadPlace hy_BadPlace hs_BadPlace_BadPlace, PySem.W.exm_ref hb_BadCount hh_BadCount hy_BadCount hs_TooLong_BadCount, PySem.W.exm_ref hb_NotByte hh_NotByte hy_NotByte hs_TooLong_NotByte, PySem.W.exm_ref hb_TooLong hh_TooLong hy_TooLong hs_TooLong_TooLong, PySem.W.exm_ref hb_BadStart hh_BadStart hy_BadStart hs_TooLong_BadStart, PySem.W.exm_ref hb_BadPlace hh_BadPlace hy_BadPlace hs_TooLong_BadPlace, PySem.W.exm_ref hb_BadCount hh_BadCount hy_BadCount hs_NotByte_BadCount, PySem.W.exm_ref hb_NotByte hh_NotByte hy_NotByte hs_NotByte_NotByte, PySem.W.exm_ref hb_TooLong hh_TooLong hy_TooLong hs_NotByte_TooLong, PySem.W.exm_ref hb_BadStart hh_BadStart hy_BadStart hs_NotByte_BadStart, PySem.W.exm_ref hb_BadPlace hh_BadPlace hy_BadPlace hs_NotByte_BadPlace, PySem.W.exm_ref hb_BadCount hh_BadCount hy_BadCount hs_BadCount_BadCount, PySem.W.exm_ref hb_NotByte hh_NotByte hy_NotByte hs_BadCount_NotByte, PySem.W.exm_ref hb_TooLong hh_TooLong hy_TooLong hs_BadCount_TooLong, PySem.W.exm_ref hb_BadStart hh_BadStart hy_BadStart hs_BadCount_BadStart, PySem.W.exm_ref hb_BadPlace hh_BadPlace hy_BadPlace hs_BadCount_BadPlace, PySem.W.exm_ref hb_BadCount hh_BadCount hy_BadCount hs_BadStart_BadCount, PySem.W.exm_ref hb_NotByte hh_NotByte hy_NotByte hs_BadStart_NotByte, PySem.W.exm_ref hb_TooLong hh_TooLong hy_TooLong hs_BadStart_TooLong, PySem.W.exm_ref hb_BadStart hh_BadStart hy_BadStart hs_BadStart_BadStart, PySem.W.exm_ref hb_BadPlace hh_BadPlace hy_BadPlace hs_BadStart_BadPlace, bb_ahead, bb_bytes, bb_cbytes, bb_ccount, bb_cgoal, bb_clen, bb_deed, bb_does, bb_due, bb_fline, bb_goal, bb_iBadPlace, bb_iNotByte, bb_iTooLong, bb_init, bb_isbyte, bb_laid, bb_lbyte, bb_moved, bb_passed, bb_pcut, bb_pdue, bb_peek, bb_pool, bb_read, bb_reads, bb_rline, bb_row, bb_rsome, bb_sgoal, bb_take, bb_tell, bb_things, bb_tries, bb_wdue, bb_whole, bb_write, kb_seek_1_start, t_LONGEST, PySem.W.mg_of X G v_LONGEST, t_LINE_FEED, PySem.W.mg_of X G v_LINE_FEED, PySem.W.mg_none_of X G z_list, PySem.W.mg_none_of X G z_len, PySem.W.mg_none_of X G z_range, PySem.W.mg_none_of X G z_max, PySem.W.mg_none_of X G z_min, PySem.W.mg_none_of X G z_isinstance, PySem.W.mg_none_of X G z_int, PySem.W.mg_none_of X G z_bool, PySem.W.mg_none_of X G z_all, PySem.W.mg_none_of X G z_enumerate, PySem.W.mg_none_of X G z_repr⟩
  exact ⟨_, fun s v => .of_eq rfl, fun base _ _ => ok_law T⟩
end Sip
open PySem PySem.W PyProof.Rows
set_option maxHeartbeats 0 in
theorem PySem.Challenge.cw_sipstack_k22_plain_refused_holds : PySem.Challenge.rw_sipstack_k22_plain_refused.Holds := by
  w_on; o_law; k_head; (case hw => w_witness2)
  k_fill
  refine Sip.walk_ofG (l := PySem.Challenge.rw_sipstack_k22_plain_refused) (n := 63) (k := 9) (x := "_law_script") (CX := fun _ => L2.CX0) (sp := fun w => Sip.spLaw _) rfl (by decide) rfl ⟨rfl, by decide, by decide⟩ (fun w h Y => PySem.W.kIn_of Y) ?F (fun _ _ a ns hl _ hS => ⟨a, ns, rfl, hS, hl, fun _ => rfl⟩) (fun _ _ _ _ _ h => h)
  case F =>
    intro w mg fa h KX G hmg
    refine' Sip.all_mk KX G hmg ?qa_Plain ?qa_SipError ?qa_BadPlace ?qa_TooLong ?qa_NotByte ?qa_BadCount ?qa_BadStart ?sb_SipError ?sh_SipError ?st_SipError ?qx_BadCount ?qk_BadCount ?qb_BadCount ?qt_BadCount ?qx_BadStart ?qk_BadStart ?qb_BadStart ?qt_BadStart ?hb_BadCount ?hh_BadCount ?hy_BadCount ?hs_BadPlace_BadCount ?hs_TooLong_BadCount ?hs_NotByte_BadCount ?hs_BadCount_BadCount ?hs_BadStart_BadCount ?hb_NotByte ?hh_NotByte ?hy_NotByte ?hs_BadPlace_NotByte ?hs_TooLong_NotByte ?hs_NotByte_NotByte ?hs_BadCount_NotByte ?hs_BadStart_NotByte ?hb_TooLong ?hh_TooLong ?hy_TooLong ?hs_BadPlace_TooLong ?hs_TooLong_TooLong ?hs_NotByte_TooLong ?hs_BadCount_TooLong ?hs_BadStart_TooLong ?hb_BadStart ?hh_BadStart ?hy_BadStart ?hs_BadPlace_BadStart ?hs_TooLong_BadStart ?hs_NotByte_BadStart ?hs_BadCount_BadStart ?hs_BadStart_BadStart ?hb_BadPlace ?hh_BadPlace ?hy_BadPlace ?hs_BadPlace_BadPlace ?hs_TooLong_BadPlace ?hs_NotByte_BadPlace ?hs_BadCount_BadPlace ?hs_BadStart_BadPlace ?xo_BadPlace ?sa_BadPlace ?ex_BadPlace ?ty_BadPlace ?kx_BadPlace ?hg_BadPlace ?hk_BadPlace ?hd_BadPlace ?ha_BadPlace ?hn_BadPlace ?ht_BadPlace ?hm_BadPlace ?no_BadPlace ?ss_BadPlace ?se_BadPlace ?xo_TooLong ?sa_TooLong ?ex_TooLong ?ty_TooLong ?kx_TooLong ?hg_TooLong ?hk_TooLong ?hd_TooLong ?ha_TooLong ?hn_TooLong ?ht_TooLong ?hm_TooLong ?no_TooLong ?ss_TooLong ?se_TooLong ?xo_NotByte ?sa_NotByte ?ex_NotByte ?ty_NotByte ?kx_NotByte ?hg_NotByte ?hk_NotByte ?hd_NotByte ?ha_NotByte ?hn_NotByte ?ht_NotByte ?hm_NotByte ?no_NotByte ?ss_NotByte ?se_NotByte ?a_iBadPlace ?i_iBadPlace ?l_iBadPlace ?c_iBadPlace ?k_iBadPlace ?a_iTooLong ?i_iTooLong ?l_iTooLong ?c_iTooLong ?k_iTooLong ?a_iNotByte ?i_iNotByte ?l_iNotByte ?c_iNotByte ?k_iNotByte ?a_laid ?l_laid ?c_laid ?k_laid ?a_whole ?l_whole ?c_whole ?k_whole ?a_isbyte ?l_isbyte ?c_isbyte ?k_isbyte ?a_cbytes ?l_cbytes ?c_cbytes ?k_cbytes ?a_clen ?l_clen ?c_clen ?k_clen ?a_cgoal ?l_cgoal ?c_cgoal ?k_cgoal ?a_ccount ?l_ccount ?c_ccount ?k_ccount ?a_sgoal ?l_sgoal ?c_sgoal ?k_sgoal ?a_fline ?l_fline ?c_fline ?k_fline ?a_init ?i_init ?l_init ?c_init ?k_init ?t_init ?a_write ?i_write ?l_write ?c_write ?k_write ?a_seek ?i_seek ?l_seek ?c_seek ?k_seek ?w_seek_0 ?a_tell ?i_tell ?l_tell ?c_tell ?k_tell ?a_size ?i_size ?l_size ?c_size ?k_size ?a_pcut ?i_pcut ?l_pcut ?c_pcut ?k_pcut ?t_pcut ?a_row ?i_row ?l_row ?c_row ?k_row ?a_ahead ?i_ahead ?l_ahead ?c_ahead ?k_ahead ?a_passed ?i_passed ?l_passed ?c_passed ?k_passed ?a_peek ?i_peek ?l_peek ?c_peek ?k_peek ?t_peek ?a_read ?i_read ?l_read ?c_read ?k_read ?t_read ?a_rsome ?i_rsome ?l_rsome ?c_rsome ?k_rsome ?a_rline ?i_rline ?l_rline ?c_rline ?k_rline ?t_rline ?a_pool ?l_pool ?c_pool ?k_pool ?a_take ?l_take ?c_take ?k_take ?a_bytes ?l_bytes ?c_bytes ?k_bytes ?a_goal ?l_goal ?c_goal ?k_goal ?a_things ?l_things ?c_things ?k_things ?a_lbyte ?l_lbyte ?c_lbyte ?k_lbyte ?a_pdue ?l_pdue ?c_pdue ?k_pdue ?a_wdue ?l_wdue ?c_wdue ?k_wdue ?a_reads ?l_reads ?c_reads ?k_reads ?a_does ?l_does ?c_does ?k_does ?a_tries ?l_tries ?c_tries ?k_tries ?a_deed ?l_deed ?c_deed ?k_deed ?a_due ?l_due ?c_due ?k_due ?a_moved ?l_moved ?c_moved ?k_moved ?a_law ?l_law ?c_law ?k_law ?pg_Plain ?hd_Plain ?po_Plain ?sa_Plain ?mk_Plain ?kc_Plain ?n_Plain_cells ?n_Plain_cursor ?v_LONGEST ?v_LINE_FEED ?z_list ?z_len ?z_range ?z_max ?z_min ?z_isinstance ?z_int ?z_bool ?z_all ?z_enumerate ?z_repr
    (case qa_Plain => k_is)
    (case qa_SipError => k_is)
    (case qa_BadPlace => k_is)
    (case qa_TooLong => k_is)
    (case qa_NotByte => k_is)
    (case qa_BadCount => k_is)
    (case qa_BadStart => k_is)
    (case sb_SipError => k_is)
    (case sh_SipError => k_is)
    (case st_SipError => k_is)
    (case qx_BadCount => k_exc)
    (case qk_BadCount => k_is)
    (case qb_BadCount => k_is)
    (case qt_BadCount => k_is)
    (case qx_BadStart => k_exc)
    (case qk_BadStart => k_is)
    (case qb_BadStart => k_is)
    (case qt_BadStart => k_is)
    (case hb_BadCount => k_is)
    (case hh_BadCount => k_is)
    (case hy_BadCount => k_is)
    (case hs_BadPlace_BadCount => k_is)
    (case hs_TooLong_BadCount => k_is)
    (case hs_NotByte_BadCount => k_is)
    (case hs_BadCount_BadCount => k_is)
    (case hs_BadStart_BadCount => k_is)
    (case hb_NotByte => k_is)
    (case hh_NotByte => k_is)
    (case hy_NotByte => k_is)
    (case hs_BadPlace_NotByte => k_is)
    (case hs_TooLong_NotByte => k_is)
    (case hs_NotByte_NotByte => k_is)
    (case hs_BadCount_NotByte => k_is)
    (case hs_BadStart_NotByte => k_is)
    (case hb_TooLong => k_is)
    (case hh_TooLong => k_is)
    (case hy_TooLong => k_is)
    (case hs_BadPlace_TooLong => k_is)
    (case hs_TooLong_TooLong => k_is)
    (case hs_NotByte_TooLong => k_is)
    (case hs_BadCount_TooLong => k_is)
    (case hs_BadStart_TooLong => k_is)
    (case hb_BadStart => k_is)
    (case hh_BadStart => k_is)
    (case hy_BadStart => k_is)
    (case hs_BadPlace_BadStart => k_is)
    (case hs_TooLong_BadStart => k_is)
    (case hs_NotByte_BadStart => k_is)
    (case hs_BadCount_BadStart => k_is)
    (case hs_BadStart_BadStart => k_is)
    (case hb_BadPlace => k_is)
    (case hh_BadPlace => k_is)
    (case hy_BadPlace => k_is)
    (case hs_BadPlace_BadPlace => k_is)
    (case hs_TooLong_BadPlace => k_is)
    (case hs_NotByte_BadPlace => k_is)
    (case hs_BadCount_BadPlace => k_is)
    (case hs_BadStart_BadPlace => k_is)
    (case xo_BadPlace => exact ⟨_, _, _, _, _, _, _, _, _, _, _, _, _, _, _, (by k_is), (by decide +kernel)⟩)
    (case sa_BadPlace => k_is)
    (case ex_BadPlace => k_is)
    (case ty_BadPlace => k_is)
    (case kx_BadPlace => k_is)
    (case hg_BadPlace => k_is)
    (case hk_BadPlace => k_is)
    (case hd_BadPlace => k_is)
    (case ha_BadPlace => k_is)
    (case hn_BadPlace => k_is)
    (case ht_BadPlace => k_is)
    (case hm_BadPlace => k_is)
    (case no_BadPlace => k_is)
    (case ss_BadPlace => k_is)
    (case se_BadPlace => k_is)
    (case xo_TooLong => exact ⟨_, _, _, _, _, _, _, _, _, _, _, _, _, _, _, (by k_is), (by decide +kernel)⟩)
    (case sa_TooLong => k_is)
    (case ex_TooLong => k_is)
    (case ty_TooLong => k_is)
    (case kx_TooLong => k_is)
    (case hg_TooLong => k_is)
    (case hk_TooLong => k_is)
    (case hd_TooLong => k_is)
    (case ha_TooLong => k_is)
    (case hn_TooLong => k_is)
    (case ht_TooLong => k_is)
    (case hm_TooLong => k_is)
    (case no_TooLong => k_is)
    (case ss_TooLong => k_is)
    (case se_TooLong => k_is)
    (case xo_NotByte => exact ⟨_, _, _, _, _, _, _, _, _, _, _, _, _, _, _, (by k_is), (by decide +kernel)⟩)
    (case sa_NotByte => k_is)
    (case ex_NotByte => k_is)
    (case ty_NotByte => k_is)
    (case kx_NotByte => k_is)
    (case hg_NotByte => k_is)
    (case hk_NotByte => k_is)
    (case hd_NotByte => k_is)
    (case ha_NotByte => k_is)
    (case hn_NotByte => k_is)
    (case ht_NotByte => k_is)
    (case hm_NotByte => k_is)
    (case no_NotByte => k_is)
    (case ss_NotByte => k_is)
    (case se_NotByte => k_is)
    (case a_iBadPlace => k_is)
    (case i_iBadPlace => k_is)
    (case l_iBadPlace => k_is)
    (case c_iBadPlace => k_is)
    (case k_iBadPlace => k_is)
    (case a_iTooLong => k_is)
    (case i_iTooLong => k_is)
    (case l_iTooLong => k_is)
    (case c_iTooLong => k_is)
    (case k_iTooLong => k_is)
    (case a_iNotByte => k_is)
    (case i_iNotByte => k_is)
    (case l_iNotByte => k_is)
    (case c_iNotByte => k_is)
    (case k_iNotByte => k_is)
    (case a_laid => k_is)
    (case l_laid => k_is)
    (case c_laid => k_is)
    (case k_laid => k_is)
    (case a_whole => k_is)
    (case l_whole => k_is)
    (case c_whole => k_is)
    (case k_whole => k_is)
    (case a_isbyte => k_is)
    (case l_isbyte => k_is)
    (case c_isbyte => k_is)
    (case k_isbyte => k_is)
    (case a_cbytes => k_is)
    (case l_cbytes => k_is)
    (case c_cbytes => k_is)
    (case k_cbytes => k_is)
    (case a_clen => k_is)
    (case l_clen => k_is)
    (case c_clen => k_is)
    (case k_clen => k_is)
    (case a_cgoal => k_is)
    (case l_cgoal => k_is)
    (case c_cgoal => k_is)
    (case k_cgoal => k_is)
    (case a_ccount => k_is)
    (case l_ccount => k_is)
    (case c_ccount => k_is)
    (case k_ccount => k_is)
    (case a_sgoal => k_is)
    (case l_sgoal => k_is)
    (case c_sgoal => k_is)
    (case k_sgoal => k_is)
    (case a_fline => k_is)
    (case l_fline => k_is)
    (case c_fline => k_is)
    (case k_fline => k_is)
    (case a_init => k_is)
    (case i_init => k_is)
    (case l_init => k_is)
    (case c_init => k_is)
    (case k_init => k_is)
    (case t_init => k_is)
    (case a_write => k_is)
    (case i_write => k_is)
    (case l_write => k_is)
    (case c_write => k_is)
    (case k_write => k_is)
    (case a_seek => k_is)
    (case i_seek => k_is)
    (case l_seek => k_is)
    (case c_seek => k_is)
    (case k_seek => k_is)
    (case w_seek_0 => k_is)
    (case a_tell => k_is)
    (case i_tell => k_is)
    (case l_tell => k_is)
    (case c_tell => k_is)
    (case k_tell => k_is)
    (case a_size => k_is)
    (case i_size => k_is)
    (case l_size => k_is)
    (case c_size => k_is)
    (case k_size => k_is)
    (case a_pcut => k_is)
    (case i_pcut => k_is)
    (case l_pcut => k_is)
    (case c_pcut => k_is)
    (case k_pcut => k_is)
    (case t_pcut => k_is)
    (case a_row => k_is)
    (case i_row => k_is)
    (case l_row => k_is)
    (case c_row => k_is)
    (case k_row => k_is)
    (case a_ahead => k_is)
    (case i_ahead => k_is)
    (case l_ahead => k_is)
    (case c_ahead => k_is)
    (case k_ahead => k_is)
    (case a_passed => k_is)
    (case i_passed => k_is)
    (case l_passed => k_is)
    (case c_passed => k_is)
    (case k_passed => k_is)
    (case a_peek => k_is)
    (case i_peek => k_is)
    (case l_peek => k_is)
    (case c_peek => k_is)
    (case k_peek => k_is)
    (case t_peek => k_is)
    (case a_read => k_is)
    (case i_read => k_is)
    (case l_read => k_is)
    (case c_read => k_is)
    (case k_read => k_is)
    (case t_read => k_is)
    (case a_rsome => k_is)
    (case i_rsome => k_is)
    (case l_rsome => k_is)
    (case c_rsome => k_is)
    (case k_rsome => k_is)
    (case a_rline => k_is)
    (case i_rline => k_is)
    (case l_rline => k_is)
    (case c_rline => k_is)
    (case k_rline => k_is)
    (case t_rline => k_is)
    (case a_pool => k_is)
    (case l_pool => k_is)
    (case c_pool => k_is)
    (case k_pool => k_is)
    (case a_take => k_is)
    (case l_take => k_is)
    (case c_take => k_is)
    (case k_take => k_is)
    (case a_bytes => k_is)
    (case l_bytes => k_is)
    (case c_bytes => k_is)
    (case k_bytes => k_is)
    (case a_goal => k_is)
    (case l_goal => k_is)
    (case c_goal => k_is)
    (case k_goal => k_is)
    (case a_things => k_is)
    (case l_things => k_is)
    (case c_things => k_is)
    (case k_things => k_is)
    (case a_lbyte => k_is)
    (case l_lbyte => k_is)
    (case c_lbyte => k_is)
    (case k_lbyte => k_is)
    (case a_pdue => k_is)
    (case l_pdue => k_is)
    (case c_pdue => k_is)
    (case k_pdue => k_is)
    (case a_wdue => k_is)
    (case l_wdue => k_is)
    (case c_wdue => k_is)
    (case k_wdue => k_is)
    (case a_reads => k_is)
    (case l_reads => k_is)
    (case c_reads => k_is)
    (case k_reads => k_is)
    (case a_does => k_is)
    (case l_does => k_is)
    (case c_does => k_is)
    (case k_does => k_is)
    (case a_tries => k_is)
    (case l_tries => k_is)
    (case c_tries => k_is)
    (case k_tries => k_is)
    (case a_deed => k_is)
    (case l_deed => k_is)
    (case c_deed => k_is)
    (case k_deed => k_is)
    (case a_due => k_is)
    (case l_due => k_is)
    (case c_due => k_is)
    (case k_due => k_is)
    (case a_moved => k_is)
    (case l_moved => k_is)
    (case c_moved => k_is)
    (case k_moved => k_is)
    (case a_law => k_is)
    (case l_law => k_is)
    (case c_law => k_is)
    (case k_law => k_is)
    (case pg_Plain => k_is)
    (case hd_Plain => k_is)
    (case po_Plain => k_is)
    (case sa_Plain => k_is)
    (case mk_Plain => k_is)
    (case kc_Plain => k_is)
    (case n_Plain_cells => k_is)
    (case n_Plain_cursor => k_is)
    (case v_LONGEST => k_is)
    (case v_LINE_FEED => k_is)
    (case z_list => k_is)
    (case z_len => k_is)
    (case z_range => k_is)
    (case z_max => k_is)
    (case z_min => k_is)
    (case z_isinstance => k_is)
    (case z_int => k_is)
    (case z_bool => k_is)
    (case z_all => k_is)
    (case z_enumerate => k_is)
    (case z_repr => k_is)
