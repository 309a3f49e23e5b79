import PyProof.Rows.All
import Wide.All
import OpenK.AllK
import Wide.FinOn
import HandS.List
import HandS.Codes
import HandS.Comp
import HandS.Iter
import HandS.Ends
import HandS.Text
import HandS.Words
import HandS.WordsList
import HandS.Wide
import HandS.IsInst
import HandS.FStr
import PyProof.FString3
import PyProof.Rows.StrIntSpec
import HandS.Walk
import HandS.Exc
import HandS.ExcOwn
import HandS.ExcIs
import HandS.WordsExc
import HandS.StrMore
import HandS.Defaults
import HandS.MakeKwOnly
import PyProof.ReprRoads
import PyProof.ReprLen
import HandS.Flow
import HandS.ExcInit
import KE.KExcIs
import HandS.TryMany
import HandS.Deep
import PySem.Challenge.RW_sipstack_k23_whole_plain
set_option Elab.async false
set_option linter.all false
set_option maxRecDepth 100000
namespace Sip
open PySem PySem.Spec PyProof.Rows L2

/-! a slice of step one in a list, laid over by another list; its end may lie behind the list's end -/
theorem clamp {a c n : Nat} (h1 : a ≤ c) (h2 : a ≤ n) :
    sliceBounds (some (a : Int)) (some (c : Int)) none n = ((a : Int), ((min c n : Nat) : Int), 1) := by
  have n1 : ¬ ((a : Int) < 0) := by omega
  have n2 : ¬ ((c : Int) < 0) := by omega
  simp only [sliceBounds, Option.getD_none, n1, n2, if_false, show (1 : Int) > 0 from by decide, if_true]
  refine Prod.ext ?_ (Prod.ext ?_ rfl)
  · show max 0 (min (a : Int) (n : Int)) = (a : Int)
    omega
  · show max 0 (min (c : Int) (n : Int)) = ((min c n : Nat) : Int)
    omega

section
variable {pr : Program} {wd : World} {ar : Around} {er : Value → Shared → Prop} {s : Shared}
set_option maxHeartbeats 4000000 in
theorem put_slice {l b z : Addr} {old new : Array Value} {m m2 a c : Nat} {vl vu : Value} {Q : Unit → Shared → Prop}
    (eo : s.heap.get? l = some { cls := .type "list", data := .seq old m })
    (en : s.heap.get? b = some { cls := .type "list", data := .seq new m2 }) (ne : l ≠ b)
    (hz : s.heap.IsSliceOf z vl vu .none) (pl : IsPart vl (some (a : Int))) (pu : IsPart vu (some (c : Int)))
    (ac : a ≤ c) (an : a ≤ old.size) (fit : old.size + new.size ≤ sizeLine)
    (k : Q () { s with heap := s.heap.update l (Obj.mapSeq fun t => t.extract 0 a ++ new ++ t.extract (min c old.size) t.size) }) :
    wpAny (model pr wd) ar (setItem (.ref l) (.ref z) (.ref b)) Q er s := by
  by_cases hc : c ≤ old.size
  · rw [Nat.min_eq_left hc] at k
    exact setItem_slice eo en ne hz pl pu ac hc fit k
  · have lo : s.heap.IsList l old := PySem.IsL.isList eo
    have ln : s.heap.IsList b new := PySem.IsL.isList en
    obtain ⟨oz, gz, cz, dz⟩ := id hz
    have tz : s.TypeIs (.ref z) "slice" := ⟨oz, gz, cz⟩
    have apart : Builtin.List.listSameRef (.ref l) (.ref b) = false := by
      unfold Builtin.List.listSameRef; exact beq_eq_false_iff_ne.mpr ne
    have zz : ((fun t : Array Value => t.extract 0 a ++ new ++ t.extract (min c old.size) t.size) old).size ≤ sizeLine + 1 := by
      simp only [Array.size_append, Array.size_extract]; omega
    have bd := clamp ac an
    have mx : (max (a : Int) ((min c old.size : Nat) : Int)).toNat = min c old.size := by omega
    unfold setItem
    try (with_reducible refine wpAny_holding ?_)
    try refine wpAny_bind (wpAny_pure ?_)
    refine wpAny_bind (wpAny_sequenceKey lo.typeIs (by decide) (wpAny_bind ?_))
    refine wpAny_callSpecial?_slot (name := Str.ofString "__setitem__") lo.typeIs slot_list_setitem ?_
    refine wpAny_call_entry slot_list_setitem lo.typeIs entry_list_setitem ?_ (args_list_setitem _ _ _)
    show wpAny _ _ (Builtin.List.listSubscript? (.ref z) >>= _) _ _ s
    refine wpAny_bind ?_
    unfold Builtin.List.listSubscript?
    refine wpAny_bind (wpAny_specialOf tz slice_no_index ?_)
    simp only [Option.isNone_none, if_true]
    refine wpAny_pure ?_
    show wpAny _ _ (typeOf (.ref z) >>= _) _ _ s
    refine wpAny_bind (wpAny_typeOf tz ?_)
    first
      | rw [if_neg (by decide)]
      | refine PySem.W.KFB.if_not (by decide) ?_
    rw [listSliceParts_eq]
    refine wpAny_bind (wpAny_bind (wpAny_field gz dz (x := .none) rfl (wpAny_bind (wpAny_listPart .none ?_))))
    rw [if_neg (show ¬ ((rawPart none == rawInt 0) = true) from Bool.false_ne_true)]
    refine wpAny_bind (wpAny_field gz dz (x := vl) rfl (wpAny_bind (wpAny_listPart pl ?_)))
    refine wpAny_bind (wpAny_field gz dz (x := vu) rfl (wpAny_bind (wpAny_listPart pu (wpAny_pure ?_))))
    first
      | simp only [apart, Bool.false_eq_true, if_false]
      | refine PySem.W.KFB.if_not apart ?_
    refine wpAny_bind ?_
    unfold Builtin.List.listAllItems
    refine wpAny_bind (wpAny_typeOf ln.typeIs ?_)
    first
      | refine PySem.W.KFB.if_so (by decide) ?_
      | rw [if_pos (by decide)]
    unfold Builtin.List.listItems
    refine wpAny_bind (wpAny_seqItems en rfl (wpAny_pure (wpAny_bind (wpAny_bind (wpAny_seqItems eo rfl (wpAny_pure ?_))))))
    have si := (sliceIndices_raw (some (a : Int)) (some (c : Int)) none old.size (by simp)).trans (congrArg (pure : Int × Int × Int → Sem (Int × Int × Int)) bd)
    refine wpAny_bind (wpAny_of_eq si ?_)
    show wpAny _ _ (if ((1 : Int) == 1) = true then _ else _) _ _ s
    rw [if_pos (by decide)]
    refine wpAny_bind (wpAny_rule ?_)
    first
      | simp only [notLongL fit, Bool.false_eq_true, if_false]
      | refine PySem.W.KFB.if_not (notLongL fit) ?_
    try refine wpAny_bind (wpAny_pure ?_)
    show wpAny _ _ (updateSeq l (fun t => t.extract 0 ((a : Int)).toNat ++ new ++ t.extract (max (a : Int) ((min c old.size : Nat) : Int)).toNat t.size) >>= _) _ _ s
    rw [mx, Int.toNat_natCast]
    refine wpAny_bind (wpAny_updateSeq (hz := Nat.le_trans (Nat.le_add_right _ _) fit) (_hz' := zz) eo rfl (wpAny_bind (wpAny_letGo ?_)))
    first
      | exact wpAny_bind (wpAny_pure (wpAny_pure ⟨.none, rfl, wpAny_pure k⟩))
      | exact wpAny_pure ⟨.none, rfl, wpAny_pure k⟩
end

section
variable {X : Cx}
theorem splice (xs ys : List Value) (a c : Nat) : xs.toArray.extract 0 a ++ ys.toArray ++ xs.toArray.extract (min c xs.toArray.size) xs.toArray.size = (xs.take a ++ ys ++ xs.drop c).toArray := by
  rw [splice_eq]
  congr 1
  by_cases h : c ≤ xs.length
  · rw [List.size_toArray, Nat.min_eq_left h]
  · rw [List.size_toArray, Nat.min_eq_right (by omega), List.drop_length, List.drop_of_length_le (by omega)]

/-- o[lo:hi] = v, both given, v another list -/
def gCut (to : TE) (tl th : TO) : TG := fun v σ H Q => to σ H fun o H1 => tl σ H1 fun lo H2 => th σ H2 fun hi H3 =>
  ∃ p q xs ys a c, o = .ref p ∧ v = .ref q ∧ lo = some a ∧ hi = some c ∧ H3 p = some (.lst xs) ∧ H3 q = some (.lst ys) ∧ p ≠ q ∧
    0 ≤ a ∧ a ≤ c ∧ a ≤ xs.length ∧ xs.length + ys.length ≤ sizeLine ∧ Q σ (upd H3 p (.lst (xs.take a.toNat ++ ys ++ xs.drop c.toNat)))

theorem pg_cut {o : Expr} {lo hi : Option Expr} {to : TE} {tl th : TO} {p2 pos : Pos} (ho : PE X o to) (hl : PO X lo tl) (hh : PO X hi th)
    (ha : ∀ v, assign (.Subscript o (.Slice lo hi none p2) pos) X.env v = (do
      let ov ← holding [v] (eval o X.env)
      let iv ← holding [v, ov] (eval (.Slice lo hi none p2) X.env)
      standAt pos
      holding [v, ov, iv] (setItem ov iv v)
      release [iv, v, ov] []) := by intro _; rfl) : PG X (.Subscript o (.Slice lo hi none p2) pos) (gCut to tl th) := by
  refine ⟨fun pins s σ H v u Q I r h => ?_⟩
  rw [ha]
  refine wpAny_bind (wpAny_holding (thn (ho.run pins s σ H _ I h) fun ov s1 ⟨x, H1, I1, r1, q1⟩ => wpAny_bind (wpAny_holding ?_)))
  refine wpAny_Slice (thn (hl.run pins s1 σ H1 _ I1 q1) fun wl s2 ⟨l, H2, I2, pl, q2⟩ => ?_)
  refine thn (hh.run pins s2 σ H2 _ I2 q2) fun wu s3 ⟨uu, H3, I3, pu, q3⟩ => ?_
  rw [evalPart_none]
  refine wpAny_pure ?_
  obtain ⟨p, q, xs, ys, a, c, rfl, rfl, rfl, rfl, hp, hq, pq, a0, ac, ax, fit, fin⟩ := q3
  cases r1
  cases r
  have I4 : Inv X pins σ H3 { s3 with heap := s3.heap.push { cls := .type "slice", data := .fields #[wl, wu, .none] } } := I3.kept (t' := s3.toks) fun b ob e => Heap.get?_push_of_some _ e
  refine wpAny_bind (wpAny_standAt (wpAny_bind (wpAny_holding ?_)))
  obtain ⟨z1, us1, n1, rv1, _, e1⟩ := I4.lstM hp
  obtain ⟨z2, us2, n2, rv2, _, e2⟩ := I4.lstM hq
  obtain ⟨a', rfl⟩ := Int.eq_ofNat_of_zero_le a0
  obtain ⟨c', rfl⟩ := Int.eq_ofNat_of_zero_le (Int.le_trans a0 ac)
  simp only [Int.toNat_natCast] at fin
  have L1 := rv1.length
  have L2' := rv2.length
  refine put_slice (a := a') (c := c') e1 e2 pq (Heap.IsSliceOf.new ..) pl pu (by omega) (by rw [List.size_toArray]; omega) (by rw [List.size_toArray, List.size_toArray]; omega) ?_
  refine wpAny_release ⟨σ, _, ?_, fin⟩
  refine I4.lset (its' := us1.take a' ++ us2 ++ us1.drop c') (t' := s3.toks) hp e1 (splice us1 us2 a' c') (Vals.append (Vals.append (rv1.take _) rv2) (rv1.drop _)) ?_
  rw [List.length_append, List.length_append, List.length_take, List.length_drop]
  omega
end
end Sip
namespace Sip
open PySem PySem.Spec PyProof.Rows L2

/-- a def of the text: where it stands, how it is called -/
structure Df (K : PySem.W.Frag) (mg : Str → Option Value) (x : Str) (st : Stmt) (ps : List Str) (f : Addr) (fd : FuncData) : Prop where
  F : Fun K x x st f fd
  b : Binds K fd ps []
  g : mg x = some (.ref f)

/-! heaps: all that was tracked stands, but at the places ps -/
def Kp (ps : List Addr) (H H' : Hp) : Prop := ∀ b o, b ∉ ps → H b = some o → H' b = some o
theorem Kp.refl (ps : List Addr) (H : Hp) : Kp ps H H := fun _ _ _ h => h
theorem Kp.trans {ps : List Addr} {H H1 H2 : Hp} (a : Kp ps H H1) (b : Kp ps H1 H2) : Kp ps H H2 := fun c o n h => b c o n (a c o n h)
theorem Kp.wide {ps qs : List Addr} {H H1 : Hp} (a : Kp ps H H1) (h : ∀ x ∈ ps, x ∈ qs) : Kp qs H H1 := fun c o n e => a c o (fun z => n (h c z)) e
theorem Kp.same {H H1 : Hp} (a : Kp [] H H1) : Same H H1 := fun c o e => a c o (fun h => nomatch h) e
theorem Kp.of {ps : List Addr} {H H1 : Hp} (a : Same H H1) : Kp ps H H1 := fun c o _ e => a c o e
theorem Kp.at {ps : List Addr} {H : Hp} {p : Addr} {o : HO} (h : p ∈ ps) : Kp ps H (upd H p o) := fun b x n e => by
  have hb : b ≠ p := fun z => n (by rw [z]; exact h)
  rw [upd_ne hb]; exact e
theorem Kp.new {ps : List Addr} {H : Hp} {p : Addr} {o : HO} (h : H p = none) : Kp ps H (upd H p o) := fun b x n e => by
  rw [upd_ne (ne_of_none e h)]; exact e
/-- a place that was new at H is written later -/
theorem Kp.put {ps : List Addr} {H H1 : Hp} {p : Addr} {o : HO} (k : Kp ps H H1) (h : H p = none) : Kp ps H (upd H1 p o) := fun b x n e => by
  rw [upd_ne (ne_of_none e h)]; exact k b x n e
theorem Kp.seq {ps : List Addr} {K : PySem.W.Frag} {H H1 : Hp} {a : Addr} {xs : List V} (k : Kp ps H H1) (n : a ∉ ps) (h : SqL K H a xs) : SqL K H1 a xs := by
  rcases h with (h | ⟨o, h⟩) | h
  · exact .inl (.inl (k _ _ n h))
  · exact .inl (.inr ⟨o, k _ _ n h⟩)
  · exact .inr h
theorem Kp.free {H H1 : Hp} {ps : List Addr} (k : Kp ps H H1) {q : Addr} (n : q ∉ ps) (h : H1 q = none) : H q = none := by
  cases e : H q with
  | none => rfl
  | some o => rw [k q o n e] at h; cases h
theorem sq_new {K : PySem.W.Frag} {H : Hp} {p : Addr} {xs : List V} : SqL K (upd H p (.lst xs)) p xs := .inl (.inl upd_same)
theorem sq_at {K : PySem.W.Frag} {H : Hp} {p : Addr} {xs : List V} (h : H p = some (.lst xs)) : SqL K H p xs := .inl (.inl h)
theorem upd_upd {H : Hp} {p : Addr} {a b : HO} : upd (upd H p a) p b = upd H p b := by
  funext x
  by_cases h : x = p
  · subst h; rw [upd_same, upd_same]
  · rw [upd_ne h, upd_ne h, upd_ne h]

/-! the law's own draws: a pool is a list of three ints -/
def PoolO (n : Int) (o : HO) : Prop := ∃ d c x : Int, o = .lst [.int d, .int c, .int x] ∧ 0 ≤ d ∧ 0 ≤ c ∧ c ≤ n
theorem PoolO.up {n m : Int} {o : HO} (h : PoolO n o) (l : n ≤ m) : PoolO m o := by
  obtain ⟨d, c, x, e, h1, h2, h3⟩ := h
  exact ⟨d, c, x, e, h1, h2, by omega⟩
def spTake : Sp := fun vs H Q _ => ∃ (p : Addr) (n wide : Int) (o : HO), vs = [.ref p, .int wide] ∧ H p = some o ∧ PoolO n o ∧ n ≤ 1000000000 ∧ 0 < wide ∧ wide < 1073741824 ∧
  ∀ (r : Int) (o' : HO), 0 ≤ r → r < wide → PoolO (n + 1) o' → Q (.int r) (upd H p o')
def spPool (K : PySem.W.Frag) : Sp := fun vs H Q _ => ∃ (a : Addr) (ns : List Int) (i : Int), vs = [.ref a, .int i] ∧ SqL K H a (ns.map V.int) ∧ ns.length ≤ 63 ∧ 0 ≤ i ∧ i ≤ 1000 ∧
  ∀ (p : Addr) (o : HO), H p = none → PoolO (1000 * i) o → Q (.ref p) (upd H p o)

/-! lists of ints -/
theorem atI_int {ms : List Int} {i : Int} (h0 : 0 ≤ i) (h1 : i < ms.length) : ∃ m, m ∈ ms ∧ atI (ms.map V.int) i = some (.int m) ∧ ms[i.toNat]? = some m := by
  obtain ⟨j, rfl⟩ := Int.eq_ofNat_of_zero_le h0
  have hj : j < ms.length := by omega
  refine ⟨ms[j], List.getElem_mem hj, atI_nat ?_, by rw [Int.toNat_natCast, List.getElem?_eq_getElem hj]⟩
  rw [List.getElem?_map, List.getElem?_eq_getElem hj]; rfl
theorem atI_intV {ms : List Int} {i : Int} (h0 : 0 ≤ i) (h1 : i < ms.length) : atI (ms.map V.int) i = some (.int (ms.getD i.toNat 0)) := by
  obtain ⟨m, _, e, g⟩ := atI_int h0 h1
  rw [e, List.getD_eq_getElem?_getD, g]; rfl
theorem dp_ints {K : PySem.W.Frag} {H : Hp} : ∀ ns : List Int, DpAll K H (ns.map V.int) (ns.map PyData.int)
  | [] => .nil
  | n :: r => .cons (.int n) (dp_ints r)
theorem dp_lst {K : PySem.W.Frag} {H : Hp} {a : Addr} {ns : List Int} (h : SqL K H a (ns.map V.int)) : Dp K H (.ref a) (.list (ns.map PyData.int)) := .lst h (dp_ints ns)
section
variable {X : Cx}
/-- == and != of two lists of ints -/
def rEqI (K : PySem.W.Frag) : R2 := fun x y H Q => ∃ (a b : Addr) (ns ms : List Int), x = .ref a ∧ y = .ref b ∧ SqL K H a (ns.map V.int) ∧ SqL K H b (ms.map V.int) ∧ Q (.bl (decide (ns = ms))) H
def rNeI (K : PySem.W.Frag) : R2 := fun x y H Q => ∃ (a b : Addr) (ns ms : List Int), x = .ref a ∧ y = .ref b ∧ SqL K H a (ns.map V.int) ∧ SqL K H b (ms.map V.int) ∧ Q (.bl (!decide (ns = ms))) H
theorem op_eqI (hu : X.A.units + 64 < cLine) : OpR X (compareOp .Eq) (rEqI X.K) := by
  intro pins s σ H x y v u Q I rx ry h
  obtain ⟨a, b, ns, ms, rfl, rfl, ha, hb, q⟩ := h
  cases rx; cases ry
  obtain ⟨us, rv, hl, _⟩ := I.list ha
  obtain ⟨ws, rw', hl', _⟩ := I.list hb
  exact PySem.W.eq_intsK hl.isList rv.ints hl'.isList rw'.ints hu ⟨.bl (decide (ns = ms)), H, I, rfl, q⟩
theorem op_neI (hu : X.A.units + 64 < cLine) : OpR X (compareOp .NotEq) (rNeI X.K) := by
  intro pins s σ H x y v u Q I rx ry h
  obtain ⟨a, b, ns, ms, rfl, rfl, ha, hb, q⟩ := h
  cases rx; cases ry
  obtain ⟨us, rv, hl, _⟩ := I.list ha
  obtain ⟨ws, rw', hl', _⟩ := I.list hb
  exact PySem.W.ne_intsK hl.isList rv.ints hl'.isList rw'.ints hu ⟨.bl (!decide (ns = ms)), H, I, rfl, q⟩
end
/-! a row laid over another one -/
def laidF (r : List Int) (n : Nat) (d : List Int) : List Int :=
  if d = [] then r else (r ++ List.replicate (n - r.length) 0).take n ++ d ++ (r ++ List.replicate (n - r.length) 0).drop (n + d.length)
theorem laidF_nil (r : List Int) (n : Nat) : laidF r n [] = r := if_pos rfl
theorem laidF_cons {r : List Int} {n : Nat} {d : List Int} (h : d ≠ []) : laidF r n d = (r ++ List.replicate (n - r.length) 0).take n ++ d ++ (r ++ List.replicate (n - r.length) 0).drop (n + d.length) := if_neg h
theorem laidF_length {r : List Int} {n : Nat} {d : List Int} (h : d ≠ []) : (laidF r n d).length = max r.length (n + d.length) := by
  rw [laidF_cons h, List.length_append, List.length_append, List.length_take, List.length_drop, List.length_append, List.length_replicate]
  omega
theorem pad_get (r : List Int) (m i : Nat) : (r ++ List.replicate m 0)[i]?.getD 0 = r.getD i 0 := by
  rw [List.getD_eq_getElem?_getD]
  by_cases h : i < r.length
  · rw [List.getElem?_append_left h]
  · rw [List.getElem?_append_right (by omega), List.getElem?_eq_none (l := r) (by omega)]
    by_cases h2 : i - r.length < m
    · rw [List.getElem?_replicate, if_pos h2]; rfl
    · rw [List.getElem?_eq_none (by rw [List.length_replicate]; omega)]
theorem laidF_getD {r : List Int} {n : Nat} {d : List Int} (h : d ≠ []) (i : Nat) : (laidF r n d)[i]?.getD 0 = if n ≤ i ∧ i < n + d.length then d.getD (i - n) 0 else r.getD i 0 := by
  have lt : ((r ++ List.replicate (n - r.length) 0).take n).length = n := by
    rw [List.length_take, List.length_append, List.length_replicate]; omega
  rw [laidF_cons h, List.append_assoc]
  by_cases h1 : i < n
  · rw [if_neg (by omega), List.getElem?_append_left (by rw [lt]; exact h1), List.getElem?_take_of_lt h1]
    exact pad_get r _ i
  · rw [List.getElem?_append_right (by rw [lt]; omega), lt]
    by_cases h2 : i < n + d.length
    · rw [if_pos ⟨by omega, h2⟩, List.getElem?_append_left (by omega), List.getD_eq_getElem?_getD]
    · rw [if_neg (by omega), List.getElem?_append_right (by omega), List.getElem?_drop, ← pad_get r (n - r.length) i]
      congr 2
      omega
theorem laidF_get {r : List Int} {n : Nat} {d : List Int} {i : Nat} (h : d ≠ []) (hi : i < (laidF r n d).length) : (laidF r n d)[i]? = some (if n ≤ i ∧ i < n + d.length then d.getD (i - n) 0 else r.getD i 0) := by
  rw [← laidF_getD h i, List.getElem?_eq_getElem hi]; rfl
theorem ext_getD {xs ys : List Int} (hl : xs.length = ys.length) (h : ∀ i, i < xs.length → xs[i]?.getD 0 = ys[i]?.getD 0) : xs = ys := by
  apply List.ext_getElem hl
  intro i h1 h2
  have := h i h1
  rw [List.getElem?_eq_getElem h1, List.getElem?_eq_getElem h2] at this
  exact this
/-- laid over once more: the same -/
theorem laidF_twice (r : List Int) (n : Nat) (d : List Int) : laidF (laidF r n d) n d = laidF r n d := by
  by_cases h : d = []
  · subst h; rw [laidF_nil, laidF_nil]
  · have l1 := laidF_length (r := r) (n := n) h
    have l2 := laidF_length (r := laidF r n d) (n := n) h
    refine ext_getD (by omega) fun i hi => ?_
    rw [laidF_getD h, laidF_getD h]
    split
    · rfl
    · next c => rw [List.getD_eq_getElem?_getD, laidF_getD h, if_neg c]
theorem flat_rep (m : Nat) (v : V) : (List.replicate m [v]).flatten = List.replicate m v := by
  induction m with
  | zero => rfl
  | succ m ih => rw [List.replicate_succ, List.flatten_cons, ih, List.replicate_succ]; rfl
theorem all_true (n : Nat) : (List.replicate n true).all id = true := by
  rw [List.all_eq_true]
  intro x hx
  exact (List.mem_replicate.mp hx).2
def spBytes : Sp := fun vs H Q _ => ∃ (p : Addr) (n : Int) (o : HO), vs = [.ref p] ∧ H p = some o ∧ PoolO n o ∧ n ≤ 900000000 ∧
  ∀ (H' : Hp) (q : Addr) (bs : List Int) (o' : HO), H q = none → H' q = some (.lst (bs.map V.int)) → H' p = some o' → PoolO (n + 1000) o' → Kp [p] H H' → bs.length ≤ 400 → (∀ b ∈ bs, 0 ≤ b ∧ b ≤ 255) → Q (.ref q) H'
def spLaid (K : PySem.W.Frag) : Sp := fun vs H Q _ => ∃ (a b : Addr) (r : List Int) (n : Nat) (d : List Int), vs = [.ref a, .int n, .ref b] ∧ SqL K H a (r.map V.int) ∧ H b = some (.lst (d.map V.int)) ∧ r.length ≤ 10000 ∧ n ≤ 4400 ∧ d.length ≤ 4400 ∧
  ∀ (H' : Hp) (q : Addr), H q = none → H' q = some (.lst ((laidF r n d).map V.int)) → Same H H' → Q (.ref q) H'
def spDue (K : PySem.W.Frag) : Sp := fun vs H Q _ => ∃ (a b : Addr) (r : List Int) (n : Nat) (d : List Int), vs = [.ref a, .int n, .ref b] ∧ SqL K H a (r.map V.int) ∧ SqL K H b (d.map V.int) ∧ r.length ≤ 10000 ∧ n ≤ 4400 ∧ d.length ≤ 4400 ∧
  ∀ (H' : Hp) (q : Addr), H q = none → H' q = some (.lst ((laidF r n d).map V.int)) → Same H H' → Q (.ref q) H'
def spFits (K : PySem.W.Frag) : Sp := fun vs H Q _ => ∃ (a b : Addr) (xs ys : List Int), vs = [.ref a, .ref b] ∧ H a = some (.lst (xs.map V.int)) ∧ SqL K H b (ys.map V.int) ∧ xs.length ≤ 100000 ∧
  ∀ H' : Hp, Same H H' → Q (.bl (decide (xs = ys))) H'
def spLaw (K : PySem.W.Frag) : Sp := fun vs H Q _ => ∃ (a : Addr) (ns : List Int), vs = [.ref a] ∧ SqL K H a (ns.map V.int) ∧ ns.length ≤ 63 ∧ ∀ H' : Hp, Q (.bl true) H'
theorem step_same {H H1 H2 : Hp} {p : Addr} (s : Same H H1) (n : H p = none) (k : Kp [p] H1 H2) : Same H H2 := fun b o e =>
  k b o (fun z => ne_of_none e n (List.mem_singleton.mp z)) (s b o e)
theorem put_same {H H1 : Hp} {p : Addr} {o : HO} (s : Same H H1) (n : H p = none) : Same H (upd H1 p o) := fun b x e => by
  rw [upd_ne (ne_of_none e n)]; exact s b x e
theorem ixN_zero {n : Nat} (h : 0 < n) : ixN n 0 = some 0 := by
  unfold ixN
  rw [if_pos (by decide), if_pos (by omega)]; rfl
theorem laidF_le {r d : List Int} {n m : Nat} (h : r.length ≤ m ∧ n + d.length ≤ m) : (laidF r n d).length ≤ m := by
  by_cases e : d = []
  · subst e; rw [laidF_nil]; exact h.1
  · rw [laidF_length e]; omega
end Sip
namespace Sip
open PySem PySem.Spec PyProof.Rows L2 PySem.Builtin PySem.Builtin.Str PySem.Builtin.Int PySem.Builtin.Float

def figs : List Nat := [48, 49, 50, 51, 52, 53, 54, 55, 56, 57, 97, 98, 99, 100, 101, 102]
/-- two figures of sixteen -/
def two (n : Nat) : Str := ⟨#[figs.getD (n / 16) 0, figs.getD (n % 16) 0]⟩
def hexSpec : FormatSpec := { fill := 48, align := 61, width := some 2, type := some 120 }
theorem hex_parse : parseFormatSpec (Str.ofString "02x").cps.toList "int" 62 = .ok hexSpec := by kernel_rfl
theorem hex_ascii : (((Str.ofString "02x").cps.toList.drop 1).any (· ≥ 128) || ((Str.ofString "02x").cps.getD 0 0 ≥ 128 && !([60, 62, 61, 94] : List Nat).contains ((Str.ofString "02x").cps.getD 1 0))) = false := by decide +kernel
theorem hex_some : ((Str.ofString "02x").length == 0) = false := by decide +kernel
theorem hex_ex : ∃ F : Int → Str, (∀ (a : Int) (t u : Tok), Gives («int.__format__» ⟨[.int a t, .str (Str.ofString "02x") u], []⟩) (.str (F a))) ∧ ∀ b : Fin 256, F (b.val : Int) = two b.val := by
  apply Exists.intro
  apply And.intro
  · intro a t u prog w A R s hq
    unfold «int.__format__»
    simp only [selfAndOne, noKeywords, Int.intOfSelf, asInt?, asStr?, List.isEmpty_nil, if_true, pure_bind, bind_pure, bind_assoc, hex_some, hex_ascii, Bool.false_eq_true, if_false,
      show (Value.str (Str.ofString "02x") u == Value.none) = false from rfl]
    refine wpAny_bind (wpAny_typeNameOf (T := "str") (typeIs_str _ _ _) (by decide) fun _ => wpAny_bind (wpAny_typeNameOfCut_int ?_))
    simp only [hex_parse]
    refine PySem.W.KFB.if_so (by decide +kernel) ?_
    show wpAny _ _ (retStr _) _ _ _
    unfold retStr
    exact wpAny_bind (wpAny_mkStr (wpAny_pure hq.2) hq.1)
  · decide +kernel
end Sip
namespace Sip
open PySem PySem.Spec PyProof.Rows L2 TL

section
variable {X : Cx}
/-- f'{b:02x}' of a byte -/
def tHex (te : TE) : TE := fun σ H Q => te σ H fun x H1 => ∃ b : Nat, b < 256 ∧ x = .int b ∧ Q (.str (two b)) H1
theorem pe_hex {e : Expr} {te : TE} {k : Nat} {p1 p2 p3 p4 : Pos} (he : PE X e te) :
    PE X (.JoinedStr [.FormattedValue e (-1) (some (.JoinedStr [.Constant (.str (Str.ofString "02x")) k p1] p2)) p3] p4) (tHex te) := by
  have hs : PE X (.JoinedStr [.Constant (.str (Str.ofString "02x")) k p1] p2) (tC (.str (Str.ofString "02x"))) := pe_joined1 pe_str
  obtain ⟨F, g1, g2⟩ := hex_ex
  refine ⟨fun pins s σ H Q I h => wpAny_JoinedStr_one (wpAny_FormattedValue_spec (thn (he.run pins s σ H _ I h) fun v s1 ⟨x, H1, I1, r1, q1⟩ => ?_))⟩
  obtain ⟨b, hb, rfl, q⟩ := q1
  obtain ⟨t, rfl⟩ := r1
  refine thn (hs.run pins s1 σ H1 (fun y H2 => y = .str (Str.ofString "02x") ∧ H2 = H1) I1 ⟨rfl, rfl⟩) fun u s2 ⟨y, H2, I2, r2, ey, eH⟩ => ?_
  subst ey eH
  obtain ⟨t2, rfl⟩ := r2
  have e2 : F (b : Int) = two b := g2 ⟨b, hb⟩
  refine ⟨_, _, rfl, wpAny_formatField_spec (x := F (b : Int)) hex_some (fun s' => typeIs_int s' _ _) PySem.F.slot_int_format PySem.F.entry_int_format PySem.F.args_int_format_2 (fun u => g1 b t u) ?_ (by rw [sizeLine_eq]; decide +kernel) (by rw [e2, sizeLine_eq]; show (2 : Nat) ≤ _; decide)⟩
  rw [e2]
  exact ⟨.str (two b), H2, (I2.tok _).tok _, ⟨_, rfl⟩, q⟩
end

/-! the text of a row, as codes -/
def twoL (b : Int) : List Nat := [figs.getD (b.toNat / 16) 0, figs.getD (b.toNat % 16) 0]
def txL (bs : List Int) : List Nat := bs.flatMap twoL
def tx (bs : List Int) : Str := ⟨(txL bs).toArray⟩
def Bytes (bs : List Int) : Prop := ∀ b ∈ bs, 0 ≤ b ∧ b ≤ 255
theorem txL_length : ∀ bs : List Int, (txL bs).length = 2 * bs.length
  | [] => rfl
  | b :: r => by
    show (twoL b ++ txL r).length = 2 * (r.length + 1)
    rw [List.length_append, txL_length r]
    show 2 + 2 * r.length = _
    omega
theorem tx_length (bs : List Int) : (tx bs).length = 2 * bs.length := by
  show (txL bs).toArray.size = _
  rw [List.size_toArray, txL_length]
theorem txL_append (a b : List Int) : txL (a ++ b) = txL a ++ txL b := List.flatMap_append
theorem tx_append (a b : List Int) : tx (a ++ b) = tx a ++ tx b := ext_toList (by
  show (txL (a ++ b)).toArray.toList = ((txL a).toArray ++ (txL b).toArray).toList
  rw [Array.toList_append, txL_append])
/-- a figure's worth -/
def wor (c : Nat) : Nat := figs.idxOf c
theorem wor_figs : ∀ j : Fin 16, wor (figs.getD j.val 0) = j.val := by decide
theorem twoL_back {b : Int} (h : 0 ≤ b ∧ b ≤ 255) : ∃ i j : Nat, i < 16 ∧ j < 16 ∧ twoL b = [figs.getD i 0, figs.getD j 0] ∧ b = 16 * (i : Int) + j :=
  ⟨b.toNat / 16, b.toNat % 16, by omega, by omega, rfl, by omega⟩
theorem figs_inj {i j : Nat} (hi : i < 16) (hj : j < 16) (e : figs.getD i 0 = figs.getD j 0) : i = j := by
  have a : wor (figs.getD i 0) = i := wor_figs ⟨i, hi⟩
  have b : wor (figs.getD j 0) = j := wor_figs ⟨j, hj⟩
  exact a.symm.trans ((congrArg wor e).trans b)
theorem txL_inj : ∀ {a b : List Int}, Bytes a → Bytes b → txL a = txL b → a = b
  | [], [], _, _, _ => rfl
  | [], y :: r, _, _, e => by cases e
  | x :: r, [], _, _, e => by cases e
  | x :: r, y :: q, ha, hb, e => by
    obtain ⟨i, j, hi, hj, e1, e2⟩ := twoL_back (ha x (List.mem_cons_self ..))
    obtain ⟨m, n, hm, hn, e3, e4⟩ := twoL_back (hb y (List.mem_cons_self ..))
    have e5 : twoL x ++ txL r = twoL y ++ txL q := e
    rw [e1, e3] at e5
    have e6 := List.cons.inj e5
    have e7 := List.cons.inj e6.2
    have k1 := figs_inj hi hm e6.1
    have k2 := figs_inj hj hn e7.1
    have k3 := txL_inj (fun z hz => ha z (List.mem_cons_of_mem _ hz)) (fun z hz => hb z (List.mem_cons_of_mem _ hz)) e7.2
    rw [e2, e4, k1, k2, k3]
theorem tx_inj {a b : List Int} (ha : Bytes a) (hb : Bytes b) (e : tx a = tx b) : a = b := txL_inj ha hb (by
  have := congrArg (fun s : Str => s.cps.toList) e
  exact this)
theorem tx_eq {a b : List Int} (ha : Bytes a) (hb : Bytes b) : decide (V.str (tx a) = V.str (tx b)) = decide (a = b) := by
  by_cases h : a = b
  · subst h; rw [decide_eq_true rfl, decide_eq_true rfl]
  · rw [decide_eq_false h, decide_eq_false]
    intro z
    exact h (tx_inj ha hb (V.str.inj z))
/-- joined from its parts -/
theorem join_two : ∀ bs : List Int, Str.join (Str.ofString "") (bs.map fun b => two b.toNat) = tx bs := fun bs => ext_toList (by
  show tl (Str.join (Str.ofString "") _) = txL bs
  rw [tl_join]
  have e0 : tl (Str.ofString "") = [] := by decide +kernel
  rw [e0, List.map_map]
  induction bs with
  | nil => rfl
  | cons b r ih =>
    cases r with
    | nil => show twoL b = twoL b ++ []; rw [List.append_nil]
    | cons c q =>
      show twoL b ++ ([] ++ joinL [] ((c :: q).map _)) = twoL b ++ txL (c :: q)
      rw [List.nil_append, ih])
/-- its signs by place -/
theorem txL_get : ∀ {bs : List Int} {i : Nat} {b : Int}, bs[i]? = some b → (txL bs)[2 * i]? = some (figs.getD (b.toNat / 16) 0) ∧ (txL bs)[2 * i + 1]? = some (figs.getD (b.toNat % 16) 0)
  | [], _, _, h => by simp at h
  | x :: r, 0, b, h => by
    have e : x = b := Option.some.inj h
    subst e
    exact ⟨rfl, rfl⟩
  | x :: r, i + 1, b, h => txL_get (bs := r) (i := i) (b := b) h
theorem tx_at {bs : List Int} {i : Nat} {b : Int} (h : bs[i]? = some b) : atI (tx bs).cps.toList ((2 * i : Nat) : Int) = some (figs.getD (b.toNat / 16) 0) ∧ atI (tx bs).cps.toList ((2 * i + 1 : Nat) : Int) = some (figs.getD (b.toNat % 16) 0) :=
  ⟨atI_nat (txL_get h).1, atI_nat (txL_get h).2⟩
def FIG : Str := Str.ofString "0123456789abcdef"
theorem fig_find : ∀ j : Fin 16, Txt.find FIG ⟨#[figs.getD j.val 0]⟩ = (j.val : Int) := by decide +kernel
theorem fig_at {j : Nat} (h : j < 16) : atI FIG.cps.toList (j : Int) = some (figs.getD j 0) := by
  have e : FIG.cps.toList = figs := by decide +kernel
  rw [e]
  refine atI_nat ?_
  rw [List.getD_eq_getElem?_getD, List.getElem?_eq_getElem (show j < figs.length from h)]; rfl
/-! slices of lists of ints -/
theorem cut_map (bs : List Int) (lo hi : Option Int) : ∃ cs : List Int, cutV (bs.map V.int) lo hi = cs.map V.int ∧ cs.length ≤ bs.length ∧ ∀ x ∈ cs, x ∈ bs := by
  refine ⟨(bs.drop (HT.sIx bs.length 0 lo)).take (HT.sIx bs.length bs.length hi - HT.sIx bs.length 0 lo), ?_, ?_, ?_⟩
  · unfold cutV
    rw [List.length_map, List.map_take, List.map_drop]
  · rw [List.length_take, List.length_drop]; omega
  · intro x hx
    exact List.mem_of_mem_drop (List.mem_of_mem_take hx)
theorem size_two (n : Nat) : Builtin.Range.rangeSize 0 ((2 * n : Nat) : Int) 2 = (n : Int) := by
  unfold Builtin.Range.rangeSize
  rw [if_pos (by decide)]
  split <;> omega
theorem range_two (n : Nat) (h : n ≤ 1000000) : RgC 0 ((2 * n : Nat) : Int) 2 n := by
  refine ⟨by decide, by decide, ?_, size_two n⟩
  have f : ∀ x : Int, 0 ≤ x → x ≤ 3000000 → Builtin.Range.rangeFitsLong x = true := fun x h0 h1 => by
    unfold Builtin.Range.rangeFitsLong
    rw [Bool.and_eq_true, decide_eq_true_eq, decide_eq_true_eq]
    omega
  unfold Builtin.Range.small
  rw [size_two, f 0 (by decide) (by decide), f ((2 * n : Nat) : Int) (by omega) (by omega), f 2 (by decide) (by decide), f (n : Int) (by omega) (by omega)]
  simp only [Bool.true_and, show (2 : Int) > 0 from by decide, if_true, Bool.or_eq_true, beq_iff_eq]
  exact .inr (f _ (by omega) (by omega))
end Sip
namespace Sip
open PySem PySem.Spec PyProof.Rows L2 TL
def spWorth : Sp := fun vs H Q _ => ∃ j : Nat, j < 16 ∧ vs = [.str ⟨#[figs.getD j 0]⟩] ∧ Q (.int j) H
def spRead : Sp := fun vs H Q _ => ∃ bs : List Int, vs = [.str (tx bs)] ∧ Bytes bs ∧ bs.length ≤ 8000 ∧ ∀ (H' : Hp) (p : Addr), H p = none → H' p = some (.lst (bs.map V.int)) → Same H H' → Q (.ref p) H'
def spTxt (K : PySem.W.Frag) : Sp := fun vs H Q _ => ∃ (a : Addr) (bs : List Int), vs = [.ref a] ∧ SqL K H a (bs.map V.int) ∧ Bytes bs ∧ bs.length ≤ 8000 ∧ ∀ H' : Hp, Same H H' → Q (.str (tx bs)) H'
theorem get_int {xs : List Int} {i : Nat} {x : V} (h : (xs.map V.int)[i]? = some x) : ∃ hi : i < xs.length, x = .int xs[i] := by
  have hi : i < xs.length := by
    have := (List.getElem?_eq_some_iff.mp h).1
    rwa [List.length_map] at this
  refine ⟨hi, ?_⟩
  rw [List.getElem?_map, List.getElem?_eq_getElem hi] at h
  exact (Option.some.inj h).symm
theorem sum_two : ∀ bs : List Int, ((bs.map fun b => two b.toNat).map (·.length)).sum = 2 * bs.length
  | [] => rfl
  | b :: r => by
    show 2 + ((r.map fun b => two b.toNat).map (·.length)).sum = 2 * (r.length + 1)
    rw [sum_two r]; omega
theorem fit_two (bs : List Int) (h : bs.length ≤ 8000) : ((bs.map fun b => two b.toNat).map (·.length)).sum + (bs.map fun b => two b.toNat).length * (Str.ofString "").length ≤ 16777216 := by
  rw [sum_two, show (Str.ofString "").length = 0 by decide +kernel]; omega
end Sip
namespace Sip
open PySem PySem.Spec PyProof.Rows L2 TL
def spAsked : Sp := fun vs H Q _ => ∃ (a : Addr) (bs : List Int), vs = [.ref a] ∧ H a = some (.lst (bs.map V.int)) ∧ Bytes bs ∧ bs.length ≤ 4000 ∧ ∀ H' : Hp, Same H H' → Q (.bl true) H'
end Sip
/-! a list comprehension whose element may raise: what is raised leaves the comprehension -/
namespace Sip
open PySem PySem.Spec PyProof.Rows L2

theorem note_same {e : Value} {a b : Env} (h : a.frame = b.frame) : noteFrame e a = noteFrame e b := by
  unfold noteFrame PySem.frameOf
  rw [h]

/-- a comprehension's end, either way -/
def endX (M : Model) (A : Around) (E : Value → Shared → Prop) (Q : Value → Shared → Prop) (acc : Value) (ce : Env) (r : Result) (s' : Shared) : Prop :=
  ∃ m, s'.heap.Ns ce.locals m ∧ ∀ h', Heap.SameBut ce.locals s'.heap h' → match r with
    | .ok _ => Q acc { s' with heap := h' }
    | .error x => wpAny M A (passOn "comprehension.variables-let-go" x ce : Sem Value) (fun _ _ => False) E { s' with heap := h' }

theorem comp_run {M : Model} {A : Around} {E : Value → Shared → Prop} {s : Shared} {env : Env} {e : Expr} {scope : Scope} {pos : Pos} {na fi : Sem Value} {g : Comprehension} {gs : List Comprehension} {cl : List (Str × Addr)} {Q : Value → Shared → Prop}
    (hg : clausesOf e = g :: gs) (hs : ∀ x, foldedSetIterable g.iter env x = pure x) (hcl : closureFor scope env = pure cl) (hk : scope.kind = .function)
    (hn : ∀ x ∈ scope.names, x.2 = .local → scope.names.lookup x.1 = some .local)
    (h : wpAny M A fi (fun x s1 => wpAny M A (pyIter x) (fun it s2 => wpAny M A na (fun acc s3 => wpAny M A (newFunctionEnv scope env.globals cl [] env.qual none .none (some env)) (fun ce s4 =>
      codeAny M A (.compStart e 0 it acc { ce with scope := relabel scope env }) (endX M A E Q acc { ce with scope := relabel scope env }) s4) E s3) E s2) E s1) E s) :
    wpAny M A (comprehension e scope env pos na false fi none) Q E s := by
  unfold comprehension
  rw [hcl, hg]
  refine wpAny_bind (wpAny_mono h (fun x s1 h1 => ?_) fun _ _ z => z)
  refine wpAny_bind (wpAny_standAt (wpAny_bind (wpAny_of_eq (hs x) ?_)))
  refine wpAny_bind (wpAny_holding (wpAny_mono h1 (fun it s2 h2 => ?_) fun _ _ z => z))
  refine wpAny_standIf (wpAny_bind (wpAny_mono h2 (fun acc s3 h3 => ?_) fun _ _ z => z))
  refine wpAny_bind (wpAny_pure (wpAny_bind (wpAny_mono h3 (fun ce s4 h4 => ?_) fun _ _ z => z)))
  dsimp only
  have vs : ∀ x ∈ (scope.names.filter fun x => (x.2 == .local || x.2 == .cell) && x.1 != (".0" : Str)).reverse, x.2 = .local → Env.kindOf { ce with scope := relabel scope env } x.1 = some .local :=
    fun x hx hl => lookup_relabel_local (hn x (List.mem_filter.mp (List.mem_reverse.mp hx)).1 hl)
  refine wpAny_holding (wpAny_bind (wpAny_attempt (wpAny_holding (wpAny_run (codeAny_mono h4 fun r s' hr => ?_)))))
  obtain ⟨m, nm, hr⟩ := hr
  cases r with
  | ok f => exact wpAny_bind (wpAny_holding (wpAny_comp_letGo (cenv := { ce with scope := relabel scope env }) hk _ s' m vs nm fun h' _ _ sb => wpAny_pure (hr h' sb)))
  | error x => exact wpAny_bind (wpAny_holding (wpAny_comp_letGo (cenv := { ce with scope := relabel scope env }) hk _ s' m vs nm fun h' _ _ sb => wpAny_mono (hr h' sb) (fun _ _ f => f.elim) fun _ _ z => z))

theorem frames_to {h h' B B' : Heap} : ∀ {l : List Env}, h.FunFrames B l → (∀ b ∈ frs l, ∀ o, h.get? b = some o → h'.get? b = some o) → (∀ b ∈ frs l, B'.get? b = none) → h'.FunFrames B' l
  | [], _, _, _ => trivial
  | v :: l, f, k, n => by
    obtain ⟨f1, ⟨L, o, f2, f3, f4, f5⟩, f6⟩ := f
    have up : ∀ b ∈ frs l, b ∈ frs (v :: l) := fun b hb => by
      obtain ⟨x, hx, q⟩ := List.mem_filterMap.mp hb
      exact List.mem_filterMap.mpr ⟨x, List.mem_cons_of_mem _ hx, q⟩
    have hL : L ∈ frs (v :: l) := List.mem_filterMap.mpr ⟨v, List.mem_cons_self, f2⟩
    exact ⟨f1, ⟨L, o, f2, n L hL, k L hL o f4, f5⟩, frames_to f6 (fun b hb => k b (up b hb)) fun b hb => n b (up b hb)⟩

section
variable {X : Cx} {pins : List (Addr × Obj)} {σ : L2.St} {H3 : Hp} {s3 : Shared}
set_option maxHeartbeats 1000000 in
theorem comp_out {scope : Scope} {ce : Env} {fp : List Addr} {W : WX} {E : XK} {pb : List (Addr × Obj)} {σb : L2.St} {Hb : Hp} {sb s' : Shared} {u acc : Value} {Q : Value → Shared → Prop}
    (I3 : Inv X pins σ H3 s3) (hst : X.stack = X.env :: X.outer) (hfr : X.env.frame = some X.env.locals) (tk : Takes X W) (hfp : ∀ b ∈ fp, FpOk X pins H3 b)
    (cf : ce.frame = X.env.frame) (cL : ce.locals = s3.heap.objs.size) (Ib : Inv (X.blk s3 H3 scope ce fp) pb σb Hb sb) (hE : ∀ cls d H', E cls d H' → W cls d σ H')
    (c : CX X.prog X.w X.stack Hb sb E u s') :
    notedBy (model X.prog X.w) X.A ce (fun e s'' => endX (model X.prog X.w) X.A X.xe Q acc ce (.error e) s'') u s' := by
  obtain ⟨a, B, H', cls, d, rfl, fl, hok, ub, na, os, ag, hw⟩ := c
  have hA : X.A.frames = some (X.env :: X.outer) := by rw [I3.ok.frames, hst]
  have Bu : Un (frs X.stack) fp H3 Hb s3.heap sb.heap := Ib.base
  have HbC : Hb ce.locals = none := Ib.free
  obtain ⟨m, ⟨oC, es, ep, eC, dC, rC⟩, _⟩ := Ib.loc
  have eC : sb.heap.get? ce.locals = some oC := eC
  have nC : ce.locals ∉ frs X.stack := fun z => by
    rcases List.mem_cons.mp (I3.stkSub _ z) with z | z
    · have := I3.lt
      rw [← z, cL] at this
      exact absurd this (Nat.lt_irrefl _)
    · exact I3.nofs (Nat.le_of_eq cL.symm) z
  have BC : B.get? ce.locals = some oC := ub.keep _ _ eC HbC nC
  have H'C : H' ce.locals = none := ub.free _ _ eC HbC
  have ffl : ∀ b ∈ frs X.stack, ∃ o, s'.heap.get? b = some o ∧ ∀ vs, o.data ≠ .fields vs := fun b hb => (fl.2.2.1.mem hb).2
  show wpAny _ _ (noteFrame (.ref a) ce) _ _ s'
  rw [note_same cf]
  have fl2 := fl
  rw [hst] at fl2
  refine HandSPX.looks_onZ Zc.steady hA hfr fl2 fun h1 hh up1 => ?_
  obtain ⟨st1, en1, ff1, tr1⟩ := hh
  refine ⟨m, ⟨oC, es, ep, st1 _ _ BC, dC, rC⟩, fun h' sbut => ?_⟩
  -- the ground without the comprehension's own names
  obtain ⟨B', b1, b2⟩ := restrict B fun b => !decide (b = ce.locals)
  have Bto : ∀ b o, B.get? b = some o → b ≠ ce.locals → B'.get? b = some o := fun b o e n => by
    rw [b1 b (by simp [n])]; exact e
  have Bof : ∀ b o, B'.get? b = some o → B.get? b = some o ∧ b ≠ ce.locals := fun b o e => by
    by_cases n : b = ce.locals
    · rw [b2 b (by simp [n])] at e; cases e
    · rw [b1 b (by simp [n])] at e; exact ⟨e, n⟩
  have Bno : ∀ b, B.get? b = none → B'.get? b = none ∧ b ≠ ce.locals := fun b e => by
    have n : b ≠ ce.locals := fun z => by rw [z, BC] at e; cases e
    exact ⟨by rw [b1 b (by simp [n])]; exact e, n⟩
  have st2 : B'.StaysIn h' := fun b o e => by
    obtain ⟨e1, n⟩ := Bof b o e
    rw [sbut.2 b n]; exact st1 b o e1
  have ff2 : h'.FunFrames B' (X.env :: X.outer) := frames_to ff1 (fun b hb o e => by
    rw [sbut.2 b (Bno b (ff1.mem hb).1).2]; exact e) fun b hb => (Bno b (ff1.mem hb).1).1
  have tr2 : HandSPX.TracedZ h' B' a (Zc cls d) (rawInt X.env.locals) := by
    obtain ⟨oe, vs, T, oT, ts, t1, t2, t3, t4, t5, t6, t7, t8, t9⟩ := tr1
    exact ⟨oe, vs, T, oT, ts, by rw [sbut.2 a (Bno a en1).2]; exact t1, t2, t3, t4, (Bno T t5).1, t6, by rw [sbut.2 T (Bno T t5).2]; exact t7, t8, t9⟩
  show wpAny _ _ (passOn "comprehension.variables-let-go" (.ref a) ce : Sem Value) _ _ _
  obtain ⟨oe, vs, T, oT, ts, t1, t2, t3, t4, t5, t6, t7, t8, t9⟩ := id tr2
  unfold PySem.passOn
  refine wpAny_bind (wpAny_field t1 t3 t4 ?_)
  rw [if_neg (show ¬ ((Value.ref T == Value.none) = true) from by simp)]
  try refine wpAny_bind (wpAny_pure ?_)
  refine wpAny_bind (HandSPX.setFlight_anyZ (s := { s' with heap := h' }) st2 ff2 tr2 fun h2 k1 k2 k3 k4 => wpAny_throw (tk _ _ ?_))
  rw [cf, hfr] at k3
  -- the state without it
  obtain ⟨G, g1, g2⟩ := restrict h2 fun b => (B'.get? b).isSome || decide (b ∈ frs X.stack)
  have gB : ∀ b o, B'.get? b = some o → G.get? b = some o := fun b o e => by
    rw [g1 b (by simp [e])]; exact k1 b o e
  have gF : ∀ b ∈ frs X.stack, G.get? b = h2.get? b := fun b hb => g1 b (by simp [hb])
  have og : ∀ b o, G.get? b = some o → h2.get? b = some o ∧ ((B'.get? b).isSome = true ∨ b ∈ frs X.stack) := fun b o e => by
    cases q : ((B'.get? b).isSome || decide (b ∈ frs X.stack)) with
    | false => rw [g2 b q] at e; cases e
    | true => rw [g1 b q] at e; exact ⟨e, by simpa [Bool.or_eq_true] using q⟩
  -- a frame's object through all of it
  have fr : ∀ b ∈ frs X.stack, ∀ o, s'.heap.get? b = some o → ∃ sl, h2.get? b = some { o with slots := sl } := fun b hb o e => by
    obtain ⟨o2, e2, nf⟩ := ffl b hb
    rw [e] at e2; cases e2
    obtain ⟨sl1, e3⟩ := up1 b o e nf
    have nb : b ≠ ce.locals := fun z => nC (z ▸ hb)
    rw [← sbut.2 b nb] at e3
    obtain ⟨sl2, e4⟩ := k4 b _ e3 nf
    exact ⟨sl2, e4⟩
  have lt3 : ∀ b o, s3.heap.get? b = some o → b ≠ ce.locals := fun b o e z => by
    have := Heap.lt_size e
    rw [z, cL] at this
    exact absurd this (Nat.lt_irrefl _)
  have U : Un (frs X.stack) fp H3 H' s3.heap G := by
    refine ⟨fun b o e n hb hx => ?_, fun b o e n hb hx => ?_, fun b o e n hx => ?_, fun b o e hx => ?_, fun b xs e => ub.tups b xs (Bu.tups b xs e), fun b o v e => ub.frzs b o v (Bu.frzs b o v e), fun b ps e => ?_⟩
    · exact gB b o (Bto b o (ub.keep b o (Bu.keep b o e n hb hx) (Bu.free b o e n hx) hb) (lt3 b o e))
    · obtain ⟨sl, e1⟩ := Bu.slot b o e n hb hx
      obtain ⟨sl1, e2⟩ := ub.slot b _ e1 hb
      obtain ⟨sl2, e3⟩ := fr b hb _ e2
      exact ⟨sl2, by rw [gF b hb]; exact e3⟩
    · obtain ⟨o1, e1⟩ := Bu.there b o e hx
      exact ub.free b o1 e1 (Bu.free b o e n hx)
    · obtain ⟨o1, e1⟩ := Bu.there b o e hx
      by_cases hb : b ∈ frs X.stack
      · obtain ⟨sl1, e2⟩ := ub.slot b _ e1 hb
        obtain ⟨sl2, e3⟩ := fr b hb _ e2
        exact ⟨_, by rw [gF b hb]; exact e3⟩
      · obtain ⟨o2, e2⟩ := ub.there b o1 e1 hb
        exact ⟨o2, gB b o2 (Bto b o2 e2 (lt3 b o e))⟩
    · obtain ⟨m1, e1⟩ := Bu.tbls b ps e
      obtain ⟨m2, e2⟩ := ub.tbls b _ e1
      exact ⟨m1 ++ m2, by rw [e2]; simp⟩
  have hokG : HOk X.prog X.w H' G := fun b o q => (hok b o q).stay (fun c v hc r => gB c v (Bto c v r fun z => by
    rcases hc with hc | hc
    · rw [← hc, z, H'C] at q; cases q
    · rw [z, H'C] at hc; cases hc)) (fun _ r => r) fun _ _ r => r
  have IX : Inv X pins σ H' { s3 with heap := G, gens := s'.gens, drawn := s'.drawn, toks := s'.toks } :=
    I3.call (ch := fp) U hokG ag fun b hb => ⟨(hfp b hb).2.2.2.1, (hfp b hb).2.1, (hfp b hb).2.2.2.2.1, (hfp b hb).2.2.2.2.2⟩
  refine ⟨a, B', _, pins, σ, H', cls, d, rfl, IX, fun b o e hb => ?_, Heap.UpToSlots.of_keeps fun b o e => (og b o e).1, .inr (.inr ⟨k1, (Bno a en1).1, by rw [hst]; exact k2, k3⟩), na, os.trans Ib.os, ag, hE _ _ _ hw⟩
  obtain ⟨e1, w1⟩ := og b o e
  rcases w1 with w1 | w1
  · obtain ⟨o2, q2⟩ := Option.isSome_iff_exists.mp w1
    have := k1 b o2 q2
    rw [e1] at this; cases this
    exact q2
  · exact absurd w1 hb
end

/-- another wish about what is raised -/
abbrev withX (X : Cx) (xe : Value → Shared → Prop) : Cx := { X with xe := xe }
theorem swapX {X : Cx} {pins : List (Addr × Obj)} {σ : L2.St} {H : Hp} {s : Shared} (xe : Value → Shared → Prop) (I : Inv X pins σ H s) : Inv (withX X xe) pins σ H s :=
  ⟨⟨I.ok.mod, I.ok.kind, I.ok.glob, I.ok.blt, I.ok.above, I.ok.inj, I.ok.has, I.ok.cab, I.ok.hd, I.ok.frames, I.ok.stk, I.ok.exf, I.ok.bs, I.ok.bsz, I.ok.noex, I.ok.exfs, I.ok.funs, I.ok.frf⟩,
    I.os, I.bare, I.base, I.loc, I.cell, I.free, I.freeC, I.pin, I.hok, I.len⟩
theorem unswapX {X : Cx} {pins : List (Addr × Obj)} {σ : L2.St} {H : Hp} {s : Shared} {xe : Value → Shared → Prop} (I : Inv (withX X xe) pins σ H s) : Inv X pins σ H s :=
  ⟨⟨I.ok.mod, I.ok.kind, I.ok.glob, I.ok.blt, I.ok.above, I.ok.inj, I.ok.has, I.ok.cab, I.ok.hd, I.ok.frames, I.ok.stk, I.ok.exf, I.ok.bs, I.ok.bsz, I.ok.noex, I.ok.exfs, I.ok.funs, I.ok.frf⟩,
    I.os, I.bare, I.base, I.loc, I.cell, I.free, I.freeC, I.pin, I.hok, I.len⟩
section
variable {X : Cx}
/-- [elt for target in iter], where elt may raise: W tells what is then wanted -/
def tLcX (wi : TI) (g : TG) (te : XK → TE) (vs : List Nat) (W : WX) : TE := fun σ H Q => tLc wi g tYes (te fun cls d H' => W cls d σ H') vs σ H Q
set_option maxHeartbeats 2000000 in
theorem pe_lcX {elt tg iter : Expr} {scope : Scope} {own : List (Str × Nat)} {pos : Pos} {wi : TI} {g : TG} {te : XK → TE} {W : WX} (hc : X.calm = true) (hst : X.stack = X.env :: X.outer) (hfr : X.env.frame = some X.env.locals) (tk : Takes X W) (hN : X.N.Nodup)
    (hi : PI X tg iter wi) (ok : BlkOk X.N X.env.scope scope own)
    (hg : ∀ (s : Shared) (H : Hp) (C : Addr) (cl : List (Str × Addr)) (fp : List Addr), PG (X.blk s H scope (compEnvC scope cl C X.env) fp) tg g)
    (he : ∀ (s : Shared) (H : Hp) (C : Addr) (cl : List (Str × Addr)) (fp : List Addr) (xe : Value → Shared → Prop) (E : XK), Passes (CX X.prog X.w) (withX (X.blk s H scope (compEnvC scope cl C X.env) fp) xe) E →
      PE (withX (X.blk s H scope (compEnvC scope cl C X.env) fp) xe) elt (te E))
    (hs : ∀ x, foldedSetIterable iter X.env x = pure x := by intro _; rfl) : PE X (.ListComp elt [⟨tg, iter, [], 0⟩] scope pos) (tLcX wi g te (own.map (·.2)) W) := by
  refine ⟨fun pins s σ H Q I h => ?_⟩
  have h : tLc wi g tYes (te fun cls d H' => W cls d σ H') (own.map (·.2)) σ H Q := h
  generalize hE : (fun cls d H' => W cls d σ H' : XK) = E at h
  have hEW : ∀ cls d H', E cls d H' → W cls d σ H' := fun cls d H' q => by rw [← hE] at q; exact q
  rw [eval_ListComp]
  have cells : ∀ y ∈ scope.names, y.2 = .free → ∃ c, X.env.cells.lookup y.1 = some c := fun y hy e => (ok.free y hy e).elim (fun k => I.ok.has _ (.inl k)) fun k => I.ok.has _ (.inr k)
  refine comp_run rfl hs (closure_ok cells) ok.kind (fun y hy e => by rw [ok.uniq y hy, e]) (thn (hi.run pins s σ H _ I h) fun xv s1 hx => ?_)
  refine thn hx fun itv s2 h2 => ?_
  obtain ⟨it, fp, tn, J, H2, rfl, I2, T, st2, f2, q⟩ := h2
  refine wpAny_newObj_type (newEnv_comp ?_) (by show 0 ≤ sizeLine; decide)
  generalize eD : s2.heap.objs.size = D
  have nD : H2 D = none := I2.hok.fresh (Nat.le_of_eq eD)
  obtain ⟨Wi, ⟨m0, w0⟩, turn⟩ := q D nD
  generalize es3 : ({ s2 with heap := s2.heap.push { cls := .type "list", data := .seq ([] : List Value).toArray } } : Shared) = s3
  have p3 : s3.heap = s2.heap.push { cls := .type "list", data := .seq ([] : List Value).toArray } := by rw [← es3]
  have I3 : Inv X pins σ (upd H2 D (.lst [])) s3 := by
    subst es3
    refine I2.laid (t' := s2.toks) (fun b o e => Heap.get?_push_of_some _ e) (Nat.le_of_eq eD) ⟨Nat.zero_le _, [], 0, .nil, ?_⟩
    subst eD
    exact Heap.get?_push_size _ rfl
  have f3 : ∀ b ∈ fp, FpOk X pins (upd H2 D (.lst [])) b ∧ b < s3.heap.objs.size := fun b hb => by
    obtain ⟨o, e, _⟩ := T.obj _ _ st2 b hb
    have lt := Heap.lt_size e
    refine ⟨⟨?_, (f2 b hb).2⟩, by rw [p3, Heap.size_push]; exact Nat.lt_succ_of_lt lt⟩
    rw [upd_ne (by rw [← eD]; exact Nat.ne_of_lt lt)]
    exact (f2 b hb).1
  have st3 : tn 0 s3.heap := T.keep _ _ _ st2 fun b _ o e => by rw [p3]; exact Heap.get?_push_of_some _ e
  have I4 := block_start I3 ok hN f3
  generalize ecl : cellsFrom (s3.heap.objs.size + 1) scope.names (cloFrom X.env.cells scope.names []) = cl at I4 ⊢
  have pg := hg s3 (upd H2 D (.lst [])) s3.heap.objs.size cl fp
  have pe := he s3 (upd H2 D (.lst [])) s3.heap.objs.size cl fp
  have nf : ∀ b ∈ fp, (upd H2 D (.lst [])) b = none := fun b hb => (f3 b hb).1.1
  show codeAny _ _ (.compStart (.ListComp elt [⟨tg, iter, [], 0⟩] scope pos) 0 (.ref it) (.ref D) (compEnvC scope cl s3.heap.objs.size X.env)) (endX (model X.prog X.w) X.A X.xe (EP X pins σ Q) (.ref D) (compEnvC scope cl s3.heap.objs.size X.env)) { s3 with heap := pushCells (s3.heap.push { cls := .type "dict", data := .dict #[] }) scope.names }
  generalize ece : compEnvC scope cl s3.heap.objs.size X.env = ce at I4 pg pe ⊢
  have cL : ce.locals = s3.heap.objs.size := by subst ece; rfl
  have cF : ce.frame = X.env.frame := by subst ece; rfl
  generalize eH3 : upd H2 D (.lst []) = H3 at I3 I4 pg pe w0 nf f3
  generalize es4 : ({ s3 with heap := pushCells (s3.heap.push { cls := .type "dict", data := .dict #[] }) scope.names } : Shared) = s4 at I4 ⊢
  have st4 : tn 0 s4.heap := T.keep _ _ _ st3 fun b _ o e => by rw [← es4]; exact pushCells_keeps _ _ _ _ (Heap.get?_push_of_some _ e)
  generalize eY : X.blk s3 H3 scope ce fp = Y at I4 pg pe
  have Yi : ∀ {σ' : L2.St} {H' : Hp} {s' : Shared}, Inv Y [] σ' H' s' → (∀ b ∈ fp, H' b = none) → ∀ b ∈ fp, FpOk Y [] H' b := fun {σ' H' s'} I' hn b hb => by
    subst eY
    exact ⟨hn b hb, (I'.ok.exf b hb).1, I'.ok.exfs b hb, .inl hb, fun x c e => (I'.ok.exf b hb).2 x c e, fun p hp => absurd (show p ∈ ([] : List (Addr × Obj)) ++ [] from hp) (by simp)⟩
  -- what is raised in the block
  have out : ∀ {pb : List (Addr × Obj)} {σb : L2.St} {Hb : Hp} {sb s' : Shared} {u : Value}, Inv Y pb σb Hb sb → CX X.prog X.w X.stack Hb sb E u s' →
      notedBy (model X.prog X.w) X.A ce (fun e s'' => endX (model X.prog X.w) X.A X.xe (EP X pins σ Q) (.ref D) ce (.error e) s'') u s' := fun {pb σb Hb sb s' u} Ib c => by
    subst eY
    exact comp_out I3 hst hfr tk (fun b hb => (f3 b hb).1) cF cL Ib hEW c
  have Yp : Y.prog = X.prog ∧ Y.w = X.w ∧ Y.K = X.K ∧ Y.A = X.A ∧ Y.env = ce ∧ Y.stack = X.stack ∧ Y.xe = (fun _ _ => False) := by subst eY; exact ⟨rfl, rfl, rfl, rfl, rfl, rfl, rfl⟩
  have back : ∀ {H5 : Hp} {s6 : Shared}, Inv Y [] (wipe σ (own.map (·.2))) H5 s6 → Inv X pins σ H5 s6 ∧ H5 s3.heap.objs.size = none ∧ ∃ m, s6.heap.Ns ce.locals m := fun {H5 s6} I6 => by
    subst eY
    refine ⟨I3.call' (ch := fp) I6.os I6.base I6.hok I6.bare fun b hb => ?_, ?_, ?_⟩
    · obtain ⟨⟨_, z1, _, z3, z4, z5⟩, _⟩ := f3 b hb
      exact ⟨z3, z1, z4, z5⟩
    · have z : H5 ce.locals = none := I6.free
      rw [cL] at z; exact z
    · obtain ⟨m, hn, _⟩ := I6.loc
      exact ⟨m, hn⟩
  subst eY
  have loop : codeAny (model X.prog X.w) X.A (.compLoop (.ListComp elt [⟨tg, iter, [], 0⟩] scope pos) 0 (.ref it) (.ref D) ce) (endX (model X.prog X.w) X.A X.xe (EP X pins σ Q) (.ref D) ce) s4 := by
    refine compLoop_any (fun n s' => ∃ i H', Inv (X.blk s3 H3 scope ce fp) [] (wipe σ (own.map (·.2))) H' s' ∧ tn i s'.heap ∧ (∀ b ∈ fp, H' b = none) ∧ Wi i n H') (fun n s5 hI => ?_) m0 ⟨0, H3, I4, st4, nf, w0⟩
    obtain ⟨i, H5, I5, st5, n5, w5⟩ := hI
    rcases turn i n H5 w5 with ⟨stop, qq⟩ | ⟨go, Nx, hNx, step⟩
    · refine thnF (T.done (X.blk s3 H3 scope ce fp) rfl rfl rfl hc i [] s5 _ H5 (fun _ _ => False) I5 (Yi I5 n5) st5 stop) fun r s6 ⟨hr, I6⟩ => ?_
      subst hr
      obtain ⟨I7, nC, m, hn⟩ := back I6
      refine ⟨m, hn, fun h' sb => ?_⟩
      obtain ⟨c0, c1, c2, c3, c4, c5⟩ := I3.fpOk (Nat.le_refl _) nC
      rw [cL] at sb
      exact ⟨.ref D, H5, I7.turned (t' := s6.toks) (fun b o hb e => (sb.2 b hb).trans e) c0 c1 c3 c4 c5, rfl, qq⟩
    · refine thnF (T.item (X.blk s3 H3 scope ce fp) rfl rfl rfl hc i [] s5 _ H5 (fun _ _ => False) I5 (Yi I5 n5) st5 go) fun r s6 ⟨u, hr, h6⟩ => ?_
      subst hr
      refine thnF h6 fun _ s7 ⟨x, H7, I7, r7, y7, st7, n7⟩ => ?_
      have I7p := I7.pinned (Yi I7 n7) (T.obj _ _ st7)
      refine thnF (pg.run _ s7 _ H7 x u _ I7p r7 (step x H7 y7)) fun _ s8 ⟨σ8, H8, I8, w8, q8⟩ => wpAny_tests_nil ?_
      have q9 : te E σ8 H8 fun y H4 => ∃ acc, H4 D = some (.lst acc) ∧ acc.length < sizeLine ∧ Nx (upd H4 D (.lst (acc ++ [y]))) := q8
      rw [if_pos rfl]
      have pe1 := pe (fun u s' => ∃ pb σb Hb sb, Inv (X.blk s3 H3 scope ce fp) pb σb Hb sb ∧ CX X.prog X.w X.stack Hb sb E u s') E (fun pb σb Hb sb e s' Ib c => ⟨pb, σb, Hb, sb, unswapX Ib, c⟩)
      refine wpAny_mono (pe1.run _ s8 σ8 H8 _ (swapX _ I8) q9) (fun z s10 hz => ?_) (fun e s' hx => ?_)
      · obtain ⟨yv, H10, I10, r10, acc, d10, z10, nx⟩ := hz
        refine app_ok (X := X.blk s3 H3 scope ce fp) (unswapX I10) d10 z10 r10 fun s11 I11 => ?_
        obtain ⟨m', hm, w'⟩ := hNx _ nx
        have pin : ∀ b ∈ fp, ∀ o, s7.heap.get? b = some o → s11.heap.get? b = some o ∧ (upd H10 D (.lst (acc ++ [yv]))) b = none := fun b hb o e => by
          have z := I11.pin (b, o) (List.mem_append_right _ (List.mem_append_right _ (mem_pinsAt hb e)))
          exact ⟨z.1, z.2.1⟩
        refine ⟨m', hm, i + 1, _, (I11.unpinned (pins := [])).weak (by rw [← w8, wipe_length]) (fun j v e => ?_), T.keep _ _ _ st7 fun b hb o e => (pin b hb o e).1, fun b hb => ?_, w'⟩
        · rw [← w8] at e
          exact (wipe_some e).1
        · obtain ⟨o, e, _⟩ := T.obj _ _ st7 b hb
          exact (pin b hb o e).2
      · obtain ⟨pb, σb, Hb, sb, Ib, c⟩ := hx
        exact out Ib c
  exact codeAny_compStart_list loop (T.self X.A 0 _ _ _ st4 loop)
end
end Sip
namespace Sip
open PySem PySem.Spec PyProof.Rows L2 TL

section
variable {X : Cx}
/-- X(), X an own error class without an __init__ of its own -/
theorem pmk_own0 {C : Addr} {bmB : List Value} {B newId initId : String} {x : Str} {p pos : Pos} (F : ExcBaseFacts B newId initId bmB) (q : PySem.W.excIn X.K C bmB newId = true) (gC : X.mg x = some (.ref C)) (kC : PySem.W.keepIn X.K (.ref C) = true)
    (r : Raises X (.ref C)) (hg : Gl X x) (hdb : (x == ("__debug__" : Str)) = false := by decide) : PMk X (.Call (.Name x p) [] [] pos) (fun _ H Q => Q (.ref C) none H) := by
  intro pins s σ H Q I h
  refine wpAny_Call_Name_kw (ld_glob I hg gC (PySem.W.callWith_K0 I.kIn kC ?_) hdb)
  obtain ⟨bm, N, nm, qn, bs, hdct, sn, sub, ab, col, dd, k0, k1, k2, k3, k5, mN, hC, hN, hni, T⟩ := exc_obj I.kIn q
  exact wpAny_call_exc_subT (rest := []) F T hC hN hni (fun h' e hm => mk_of I hm r h (I.hok.gone hm.new)) (Nat.zero_le _)
/-- isinstance(e, c), e the caught error, whose class is to be shown -/
def rIsX (K : PySem.W.Frag) (D : Addr) (cls : Value) (d : Option Addr) (a : Addr) : List V → Hp → VK → Prop := fun xs H Q => cls = .ref D ∧ d = none ∧ rIsE K D a xs H Q
theorem call_isX {a D : Addr} {oe : Obj} {cls : Value} {d : Option Addr} {pn : List (Addr × Obj)} (C : ExcC X.K D) (hz : Zc cls d oe) (hf : ∃ vs, oe.data = .fields vs) : CallR (X.suite a ((a, oe) :: pn)) (.builtin "isinstance") (rIsX X.K D cls d a) := by
  intro pins s σ H xs us Q I r h
  obtain ⟨rfl, rfl, h⟩ := h
  exact call_isE C hz hf pins s σ H xs us Q I r h
end
/-- what the text's error classes are: C the one that is raised, S the one above it -/
structure Errs (K : PySem.W.Frag) (mg : Str → Option Value) (C S : Addr) : Prop where
  gP : mg "NoRow" = some (.ref C)
  gS : mg "SipError" = some (.ref S)
  xP : PySem.W.excIn K C [.type "ValueError", .type "Exception", .type "BaseException", .type "object"] "ValueError.__new__" = true
  kP : PySem.W.keepIn K (.ref C) = true
  bP : PySem.W.subIn K (.ref C) (.type "BaseException") = some true
  tP : PySem.W.typeIn K (.ref C) = some (.type "type")
  te : PySem.W.exmOne K (.ref C) (.ref C) = some true
  i1 : PySem.W.kitOne K (.ref C) (.ref S) = some true
  i2 : PySem.W.kitOne K (.ref C) (.type "ValueError") = some true
  ec : ExcC K C

/-! texts of plain signs -/
def Asc (z : Str) : Prop := ∀ c ∈ z.cps.toList, c < 128
theorem asc_append {a b : Str} (ha : Asc a) (hb : Asc b) : Asc (a ++ b) := fun c hc => by
  have e : (a ++ b).cps.toList = a.cps.toList ++ b.cps.toList := tl_append a b
  rw [e] at hc
  exact (List.mem_append.mp hc).elim (ha c) (hb c)
theorem asc_cut {z : Str} (h : Asc z) (lo hi : Option Int) : Asc (cutS z lo hi) := fun c hc => by
  have e : (cutS z lo hi).cps.toList = (z.cps.toList.drop (HT.sIx z.length 0 lo)).take (HT.sIx z.length z.length hi - HT.sIx z.length 0 lo) := rfl
  rw [e] at hc
  exact h c (List.mem_of_mem_drop (List.mem_of_mem_take hc))
theorem up_small : ∀ c : Fin 128, up1 c.val < 128 := by decide +kernel
theorem asc_upper {z : Str} (h : Asc z) : Asc (Txt.upper z) ∧ (Txt.upper z).length = z.length := by
  rw [upper_ascii h]
  refine ⟨fun c hc => ?_, ?_⟩
  · have e : (z.cps.map up1).toList = z.cps.toList.map up1 := Array.toList_map ..
    have hc : c ∈ (z.cps.map up1).toList := hc
    rw [e] at hc
    obtain ⟨b, hb, rfl⟩ := List.mem_map.mp hc
    exact up_small ⟨b, h b hb⟩
  · show (z.cps.map up1).size = z.cps.size
    exact Array.size_map ..
theorem len_append (a b : Str) : (a ++ b).length = a.length + b.length := strLen_append ..
theorem asc_one {c : Nat} (h : c < 128) : Asc ⟨#[c]⟩ := fun x hx => by
  have : x ∈ [c] := hx
  rw [List.mem_singleton.mp this]; exact h

/-! which texts are read, and to what -/
theorem find_fig : ∀ c : Fin 128, Txt.find FIG ⟨#[c.val]⟩ = if c.val ∈ figs then (wor c.val : Int) else -1 := by decide +kernel
theorem index_fig : ∀ c : Fin 128, c.val ∈ figs → Txt.index0 FIG ⟨#[c.val]⟩ = some (wor c.val) := by decide +kernel
def okT (cs : List Nat) : Prop := cs.length % 2 = 0 ∧ ∀ c ∈ cs, c ∈ figs
def rd (cs : List Nat) (i : Nat) : Int := 16 * (wor (cs.getD (2 * i) 0) : Int) + (wor (cs.getD (2 * i + 1) 0) : Int)
def rdL (cs : List Nat) : List Int := (List.range (cs.length / 2)).map (rd cs)
theorem rdL_length (cs : List Nat) : (rdL cs).length = cs.length / 2 := by
  unfold rdL; rw [List.length_map, List.length_range]
theorem rdL_get {cs : List Nat} {i : Nat} (h : i < cs.length / 2) : (rdL cs)[i]? = some (rd cs i) := by
  unfold rdL; rw [List.getElem?_map, List.getElem?_range h]; rfl
theorem get_at {cs : List Nat} {i : Nat} (h : i < cs.length) : atI cs (i : Int) = some (cs.getD i 0) ∧ cs.getD i 0 ∈ cs := by
  have e : cs.getD i 0 = cs[i] := by rw [List.getD_eq_getElem?_getD, List.getElem?_eq_getElem h]; rfl
  rw [e]
  exact ⟨atI_nat (List.getElem?_eq_getElem h), List.getElem_mem h⟩
theorem len_codes (z : Str) : z.length = z.cps.toList.length := by
  show z.cps.size = _
  exact (Array.length_toList ..).symm
def spWorthX (C : Addr) : Sp := fun vs H Q E => ∃ c : Nat, c < 128 ∧ vs = [.str ⟨#[c]⟩] ∧ (c ∈ figs → Q (.int (wor c : Nat)) H) ∧ (c ∉ figs → E (.ref C) none H)
def spReadX (C : Addr) : Sp := fun vs H Q E => ∃ z : Str, vs = [.str z] ∧ Asc z ∧ z.length ≤ 1000 ∧
  (okT z.cps.toList → ∀ (H' : Hp) (p : Addr), H p = none → H' p = some (.lst ((rdL z.cps.toList).map V.int)) → Same H H' → Q (.ref p) H') ∧ (¬ okT z.cps.toList → ∀ H' : Hp, Same H H' → E (.ref C) none H')
def spDueT : Sp := fun vs H Q _ => ∃ z : Str, vs = [.str z] ∧ Asc z ∧ z.length ≤ 1000 ∧
  (okT z.cps.toList → ∀ (H' : Hp) (p : Addr), H p = none → H' p = some (.lst ((rdL z.cps.toList).map V.int)) → Same H H' → Q (.ref p) H') ∧ (¬ okT z.cps.toList → ∀ H' : Hp, Same H H' → Q .non H')
/-- a text drawn from a pool -/
def spDraw : Sp := fun vs H Q _ => ∃ (p : Addr) (n : Int) (o : HO), vs = [.ref p] ∧ H p = some o ∧ PoolO n o ∧ n ≤ 900000000 ∧
  ∀ (H' : Hp) (z : Str) (o' : HO), H' p = some o' → PoolO (n + 100) o' → Kp [p] H H' → Asc z → z.length ≤ 60 → Q (.str z) H'
def spSign : Sp := fun vs H Q _ => ∃ (p : Addr) (n : Int) (o : HO), vs = [.ref p] ∧ H p = some o ∧ PoolO n o ∧ n ≤ 999999000 ∧
  ∀ (c : Nat) (o' : HO), c < 128 → PoolO (n + 1) o' → Q (.str ⟨#[c]⟩) (upd H p o')
def spSpoilt : Sp := fun vs H Q _ => ∃ (p : Addr) (n : Int) (o : HO) (z : Str), vs = [.ref p, .str z] ∧ H p = some o ∧ PoolO n o ∧ n ≤ 999990000 ∧ Asc z ∧ z.length ≤ 100 ∧
  ∀ (y : Str) (o' : HO), Asc y → y.length ≤ z.length + 1 → PoolO (n + 3) o' → Q (.str y) (upd H p o')
def spAskedT : Sp := fun vs H Q _ => ∃ z : Str, vs = [.str z] ∧ Asc z ∧ z.length ≤ 1000 ∧ ∀ H' : Hp, Same H H' → Q (.bl true) H'
def SIGNS : Str := Str.ofString " !\"#$&'()*+,-./0123456789:;<=>?@ABCDEFGHIJKLMNOPQRSTUVWXYZ[\\]^_`abcdefghijklmnopqrstuvwxyz{|}~"
theorem signs_asc : SIGNS.cps.toList.length = 94 ∧ ∀ c ∈ SIGNS.cps.toList, c < 128 := by decide +kernel
def GIF : Str := Str.ofString "fedcba9876543210"
theorem gif_asc : GIF.cps.toList.length = 16 ∧ ∀ c ∈ GIF.cps.toList, c < 128 := by decide +kernel
theorem fig_asc : FIG.cps.toList.length = 16 ∧ ∀ c ∈ FIG.cps.toList, c < 128 := by decide +kernel
theorem str_at {z : Str} {n : Nat} (hz : z.cps.toList.length = n ∧ ∀ c ∈ z.cps.toList, c < 128) {r : Int} (r0 : 0 ≤ r) (r1 : r < n) : ∃ c, c < 128 ∧ atI z.cps.toList r = some c := by
  obtain ⟨j, rfl⟩ := Int.eq_ofNat_of_zero_le r0
  obtain ⟨e, m⟩ := get_at (cs := z.cps.toList) (i := j) (by rw [hz.1]; omega)
  exact ⟨_, hz.2 _ m, e⟩
end Sip
namespace Sip
open PySem PySem.Spec PyProof.Rows L2 TL
theorem cut_codes (z : Str) (lo hi : Option Int) : (cutS z lo hi).length = ((z.cps.toList.drop (HT.sIx z.length 0 lo)).take (HT.sIx z.length z.length hi - HT.sIx z.length 0 lo)).length := by
  rw [len_codes]; rfl
theorem cut_len1 (z : Str) {k : Nat} (h : k ≤ z.length) : (cutS z none (some (k : Int))).length = k := by
  have lc := len_codes z
  rw [cut_codes, HT.sIx_none, HT.sIx_nat, List.length_take, List.length_drop]; omega
theorem cut_len2 (z : Str) {k : Nat} (h : k ≤ z.length) : (cutS z (some (k : Int)) none).length = z.length - k := by
  have lc := len_codes z
  rw [cut_codes, HT.sIx_none, HT.sIx_nat, List.length_take, List.length_drop]; omega
theorem cut_len3 (z : Str) {k : Nat} (h : k ≤ z.length) : (cutS z (some ((k : Nat) + 1 : Int)) none).length ≤ z.length - k := by
  have lc := len_codes z
  rw [show ((k : Nat) + 1 : Int) = ((k + 1 : Nat) : Int) by omega, cut_codes, HT.sIx_none, HT.sIx_nat, List.length_take, List.length_drop]; omega
end Sip
namespace Sip
open PySem PySem.Spec PyProof.Rows L2 TL
theorem all_figs {cs : List Nat} : ((cs.map fun c => decide (c ∈ figs)).all id) = true ↔ ∀ c ∈ cs, c ∈ figs := by
  rw [List.all_eq_true]
  constructor
  · intro h c hc
    exact of_decide_eq_true (h _ (List.mem_map.mpr ⟨c, hc, rfl⟩))
  · intro h x hx
    obtain ⟨c, hc, rfl⟩ := List.mem_map.mp hx
    exact decide_eq_true (h c hc)
end Sip
namespace Sip
open PySem PySem.Spec PyProof.Rows L2 TL
theorem asc_nil : Asc (Str.ofString "") := fun c hc => by
  have e : (Str.ofString "").cps.toList = [] := by decide +kernel
  rw [e] at hc; cases hc
end Sip
namespace Sip
open PySem PySem.Spec PyProof.Rows L2 TL
theorem kit_own {K : PySem.W.Frag} {C S : Addr} (h1 : PySem.W.isClsIn K S = true) (h2 : PySem.W.typeIn K (.ref S) = some (.type "type")) (h3 : PySem.W.subIn K (.ref C) (.ref S) = some true) : PySem.W.kitOne K (.ref C) (.ref S) = some true := by
  have a : ((PySem.W.clsIn K S).isSome && PySem.W.typeIn K (.ref S) == some (.type "type")) = true := by
    have h1' : (PySem.W.clsIn K S).isSome = true := h1
    rw [h1', h2]; rfl
  unfold PySem.W.kitOne PySem.W.kitCls
  split
  · rfl
  · exact (if_pos a).trans h3
theorem kit_bltn {K : PySem.W.Frag} {C : Addr} {T : String} (h1 : PySem.W.kitMeta T = true) (h3 : PySem.W.subIn K (.ref C) (.type T) = some true) : PySem.W.kitOne K (.ref C) (.type T) = some true := by
  unfold PySem.W.kitOne PySem.W.kitCls
  split
  · rfl
  · exact (if_pos h1).trans h3
end Sip
namespace Sip
open PySem PySem.Spec PyProof.Rows L2 TL

/-- a def of the text, whatever its defaults -/
structure FunA (K : PySem.W.Frag) (x qual : Str) (st : Stmt) (f : Addr) (fd : FuncData) : Prop where
  ex : ∃ (oc : Value) (od : Option Addr) (dV kV doc pm : Value) (an : Option Addr) (cdv ct : Value) (osl : Array (Option Value)),
    fd = PySem.W.fnOf x qual (defArgs st) (defBody st) (defScope st) dV kV doc pm an cdv ct ∧ K.lookup f = some ⟨oc, od, .func fd, osl⟩ ∧ PySem.W.codeIn K cdv qual = true
  kp : PySem.W.keepIn K (.ref f) = true
section
variable {P : Program} {w : World} {K : PySem.W.Frag} {mg : Str → Option Value} {base : Heap} {x qual : Str} {st : Stmt} {f : Addr} {fd : FuncData} {N ps : List Str} {k : Nat} {sp : Sp}
theorem FunA.ok (F : FunA K x qual st f fd) (S : FnScope N ps (defScope st)) (len : ∀ vs H Q E, sp vs H Q E → vs.length = ps.length)
    (hb : ∀ (cdv : Value) (A : Around) (outer : List Env) (s : Shared) (H : Hp) (vs : List V) (Q : VK) (E : XK), Room k (A.deeper (envOfC qual (defScope st) s.heap.objs.size f cdv)) → sp vs H Q E →
      ∃ t, PSs (cxOf CX0 P w K mg base N qual (defScope st) f cdv A outer s H E).nox (defBody st) t ∧ t { nx := fun _ H' => Q .non H', rt := Q } (start N vs) H) : FnOk P w K mg base CX0 (k + 1) f fd ps sp := by
  obtain ⟨oc, od, dV, kV, doc, pm, an, cdv, ct, osl, rfl, lk, hcd⟩ := F.ex
  refine fn_of lk hcd S len fun A outer s H vs Q E hr hsp => ?_
  obtain ⟨t, h, q⟩ := hb cdv A outer s H vs Q E hr hsp
  exact ⟨t, h.nox, q⟩
theorem FunA.okX (F : FunA K x qual st f fd) (S : FnScope N ps (defScope st)) (len : ∀ vs H Q E, sp vs H Q E → vs.length = ps.length)
    (hb : ∀ (cdv : Value) (A : Around) (outer : List Env) (s : Shared) (H : Hp) (vs : List V) (Q : VK) (E : XK), Room k (A.deeper (envOfC qual (defScope st) s.heap.objs.size f cdv)) → sp vs H Q E →
      ∃ t, PSs (cxOf (L2.CX P w) P w K mg base N qual (defScope st) f cdv A outer s H E) (defBody st) t ∧ t { nx := fun _ H' => Q .non H', rt := Q } (start N vs) H) : FnOk P w K mg base (L2.CX P w) (k + 1) f fd ps sp := by
  obtain ⟨oc, od, dV, kV, doc, pm, an, cdv, ct, osl, rfl, lk, hcd⟩ := F.ex
  exact fn_of lk hcd S len fun A outer s H vs Q E hr hsp => hb cdv A outer s H vs Q E hr hsp
end
/-- o.m(e, .., k = v, ..) -/
def tMethN (C : Addr) (m : Str) (n j : Nat) (sp : Sp) (gV : List V → List V → List V) (E : XK) (ta : TE) (t tk : TA) : TE := fun σ H Q => ta σ H fun x H1 =>
  ∃ a dx fs, x = .ref a ∧ H1 a = some (.ins C dx fs) ∧ fs.lookup m = none ∧ t σ H1 fun vs H2 => tk σ H2 fun zs H3 => vs.length = n ∧ zs.length = j ∧ sp (gV (x :: vs) zs) H3 Q E
section
variable {X : Cx} {CX : CXT} {k n : Nat} {f C : Addr} {fd : FuncData} {ps ks : List Str} {sp : Sp} {E : XK} {m : Str} {apos pos : Pos} {o e : Expr} {es : List Expr} {kws : List Keyword} {ta : TE} {t tk : TA} {g : List Value → List Value → List Value} {gV : List V → List V → List V}
theorem pe_methN {pl : Sem Bool} (he : PE X o ta) (c : Cls X.K C) (hm : Meth X.K C m f) (F : FnOk X.prog X.w X.K X.mg X.base CX k f fd ps sp) (hr : Room k X.A) (hb : KBn X.K fd ps (n + 1) ks g gV) (hx : Passes CX X E) (ha : PA X (e :: es) t) (hkw : PK X kws tk)
    (hall : (backToKw pos (keywordEach kws X.env)).all (·.1.isSome) = true := by rfl) (hks : (backToKw pos (keywordEach kws X.env)).filterMap (·.1) = ks := by rfl) (hst : starEach (e :: es) X.env = (false, eval e X.env) :: starEach es X.env := by rfl)
    (hpl : ((backTo pos (starEach (e :: es) X.env)).any (·.1) || (backToKw pos (keywordEach kws X.env)).any (·.1.isNone)) = false := by rfl)
    (ht : eval (.Call (.Attribute o m apos) (e :: es) kws pos) X.env = (do
      let ov ← eval o X.env
      standAt apos.atName
      let (f, first) ← holding [ov] (getMethod ov m pl)
      callWith pos f first (backTo pos (starEach (e :: es) X.env)) (backToKw pos (keywordEach kws X.env))) := by rfl) :
    PE X (.Call (.Attribute o m apos) (e :: es) kws pos) (tMethN C m n ks.length sp gV E ta t tk) := by
  refine ⟨fun pins s σ H Q I h => ?_⟩
  refine PySem.W.methodCall_KW (pl := pl) (thn (he.run pins s σ H _ I h) fun u s1 ⟨x, H1, I1, rx, a, dx, fs, ex, ea, l, q⟩ => ?_) ht
  subst ex
  obtain rfl : u = Value.ref a := rx
  refine getmeth_ok I1 ea c hm l ?_
  refine PySem.W.callWith_KW (first := [.ref a]) (h₀ := X.base) I.ok.mod.kin hm.kp hall (thn (ha.run pos pins s1 σ H1 _ I1 q) fun us s2 ⟨vs, H2, I2, r, q2⟩ => ?_) hpl hst
  refine thn (hkw.run pos pins s2 σ H2 _ I2 q2) fun ws s3 ⟨zs, H3, I3, rz, l1, l2, q3⟩ => ⟨I3.kIn, ?_⟩
  rw [hks]
  exact run_fnN (us := .ref a :: us) (vs := .ref a :: vs) F hr hb hx I3 (.cons rfl r) rz (by rw [List.length_cons, l1]) l2 q3
end
/-- fields by name -/
abbrev Fs := List (Str × V)
example (h c d : V) : putF ("cursor" : Str) d ([("held", h), ("cursor", c)] : Fs) = ([("held", h), ("cursor", d)] : Fs) := by kernel_rfl
example (h c d : V) : putF ("cursor" : Str) d ([("held", h)] : Fs) = ([("held", h), ("cursor", d)] : Fs) := by kernel_rfl
end Sip
namespace Sip
open PySem PySem.Spec PyProof.Rows L2 TL
/-- a def of the top, a method of a class -/
structure Dg (K : PySem.W.Frag) (mg : Str → Option Value) (x : Str) (st : Stmt) (f : Addr) (fd : FuncData) : Prop where
  F : FunA K x x st f fd
  g : mg x = some (.ref f)
structure Mf (K : PySem.W.Frag) (C : Addr) (x qual : Str) (st : Stmt) (f : Addr) (fd : FuncData) : Prop where
  F : FunA K x qual st f fd
  m : Meth K C x f
theorem funA_mk {K : PySem.W.Frag} {x qual : Str} {st : Stmt} {f : Addr} {oc : Value} {od an : Option Addr} {osl : Array (Option Value)} {dV kV doc pm cdv ct : Value} (l : K.lookup f = some ⟨oc, od, .func (PySem.W.fnOf x qual (defArgs st) (defBody st) (defScope st) dV kV doc pm an cdv ct), osl⟩)
    (c : PySem.W.codeIn K cdv qual = true) (k : PySem.W.keepIn K (.ref f) = true) : FunA K x qual st f (PySem.W.fnOf x qual (defArgs st) (defBody st) (defScope st) dV kV doc pm an cdv ct) := ⟨⟨oc, od, dV, kV, doc, pm, an, cdv, ct, osl, rfl, l, c⟩, k⟩
end Sip
/-! repr of lists and tuples: asked where no other repr is under way -/
namespace Sip
open PySem PySem.Spec PyProof.Rows L2 TL

/-! data that can be shown: bounds of its weight and its depth -/
def Sh (w k : Nat) (d : PyData) : Prop := d.showable = true ∧ d.hasDict = false ∧ d.leavesShort 13 = true ∧ d.weight ≤ w ∧ d.depth ≤ k
def ShA (w k : Nat) (ds : List PyData) : Prop := PyData.showableAll ds = true ∧ PyData.hasDictAll ds = false ∧ PyData.leavesShortAll 13 ds = true ∧ PyData.weightAll ds ≤ w ∧ PyData.depthAll ds ≤ k
theorem Sh.up {w k w' k' : Nat} {d : PyData} (h : Sh w k d) (a : w ≤ w') (b : k ≤ k') : Sh w' k' d := ⟨h.1, h.2.1, h.2.2.1, Nat.le_trans h.2.2.2.1 a, Nat.le_trans h.2.2.2.2 b⟩
theorem ShA.up {w k w' k' : Nat} {d : List PyData} (h : ShA w k d) (a : w ≤ w') (b : k ≤ k') : ShA w' k' d := ⟨h.1, h.2.1, h.2.2.1, Nat.le_trans h.2.2.2.1 a, Nat.le_trans h.2.2.2.2 b⟩
theorem sh_non : Sh 0 0 .none := ⟨rfl, rfl, rfl, Nat.le_refl _, Nat.le_refl _⟩
theorem sh_bl (b : Bool) : Sh 0 0 (.bool b) := ⟨rfl, rfl, rfl, Nat.le_refl _, Nat.le_refl _⟩
theorem log_le {n k : Nat} (h : n < 2 ^ k) (hk : 0 < k) : n.log2 < k := by
  by_cases e : n = 0
  · subst e; simpa using hk
  · exact (Nat.log2_lt e).mpr h
theorem sh_int {i : Int} (h : i.natAbs < 10 ^ 12) : Sh 41 0 (.int i) := by
  have e : i.natAbs < 2 ^ 40 := Nat.lt_of_lt_of_le h (by decide)
  have l := log_le e (by decide)
  refine ⟨?_, rfl, ?_, ?_, Nat.le_refl _⟩
  · show decide _ = true
    exact decide_eq_true (by omega)
  · show decide _ = true
    exact decide_eq_true (PyData.shown_int_le h)
  · show (if i == 0 then 0 else i.natAbs.log2 + 1) ≤ 41
    split <;> omega
theorem sh_str {x : Str} (h : (x.cps.toList.all fun c => decide (c < 16 ^ 8)) = true) : Sh x.length 0 (.str x) := ⟨rfl, rfl, h, Nat.le_refl _, Nat.le_refl _⟩
theorem shA_nil : ShA 0 0 [] := ⟨rfl, rfl, rfl, Nat.le_refl _, Nat.le_refl _⟩
theorem shA_cons {w k v j : Nat} {d : PyData} {ds : List PyData} (h : Sh w k d) (t : ShA v j ds) : ShA (w + 1 + v) (max k j) (d :: ds) := by
  obtain ⟨a1, a2, a3, a4, a5⟩ := h
  obtain ⟨b1, b2, b3, b4, b5⟩ := t
  refine ⟨?_, ?_, ?_, ?_, ?_⟩
  · show (_ && _) = true; rw [a1, b1]; rfl
  · show (_ || _) = false; rw [a2, b2]; rfl
  · show (_ && _) = true; rw [a3, b3]; rfl
  · show _ + 1 + _ ≤ _; omega
  · show max _ _ ≤ max _ _; omega
theorem sh_list {w k : Nat} {ds : List PyData} (h : ShA w k ds) : Sh w (k + 1) (.list ds) := ⟨h.1, h.2.1, h.2.2.1, h.2.2.2.1, Nat.succ_le_succ h.2.2.2.2⟩
theorem sh_tuple {w k : Nat} {ds : List PyData} (h : ShA w k ds) : Sh w (k + 1) (.tuple ds) := ⟨h.1, h.2.1, h.2.2.1, h.2.2.2.1, Nat.succ_le_succ h.2.2.2.2⟩
theorem shA_map {α : Type} {f : α → PyData} {w k : Nat} : ∀ {xs : List α}, (∀ x ∈ xs, Sh w k (f x)) → ShA ((w + 1) * xs.length) k (xs.map f)
  | [], _ => shA_nil.up (Nat.zero_le _) (Nat.zero_le _)
  | x :: r, h => by
    have e := shA_cons (h x List.mem_cons_self) (shA_map (xs := r) fun y hy => h y (List.mem_cons_of_mem _ hy))
    refine e.up ?_ (by omega)
    rw [List.length_cons, Nat.mul_add]; omega
theorem sh_ints {ns : List Int} (h : ∀ n ∈ ns, n.natAbs < 10 ^ 12) : Sh (42 * ns.length) 1 (.list (ns.map .int)) := sh_list (shA_map fun n hn => sh_int (h n hn))
theorem Sh.fits {w k : Nat} {d : PyData} (h : Sh w k d) (hw : w ≤ 1000000) : d.shown.length ≤ sizeLine := PyData.shown_fits (by decide) (by decide) h.2.2.1 (Nat.le_trans h.2.2.2.1 (Nat.le_trans hw (by decide)))

section
variable {X : Cx}
/-- repr(v), v a list or a tuple -/
def rRepr (K : PySem.W.Frag) : List V → Hp → VK → Prop := fun xs H Q => ∃ (a : Addr) (d : PyData) (w k : Nat), xs = [.ref a] ∧ Dp K H (.ref a) d ∧ Sh w k d ∧ w ≤ 1000000 ∧ k ≤ 20 ∧ Q (.str d.shown) H
theorem call_reprD (hg : X.A.guards = some []) (hu : X.A.units + 64 < cLine) : CallR X (.builtin "repr") (rRepr X.K) := by
  intro pins s σ H xs us Q I r h
  obtain ⟨a, d, w, k, rfl, hd, hs, hw, hk, q⟩ := h
  obtain ⟨u, rfl, ru⟩ := vals1 r
  cases ru
  obtain ⟨as, r1⟩ := Dp.reads I d (.ref a) _ hd rfl
  have hdp := hs.2.2.2.2
  exact repr_of_reads' r1 hs.1 (PyData.noDict_hsm hs.2.1) hg (by omega) (fun _ _ e => e) (fun h' t tk hk => ⟨.str d.shown, H, I.kept hk, ⟨t, rfl⟩, q⟩) (hs.fits hw)
end

/-- a promise that is kept where no repr is under way -/
structure FnG (P : Program) (w : World) (K : PySem.W.Frag) (mg : Str → Option Value) (base : Heap) (CX : CXT) (k : Nat) (f : Addr) (fd : FuncData) (ps : List Str) (sp : Sp) : Prop where
  len : ∀ vs H Q E, sp vs H Q E → vs.length = ps.length
  run : ∀ (A : Around) (outer : List Env) (s : Shared) (H : Hp) (args : Args) (us : List Value) (vs : List V) (Q : VK) (E : XK), A.guards = some [] → Room k A →
    Env0 P w K mg base A outer s H → BindsTo s fd args (ps.zip us) → Vals vs us → sp vs H Q E → codeAny (model P w) A (.call (.ref f) args) (CR CX outer P w H s Q E) s
section
variable {P : Program} {w : World} {K : PySem.W.Frag} {mg : Str → Option Value} {base : Heap} {x qual : Str} {st : Stmt} {f : Addr} {fd : FuncData} {N ps : List Str} {k : Nat} {sp : Sp}
theorem FunA.okG {CX : CXT} (F : FunA K x qual st f fd) (S : FnScope N ps (defScope st)) (len : ∀ vs H Q E, sp vs H Q E → vs.length = ps.length)
    (hb : ∀ (cdv : Value) (A : Around) (outer : List Env) (s : Shared) (H : Hp) (vs : List V) (Q : VK) (E : XK), A.guards = some [] → Room k (A.deeper (envOfC qual (defScope st) s.heap.objs.size f cdv)) → sp vs H Q E →
      ∃ t, PSs (cxOf CX P w K mg base N qual (defScope st) f cdv A outer s H E) (defBody st) t ∧ t { nx := fun _ H' => Q .non H', rt := Q } (start N vs) H) : FnG P w K mg base CX (k + 1) f fd ps sp := by
  obtain ⟨oc, od, dV, kV, doc, pm, an, cdv, ct, osl, rfl, lk, hcd⟩ := F.ex
  refine ⟨len, fun A outer s H args us vs Q E hg hr e0 hbd r hsp => ?_⟩
  have keep : ∀ b o, base.get? b = some o → s.heap.get? b = some o := fun b o e => (e0.bs b o e).1
  have KX := e0.mod.kin.keeps keep
  refine codeAny_call_function hr.depth (KX _ _ lk) rfl S.co S.gen rfl (PySem.W.codeRec_of KX hcd) (hbd _ _ _ _ (wpAny_newFunctionEnv_cells S.kind (fun y hy => ?_) fun env he s1 z => ?_))
  · rcases S.par y.1 (List.of_mem_zip hy).1 with q | q
    · exact .inl q
    · exact .inr ⟨q, PySem.W.cellsFrom_some _ _ _ (.inl q)⟩
  subst he
  obtain ⟨t, ht, hq⟩ := hb cdv A outer s H vs Q E hg (hr.deeper _) hsp
  have I := inv_start (CX := CX) (N := N) (E := E) S hr.hd e0 (len _ _ _ _ hsp) r z
  refine ⟨(e0.mod.nolimit.keeps keep).keeps z.toInCall.keep, codeAny_func (wpAny_mono (ht.run [] s1 _ H _ I hq) (fun fl s' hs => ?_) fun _ _ h => h)⟩
  cases fl with
  | ret u =>
    obtain ⟨v, _, H', J, rv, q⟩ := hs
    exact ⟨v, H', J.os, J.bare, J.base, J.hok, rv, q⟩
  | next =>
    obtain ⟨_, H', J, q⟩ := hs
    exact ⟨.non, H', J.os, J.bare, J.base, J.hok, rfl, q⟩
  | brk => exact (hs.choose_spec.choose_spec.2 : False).elim
  | cont => exact (hs.choose_spec.choose_spec.2 : False).elim
/-- by a body that raises nothing -/
theorem FunA.okG0 (F : FunA K x qual st f fd) (S : FnScope N ps (defScope st)) (len : ∀ vs H Q E, sp vs H Q E → vs.length = ps.length)
    (hb : ∀ (cdv : Value) (A : Around) (outer : List Env) (s : Shared) (H : Hp) (vs : List V) (Q : VK) (E : XK), A.guards = some [] → Room k (A.deeper (envOfC qual (defScope st) s.heap.objs.size f cdv)) → sp vs H Q E →
      ∃ t, PSs (cxOf CX0 P w K mg base N qual (defScope st) f cdv A outer s H E).nox (defBody st) t ∧ t { nx := fun _ H' => Q .non H', rt := Q } (start N vs) H) : FnG P w K mg base CX0 (k + 1) f fd ps sp :=
  F.okG S len fun cdv A outer s H vs Q E hg hr h => let ⟨t, a, q⟩ := hb cdv A outer s H vs Q E hg hr h; ⟨t, a.nox, q⟩
end
section
variable {X : Cx} {CX : CXT} {k : Nat} {f : Addr} {fd : FuncData} {ps : List Str} {sp : Sp} {dvs : List V} {ds : List Value} {E : XK} {x : Str} {p pos : Pos} {e : Expr} {es : List Expr} {t : TA}
/-- f(e, ..) of such a promise -/
theorem pe_callG (hG : X.A.guards = some []) (F : FnG X.prog X.w X.K X.mg X.base CX k f fd ps sp) (hr : Room k X.A) (hg : Gl X x) (hm : X.mg x = some (.ref f)) (hk : PySem.W.keepIn X.K (.ref f) = true) (hb : Binds X.K fd ps ds) (hd : Vals dvs ds) (hx : Passes CX X E)
    (ha : PA X (e :: es) t) (n1 : (x == ("__debug__" : Str)) = false := by decide) (n2 : starEach (e :: es) X.env = (false, eval e X.env) :: starEach es X.env := by rfl) (n3 : (backTo pos (starEach es X.env)).any (·.1) = false := by rfl) :
    PE X (.Call (.Name x p) (e :: es) [] pos) (tCall sp dvs E t) := by
  refine ⟨fun pins s σ H Q I h => wpAny_Call_Name_kw (ld_glob I hg hm (PySem.W.callWith_K (h₀ := X.base) I.ok.mod.kin hk (thn (ha.run pos pins s σ H _ I h) fun us s1 ⟨vs, H1, I1, r, q⟩ => ⟨I1.kIn, ?_⟩) n2 n3) n1)⟩
  have r2 := r.append hd
  refine wpAny_call (codeAny_mono (F.run X.A X.stack s1 H1 ⟨us, []⟩ _ _ Q E hG hr I1.env0 (hb s1 us I1.kIn (by rw [← r2.length]; exact F.len _ _ _ _ q)) r2 q) fun fl s' hq => ?_)
  match fl, hq with
  | .error e, hq => exact hx pins σ H1 s1 e s' I1 hq
  | .ok (.ret u), hq => exact I1.after hq
end
section
variable {P : Program} {w : World} {K : PySem.W.Frag} {mg mb : Str → Option Value} {CX : CXT} {k : Nat} {fa a : Addr} {fd : FuncData} {x : Str} {sp : Sp} {s1 : Shared} {us : List Value} {ns : List Int}
/-- what a law wants of its call -/
abbrev LawEnd (s1 : Shared) (r : Result) (s' : Shared) : Prop := r = .ok (.ret (.bool true)) ∧ OldK s1.heap s'.heap ∧ s'.os = s1.os ∧ AllBare s'.gens
/-- from a heap in which the script alone may be tracked -/
theorem law_fromG (inK : K.In s1.heap) (gl : s1.heap.Ns mainGlobals mg) (bl : s1.heap.Ns builtinsNs mb) (bv : ∀ y : Str, y ≠ "__name__" → mb y = bootBuiltins y) (li : s1.heap.NoLimit) (ge : s1.gens = #[])
    (ha : s1.heap.get? a = some { cls := .type "list", data := .seq us.toArray }) (hr : Room k callerA) (F : ∀ b : Heap, K.In b → b.Ns mainGlobals mg → FnG P w K mg b CX k fa fd [x] sp) (bi : ∀ (s : Shared) (u : Value), BindsTo s fd ⟨[u], []⟩ [(x, u)])
    (no : ∀ H e s', CX [] H s1 (fun _ _ _ => False) e s' → False) (H : Hp) (only : Only H) (say : sp [.ref a] H (fun v _ => v = .bl true) fun _ _ _ => False) (ok : HOk P w H s1.heap) (hA : ∀ b, H b ≠ none → b = a) (hK : H a ≠ none → K.lookup a = none) :
    codeAny (model P w) callerA (.call (.ref fa) ⟨[.ref a], []⟩) (LawEnd s1) s1 := by
  have free : ∀ {b : Addr} {o : Obj}, s1.heap.get? b = some o → (∀ l n, o.data ≠ .seq l n) → H b = none := fun {b o} e d => by
    cases q : H b with
    | none => rfl
    | some u =>
      obtain rfl := hA b (by rw [q]; exact fun z => nomatch z)
      rw [ha] at e; cases e
      exact absurd rfl (d _ _)
  have ns2 : ∀ {b : Addr} {m : Str → Option Value}, s1.heap.Ns b m → (hidT s1.heap H).Ns b m := fun {b m} ⟨o, es, ep, e, d, r⟩ => ⟨o, es, ep, hidT_get e (free e fun l n z => by rw [d] at z; cases z), d, r⟩
  have k2 : K.In (hidT s1.heap H) := fun b o e => hidT_get (inK b o e) (by
    cases q : H b with
    | none => rfl
    | some u =>
      obtain rfl := hA b (by rw [q]; exact fun z => nomatch z)
      rw [hK (by rw [q]; exact fun z => nomatch z)] at e; cases e)
  have li2 : (hidT s1.heap H).NoLimit := by
    obtain ⟨mc, h1, h2⟩ := li
    exact ⟨mc, ns2 h1, h2⟩
  have e0 : Env0 P w K mg (hidT s1.heap H) callerA [] s1 H := { frames := rfl, mod := ⟨k2, ns2 gl, ⟨mb, ns2 bl, bv⟩, li2⟩, bs := fun b o e => of_hidT e, bsz := Nat.le_of_eq (hidT_size _ _), funs := trivial, frf := (fun b hb => absurd (show b ∈ ([] : List Addr) from hb) (List.not_mem_nil)), hok := ok, bare := .of_eq ge }
  refine codeAny_mono ((F _ k2 (ns2 gl)).run callerA [] s1 H ⟨[.ref a], []⟩ [.ref a] [.ref a] _ _ rfl hr e0 (bi s1 _) (.cons rfl .nil) say) fun r s' h => ?_
  match r, h with
  | .error e, h => exact (no H e s' h).elim
  | .ok (.ret u), ⟨v, H', os, bare, un, ok2, ru, q⟩ =>
    obtain rfl : v = .bl true := q
    cases ru
    refine ⟨rfl, OldK.of_keep fun b o e => ?_, os, bare⟩
    rcases only b with z | ⟨ob, xs, z⟩
    · exact un.keep b o e z (fun y => absurd (show b ∈ ([] : List Addr) from y) List.not_mem_nil) List.not_mem_nil
    · have o1 := (ok b _ z).1
      rw [e] at o1; cases o1
      exact (ok2 b _ (un.frzs b _ _ z)).1
theorem law_callG (inK : K.In s1.heap) (gl : s1.heap.Ns mainGlobals mg) (bl : s1.heap.Ns builtinsNs mb) (bv : ∀ y : Str, y ≠ "__name__" → mb y = bootBuiltins y) (li : s1.heap.NoLimit) (ge : s1.gens = #[])
    (ha : s1.heap.get? a = some { cls := .type "list", data := .seq us.toArray }) (hi : IntsAre us ns) (hl : ns.length ≤ sizeLine) (hr : Room k callerA) (F : ∀ b : Heap, K.In b → b.Ns mainGlobals mg → FnG P w K mg b CX k fa fd [x] sp)
    (bi : ∀ (s : Shared) (u : Value), BindsTo s fd ⟨[u], []⟩ [(x, u)]) (say : ∀ H : Hp, Only H → SqL K H a (ns.map V.int) → sp [.ref a] H (fun v _ => v = .bl true) fun _ _ _ => False) (no : ∀ H e s', CX [] H s1 (fun _ _ _ => False) e s' → False) :
    codeAny (model P w) callerA (.call (.ref fa) ⟨[.ref a], []⟩) (LawEnd s1) s1 := by
  have rv := vals_ints hi
  have ll : us.length = ns.length := hi.length
  have two : ∀ h : Hp, Only h → SqL K h a (ns.map V.int) → HOk P w h s1.heap → (∀ b, h b ≠ none → b = a) → (h a ≠ none → K.lookup a = none) → codeAny (model P w) callerA (.call (.ref fa) ⟨[.ref a], []⟩) (LawEnd s1) s1 := fun h h1 h2 h3 h4 h5 =>
    law_fromG inK gl bl bv li ge ha hr F bi no h h1 (say h h1 h2) h3 h4 h5
  cases own : K.lookup a with
  | some o =>
    have e := inK a o own
    rw [ha] at e; cases e
    exact two (fun _ => none) (fun _ => .inl rfl) (.inr ⟨_, us.toArray, _, own, rfl, rfl, rfl, by rw [List.size_toArray, ll]; exact hl, by simpa using rv⟩) (fun b u z => nomatch (show (none : Option HO) = some u from z)) (fun b z => absurd rfl z) fun z => absurd rfl z
  | none =>
    let G : Hp := upd (fun _ => none) a (.frz { cls := .type "list", data := .seq us.toArray } (.lst (ns.map V.int)))
    have ga : G a = some (.frz { cls := .type "list", data := .seq us.toArray } (.lst (ns.map V.int))) := upd_same
    have gn : ∀ b, b ≠ a → G b = none := fun b n => upd_ne n
    refine two G (fun b => ?_) (.inl (.inr ⟨_, ga⟩)) (fun b u z => ?_) (fun b z => ?_) fun _ => own
    · by_cases e : b = a
      · subst e; exact .inr ⟨_, _, ga⟩
      · exact .inl (gn b e)
    · by_cases e : b = a
      · subst e
        rw [ga] at z; cases z
        exact ⟨ha, by rw [List.length_map]; exact hl, us, _, rv, ha⟩
      · rw [gn b e] at z; cases z
    · exact Classical.byContradiction fun e => z (gn b e)
end
theorem walk_ofG {l : PySem.W.OpenLaw} {n k : Nat} {q : Program} {loose : List Str} {XP : (Str → Option Value) → Heap → Prop} {YP : World → Heap → Prop} {d : DefRec} {K : Params → PySem.W.Frag} {CX : World → CXT} {sp : World → Sp} {x : Str} (h1 : l.most = some n) (h2 : n ≤ sizeLine)
    (h3 : d.params.defaults = []) (hr : Room k callerA) (hY : ∀ (w : World) (h : Heap), YP w h → (K w.params).In h)
    (F : ∀ (w : World) (mg : Str → Option Value) (fa : Addr) (h : Heap), (K w.params).In h → h.Ns mainGlobals mg → mg d.name = some (.ref fa) → ∃ fd : FuncData, (∀ (s : Shared) (u : Value), BindsTo s fd ⟨[u], []⟩ [(x, u)]) ∧
      ∀ b : Heap, (K w.params).In b → b.Ns mainGlobals mg → FnG l.prog w (K w.params) mg b (CX w) k fa fd [x] (sp w))
    (say : ∀ (w : World) (H : Hp) (a : Addr) (ns : List Int), ns.length ≤ n → Only H → SqL (K w.params) H a (ns.map V.int) → sp w [.ref a] H (fun v _ => v = .bl true) fun _ _ _ => False)
    (no : ∀ (w : World) (H : Hp) (s : Shared) (e : Value) (s' : Shared), CX w [] H s (fun _ _ _ => False) e s' → False) : PySem.W.WalkO q loose XP YP l.row.toRowW d [] (fun f vs => PySem.call f vs) :=
  Att.attach_call h1 h3 fun w s0 s1 mg mb fa o pm cd doc a vs ns G Y _ _ _ hmg ho hi hlen ge =>
    let ⟨_, bi, hF⟩ := F w mg fa _ (hY w _ Y) G.T.g hmg
    law_callG (hY w _ Y) G.T.g G.T.b G.T.builtins G.T.nolimit ge ho hi (Nat.le_trans hlen h2) hr hF bi (fun H hO hS => say w H a ns hlen hO hS) fun H e s' => no w H s1 e s'
end Sip
namespace Sip
open PySem PySem.Spec PyProof.Rows L2 TL

abbrev Piece := Nat × List Int
/-! all pieces laid one behind another -/
def allF (r : List Int) (ps : List Piece) : List Int := ps.foldl (fun acc p => laidF acc p.1 p.2) r
def mostF (m : Nat) (ps : List Piece) : Nat := ps.foldl (fun m p => if 0 < p.2.length then max m (p.1 + p.2.length) else m) m
def stepB (k : Nat) (b : Int) (p : Piece) : Int := if p.1 ≤ k ∧ k < p.1 + p.2.length then p.2.getD (k - p.1) 0 else b
def byteF (b : Int) (k : Nat) (ps : List Piece) : Int := ps.foldl (stepB k) b
theorem laidF_len (r : List Int) (p : Piece) : (laidF r p.1 p.2).length = if 0 < p.2.length then max r.length (p.1 + p.2.length) else r.length := by
  by_cases h : p.2 = []
  · rw [h, laidF_nil]; rfl
  · rw [laidF_length h, if_pos (List.length_pos_iff.mpr h)]
theorem laidF_byte (r : List Int) (p : Piece) (k : Nat) : (laidF r p.1 p.2)[k]?.getD 0 = stepB k (r[k]?.getD 0) p := by
  unfold stepB
  by_cases h : p.2 = []
  · rw [h, laidF_nil, if_neg (by simp)]
  · rw [laidF_getD h, List.getD_eq_getElem?_getD, List.getD_eq_getElem?_getD]
theorem allF_len : ∀ (ps : List Piece) (r : List Int), (allF r ps).length = mostF r.length ps
  | [], _ => rfl
  | p :: q, r => by
    show (allF (laidF r p.1 p.2) q).length = mostF (if 0 < p.2.length then max r.length (p.1 + p.2.length) else r.length) q
    rw [allF_len q, laidF_len]
theorem allF_byte : ∀ (ps : List Piece) (r : List Int) (k : Nat), (allF r ps)[k]?.getD 0 = byteF (r[k]?.getD 0) k ps
  | [], _, _ => rfl
  | p :: q, r, k => by
    show (allF (laidF r p.1 p.2) q)[k]?.getD 0 = byteF (stepB k (r[k]?.getD 0) p) k q
    rw [allF_byte q, laidF_byte]
theorem allF_append (r : List Int) (a b : List Piece) : allF r (a ++ b) = allF (allF r a) b := List.foldl_append
/-- a piece in two parts -/
theorem laidF_parts (r : List Int) (n c : Nat) (d : List Int) (h : c ≤ d.length) : laidF (laidF r n (d.take c)) (n + c) (d.drop c) = laidF r n d := by
  have l1 := laidF_len r (n, d.take c)
  have l2 := laidF_len (laidF r n (d.take c)) (n + c, d.drop c)
  have l3 := laidF_len r (n, d)
  simp only [List.length_take, List.length_drop] at l1 l2 l3
  refine ext_getD ?_ fun k hk => ?_
  · rw [l2, l3, l1]
    split <;> split <;> split <;> omega
  · rw [laidF_byte _ (n + c, d.drop c), laidF_byte r (n, d.take c), laidF_byte r (n, d)]
    unfold stepB
    simp only [List.length_take, List.length_drop, List.getD_eq_getElem?_getD, List.getElem?_drop]
    by_cases h1 : n + c ≤ k ∧ k < n + c + (d.length - c)
    · rw [if_pos h1, if_pos (by omega)]
      congr 2
      omega
    · rw [if_neg h1]
      by_cases h2 : n ≤ k ∧ k < n + min c d.length
      · rw [if_pos h2, if_pos (by omega), List.getElem?_take_of_lt (by omega)]
      · rw [if_neg h2, if_neg (by omega)]
theorem allF_parts (r : List Int) (a b : List Piece) (n c : Nat) (d : List Int) (h : c ≤ d.length) :
    allF r (a ++ [(n, d.take c), (n + c, d.drop c)] ++ b) = allF r (a ++ [(n, d)] ++ b) := by
  rw [allF_append, allF_append, allF_append, allF_append]
  show allF (laidF (laidF (allF r a) n (d.take c)) (n + c) (d.drop c)) b = allF (laidF (allF r a) n d) b
  rw [laidF_parts _ _ _ _ h]
def Small (p : Piece) : Prop := p.1 ≤ 340 ∧ p.2.length ≤ 400 ∧ Bytes p.2
theorem bytes_getD {bs : List Int} (h : Bytes bs) (k : Nat) : 0 ≤ bs[k]?.getD 0 ∧ bs[k]?.getD 0 ≤ 255 := by
  cases e : bs[k]? with
  | none => exact ⟨by decide, by decide⟩
  | some b =>
    obtain ⟨hk, rfl⟩ := List.getElem?_eq_some_iff.mp e
    exact h _ (List.getElem_mem hk)
theorem bytes_of {bs : List Int} (h : ∀ k, k < bs.length → 0 ≤ bs[k]?.getD 0 ∧ bs[k]?.getD 0 ≤ 255) : Bytes bs := fun b hb => by
  obtain ⟨k, hk, rfl⟩ := List.getElem_of_mem hb
  have := h k hk
  rw [List.getElem?_eq_getElem hk] at this
  exact this
theorem laid_bytes {r : List Int} {p : Piece} (hr : Bytes r) (hp : Bytes p.2) : Bytes (laidF r p.1 p.2) := bytes_of fun k _ => by
  rw [laidF_byte]
  unfold stepB
  split
  · rw [List.getD_eq_getElem?_getD]; exact bytes_getD hp _
  · exact bytes_getD hr k
theorem allF_good : ∀ (ps : List Piece) (r : List Int), Bytes r → r.length ≤ 740 → (∀ p ∈ ps, Small p) → Bytes (allF r ps) ∧ (allF r ps).length ≤ 740
  | [], r, hb, hl, _ => ⟨hb, hl⟩
  | p :: q, r, hb, hl, hp => by
    have h1 := hp p (List.mem_cons_self ..)
    refine allF_good q (laidF r p.1 p.2) (laid_bytes hb h1.2.2) ?_ (fun z hz => hp z (List.mem_cons_of_mem _ hz))
    exact laidF_le ⟨hl, by have := h1.1; have := h1.2.1; omega⟩

/-! pieces in the heap -/
def PieceAt (H : Hp) (v : V) (p : Piece) : Prop := ∃ T D : Addr, v = .ref T ∧ H T = some (.tup [.int (p.1 : Nat), .ref D]) ∧ H D = some (.lst (p.2.map V.int))
def Pieces (H : Hp) (vs : List V) (ps : List Piece) : Prop := vs.length = ps.length ∧ ∀ (i : Nat) (v : V) (p : Piece), vs[i]? = some v → ps[i]? = some p → PieceAt H v p
theorem PieceAt.mono {H H' : Hp} {v : V} {p : Piece} (s : Same H H') (h : PieceAt H v p) : PieceAt H' v p := by
  obtain ⟨T, D, e, h1, h2⟩ := h
  exact ⟨T, D, e, s _ _ h1, s _ _ h2⟩
theorem Pieces.mono {H H' : Hp} {vs : List V} {ps : List Piece} (s : Same H H') (h : Pieces H vs ps) : Pieces H' vs ps :=
  ⟨h.1, fun i v p a b => (h.2 i v p a b).mono s⟩
theorem Pieces.at {H : Hp} {vs : List V} {ps : List Piece} {i : Nat} {v : V} (h : Pieces H vs ps) (e : vs[i]? = some v) : ∃ hi : i < ps.length, PieceAt H v ps[i] := by
  have hi : i < ps.length := by
    have := (List.getElem?_eq_some_iff.mp e).1
    rw [h.1] at this; exact this
  exact ⟨hi, h.2 i v _ e (List.getElem?_eq_getElem hi)⟩
theorem Pieces.nil {H : Hp} : Pieces H [] [] := ⟨rfl, fun i v p a => by simp at a⟩
theorem Pieces.append {H : Hp} {vs us : List V} {ps qs : List Piece} (h : Pieces H vs ps) (k : Pieces H us qs) : Pieces H (vs ++ us) (ps ++ qs) := by
  refine ⟨by rw [List.length_append, List.length_append, h.1, k.1], fun i v p a b => ?_⟩
  by_cases hi : i < vs.length
  · rw [List.getElem?_append_left hi] at a
    rw [List.getElem?_append_left (by rw [← h.1]; exact hi)] at b
    exact h.2 i v p a b
  · rw [List.getElem?_append_right (by omega)] at a
    rw [List.getElem?_append_right (by rw [← h.1]; omega), ← h.1] at b
    exact k.2 _ v p a b
theorem Pieces.one {H : Hp} {v : V} {p : Piece} (h : PieceAt H v p) : Pieces H [v] [p] := ⟨rfl, fun i w q a b => by
  cases i with
  | zero =>
    have e1 : v = w := Option.some.inj a
    have e2 : p = q := Option.some.inj b
    rw [← e1, ← e2]; exact h
  | succ i => simp at a⟩
theorem Pieces.take {H : Hp} {vs : List V} {ps : List Piece} (h : Pieces H vs ps) (n : Nat) : Pieces H (vs.take n) (ps.take n) := by
  refine ⟨by rw [List.length_take, List.length_take, h.1], fun i v p a b => ?_⟩
  have hi : i < n := by
    have := (List.getElem?_eq_some_iff.mp a).1
    rw [List.length_take] at this; omega
  rw [List.getElem?_take_of_lt hi] at a b
  exact h.2 i v p a b
theorem Pieces.drop {H : Hp} {vs : List V} {ps : List Piece} (h : Pieces H vs ps) (n : Nat) : Pieces H (vs.drop n) (ps.drop n) := by
  refine ⟨by rw [List.length_drop, List.length_drop, h.1], fun i v p a b => ?_⟩
  rw [List.getElem?_drop] at a b
  exact h.2 _ v p a b
theorem cut_to (xs : List V) (n : Nat) (h : n ≤ xs.length) : cutV xs none (some (n : Int)) = xs.take n := by
  unfold cutV
  rw [HT.sIx_none, HT.sIx_nat, Nat.min_eq_left h]; rfl
theorem cut_from (xs : List V) (n : Nat) (h : n ≤ xs.length) : cutV xs (some (n : Int)) none = xs.drop n := by
  unfold cutV
  rw [HT.sIx_none, HT.sIx_nat, Nat.min_eq_left h]
  exact List.take_of_length_le (by rw [List.length_drop]; omega)
theorem split_at {α : Type} {ps : List α} {i : Nat} (hi : i < ps.length) : ps.take i ++ [ps[i]] ++ ps.drop (i + 1) = ps := by
  rw [List.append_assoc]
  show ps.take i ++ (ps[i] :: ps.drop (i + 1)) = ps
  rw [List.getElem_cons_drop, List.take_append_drop]
theorem foldl_next {α β : Type} (f : β → α → β) (b : β) (xs : List α) (i : Nat) (hi : i < xs.length) : (xs.take (i + 1)).foldl f b = f ((xs.take i).foldl f b) xs[i] := by
  rw [List.take_add_one, List.getElem?_eq_getElem hi, List.foldl_append]; rfl

def spBytesM (K : PySem.W.Frag) : Sp := fun vs H Q _ => ∃ (p m : Addr) (n : Int) (o : HO) (ms : List Int), vs = [.ref p, .ref m] ∧ H p = some o ∧ PoolO n o ∧ n ≤ 900000000 ∧ SqL K H m (ms.map V.int) ∧ p ≠ m ∧ ms ≠ [] ∧ ms.length ≤ 100 ∧ (∀ z ∈ ms, 0 ≤ z ∧ z ≤ 400) ∧
  ∀ (H' : Hp) (q : Addr) (bs : List Int) (o' : HO), H q = none → H' q = some (.lst (bs.map V.int)) → H' p = some o' → PoolO (n + 1000) o' → Kp [p] H H' → (∃ z ∈ ms, (bs.length : Int) = z) → Bytes bs → Q (.ref q) H'
def spDueP (K : PySem.W.Frag) : Sp := fun vs H Q _ => ∃ (a b : Addr) (r : List Int) (us : List V) (ps : List Piece), vs = [.ref a, .ref b] ∧ SqL K H a (r.map V.int) ∧ SqL K H b us ∧ Pieces H us ps ∧ r.length ≤ 740 ∧ Bytes r ∧ (∀ p ∈ ps, Small p) ∧ ps.length ≤ 100 ∧
  ∀ (H' : Hp) (q : Addr), H q = none → H' q = some (.lst ((allF r ps).map V.int)) → Same H H' → Q (.ref q) H'
/-! what stands apart from some places -/
def mask (qs : List Addr) (H : Hp) : Hp := fun b => if b ∈ qs then none else H b
theorem mask_le (qs : List Addr) (H : Hp) : Same (mask qs H) H := fun b o e => by
  unfold mask at e
  split at e
  · cases e
  · exact e
theorem mask_upd {qs : List Addr} {H : Hp} {q : Addr} {o : HO} (h : q ∈ qs) : mask qs (upd H q o) = mask qs H := by
  funext b
  unfold mask
  split
  · rfl
  · next n =>
    have : b ≠ q := fun z => n (by rw [z]; exact h)
    rw [upd_ne this]
theorem mask_kp {qs : List Addr} {H H' : Hp} (k : Kp qs H H') : Same (mask qs H) (mask qs H') := fun b o e => by
  unfold mask at e ⊢
  split at e
  · cases e
  · next n => rw [if_neg n]; exact k b o n e
theorem mask_at {qs : List Addr} {H : Hp} {b : Addr} (h : b ∉ qs) : mask qs H b = H b := if_neg h
theorem Kp.sub {ps qs : List Addr} {H H' : Hp} (k : Kp ps H H') (h : ∀ x ∈ ps, x ∈ qs ∨ H x = none) : Kp qs H H' := fun b o n e => by
  refine k b o (fun z => ?_) e
  rcases h b z with h | h
  · exact n h
  · rw [h] at e; cases e
def Tiny (p : Piece) : Prop := p.1 ≤ 299 ∧ p.2.length ≤ 40 ∧ Bytes p.2
theorem Tiny.small {p : Piece} (h : Tiny p) : Small p := ⟨by have := h.1; omega, by have := h.2.1; omega, h.2.2⟩
end Sip
namespace Sip
open PySem PySem.Spec PyProof.Rows L2 TL

/-! an object with all that is its own (F): what a call may change -/
def Step (F : Addr → Prop) (H : Hp) (F' : Addr → Prop) (H' : Hp) : Prop := (∀ b o, ¬ F b → H b = some o → H' b = some o) ∧ ∀ b, F' b → F b ∨ H b = none
theorem Step.keep {F F' : Addr → Prop} {H H' : Hp} {b : Addr} {o : HO} (s : Step F H F' H') (n : ¬ F b) (e : H b = some o) : H' b = some o ∧ ¬ F' b :=
  ⟨s.1 b o n e, fun z => (s.2 b z).elim n fun q => by rw [q] at e; cases e⟩
/-- own objects made since H0 alone -/
theorem Step.since {F F' : Addr → Prop} {H0 H H' : Hp} (s : Step F H F' H') (a : Same H0 H) (n : ∀ b, F b → H0 b = none) : Same H0 H' ∧ ∀ b, F' b → H0 b = none := by
  refine ⟨fun b o e => s.1 b o (fun z => by rw [n b z] at e; cases e) (a b o e), fun b z => ?_⟩
  rcases s.2 b z with q | q
  · exact n b q
  · exact a.free q
theorem Step.of {F : Addr → Prop} {H H' : Hp} (s : Same H H') : Step F H F H' := ⟨fun b o _ e => s b o e, fun b z => .inl z⟩
theorem Step.trans {F F' F2 : Addr → Prop} {H H' H2 : Hp} (a : Step F H F' H') (b : Step F' H' F2 H2) : Step F H F2 H2 := by
  refine ⟨fun x o n e => b.1 x o (a.keep n e).2 (a.keep n e).1, fun x z => ?_⟩
  rcases b.2 x z with q | q
  · exact a.2 x q
  · by_cases f : F x
    · exact .inl f
    · cases e : H x with
      | none => exact .inr rfl
      | some o => rw [a.1 x o f e] at q; cases q

/-- a plain file in the heap, however it keeps its row: heap, address, what is its own, row, cursor -/
abbrev PP := Hp → Addr → (Addr → Prop) → List Int → Nat → Prop
structure IsPlain (C : Addr) (PA : PP) : Prop where
  loc : ∀ {H H' : Hp} {p : Addr} {F : Addr → Prop} {r : List Int} {c : Nat}, PA H p F r c → (∀ b o, F b → H b = some o → H' b = some o) → PA H' p F r c
  own : ∀ {H : Hp} {p : Addr} {F : Addr → Prop} {r : List Int} {c : Nat}, PA H p F r c → ∀ b, F b → ∃ o, H b = some o
  ins : ∀ {H : Hp} {p : Addr} {F : Addr → Prop} {r : List Int} {c : Nat}, PA H p F r c → ∃ dx fs, H p = some (.ins C dx fs) ∧ ∀ m ∈ (["read", "read_some", "peek", "readline", "write", "seek", "tell", "size", "row", "cut"] : List Str), fs.lookup m = none
theorem IsPlain.same {C : Addr} {PA : PP} (I : IsPlain C PA) {H H' : Hp} {p : Addr} {F : Addr → Prop} {r : List Int} {c : Nat} (h : PA H p F r c) (s : Same H H') : PA H' p F r c := I.loc h fun b o _ e => s b o e
theorem IsPlain.kp {C : Addr} {PA : PP} (I : IsPlain C PA) {H H' : Hp} {qs : List Addr} {p : Addr} {F : Addr → Prop} {r : List Int} {c : Nat} (h : PA H p F r c) (k : Kp qs H H') (n : ∀ q ∈ qs, ¬ F q) : PA H' p F r c :=
  I.loc h fun b o f e => k b o (fun z => n b z f) e
theorem IsPlain.new {C : Addr} {PA : PP} (I : IsPlain C PA) {H : Hp} {q p : Addr} {F : Addr → Prop} {r : List Int} {c : Nat} (h : PA H p F r c) (n : H q = none) : ¬ F q := fun f => by
  obtain ⟨o, e⟩ := I.own h q f
  rw [n] at e; cases e

def spPInit (K : PySem.W.Frag) (C : Addr) (PA : PP) : Sp := fun vs H Q _ => ∃ (p a dx : Addr) (r : List Int) (c : Nat), vs = [.ref p, .ref a, .int c] ∧ H p = some (.ins C dx []) ∧ H dx = some (.own p) ∧ SqL K H a (r.map V.int) ∧ p ≠ a ∧ r.length ≤ 400 ∧ c ≤ 4000 ∧
  ∀ (H' : Hp) (F' : Addr → Prop), PA H' p F' r c → Step (fun b => b = p ∨ b = dx) H F' H' → Q .non H'
def spPTell (PA : PP) : Sp := fun vs H Q _ => ∃ (p : Addr) (F : Addr → Prop) (r : List Int) (c : Nat), vs = [.ref p] ∧ PA H p F r c ∧ Q (.int c) H
def spPSize (PA : PP) : Sp := fun vs H Q _ => ∃ (p : Addr) (F : Addr → Prop) (r : List Int) (c : Nat), vs = [.ref p] ∧ PA H p F r c ∧ Q (.int r.length) H
def spPRow (PA : PP) : Sp := fun vs H Q _ => ∃ (p : Addr) (F : Addr → Prop) (r : List Int) (c : Nat), vs = [.ref p] ∧ PA H p F r c ∧ ∀ (H' : Hp) (q : Addr), H q = none → H' q = some (.lst (r.map V.int)) → Same H H' → Q (.ref q) H'
def spPSeek (PA : PP) : Sp := fun vs H Q _ => ∃ (p : Addr) (F : Addr → Prop) (r : List Int) (c g : Nat) (pl : Int) (st : Str), vs = [.ref p, .int pl, .str st] ∧ PA H p F r c ∧
  ((st = Str.ofString "head" ∧ (g : Int) = pl) ∨ (st = Str.ofString "here" ∧ (g : Int) = c + pl) ∨ (st = Str.ofString "tail" ∧ (g : Int) = r.length + pl)) ∧ g ≤ 4000 ∧ ∀ (H' : Hp) (F' : Addr → Prop), PA H' p F' r g → Step F H F' H' → Q (.int g) H'
def spPCut (PA : PP) : Sp := fun vs H Q _ => ∃ (p : Addr) (F : Addr → Prop) (r : List Int) (c g : Nat) (v : V), vs = [.ref p, v] ∧ PA H p F r c ∧ ((v = .non ∧ g = c) ∨ v = .int g) ∧ g ≤ 4000 ∧ ∀ (H' : Hp) (F' : Addr → Prop), PA H' p F' (r.take g) c → Step F H F' H' → Q .non H'
def spPWrite (PA : PP) : Sp := fun vs H Q _ => ∃ (p b : Addr) (F : Addr → Prop) (r : List Int) (c : Nat) (d : List Int), vs = [.ref p, .ref b] ∧ PA H p F r c ∧ ¬ F b ∧ H b = some (.lst (d.map V.int)) ∧ Bytes d ∧ r.length ≤ 4000 ∧ c ≤ 4000 ∧ d.length ≤ 400 ∧ (laidF r c d).length ≤ 4000 ∧
  ∀ (H' : Hp) (F' : Addr → Prop), PA H' p F' (laidF r c d) (c + d.length) → Step F H F' H' → Q (.int d.length) H'
/-- a place drawn for a row of n bytes -/
def spGoal (K : PySem.W.Frag) : Sp := fun vs H Q _ => ∃ (p x : Addr) (n : Int) (o : HO) (r : List Int), vs = [.ref p, .ref x] ∧ H p = some o ∧ PoolO n o ∧ n ≤ 900000000 ∧ SqL K H x (r.map V.int) ∧ p ≠ x ∧ r.length ≤ 5000 ∧
  ∀ (H' : Hp) (g : Nat) (o' : HO), g ≤ max (r.length + 20) 4000 → H' p = some o' → PoolO (n + 4) o' → Kp [p] H H' → Q (.int g) H'
def spSought (K : PySem.W.Frag) (PA : PP) : Sp := fun vs H Q _ => ∃ (p x : Addr) (F : Addr → Prop) (r : List Int) (c g : Nat) (way : Int), vs = [.ref p, .int way, .int g, .ref x, .int c] ∧ 0 ≤ way ∧ way ≤ 3 ∧ PA H p F r c ∧ SqL K H x (r.map V.int) ∧ g ≤ 4000 ∧
  ∀ (H' : Hp) (F' : Addr → Prop), PA H' p F' r g → Step F H F' H' → Q (.int g) H'
def spCutL (PA : PP) : Sp := fun vs H Q _ => ∃ (p : Addr) (F : Addr → Prop) (r : List Int) (c g : Nat) (way : Int), vs = [.ref p, .int way, .int g] ∧ 0 ≤ way ∧ way ≤ 2 ∧ (way < 2 → g = c) ∧ PA H p F r c ∧ g ≤ 4000 ∧
  ∀ (H' : Hp) (F' : Addr → Prop), PA H' p F' (r.take g) c → Step F H F' H' → Q .non H'
theorem take_cut (r : List Int) (g : Nat) : cutV (r.map V.int) none (some (g : Int)) = (r.take g).map V.int := by
  unfold cutV
  rw [HT.sIx_none, HT.sIx_nat, List.length_map, List.map_take]
  show (r.map V.int).take (min g r.length - 0) = _
  by_cases h : g ≤ r.length
  · rw [Nat.min_eq_left h]; rfl
  · rw [Nat.min_eq_right (by omega), List.take_of_length_le (by rw [List.length_map]; omega), List.take_of_length_le (by rw [List.length_map]; omega)]
theorem drop_cut (r : List Int) (g : Nat) : cutV (r.map V.int) (some (g : Int)) none = (r.drop g).map V.int := by
  unfold cutV
  rw [HT.sIx_none, HT.sIx_nat, List.length_map, List.map_drop]
  by_cases h : g ≤ r.length
  · rw [Nat.min_eq_left h]
    exact List.take_of_length_le (by rw [List.length_drop, List.length_map]; omega)
  · rw [Nat.min_eq_right (by omega), List.drop_of_length_le (by rw [List.length_map]; omega), List.drop_of_length_le (l := r.map V.int) (by rw [List.length_map]; omega)]
    simp
/-- one byte laid over by hand -/
theorem laid_one (r : List Int) (c : Nat) (v : Int) : (r ++ List.replicate (c - r.length) 0).take c ++ [v] ++ r.drop (c + 1) = laidF r c [v] := by
  rw [laidF_cons (by simp)]
  congr 1
  by_cases h : c + 1 ≤ r.length
  · rw [show c - r.length = 0 by omega]; simp
  · rw [List.drop_of_length_le (l := r) (by omega), List.drop_of_length_le]
    rw [List.length_append, List.length_replicate]
    show _ ≤ c + 1
    omega
end Sip
namespace Sip
open PySem PySem.Spec PyProof.Rows L2 TL
/-! a heap by name: what was made, what was written -/
theorem updG {H H' : Hp} {q : Addr} {o : HO} (g : upd H q o = H') (n : H q = none) : H' q = some o ∧ Same H H' := by
  subst g; exact ⟨upd_same, (Kp.new (ps := []) n).same⟩
theorem updK {H H' : Hp} {q : Addr} {o : HO} (g : upd H q o = H') : H' q = some o ∧ Kp [q] H H' := by
  subst g; exact ⟨upd_same, Kp.at (by simp)⟩
theorem neN {H : Hp} {p x : Addr} {o : HO} (n : H p = none) (e : H x = some o) : x ≠ p := ne_of_none e n
theorem neM {H : Hp} {p x : Addr} {o : HO} (n : H x = none) (e : H p = some o) : x ≠ p := (ne_of_none e n).symm
theorem kp1 {H H' : Hp} {p x : Addr} {o : HO} (k : Kp [p] H H') (n : x ≠ p) (e : H x = some o) : H' x = some o := k x o (by simpa using n) e
theorem sm1 {H H' : Hp} {x : Addr} {o : HO} (k : Same H H') (e : H x = some o) : H' x = some o := k x o e
theorem sqS {K : PySem.W.Frag} {H H' : Hp} {a : Addr} {l : List V} (s : Same H H') (h : SqL K H a l) : SqL K H' a l := s.seq h
theorem sqK {K : PySem.W.Frag} {H H' : Hp} {p a : Addr} {l : List V} (s : Kp [p] H H') (n : a ≠ p) (h : SqL K H a l) : SqL K H' a l := s.seq (by simpa using n) h
end Sip
namespace Sip
open PySem PySem.Spec PyProof.Rows L2 TL
theorem mapI_nil : ([] : List V) = List.map V.int [] := rfl
theorem mapI_cons {a : Int} {l : List V} {ms : List Int} (h : l = List.map V.int ms) : V.int a :: l = List.map V.int (a :: ms) := by rw [h]; rfl
theorem sq_lit {K : PySem.W.Frag} {H : Hp} {m : Addr} {l : List V} {ms : List Int} (h : H m = some (.lst l)) (e : l = ms.map V.int) : SqL K H m (ms.map V.int) := by rw [← e]; exact sq_at h
theorem hp_lit {H : Hp} {m : Addr} {l : List V} {ms : List Int} (h : H m = some (.lst l)) (e : l = ms.map V.int) : H m = some (.lst (ms.map V.int)) := by rw [← e]; exact h
end Sip
namespace Sip
open PySem PySem.Spec PyProof.Rows L2 TL
theorem iteFc {b : Bool} {A B : Prop} (e : b = false) (h : B) : if b = true then A else B := by subst e; exact iteF h
theorem iteTc {b : Bool} {A B : Prop} (e : b = true) (h : A) : if b = true then A else B := by subst e; exact iteT h
theorem free1 {H H' : Hp} {l : Addr} (h : H' l = none) (e : Same H H') : H l = none := e.free h
theorem same_tr {H H1 H2 : Hp} (b : Same H1 H2) (a : Same H H1) : Same H H2 := a.trans b
theorem step_sm {H H1 H2 : Hp} {p : Addr} (k : Kp [p] H1 H2) (n : H p = none) (s : Same H H1) : Same H H2 := step_same s n k
end Sip
namespace Sip
open PySem PySem.Spec PyProof.Rows L2 TL
theorem upd_get {H : Hp} {a b : Addr} {o u : HO} (n : b ≠ a) (e : H b = some u) : upd H a o b = some u := by rw [upd_ne n]; exact e
end Sip
namespace Sip
open PySem PySem.Spec PyProof.Rows L2 TL
/-- an object made: the older ones stay, and are not its own -/
theorem made_new {H H5 : Hp} {f dx : Addr} {o1 o2 : HO} {F : Addr → Prop} (st : Step (fun b => b = f ∨ b = dx) (upd (upd H dx o2) f o1) F H5) (nf : H f = none) (nd : H dx = none) : Same H H5 ∧ ∀ b o, H b = some o → ¬ F b := by
  have k : ∀ b o, H b = some o → H5 b = some o ∧ ¬ F b := fun b o e => by
    have bf : b ≠ f := ne_of_none e nf
    have bd : b ≠ dx := ne_of_none e nd
    exact st.keep (fun z => z.elim bf bd) (by rw [upd_ne bf, upd_ne bd]; exact e)
  exact ⟨fun b o e => (k b o e).1, fun b o e => (k b o e).2⟩
end Sip
namespace Sip
open PySem PySem.Spec PyProof.Rows L2 TL
theorem sqA {K : PySem.W.Frag} {H H' : Hp} {a : Addr} {l : List V} (h : SqL K H a l) (s : Same H H') : SqL K H' a l := s.seq h
end Sip
namespace Sip
open PySem PySem.Spec PyProof.Rows L2 TL
theorem sqB {K K' : PySem.W.Frag} {H H' : Hp} {a : Addr} {l : List V} (h : SqL K H a l) (s : Same H H') (e : K = K') : SqL K' H' a l := e ▸ s.seq h
end Sip
namespace Sip
open PySem PySem.Spec PyProof.Rows L2 TL
/-- what may be found by the way (no word over a frame) -/
class Wit (α : Type) : Prop where
  ok : True
instance : Wit V := ⟨trivial⟩
instance : Wit Int := ⟨trivial⟩
instance : Wit Nat := ⟨trivial⟩
instance : Wit Bool := ⟨trivial⟩
instance : Wit HO := ⟨trivial⟩
instance : Wit Str := ⟨trivial⟩
instance : Wit Value := ⟨trivial⟩
instance : Wit (Addr → Prop) := ⟨trivial⟩
instance {α β : Type} [Wit α] [Wit β] : Wit (α × β) := ⟨trivial⟩
instance {α : Type} [Wit α] : Wit (Option α) := ⟨trivial⟩
instance {α : Type} [Wit α] : Wit (List α) := ⟨trivial⟩
theorem exI {α : Type} [Wit α] {p : α → Prop} (a : α) (h : p a) : ∃ x, p x := ⟨a, h⟩
end Sip
namespace Sip
open PySem PySem.Spec PyProof.Rows L2 TL
theorem isi_ii {K : PySem.W.Frag} {v : Int} {H : Hp} {Q : VK} (h : Q (.bl true) H) : rIsi K [.int v, .ty "int"] H Q := ⟨.int v, .ty "int", _, _, true, rfl, .ty "int", .base (.int v), kit_ty (by decide +kernel), h⟩
theorem isi_ib {K : PySem.W.Frag} {v : Int} {H : Hp} {Q : VK} (h : Q (.bl false) H) : rIsi K [.int v, .ty "bool"] H Q := ⟨.int v, .ty "bool", _, _, false, rfl, .ty "bool", .base (.int v), kit_ty (by decide +kernel), h⟩
end Sip
namespace Sip
open PySem PySem.Spec PyProof.Rows L2

/-! del xs[lo:hi] -/
def delL {α : Type} (xs : List α) (a c : Nat) : List α := xs.take a ++ xs.drop (max a c)
theorem sel_filter {α : Type} (sel : Nat → Bool) (a c : Nat) (h : ∀ k, sel k = (decide (a ≤ k) && decide (k < c))) (xs : List α) :
    ∀ j, (xs.zipIdx j).filterMap (fun p => if sel p.2 = true then none else some p.1) = xs.take (a - j) ++ xs.drop (max (a - j) (c - j)) := by
  induction xs with
  | nil => intro j; simp
  | cons x r ih =>
    intro j
    rw [List.zipIdx_cons, List.filterMap_cons]
    have e := h j
    by_cases h1 : a ≤ j
    · by_cases h2 : j < c
      · rw [decide_eq_true h1, decide_eq_true h2] at e
        have e' : sel j = true := e
        simp only [e', if_true]
        rw [ih (j + 1)]
        have : a - j = 0 := by omega
        have : a - (j + 1) = 0 := by omega
        have : c - j = (c - (j + 1)) + 1 := by omega
        simp [*]
      · rw [decide_eq_true h1, decide_eq_false h2] at e
        have e' : ¬ (sel j = true) := by rw [e]; decide
        simp only [if_neg e']
        rw [ih (j + 1)]
        have : a - j = 0 := by omega
        have : a - (j + 1) = 0 := by omega
        have : c - j = 0 := by omega
        have : c - (j + 1) = 0 := by omega
        simp [*]
    · rw [decide_eq_false h1] at e
      have e' : ¬ (sel j = true) := by rw [e]; simp
      simp only [if_neg e']
      rw [ih (j + 1)]
      have e1 : a - j = (a - (j + 1)) + 1 := by omega
      have e2 : max (a - j) (c - j) = max (a - (j + 1)) (c - (j + 1)) + 1 := by omega
      rw [e2, e1, List.take_succ_cons, List.drop_succ_cons]
      rfl
def selF (a c : Nat) (i : Nat) : Bool :=
  if (1 : Int) > 0 then (a : Int) ≤ i && i < (c : Int) && (i - (a : Int)) % 1 == 0
  else (c : Int) < i && i ≤ (a : Int) && ((a : Int) - i) % (-1) == 0
theorem selF_eq (a c k : Nat) : selF a c k = (decide (a ≤ k) && decide (k < c)) := by
  unfold selF
  rw [if_pos (by decide)]
  have : ((k : Int) - (a : Int)) % 1 = 0 := by omega
  rw [this]
  simp
theorem selF_fun (a c : Nat) : (fun xs : Array Value => (List.filterMap (fun x => if selF a c x.snd = true then none else some x.fst) xs.toList.zipIdx).toArray) = fun t => (delL t.toList a c).toArray := by
  funext t
  have := sel_filter (selF a c) a c (selF_eq a c) t.toList 0
  rw [Nat.sub_zero, Nat.sub_zero] at this
  exact congrArg _ this
theorem sel_fun {sel : Nat → Bool} {a c : Nat} (h : ∀ k, sel k = selF a c k) : (fun xs : Array Value => (List.filterMap (fun x => if sel x.snd = true then none else some x.fst) xs.toList.zipIdx).toArray) = fun t => (delL t.toList a c).toArray := by
  have e : sel = selF a c := funext h
  subst e
  exact selF_fun a c
section
variable {pr : Program} {wd : World} {ar : Around} {er : Value → Shared → Prop} {s : Shared}
set_option maxHeartbeats 4000000 in
theorem del_slice {l z : Addr} {old : Array Value} {m a c : Nat} {lo hi : Option Int} {vl vu : Value} {Q : Unit → Shared → Prop}
    (eo : s.heap.get? l = some { cls := .type "list", data := .seq old m })
    (hz : s.heap.IsSliceOf z vl vu .none) (pl : IsPart vl lo) (pu : IsPart vu hi)
    (bd : sliceBounds lo hi none old.size = ((a : Int), (c : Int), 1)) (fit : old.size ≤ sizeLine)
    (k : Q () { s with heap := s.heap.update l (Obj.mapSeq fun t => (delL t.toList a c).toArray) }) :
    wpAny (model pr wd) ar (delItem (.ref l) (.ref z)) Q er s := by
  have lo' : s.heap.IsList l old := PySem.IsL.isList eo
  obtain ⟨oz, gz, cz, dz⟩ := id hz
  have tz : s.TypeIs (.ref z) "slice" := ⟨oz, gz, cz⟩
  refine wpAny_delItem_slot lo'.typeIs (by decide) PySem.F.slot_list_delitem ?_
  refine wpAny_call_entry PySem.F.slot_list_delitem lo'.typeIs PySem.F.entry_list_delitem ?_ (PySem.F.args_list_delitem_2 _ _)
  show wpAny _ _ (Builtin.List.listSubscript? (.ref z) >>= _) _ _ s
  refine wpAny_bind ?_
  unfold Builtin.List.listSubscript?
  refine wpAny_bind (wpAny_specialOf tz slice_no_index ?_)
  simp only [Option.isNone_none, if_true]
  refine wpAny_pure ?_
  show wpAny _ _ (typeOf (.ref z) >>= _) _ _ s
  refine wpAny_bind (wpAny_typeOf tz ?_)
  first
    | rw [if_neg (by decide)]
    | refine PySem.W.KFB.if_not (by decide) ?_
  rw [listSliceParts_eq]
  refine wpAny_bind (wpAny_bind (wpAny_field gz dz (x := .none) rfl (wpAny_bind (wpAny_listPart .none ?_))))
  rw [if_neg (show ¬ ((rawPart none == rawInt 0) = true) from Bool.false_ne_true)]
  refine wpAny_bind (wpAny_field gz dz (x := vl) rfl (wpAny_bind (wpAny_listPart pl ?_)))
  refine wpAny_bind (wpAny_field gz dz (x := vu) rfl (wpAny_bind (wpAny_listPart pu (wpAny_pure ?_))))
  unfold Builtin.List.listItems
  refine wpAny_bind (wpAny_bind (wpAny_seqItems eo rfl (wpAny_pure ?_)))
  have si := (sliceIndices_raw lo hi none old.size (by simp)).trans (congrArg (pure : Int × Int × Int → Sem (Int × Int × Int)) bd)
  refine wpAny_bind (wpAny_of_eq si ?_)
  refine wpAny_bind (wpAny_rule ?_)
  refine wpAny_bind ?_
  unfold Builtin.List.listUpdate
  simp only []
  rw [sel_fun (a := a) (c := c) (fun k => by with_unfolding_all rfl)]
  have zz : ((fun t : Array Value => (delL t.toList a c).toArray) old).size ≤ sizeLine + 1 := by
    show (delL old.toList a c).toArray.size ≤ _
    rw [List.size_toArray]
    unfold delL
    rw [List.length_append, List.length_take, List.length_drop, Array.length_toList]; omega
  refine wpAny_updateSeq (hz := fit) (_hz' := zz) eo rfl (wpAny_bind (wpAny_letGo ?_))
  first
    | with_reducible exact wpAny_pure ⟨.none, rfl, k⟩
    | exact wpAny_bind (wpAny_pure (wpAny_pure ⟨.none, rfl, k⟩))
    | exact wpAny_pure ⟨.none, rfl, k⟩
end
/-- what is left of a list whose part from lo to hi is deleted -/
def delV (xs : List V) (lo hi : Option Int) : List V := delL xs (HT.sIx xs.length 0 lo) (HT.sIx xs.length xs.length hi)
theorem bounds_sIx (lo hi : Option Int) (n : Nat) : sliceBounds lo hi none n = ((HT.sIx n 0 lo : Int), (HT.sIx n n hi : Int), 1) := by
  have f : ∀ (v : Option Int) (d : Nat), d ≤ n → (match v with | none => (d : Int) | some i => max 0 (min (if i < 0 then i + (n : Int) else i) (n : Int))) = (HT.sIx n d v : Int) ∨ (∃ i, v = some i ∧ i < 0 ∧ i + (n : Int) > n) := by
    intro v d hd
    cases v with
    | none => exact .inl rfl
    | some i =>
      left
      show max 0 (min (if i < 0 then i + (n : Int) else i) (n : Int)) = ((if i < 0 then (i + (n : Int)).toNat else min i.toNat n : Nat) : Int)
      split <;> omega
  have f1 := (f lo 0 (by omega)).resolve_right (by rintro ⟨i, _, h1, h2⟩; omega)
  have f2 := (f hi n (by omega)).resolve_right (by rintro ⟨i, _, h1, h2⟩; omega)
  rw [← f1, ← f2]
  unfold sliceBounds
  cases lo <;> cases hi <;> rfl
section
variable {X : Cx} {pos : Pos}
def tDelS (to : TE) (tl th : TO) : TS := fun D σ H => to σ H fun o H1 => tl σ H1 fun lo H2 => th σ H2 fun hi H3 => ∃ (l : Addr) (xs : List V), o = .ref l ∧ H3 l = some (.lst xs) ∧ D.nx σ (upd H3 l (.lst (delV xs lo hi)))
theorem ps_delS {o : Expr} {lo hi : Option Expr} {to : TE} {tl th : TO} {p2 tpos : Pos} (ho : PE X o to) (hl : PO X lo tl) (hh : PO X hi th) : PS X (.Delete [.Subscript o (.Slice lo hi none p2) tpos] pos) (tDelS to tl th) := by
  refine ⟨fun pins s σ H D I h => ?_⟩
  refine wpAny_Delete (wpAny_deleteEach_cons (wpAny_delete_Subscript (thn (ho.run pins s σ H _ I h) fun ov s1 ⟨x, H1, I1, r1, q1⟩ => ?_)))
  refine wpAny_Slice (thn (hl.run pins s1 σ H1 _ I1 q1) fun wl s2 ⟨l, H2, I2, pl, q2⟩ => ?_)
  refine thn (hh.run pins s2 σ H2 _ I2 q2) fun wu s3 ⟨uu, H3, I3, pu, q3⟩ => ?_
  rw [evalPart_none]
  refine wpAny_pure ?_
  obtain ⟨p, xs, rfl, hp, fin⟩ := q3
  cases r1
  have I4 : Inv X pins σ H3 { s3 with heap := s3.heap.push { cls := .type "slice", data := .fields #[wl, wu, .none] } } := I3.kept (t' := s3.toks) fun b ob e => Heap.get?_push_of_some _ e
  obtain ⟨z1, us1, n1, rv1, hz1, e1⟩ := I4.lstM hp
  have L1 := rv1.length
  refine del_slice (a := HT.sIx xs.length 0 l) (c := HT.sIx xs.length xs.length uu) e1 (Heap.IsSliceOf.new ..) pl pu (by rw [List.size_toArray, ← L1]; exact bounds_sIx _ _ _) (by rw [List.size_toArray]; omega) ?_
  refine wpAny_deleteEach_nil ⟨σ, _, ?_, fin⟩
  refine I4.lset (its' := delL us1 (HT.sIx xs.length 0 l) (HT.sIx xs.length xs.length uu)) (t' := s3.toks) hp e1 rfl (Vals.append (rv1.take _) (rv1.drop _)) ?_
  show (delL _ _ _).length ≤ _
  unfold delL
  rw [List.length_append, List.length_take, List.length_drop]
  omega
end
end Sip
namespace Sip
open PySem PySem.Spec PyProof.Rows L2 TL
/-- for i, x in enumerate(xs), the list standing -/
theorem for_enum {K : PySem.W.Frag} {a : Addr} {xs : List V} {g : TG} {tb : TS} {D : Ends} {σ : L2.St} {H : Hp} (Pv : Nat → L2.St → Hp → Prop) (h0 : Pv 0 σ H) (hl : ∀ i σ H, i ≤ xs.length → Pv i σ H → SqL K H a xs)
    (hs : ∀ i x σ H T, xs[i]? = some x → Pv i σ H → H T = none → g (.ref T) σ (upd H T (.tup [.int (i : Nat), x])) fun σ2 H2 => tb { D with nx := Pv (i + 1), ct := Pv (i + 1), bk := D.nx } σ2 H2) (hd : ∀ σ H, Pv xs.length σ H → D.nx σ H) :
    ∃ W : Nat → Nat → L2.St → Hp → Prop, (∃ m, W 0 m σ H) ∧ ∀ i m σ H, W i m σ H →
      ((Ite K a).stop i H ∧ D.nx σ H) ∨ ((Ite K a).go i H ∧ ∃ N : L2.St → Hp → Prop, (∀ σ' H', N σ' H' → ∃ m', m' < m ∧ W (i + 1) m' σ' H') ∧ ∀ x H', (Ite K a).yld i H x H' → g x σ H' fun σ2 H2 => tb { D with nx := N, ct := N, bk := D.nx } σ2 H2) := by
  refine ⟨fun i m σ H => m = xs.length - i ∧ i ≤ xs.length ∧ Pv i σ H, ⟨xs.length, by simp, Nat.zero_le _, h0⟩, ?_⟩
  rintro i m σ H ⟨rfl, hi, p⟩
  have q := hl i σ H hi p
  by_cases hlt : i < xs.length
  · refine .inr ⟨⟨xs, xs[i], q, by simp [hlt]⟩, Pv (i + 1), fun σ' H' p' => ⟨xs.length - (i + 1), by omega, rfl, hlt, p'⟩, fun x H' y => ?_⟩
    obtain ⟨T, y, rfl, nT, rfl, hy⟩ := y
    exact hs i y σ _ T (hy xs q) p nT
  · have e : i = xs.length := by omega
    subst e
    exact .inl ⟨⟨xs, q, Nat.le_refl _⟩, hd σ H p⟩
end Sip
namespace Sip
open PySem PySem.Spec PyProof.Rows L2 TL
section
variable {X : Cx} {e : Expr} {te : TE}
/-- a bound of a slice that may be None -/
def tPartO (te : TE) : TO := fun σ H Q => te σ H fun x H1 => ∃ k : Option Int, x = (match k with | none => .non | some i => .int i) ∧ Q k H1
theorem po_opt (h : PE X e te) : PO X (some e) (tPartO te) := by
  refine ⟨fun pins s σ H Q I hw => ?_⟩
  rw [evalPart_some]
  refine thn (h.run pins s σ H _ I hw) fun u s1 ⟨x, H1, I1, r1, q1⟩ => ?_
  obtain ⟨k, rfl, q⟩ := q1
  cases k with
  | none =>
    cases (show u = Value.none from r1)
    exact ⟨none, H1, I1, .none, q⟩
  | some i =>
    obtain ⟨t, rfl⟩ := (show ∃ t, u = Value.int i t from r1)
    exact ⟨some i, H1, I1, .int i t, q⟩
end
def cntV : Option Nat → V
  | none => .non
  | some n => .int n
def cntI : Option Nat → Option Int
  | none => none
  | some n => some n
theorem cntV_eq (k : Option Nat) : cntV k = (match cntI k with | none => V.non | some i => .int i) := by cases k <;> rfl
def takeO (k : Option Nat) (xs : List Int) : List Int := match k with
  | none => xs
  | some n => xs.take n
theorem cut_O (r : List Int) (k : Option Nat) : cutV (r.map V.int) none (cntI k) = (takeO k r).map V.int := by
  cases k with
  | none =>
    unfold cutV cntI takeO
    rw [HT.sIx_none, HT.sIx_none, List.length_map]
    show (r.map V.int).take (r.length - 0) = _
    exact List.take_of_length_le (by rw [List.length_map]; omega)
  | some n => exact take_cut r n
theorem takeO_len (k : Option Nat) (xs : List Int) : (takeO k xs).length ≤ xs.length := by
  cases k with
  | none => exact Nat.le_refl _
  | some n => show (xs.take n).length ≤ _; rw [List.length_take]; omega
def lineF (xs : List Int) : List Int := xs.take (xs.idxOf 10 + 1)
theorem lineF_no {xs : List Int} (h : (10 : Int) ∉ xs) : lineF xs = xs := by
  unfold lineF
  exact List.take_of_length_le (by rw [List.idxOf_eq_length h]; omega)
theorem idx_take (xs : List Int) (n : Nat) : (xs.take n).idxOf 10 = min (xs.idxOf 10) (xs.take n).length := by
  induction xs generalizing n with
  | nil => simp
  | cons x r ih =>
    cases n with
    | zero => simp
    | succ n =>
      rw [List.take_succ_cons, List.idxOf_cons, List.idxOf_cons, List.length_cons]
      by_cases h : x = 10
      · subst h; simp
      · have : (x == 10) = false := by simpa using h
        rw [this]
        simp only [cond_false]
        rw [ih n]; omega
theorem lineF_take (xs : List Int) (n : Nat) : lineF (xs.take n) = (lineF xs).take n := by
  unfold lineF
  rw [idx_take, List.take_take, List.take_take]
  rw [List.length_take]
  by_cases h : n ≤ xs.length
  · congr 1; omega
  · rw [List.take_of_length_le (l := xs) (by omega : xs.length ≤ n) |>.symm]
    by_cases g : xs.idxOf 10 < xs.length
    · rw [List.take_of_length_le (l := xs) (by omega : xs.length ≤ n)]; congr 1; omega
    · rw [List.take_of_length_le (l := xs) (by omega : xs.length ≤ n)]
      have : xs.idxOf 10 ≤ xs.length := List.idxOf_le_length
      rw [List.take_of_length_le (by omega), List.take_of_length_le (by omega)]
theorem lineF_O (xs : List Int) (k : Option Nat) : lineF (takeO k xs) = takeO k (lineF xs) := by
  cases k with
  | none => rfl
  | some n => exact lineF_take xs n
theorem inV_ten (xs : List Int) (v : Int) : inV (.int v) (xs.map V.int) = decide (v ∈ xs) := by
  unfold inV
  rw [List.any_map]
  rw [Bool.eq_iff_iff, List.any_eq_true, decide_eq_true_iff]
  constructor
  · rintro ⟨x, hx, e⟩
    have e1 : x = v := by
      have : eqV (.int x) (.int v) = true := e
      simpa [eqV] using this
    rw [← e1]; exact hx
  · intro h
    exact ⟨v, h, by show eqV (.int v) (.int v) = true; simp [eqV]⟩
theorem flat_ints (xs : List Int) : (xs.map V.int).all flatV = true := by
  rw [List.all_map, List.all_eq_true]
  intro x _
  rfl
theorem idx_facts {xs : List Int} {v : Int} (h : v ∈ xs) : (xs.map V.int)[xs.idxOf v]? = some (.int v) ∧ ∀ (m : Nat) (z : V), m < xs.idxOf v → (xs.map V.int)[m]? = some z → eqV z (.int v) = false := by
  have hl : xs.idxOf v < xs.length := List.idxOf_lt_length_of_mem h
  refine ⟨?_, fun m z hm hz => ?_⟩
  · rw [List.getElem?_map, List.getElem?_eq_getElem hl, List.getElem_idxOf hl]; rfl
  · rw [List.getElem?_map] at hz
    obtain ⟨y, hy, rfl⟩ := Option.map_eq_some_iff.mp hz
    have : y ≠ v := by
      intro e
      subst e
      have hm' : m < xs.length := by omega
      rw [List.getElem?_eq_getElem hm'] at hy
      have := List.not_of_lt_findIdx (p := (· == y)) (xs := xs) (i := m) hm
      have e2 : xs[m] = y := Option.some.inj hy
      rw [e2] at this
      simp at this
    show eqV (.int y) (.int v) = false
    simpa [eqV] using this
theorem mid_cut (r : List Int) (c n : Nat) : cutV (r.map V.int) (some (c : Int)) (some ((c + n : Nat) : Int)) = ((r.drop c).take n).map V.int := by
  unfold cutV
  rw [HT.sIx_nat, HT.sIx_nat, List.length_map, ← List.map_drop, ← List.map_take]
  congr 1
  by_cases h : c ≤ r.length
  · rw [Nat.min_eq_left h]
    by_cases g : c + n ≤ r.length
    · rw [Nat.min_eq_left g, Nat.add_sub_cancel_left]
    · rw [Nat.min_eq_right (by omega), List.take_of_length_le (by rw [List.length_drop]; omega), List.take_of_length_le (by rw [List.length_drop]; omega)]
  · rw [Nat.min_eq_right (by omega : r.length ≤ c), Nat.min_eq_right (by omega), List.drop_of_length_le (Nat.le_refl _), List.drop_of_length_le (by omega : r.length ≤ c)]
    simp
theorem past_le (r : List Int) (c n m : Nat) (h1 : r.length ≤ m) (h2 : c ≤ m) : c + ((r.drop c).take n).length ≤ m := by
  rw [List.length_take, List.length_drop]; omega
/-! promises of the reading calls -/
def spPPeek (PA : PP) : Sp := fun vs H Q _ => ∃ (p : Addr) (F : Addr → Prop) (r : List Int) (c : Nat) (k : Option Nat), vs = [.ref p, cntV k] ∧ PA H p F r c ∧
  ∀ (H' : Hp) (q : Addr), H q = none → H' q = some (.lst ((takeO k (r.drop c)).map V.int)) → Same H H' → Q (.ref q) H'
def spPRead (PA : PP) : Sp := fun vs H Q _ => ∃ (p : Addr) (F : Addr → Prop) (r : List Int) (c : Nat) (k : Option Nat), vs = [.ref p, cntV k] ∧ PA H p F r c ∧
  ∀ (H' : Hp) (F' : Addr → Prop) (q : Addr), PA H' p F' r (c + (takeO k (r.drop c)).length) → H q = none → ¬ F' q → H' q = some (.lst ((takeO k (r.drop c)).map V.int)) → Step F H F' H' → Q (.ref q) H'
def spPLine (PA : PP) : Sp := fun vs H Q _ => ∃ (p : Addr) (F : Addr → Prop) (r : List Int) (c : Nat) (k : Option Nat), vs = [.ref p, cntV k] ∧ PA H p F r c ∧ r.length ≤ 10000 ∧
  ∀ (H' : Hp) (F' : Addr → Prop) (q : Addr), PA H' p F' r (c + (takeO k (lineF (r.drop c))).length) → H q = none → ¬ F' q → H' q = some (.lst ((takeO k (lineF (r.drop c))).map V.int)) → Step F H F' H' → Q (.ref q) H'
def spFLine (K : PySem.W.Frag) : Sp := fun vs H Q _ => ∃ (a : Addr) (xs : List Int) (k : Option Nat), vs = [.ref a, cntV k] ∧ SqL K H a (xs.map V.int) ∧ xs.length ≤ 10000 ∧
  ∀ (H' : Hp) (q : Addr), H q = none → H' q = some (.lst ((takeO k (lineF xs)).map V.int)) → Same H H' → Q (.ref q) H'
def spCount : Sp := fun vs H Q _ => ∃ k : Option Nat, vs = [cntV k] ∧ Q .non H
def spAhead (PA : PP) : Sp := fun vs H Q _ => ∃ (p : Addr) (F : Addr → Prop) (r : List Int) (c : Nat), vs = [.ref p] ∧ PA H p F r c ∧
  ∀ (H' : Hp) (q : Addr), H q = none → H' q = some (.lst ((r.drop c).map V.int)) → Same H H' → Q (.ref q) H'
def spPassed (PA : PP) : Sp := fun vs H Q _ => ∃ (p t : Addr) (F : Addr → Prop) (r xs : List Int) (c : Nat), vs = [.ref p, .ref t] ∧ PA H p F r c ∧ ¬ F t ∧ H t = some (.lst (xs.map V.int)) ∧
  ∀ (H' : Hp) (F' : Addr → Prop), PA H' p F' r (c + xs.length) → ¬ F' t → H' t = some (.lst (xs.map V.int)) → Step F H F' H' → Q (.ref t) H'
end Sip
namespace Sip
open PySem PySem.Spec PyProof.Rows L2 TL
/-! ### own errors that keep a value -/
/-- __init__(self, f): self.f = f -/
def spErr1 (C : Addr) (f : Str) : Sp := fun vs H Q _ => ∃ (a : Addr) (v : V), vs = [.ref a, v] ∧ H a = some (exo a C none) ∧ ∀ dx, H dx = none → dx ≠ a → Q .non (upd (upd H dx (exd dx [(f, v)])) a (exo a C (some dx)))
/-- what a raise of it asks, once its value stands -/
theorem mk1_fin {C : Addr} {f : Str} {H1 : Hp} {v : V} {Q : XK} (h : ∀ d, H1 d = none → Q (.ref C) (some d) (upd H1 d (.xd [(f, v)]))) :
    [v].length ≤ 1000 ∧ ∀ a, H1 a = none → spErr1 C f (.ref a :: ([v] ++ [])) (upd H1 a (exo a C none))
      (fun v H2 => v = .non ∧ ∃ (d : Addr) (fs : List (Str × V)), H2 a = some (exo a C (some d)) ∧ H2 d = some (exd d fs) ∧ H1 d = none ∧ Q (.ref C) (some d) (upd (del H2 a) d (.xd fs))) (fun _ _ _ => False) := by
  refine ⟨by show 1 ≤ 1000; decide, fun a na => ⟨a, v, rfl, upd_same, fun dx nd ne => ⟨rfl, dx, [(f, v)], upd_same, ?_, ?_, ?_⟩⟩⟩
  · rw [upd_ne ne]; exact upd_same
  · rw [upd_ne ne] at nd; exact nd
  · have nd' : H1 dx = none := by rw [upd_ne ne] at nd; exact nd
    have e : upd (del (upd (upd (upd H1 a (exo a C none)) dx (exd dx [(f, v)])) a (exo a C (some dx))) a) dx (.xd [(f, v)]) = upd H1 dx (.xd [(f, v)]) := by
      funext b
      by_cases hb : b = dx
      · subst hb; rw [upd_same, upd_same]
      · rw [upd_ne hb, upd_ne hb]
        by_cases ha : b = a
        · subst ha; rw [del_same, na]
        · rw [del_ne ha, upd_ne ha, upd_ne hb, upd_ne ha]
    rw [e]
    exact h dx nd'
section
variable {X : Cx}
/-- isinstance(e, c): e is the error that the suite holds, whatever it keeps -/
def rIsO (K : PySem.W.Frag) (cls : Value) (d : Option Addr) (a : Addr) : List V → Hp → VK → Prop := fun xs H Q => ∃ D : Addr, cls = .ref D ∧ ExcC K D ∧ (d = none ∨ ∃ dd fs, d = some dd ∧ H dd = some (.xd fs)) ∧ rIsE K D a xs H Q
theorem inst_of {a D : Addr} {oe : Obj} {d : Option Addr} {H : Hp} {s : Shared} {pins : List (Addr × Obj)} {σ : L2.St} {Y : Cx} (I : Inv Y pins σ H s) (ha : s.heap.get? a = some oe) (hz : Zc (.ref D) d oe) (hf : ∃ vs, oe.data = .fields vs)
    (hd : d = none ∨ ∃ dd fs, d = some dd ∧ H dd = some (.xd fs)) : ∃ od, PySem.W.InstAt s.heap a oe D od := by
  obtain ⟨vs, hv⟩ := hf
  obtain ⟨z1, z2⟩ := hz
  have nc : PySem.W.notCls oe = true := by unfold PySem.W.notCls; rw [hv]
  rcases hd with rfl | ⟨dd, fs, rfl, ed⟩
  · refine ⟨none, ha, z1, nc, ?_⟩
    rw [z2]; trivial
  · have ob : ObjOk Y.prog Y.w H s.heap dd (.xd fs) := I.hok dd _ ed
    obtain ⟨mA, hns, _⟩ := ob
    obtain ⟨od, ho, _⟩ := lookIn_ns hns
    refine ⟨some od, ha, z1, nc, ?_⟩
    rw [z2]; exact ho
theorem call_isO {a : Addr} {oe : Obj} {cls : Value} {d : Option Addr} {pn : List (Addr × Obj)} (hz : Zc cls d oe) (hf : ∃ vs, oe.data = .fields vs) : CallR (X.suite a ((a, oe) :: pn)) (.builtin "isinstance") (rIsO X.K cls d a) := by
  intro pins s σ H xs us Q I r h
  obtain ⟨D, rfl, C, hd, c, cv, b, rfl, hcv, e, q⟩ := h
  obtain ⟨u1, u2, rfl, r1, r2⟩ := vals2 r
  obtain rfl : u1 = Value.ref a := r1
  obtain rfl := hcv _ r2
  obtain ⟨ha, _⟩ := I.pin (a, oe) (List.mem_append_left _ List.mem_cons_self)
  obtain ⟨od, J⟩ := inst_of I ha hz hf hd
  have hcl : (PySem.W.clsIn X.K D).isSome = true := by
    obtain ⟨cd, h1, _⟩ := PySem.W.any_some C.hd
    rw [h1]; rfl
  exact PySem.W.kia_one (PySem.W.kitx_exc hcl C.hg C.hk C.hs C.ha C.hn C.ht C.hm) I.kIn J e (fun z => nomatch z) fun tk => ⟨.bl b, H, I.kept (t' := tk) fun _ _ z => z, rfl, q⟩
/-- e.f of that error -/
def tXf (K : PySem.W.Frag) (f : Str) (a : Addr) (cls : Value) (d : Option Addr) (te : TE) : TE := fun σ H Q => te σ H fun x H1 => ∃ (D dd : Addr) (fs : List (Str × V)) (v : V), x = .ref a ∧ cls = .ref D ∧ ExcC K D ∧ PySem.W.findIn K (.ref D) f = some none ∧ d = some dd ∧ H1 dd = some (.xd fs) ∧ fs.lookup f = some v ∧ Q v H1
theorem pe_xf {f : Str} {a : Addr} {oe : Obj} {cls : Value} {d : Option Addr} {pn : List (Addr × Obj)} {e : Expr} {te : TE} {pos : Pos} (hz : Zc cls d oe) (hf : ∃ vs, oe.data = .fields vs) (he : PE (X.suite a ((a, oe) :: pn)) e te)
    (hb : attributeBase e f X.env (eval e X.env) = eval e X.env := by rfl) : PE (X.suite a ((a, oe) :: pn)) (.Attribute e f pos) (tXf X.K f a cls d te) := by
  refine ⟨fun pins s σ H Q I h => attr_of hb (thn (he.run pins s σ H _ I h) fun u s1 hh => ?_)⟩
  obtain ⟨x, H1, I1, rx, D, dd, fs, v, rfl, rfl, C, no, rfl, ed, lk, q⟩ := hh
  obtain rfl : u = Value.ref a := rx
  obtain ⟨ha, _⟩ := I1.pin (a, oe) (List.mem_append_left _ List.mem_cons_self)
  have ob : ObjOk X.prog X.w H1 s1.heap dd (.xd fs) := I1.hok dd _ ed
  obtain ⟨mA, hns, hr⟩ := ob
  obtain ⟨od, ho, hl⟩ := lookIn_ns hns
  obtain ⟨v', hv', rv⟩ := RelO.some_of (v := v) (o := mA f) (by rw [← lk]; exact hr f)
  obtain ⟨vs, hd⟩ := hf
  have J : PySem.W.InstAt s1.heap a oe D (some od) := by
    refine ⟨ha, hz.1, ?_, ?_⟩
    · unfold PySem.W.notCls; rw [hd]
    · rw [hz.2]; exact ho
  exact HandSPX.exc_get I1.kIn J C.hg C.hk C.hs (PySem.W.findObj_own C.hd no rfl (by rw [hl, hv'])) (handed_of rv) ⟨v, H1, I1.tok _, rv, q⟩
end
/-! ### calls within a try -/
section
variable {X : Cx} {CX : CXT} {k n : Nat} {f : Addr} {fd : FuncData} {ps ks : List Str} {sp : Sp} {E : L2.St → XK} {x : Str} {p pos : Pos} {e : Expr} {es : List Expr} {kws : List Keyword} {t tk : TA} {g : List Value → List Value → List Value} {gV : List V → List V → List V}
def tCallNS (n m : Nat) (sp : Sp) (gV : List V → List V → List V) (E : L2.St → XK) (t tk : TA) : TE := fun σ H Q => t σ H fun vs H1 => tk σ H1 fun zs H2 => vs.length = n ∧ zs.length = m ∧ sp (gV vs zs) H2 Q (E σ)
theorem pe_callNS (F : FnOk X.prog X.w X.K X.mg X.base CX k f fd ps sp) (hr : Room k X.A) (hg : Gl X x) (hm : X.mg x = some (.ref f)) (hk : PySem.W.keepIn X.K (.ref f) = true) (hb : KBn X.K fd ps n ks g gV) (hx : ∀ σ, PassesAt CX X σ (E σ))
    (ha : PA X (e :: es) t) (hkw : PK X kws tk) (hall : (backToKw pos (keywordEach kws X.env)).all (·.1.isSome) = true := by rfl) (hks : (backToKw pos (keywordEach kws X.env)).filterMap (·.1) = ks := by rfl)
    (hdb : (x == ("__debug__" : Str)) = false := by decide) (he : starEach (e :: es) X.env = (false, eval e X.env) :: starEach es X.env := by rfl)
    (hpl : ((backTo pos (starEach (e :: es) X.env)).any (·.1) || (backToKw pos (keywordEach kws X.env)).any (·.1.isNone)) = false := by rfl) :
    PE X (.Call (.Name x p) (e :: es) kws pos) (tCallNS n ks.length sp gV E t tk) := by
  refine ⟨fun pins s σ H Q I h => wpAny_Call_Name_kw (ld_glob I hg hm ?_ hdb)⟩
  refine PySem.W.callWith_KW (h₀ := X.base) I.ok.mod.kin hk hall (thn (ha.run pos pins s σ H _ I h) fun us s1 ⟨vs, H1, I1, r, q⟩ => ?_) hpl he
  refine thn (hkw.run pos pins s1 σ H1 _ I1 q) fun ws s2 w2 => ?_
  obtain ⟨zs, H2, I2, rz, l1, l2, q2⟩ := w2
  refine ⟨I2.kIn, ?_⟩
  rw [hks]
  have bt := hb.to s2 us ws I2.kIn (r.length.symm.trans l1) (rz.length.symm.trans l2)
  refine wpAny_call (codeAny_mono (F.run X.A X.stack s2 H2 ⟨us, ks.zip ws⟩ (g us ws) (gV vs zs) Q (E σ) hr I2.env0 bt (hb.rel r rz) q2) fun out s' hq => ?_)
  match out, hq with
  | .error e, hq => exact hx σ pins H2 s2 e s' I2 hq
  | .ok (.ret u), hq => exact I2.after hq
  | .ok .next, hq => exact hq.elim
  | .ok .brk, hq => exact hq.elim
  | .ok .cont, hq => exact hq.elim
end
/-- a raising callee within a def that lets the error out -/
theorem passX {X : Cx} {E : XK} (tk : Takes X (fun cls d _ H => E cls d H)) : Passes (L2.CX X.prog X.w) X E := fun pins σ H s e s' I c => passes_call tk (fun _ _ _ _ h => h) pins σ H s e s' I c
end Sip
namespace Sip
open PySem PySem.Spec PyProof.Rows L2 TL
theorem kit_ownF {K : PySem.W.Frag} {C S : Addr} (h1 : PySem.W.isClsIn K S = true) (h2 : PySem.W.typeIn K (.ref S) = some (.type "type")) (h0 : PySem.W.subIn K (.ref C) (.ref C) = some true) (h3 : PySem.W.subIn K (.ref C) (.ref S) = some false) : PySem.W.kitOne K (.ref C) (.ref S) = some false := by
  have ne : C ≠ S := fun z => by
    rw [z] at h0 h3
    rw [h0] at h3
    cases h3
  have a : ((PySem.W.clsIn K S).isSome && PySem.W.typeIn K (.ref S) == some (.type "type")) = true := by
    have h1' : (PySem.W.clsIn K S).isSome = true := h1
    rw [h1', h2]; rfl
  unfold PySem.W.kitOne PySem.W.kitCls
  split
  · next h =>
    exfalso
    exact ne (by simpa using h)
  · exact (if_pos a).trans h3
/-- the written class of an own error straight beneath S -/
def IsExcObj (K : PySem.W.Frag) (C S : Addr) : Prop := ∃ nm q N bs bm sn sub ab col dd k0 k1 k2 k3 k5, K.lookup C = some (excClassObj nm q C N bs bm true sn sub ab col dd k0 k1 k2 k3 k5 "ValueError.__new__") ∧ PySem.HandSPX.refsVE bm = true
end Sip
/-! several except clauses, some with a name -/
namespace Sip
open PySem PySem.Spec PyProof.Rows L2 TL
/-- a clause: its class, the slot of its name, its suite -/
abbrev Cl := Value × Option Nat × (Addr → Value → Option Addr → TS)
/-- behind a suite its name is gone -/
def offD (i : Nat) (D : Ends) : Ends where
  nx := fun σ H => D.nx (σ.set i none) H
  rt := D.rt
  bk := fun σ H => D.bk (σ.set i none) H
  ct := fun σ H => D.ct (σ.set i none) H
def suiteW (D : Ends) (ts : Addr → Value → Option Addr → TS) (cls : Value) (d : Option Addr) (σ : L2.St) (H : Hp) (a : Addr) : Option Nat → Prop
  | none => ts a cls d D σ H
  | some i => ts a cls d (offD i D) (σ.set i (some (.ref a))) H
def wMix (K : PySem.W.Frag) (Wo : WX) (D : Ends) : List Cl → WX
  | [] => Wo
  | (c, o, ts) :: r => fun cls d σ H => ∃ b, PySem.W.exmOne K cls c = some b ∧ (b = true → ∀ a, H a = none → suiteW D ts cls d σ H a o) ∧ (b = false → wMix K Wo D r cls d σ H)
/-- the slot of a clause's name -/
def AsOk (X : Cx) : Option Str → Option Nat → Prop
  | none, none => True
  | some n, some i => X.N.Nodup ∧ X.N[i]? = some n ∧ X.env.kindOf n = some .local
  | _, _ => False
abbrev SuiteOk (X : Cx) (su : List Stmt) (ts : Addr → Value → Option Addr → TS) : Prop := ∀ (a : Addr) (oe : Obj) (cls : Value) (d : Option Addr) (pn : List (Addr × Obj)), Zc cls d oe → (∃ vs, oe.data = .fields vs) → PSs (X.suite a ((a, oe) :: pn)) su (ts a cls d)
inductive ClsOk (X : Cx) : List ExceptHandler → List Cl → Prop
  | nil : ClsOk X [] []
  | cons {x : Str} {c : Value} {nm : Option Str} {o : Option Nat} {ts : Addr → Value → Option Addr → TS} {st : Stmt} {su : List Stmt} {q1 q2 : Pos} {hs : List ExceptHandler} {l : List Cl} (hc : Names X x c) (ha : AsOk X nm o) (hsu : SuiteOk X (st :: su) ts) (r : ClsOk X hs l) :
      ClsOk X (.ExceptHandler (some (.Name x q1)) nm (st :: su) q2 :: hs) ((c, o, ts) :: l)
/-- an error that has come to the clauses of a try -/
structure Caught (X : Cx) (pins : List (Addr × Obj)) (a : Addr) (B : Heap) (sI s1 : Shared) (h3 : Heap) (σ : L2.St) (H : Hp) (cls : Value) (d : Option Addr) : Prop where
  ok : X.Ok
  stk : X.stack = X.env :: X.outer
  frm : X.env.frame = some X.env.locals
  inv : Inv X pins σ H sI
  nb : ∀ b o, sI.heap.get? b = some o → b ∉ frs X.stack → B.get? b = some o
  up : sI.heap.UpToSlots h3
  fl : HandSPX.FlyingZ B (X.env :: X.outer) a (Zc cls d) h3
  na : H a = none
  nL : a ≠ X.env.locals
  nF : a ∉ X.fs
  os : s1.os = sI.os
  ag : AllBare s1.gens
section
variable {X : Cx} {pins : List (Addr × Obj)} {a : Addr} {B : Heap} {sI s1 : Shared} {h3 : Heap} {σ : L2.St} {H : Hp} {cls : Value} {d : Option Addr} {D : Ends} {Wo : WX}
theorem Caught.at (C : Caught X pins a B sI s1 h3 σ H cls d) {h4 : Heap} (f : HandSPX.FlyingZ B (X.env :: X.outer) a (Zc cls d) h4) (u : h3.UpToSlots h4) : Inv X pins σ H { s1 with heap := h4 } :=
  C.inv.landed (s' := { s1 with heap := h4 }) (by have := C.nb; exact this) f.1 (C.up.trans u) C.os C.ag
/-- no clause takes it -/
theorem Caught.none (C : Caught X pins a B sI s1 h3 σ H cls d) (tk : Takes X Wo) (w : Wo cls d σ H) : wpAny (model X.prog X.w) X.A (handleBy (.ref a) X.env []) (SP X pins D) X.xe { s1 with heap := h3 } := by
  have C2 := C
  obtain ⟨_, _, _, _, _, T, _, _, he, _, hd, h1, _⟩ := C2.fl
  have go : wpAny (model X.prog X.w) X.A (setFlight (.ref a) X.env.frame) (fun _ s4 => wpAny (model X.prog X.w) X.A (throw (.ref a) : Sem Flow) (SP X pins D) X.xe s4) X.xe { s1 with heap := h3 } := by
    rw [C.frm]
    exact HandSPX.setFlight_upZ C.fl fun h4 held u4 => wpAny_throw (tk _ _ ⟨a, B, sI, pins, σ, H, cls, d, rfl, C.inv, C.nb, C.up.trans u4, .inr (.inr (by rw [C.stk]; exact held)), C.na, C.os, C.ag, w⟩)
  refine wpAny_handleBy_nil ?_
  unfold PySem.passOn
  refine wpAny_bind (wpAny_field he hd h1 ?_)
  have nn : ¬ ((Value.ref T == Value.none) = true) := by simp
  rw [if_neg nn]
  first | exact wpAny_bind (wpAny_pure (wpAny_bind go)) | exact wpAny_bind go
theorem caught_go (C : Caught X pins a B sI s1 h3 σ H cls d) (tk : Takes X Wo) : ∀ {hs : List ExceptHandler} {l : List Cl}, ClsOk X hs l → wMix X.K Wo D l cls d σ H → wpAny (model X.prog X.w) X.A (handleBy (.ref a) X.env hs) (SP X pins D) X.xe { s1 with heap := h3 } := by
  intro hs l hk
  induction hk with
  | nil => exact fun w => C.none tk w
  | @cons x c nm o ts st su q1 q2 hs2 l2 hc ha hsu r ih =>
    rintro ⟨b, hb, yes, no⟩
    have J3 := C.at C.fl (Heap.UpToSlots.refl _)
    obtain ⟨oe, vs, he, hz, hd⟩ := C.fl.there
    have S3 := J3.suite he hd C.na C.nL C.nF
    refine wpAny_handleBy_cons (codeAny_handlers_test ?_) (by intro q; cases q)
    have knows : PySem.W.Looks (model X.prog X.w) h3 (typeOf (.ref a)) cls := fun _ _ _ _ k q => wpAny_typeOf_ref (k _ _ he) (by rw [hz.1]; exact q)
    have look := PySem.W.exm_one (M := model X.prog X.w) J3.kIn knows hb
    have named : ∀ {Q E : Value → Shared → Prop}, Q c { s1 with heap := h3 } → wpAny (model X.prog X.w) (X.A.mark (some (.ref a))) (eval (.Name x q1) X.env) Q E { s1 with heap := h3 } := fun q => by
      rcases hc with ⟨g1, g2, m1 | ⟨m1, m2, m3⟩⟩
      · exact ld_glob (X := X.suite a ((a, oe) :: (X.pn ++ pins))) S3 g1 m1 q g2
      · exact ld_blt (X := X.suite a ((a, oe) :: (X.pn ++ pins))) S3 g1 m1 m2 q m3 g2
    refine named (look.here ?_)
    cases b with
    | false => exact ih (no rfl)
    | true =>
      cases nm with
      | none =>
        cases o with
        | some i => exact ha.elim
        | none =>
          refine codeAny_handlers_suite (HandSPX.lands_againZ C.fl fun h4 f4 u4 => ?_)
          obtain ⟨oe4, _, e4, z4, d4⟩ := f4.there
          have S4 := (C.at f4 u4).suite e4 d4 C.na C.nL C.nF
          refine wpAny_mono ((hsu a oe4 cls d (X.pn ++ pins) z4 ⟨_, d4⟩).run [] _ _ H _ S4 (yes rfl a C.na)) (fun f s6 hp => ?_) fun _ _ z => z.elim
          match f, hp with
          | .next, ⟨_, _, S6, q6⟩ => exact ⟨_, _, S6.unsuite C.ok, q6⟩
          | .brk, ⟨_, _, S6, q6⟩ => exact ⟨_, _, S6.unsuite C.ok, q6⟩
          | .cont, ⟨_, _, S6, q6⟩ => exact ⟨_, _, S6.unsuite C.ok, q6⟩
          | .ret _, ⟨_, _, _, S6, r6, q6⟩ => exact ⟨_, _, _, S6.unsuite C.ok, r6, q6⟩
      | some n =>
        cases o with
        | none => exact ha.elim
        | some i =>
          obtain ⟨hN, hi, hl⟩ := ha
          refine codeAny_handlers_suite_as (HandSPX.lands_againZ C.fl fun h4 f4 u4 => ?_)
          obtain ⟨oe4, _, e4, z4, d4⟩ := f4.there
          have S4 := (C.at f4 u4).suite e4 d4 C.na C.nL C.nF
          refine store_ok (X := X.suite a ((a, oe4) :: (X.pn ++ pins))) (v := .ref a) S4 hN hi (.inl hl) rfl (fun s5 S5 => ?_) (.inr hl)
          refine wpAny_mono ((hsu a oe4 cls d (X.pn ++ pins) z4 ⟨_, d4⟩).run [] s5 _ H _ S5 (yes rfl a C.na)) (fun f s6 hp => ?_) fun _ _ z => z.elim
          have off : ∀ {σ6 : L2.St} {H6 : Hp} {Q : Shared → Prop}, Inv (X.suite a ((a, oe4) :: (X.pn ++ pins))) [] σ6 H6 s6 → (∀ s7, Inv X pins (σ6.set i none) H6 s7 → Q s7) → wpAny (model X.prog X.w) X.A (do bindName X.env n .none; unbindBehindTheSuite X.env n q2) (fun _ s7 => Q s7) X.xe s6 :=
            fun S6 hq => gone_ok (S6.unsuite C.ok) hN hi hl hq
          match f, hp with
          | .next, ⟨_, _, S6, q6⟩ => exact off S6 fun _ J7 => ⟨_, _, J7, q6⟩
          | .brk, ⟨_, _, S6, q6⟩ => exact off S6 fun _ J7 => ⟨_, _, J7, q6⟩
          | .cont, ⟨_, _, S6, q6⟩ => exact off S6 fun _ J7 => ⟨_, _, J7, q6⟩
          | .ret _, ⟨_, _, _, S6, r6, q6⟩ => exact off S6 fun _ J7 => ⟨_, _, _, J7, r6, q6⟩
/-- try: .. except X: .. except Y as n: .. -/
theorem ps_try_mix {body : List Stmt} {h0 : ExceptHandler} {hs : List ExceptHandler} {l : List Cl} {pos : Pos} {tb : WX → TS} (stk : X.stack = X.env :: X.outer) (frm : X.env.frame = some X.env.locals) (tk : Takes X Wo)
    (hb : ∀ (W : WX) (pn : List (Addr × Obj)) (xe : Value → Shared → Prop), Takes (X.tr pn xe) W → PassesOwn (model X.prog X.w) X.A X.env xe → PSs (X.tr pn xe) body (tb W)) (hh : ClsOk X (h0 :: hs) l) :
    PS X (.Try body (h0 :: hs) [] [] pos) (fun D σ H => tb (wMix X.K Wo D l) D σ H) := by
  refine ⟨fun pins s σ H D I h => wpAny_Try_except ?_⟩
  have ok := I.ok
  have fr : X.A.frames = some (X.env :: X.outer) := by rw [ok.frames, stk]
  have run := (hb (wMix X.K Wo D l) (X.pn ++ pins) (fun e t1 => wpAny (model X.prog X.w) X.A (noteFrame e X.env) (fun _ t2 => wpAny (model X.prog X.w) X.A (setFlight e none) (fun _ t3 => wpAny (model X.prog X.w) X.A (handleBy e X.env (h0 :: hs)) (SP X pins D) X.xe t3) X.xe t2) X.xe t1) ?_ PassesOwn.looking).run [] s σ H D (I.toTry _) h
  · refine wpAny_mono run (fun f s1 hp => ?_) fun _ _ he => he
    match f, hp with
    | .next, ⟨_, _, J, q⟩ => exact wpAny_execs_nil ⟨_, _, J.ofTry ok, q⟩
    | .brk, ⟨_, _, J, q⟩ => exact ⟨_, _, J.ofTry ok, q⟩
    | .cont, ⟨_, _, J, q⟩ => exact ⟨_, _, J.ofTry ok, q⟩
    | .ret _, ⟨_, _, _, J, r, q⟩ => exact ⟨_, _, _, J.ofTry ok, r, q⟩
  · rintro u s1 ⟨a, B, sI, pins2, σ2, H2, cls, d, rfl, J2, nb, up, sky, na, os, ag, w⟩
    have sky2 : Sky B (X.env :: X.outer) a (Zc cls d) X.env.locals s1.heap := by rw [← stk]; exact sky
    refine Sky.land Zc.steady fr frm sky2 fun h3 f3 u3 => ?_
    obtain ⟨oe, vs, he, _, hd⟩ := f3.there
    have far : a ∉ frs (X.env :: X.outer) := fun m => by
      obtain ⟨_, o2, e2, nf⟩ := f3.2.2.1.mem m
      rw [he] at e2; cases e2
      exact nf _ hd
    have nL : a ≠ X.env.locals := fun z => far (List.mem_filterMap.mpr ⟨X.env, List.mem_cons_self, by rw [frm, z]⟩)
    have nF : a ∉ X.fs := fun m => by
      obtain ⟨e, h1, h2⟩ := List.mem_filterMap.mp m
      exact far (List.mem_filterMap.mpr ⟨e, List.mem_cons_of_mem _ h1, h2⟩)
    exact caught_go ⟨ok, stk, frm, J2.ofTry ok, nb, up.trans u3, f3, na, nL, nF, os, ag⟩ tk hh w
end
/-- a promise that raises nothing, where one that may raise is asked; two promises of one def -/
theorem FnOk.lift {P : Program} {w : World} {K : PySem.W.Frag} {mg : Str → Option Value} {base : Heap} {CX : CXT} {k : Nat} {f : Addr} {fd : FuncData} {ps : List Str} {sp : Sp} (F : FnOk P w K mg base CX0 k f fd ps sp) : FnOk P w K mg base CX k f fd ps sp :=
  ⟨F.len, fun A outer s H args us vs Q E hr he hb hv h => codeAny_mono (F.run A outer s H args us vs Q E hr he hb hv h) fun r s2 q => match r, q with
    | .ok (.ret _), q => q⟩
theorem FnOk.or {P : Program} {w : World} {K : PySem.W.Frag} {mg : Str → Option Value} {base : Heap} {CX : CXT} {k : Nat} {f : Addr} {fd : FuncData} {ps : List Str} {sp sq : Sp} (F : FnOk P w K mg base CX k f fd ps sp) (G : FnOk P w K mg base CX k f fd ps sq) :
    FnOk P w K mg base CX k f fd ps (fun vs H Q E => sp vs H Q E ∨ sq vs H Q E) :=
  ⟨fun vs H Q E h => h.elim (F.len vs H Q E) (G.len vs H Q E), fun A outer s H args us vs Q E hr he hb hv h => h.elim (F.run A outer s H args us vs Q E hr he hb hv) (G.run A outer s H args us vs Q E hr he hb hv)⟩
end Sip
namespace Sip
open PySem PySem.Spec PyProof.Rows L2 TL
def topS (i : Nat) : Stmt := PySem.Challenge.pw_sipstack_k23_whole_plain.main.body.getD i (.Pass ⟨0, 0, 0, 0⟩)
abbrev s_iBadPlace : Stmt := inClass (topS 5) 0
abbrev N_iBadPlace : List Str := ["self", "goal"]
abbrev P_iBadPlace : List Str := ["self", "goal"]
theorem sc_iBadPlace : FnScope N_iBadPlace P_iBadPlace (defScope s_iBadPlace) := ⟨rfl, rfl, rfl, by decide +kernel, rfl, by decide +kernel, by decide +kernel⟩
abbrev s_laid : Stmt := topS 17
abbrev N_laid : List Str := ["row", "place", "data", "told"]
abbrev P_laid : List Str := ["row", "place", "data"]
theorem sc_laid : FnScope N_laid P_laid (defScope s_laid) := ⟨rfl, rfl, rfl, by decide +kernel, rfl, by decide +kernel, by decide +kernel⟩
abbrev s_whole : Stmt := topS 10
abbrev N_whole : List Str := ["thing"]
abbrev P_whole : List Str := ["thing"]
theorem sc_whole : FnScope N_whole P_whole (defScope s_whole) := ⟨rfl, rfl, rfl, by decide +kernel, rfl, by decide +kernel, by decide +kernel⟩
abbrev s_isbyte : Stmt := topS 11
abbrev N_isbyte : List Str := ["thing"]
abbrev P_isbyte : List Str := ["thing"]
theorem sc_isbyte : FnScope N_isbyte P_isbyte (defScope s_isbyte) := ⟨rfl, rfl, rfl, by decide +kernel, rfl, by decide +kernel, by decide +kernel⟩
abbrev s_cbytes : Stmt := topS 13
abbrev N_cbytes : List Str := ["data", "at", "thing"]
abbrev P_cbytes : List Str := ["data"]
theorem sc_cbytes : FnScope N_cbytes P_cbytes (defScope s_cbytes) := ⟨rfl, rfl, rfl, by decide +kernel, rfl, by decide +kernel, by decide +kernel⟩
abbrev s_clen : Stmt := topS 14
abbrev N_clen : List Str := ["length"]
abbrev P_clen : List Str := ["length"]
theorem sc_clen : FnScope N_clen P_clen (defScope s_clen) := ⟨rfl, rfl, rfl, by decide +kernel, rfl, by decide +kernel, by decide +kernel⟩
abbrev s_cgoal : Stmt := topS 15
abbrev N_cgoal : List Str := ["goal"]
abbrev P_cgoal : List Str := ["goal"]
theorem sc_cgoal : FnScope N_cgoal P_cgoal (defScope s_cgoal) := ⟨rfl, rfl, rfl, by decide +kernel, rfl, by decide +kernel, by decide +kernel⟩
abbrev s_ccount : Stmt := topS 12
abbrev N_ccount : List Str := ["count"]
abbrev P_ccount : List Str := ["count"]
theorem sc_ccount : FnScope N_ccount P_ccount (defScope s_ccount) := ⟨rfl, rfl, rfl, by decide +kernel, rfl, by decide +kernel, by decide +kernel⟩
abbrev s_sgoal : Stmt := topS 21
abbrev N_sgoal : List Str := ["place", "start", "cursor", "size", "goal"]
abbrev P_sgoal : List Str := ["place", "start", "cursor", "size"]
theorem sc_sgoal : FnScope N_sgoal P_sgoal (defScope s_sgoal) := ⟨rfl, rfl, rfl, by decide +kernel, rfl, by decide +kernel, by decide +kernel⟩
abbrev s_fline : Stmt := topS 20
abbrev N_fline : List Str := ["row", "limit", "line"]
abbrev P_fline : List Str := ["row", "limit"]
theorem sc_fline : FnScope N_fline P_fline (defScope s_fline) := ⟨rfl, rfl, rfl, by decide +kernel, rfl, by decide +kernel, by decide +kernel⟩
abbrev s_init : Stmt := inClass (topS 19) 0
abbrev N_init : List Str := ["self", "row", "place"]
abbrev P_init : List Str := ["self", "row", "place"]
theorem sc_init : FnScope N_init P_init (defScope s_init) := ⟨rfl, rfl, rfl, by decide +kernel, rfl, by decide +kernel, by decide +kernel⟩
abbrev s_write : Stmt := inClass (topS 19) 5
abbrev N_write : List Str := ["self", "data"]
abbrev P_write : List Str := ["self", "data"]
theorem sc_write : FnScope N_write P_write (defScope s_write) := ⟨rfl, rfl, rfl, by decide +kernel, rfl, by decide +kernel, by decide +kernel⟩
abbrev s_seek : Stmt := inClass (topS 19) 6
abbrev N_seek : List Str := ["self", "place", "start"]
abbrev P_seek : List Str := ["self", "place", "start"]
theorem sc_seek : FnScope N_seek P_seek (defScope s_seek) := ⟨rfl, rfl, rfl, by decide +kernel, rfl, by decide +kernel, by decide +kernel⟩
abbrev s_tell : Stmt := inClass (topS 19) 7
abbrev N_tell : List Str := ["self"]
abbrev P_tell : List Str := ["self"]
theorem sc_tell : FnScope N_tell P_tell (defScope s_tell) := ⟨rfl, rfl, rfl, by decide +kernel, rfl, by decide +kernel, by decide +kernel⟩
abbrev s_size : Stmt := inClass (topS 19) 8
abbrev N_size : List Str := ["self"]
abbrev P_size : List Str := ["self"]
theorem sc_size : FnScope N_size P_size (defScope s_size) := ⟨rfl, rfl, rfl, by decide +kernel, rfl, by decide +kernel, by decide +kernel⟩
abbrev s_pcut : Stmt := inClass (topS 19) 9
abbrev N_pcut : List Str := ["self", "size", "goal"]
abbrev P_pcut : List Str := ["self", "size"]
theorem sc_pcut : FnScope N_pcut P_pcut (defScope s_pcut) := ⟨rfl, rfl, rfl, by decide +kernel, rfl, by decide +kernel, by decide +kernel⟩
abbrev s_row : Stmt := inClass (topS 19) 10
abbrev N_row : List Str := ["self"]
abbrev P_row : List Str := ["self"]
theorem sc_row : FnScope N_row P_row (defScope s_row) := ⟨rfl, rfl, rfl, by decide +kernel, rfl, by decide +kernel, by decide +kernel⟩
abbrev s_ahead : Stmt := inClass (topS 19) 11
abbrev N_ahead : List Str := ["self"]
abbrev P_ahead : List Str := ["self"]
theorem sc_ahead : FnScope N_ahead P_ahead (defScope s_ahead) := ⟨rfl, rfl, rfl, by decide +kernel, rfl, by decide +kernel, by decide +kernel⟩
abbrev s_passed : Stmt := inClass (topS 19) 12
abbrev N_passed : List Str := ["self", "told"]
abbrev P_passed : List Str := ["self", "told"]
theorem sc_passed : FnScope N_passed P_passed (defScope s_passed) := ⟨rfl, rfl, rfl, by decide +kernel, rfl, by decide +kernel, by decide +kernel⟩
abbrev s_peek : Stmt := inClass (topS 19) 3
abbrev N_peek : List Str := ["self", "many"]
abbrev P_peek : List Str := ["self", "many"]
theorem sc_peek : FnScope N_peek P_peek (defScope s_peek) := ⟨rfl, rfl, rfl, by decide +kernel, rfl, by decide +kernel, by decide +kernel⟩
abbrev s_read : Stmt := inClass (topS 19) 1
abbrev N_read : List Str := ["self", "many"]
abbrev P_read : List Str := ["self", "many"]
theorem sc_read : FnScope N_read P_read (defScope s_read) := ⟨rfl, rfl, rfl, by decide +kernel, rfl, by decide +kernel, by decide +kernel⟩
abbrev s_rsome : Stmt := inClass (topS 19) 2
abbrev N_rsome : List Str := ["self", "many"]
abbrev P_rsome : List Str := ["self", "many"]
theorem sc_rsome : FnScope N_rsome P_rsome (defScope s_rsome) := ⟨rfl, rfl, rfl, by decide +kernel, rfl, by decide +kernel, by decide +kernel⟩
abbrev s_rline : Stmt := inClass (topS 19) 4
abbrev N_rline : List Str := ["self", "limit"]
abbrev P_rline : List Str := ["self", "limit"]
theorem sc_rline : FnScope N_rline P_rline (defScope s_rline) := ⟨rfl, rfl, rfl, by decide +kernel, rfl, by decide +kernel, by decide +kernel⟩
abbrev s_pool : Stmt := topS 23
abbrev N_pool : List Str := ["_law_script", "_law_at", "_law_cell", "_law_digits"]
abbrev P_pool : List Str := ["_law_script", "_law_at"]
theorem sc_pool : FnScope N_pool P_pool (defScope s_pool) := ⟨rfl, rfl, rfl, by decide +kernel, rfl, by decide +kernel, by decide +kernel⟩
abbrev s_take : Stmt := topS 24
abbrev N_take : List Str := ["_law_pool_here", "_law_wide", "_law_found", "_law_seed"]
abbrev P_take : List Str := ["_law_pool_here", "_law_wide"]
theorem sc_take : FnScope N_take P_take (defScope s_take) := ⟨rfl, rfl, rfl, by decide +kernel, rfl, by decide +kernel, by decide +kernel⟩
abbrev s_bytes : Stmt := topS 25
abbrev N_bytes : List Str := ["_law_pool_here", "_law_menu", "_law_found", "_law_k"]
abbrev P_bytes : List Str := ["_law_pool_here", "_law_menu"]
theorem sc_bytes : FnScope N_bytes P_bytes (defScope s_bytes) := ⟨rfl, rfl, rfl, by decide +kernel, rfl, by decide +kernel, by decide +kernel⟩
abbrev s_llaid : Stmt := topS 26
abbrev N_llaid : List Str := ["_law_row", "_law_place", "_law_data", "_law_found", "_law_k"]
abbrev P_llaid : List Str := ["_law_row", "_law_place", "_law_data"]
theorem sc_llaid : FnScope N_llaid P_llaid (defScope s_llaid) := ⟨rfl, rfl, rfl, by decide +kernel, rfl, by decide +kernel, by decide +kernel⟩
abbrev s_draw : Stmt := topS 27
abbrev N_draw : List Str := ["_law_pool_here", "_law_row", "_law_place", "_law_way", "_law_many", "_law_goal"]
abbrev P_draw : List Str := ["_law_pool_here", "_law_row", "_law_place"]
theorem sc_draw : FnScope N_draw P_draw (defScope s_draw) := ⟨rfl, rfl, rfl, by decide +kernel, rfl, by decide +kernel, by decide +kernel⟩
abbrev s_due : Stmt := topS 28
abbrev N_due : List Str := ["_law_row", "_law_place", "_law_deed", "_law_word", "_law_found", "_law_goal"]
abbrev P_due : List Str := ["_law_row", "_law_place", "_law_deed"]
theorem sc_due : FnScope N_due P_due (defScope s_due) := ⟨rfl, rfl, rfl, by decide +kernel, rfl, by decide +kernel, by decide +kernel⟩
abbrev s_bad : Stmt := topS 29
abbrev N_bad : List Str := ["_law_deed"]
abbrev P_bad : List Str := ["_law_deed"]
theorem sc_bad : FnScope N_bad P_bad (defScope s_bad) := ⟨rfl, rfl, rfl, by decide +kernel, rfl, by decide +kernel, by decide +kernel⟩
abbrev s_does : Stmt := topS 30
abbrev N_does : List Str := ["_law_file", "_law_deed", "_law_word", "_law_handed", "_law_found"]
abbrev P_does : List Str := ["_law_file", "_law_deed"]
theorem sc_does : FnScope N_does P_does (defScope s_does) := ⟨rfl, rfl, rfl, by decide +kernel, rfl, by decide +kernel, by decide +kernel⟩
abbrev s_tries : Stmt := topS 31
abbrev N_tries : List Str := ["_law_file", "_law_deed", "_law_found", "e"]
abbrev P_tries : List Str := ["_law_file", "_law_deed"]
theorem sc_tries : FnScope N_tries P_tries (defScope s_tries) := ⟨rfl, rfl, rfl, by decide +kernel, rfl, by decide +kernel, by decide +kernel⟩
abbrev s_law : Stmt := topS 32
abbrev N_law : List Str := ["_law_script", "_law_pool_here", "_law_row", "_law_place", "_law_file", "_law_k", "_law_deed", "_law_due_here", "_law_answer", "_law_found"]
abbrev P_law : List Str := ["_law_script"]
theorem sc_law : FnScope N_law P_law (defScope s_law) := ⟨rfl, rfl, rfl, by decide +kernel, rfl, by decide +kernel, by decide +kernel⟩

def pfs (l : Addr) (c : Nat) : Fs := [("cells", .ref l), ("cursor", .int c)]
theorem pfs_cells (l : Addr) (c : Nat) : (pfs l c).lookup ("cells" : Str) = some (.ref l) := by unfold pfs; kernel_rfl
theorem pfs_cursor (l : Addr) (c : Nat) : (pfs l c).lookup ("cursor" : Str) = some (.int c) := by unfold pfs; kernel_rfl
theorem pfs_put_h (l m : Addr) (c : Nat) : putF ("cells" : Str) (.ref m) (pfs l c) = pfs m c := by unfold pfs; kernel_rfl
theorem pfs_put_c (l : Addr) (c d : Nat) : putF ("cursor" : Str) (.int d) (pfs l c) = pfs l d := by unfold pfs; kernel_rfl
theorem pfs_new (l : Addr) (c : Nat) : putF ("cursor" : Str) (.int c) (putF ("cells" : Str) (.ref l) []) = pfs l c := by unfold pfs; kernel_rfl
theorem pfs_few (l : Addr) (c : Nat) : (pfs l c).length < 1000 := by show 2 < 1000; decide
theorem pfs_no (l : Addr) (c : Nat) : ∀ m ∈ (["read", "read_some", "peek", "readline", "write", "seek", "tell", "size", "row", "cut", "ahead", "passed"] : List Str), (pfs l c).lookup m = none := by
  intro m hm
  simp only [List.mem_cons, List.mem_nil_iff, or_false] at hm
  unfold pfs
  rcases hm with rfl | rfl | rfl | rfl | rfl | rfl | rfl | rfl | rfl | rfl | rfl | rfl <;> kernel_rfl
def PlainAt (C : Addr) : PP := fun H p F r c => ∃ dx l, H p = some (.ins C dx (pfs l c)) ∧ H l = some (.lst (r.map V.int)) ∧ ∀ b, F b ↔ b = p ∨ b = l
theorem isPlain (C : Addr) : IsPlain C (PlainAt C) where
  loc := by
    rintro H H' p F r c ⟨dx, l, h1, h2, h3⟩ k
    exact ⟨dx, l, k _ _ ((h3 p).mpr (.inl rfl)) h1, k _ _ ((h3 l).mpr (.inr rfl)) h2, h3⟩
  own := by
    rintro H p F r c ⟨dx, l, h1, h2, h3⟩ b f
    rcases (h3 b).mp f with rfl | rfl
    · exact ⟨_, h1⟩
    · exact ⟨_, h2⟩
  ins := by
    rintro H p F r c ⟨dx, l, h1, h2, h3⟩
    exact ⟨dx, _, h1, fun m hm => pfs_no l c m (show m ∈ (["read", "read_some", "peek", "readline", "write", "seek", "tell", "size", "row", "cut"] : List Str) ++ (["ahead", "passed"] : List Str) from List.mem_append.mpr (.inl hm))⟩
def spLen : Sp := fun vs H Q _ => ∃ g : Int, vs = [.int g] ∧ g ≤ 4000 ∧ Q .non H
def spGoalC : Sp := fun vs H Q _ => ∃ g : Int, vs = [.int g] ∧ 0 ≤ g ∧ g ≤ 4000 ∧ Q .non H
def spWhole : Sp := fun vs H Q _ => ∃ v : Int, vs = [.int v] ∧ Q (.bl true) H
def spByte : Sp := fun vs H Q _ => ∃ v : Int, vs = [.int v] ∧ 0 ≤ v ∧ v ≤ 255 ∧ Q (.bl true) H
def spBytesC : Sp := fun vs H Q _ => ∃ (b : Addr) (d : List Int), vs = [.ref b] ∧ H b = some (.lst (d.map V.int)) ∧ Bytes d ∧ ∀ H', Same H H' → Q .non H'
def spSeekGoal : Sp := fun vs H Q _ => ∃ (pl : Int) (st : Str) (c n g : Nat), vs = [.int pl, .str st, .int c, .int n] ∧
  ((st = Str.ofString "head" ∧ (g : Int) = pl) ∨ (st = Str.ofString "here" ∧ (g : Int) = c + pl) ∨ (st = Str.ofString "tail" ∧ (g : Int) = n + pl)) ∧ g ≤ 4000 ∧ Q (.int g) H
/-- p and its list are stored to, m is new or its list -/
theorem own_step {F : Addr → Prop} {H H' : Hp} {p l m : Addr} (hF : ∀ b, F b ↔ b = p ∨ b = l) (k : Kp [p, l] H H') (n : m = l ∨ H m = none) : Step F H (fun b => b = p ∨ b = m) H' := by
  refine ⟨fun b o nf e => k b o (fun z => nf ((hF b).mpr (by simpa using z))) e, fun b z => ?_⟩
  rcases z with rfl | rfl
  · exact .inl ((hF _).mpr (.inl rfl))
  · rcases n with rfl | n
    · exact .inl ((hF _).mpr (.inr rfl))
    · exact .inr n
theorem del_from (r : List Int) (g : Nat) : delV (r.map V.int) (some (g : Int)) none = (r.take g).map V.int := by
  unfold delV delL
  rw [HT.sIx_none, HT.sIx_nat, List.length_map, List.drop_of_length_le (by rw [List.length_map]; omega), List.append_nil, ← List.map_take]
  congr 1
  by_cases h : g ≤ r.length
  · rw [Nat.min_eq_left h]
  · rw [Nat.min_eq_right (by omega), List.take_of_length_le (by omega), List.take_of_length_le (by omega)]

def errN (H : Hp) (E : XK) (C : Addr) : Prop := ∀ (H' : Hp), Same H H' → E (.ref C) none H'
def errG (H : Hp) (E : XK) (C : Addr) (f : Str) (v : V) : Prop := ∀ (H' : Hp) (d : Addr), Same H H' → H' d = some (.xd [(f, v)]) → E (.ref C) (some d) H'
theorem errG.raise {H : Hp} {E : XK} {C : Addr} {f : Str} {v : V} (h : errG H E C f v) : ∀ d, H d = none → E (.ref C) (some d) (upd H d (.xd [(f, v)])) := fun d nd => h _ d (Kp.new (ps := []) nd).same upd_same
def spCountB (C : Addr) : Sp := fun vs H _ E => ∃ n : Int, vs = [.int n] ∧ n < 0 ∧ errN H E C
def spReadB (PA : PP) (C : Addr) : Sp := fun vs H _ E => ∃ (p : Addr) (F : Addr → Prop) (r : List Int) (c : Nat) (n : Int), vs = [.ref p, .int n] ∧ PA H p F r c ∧ n < 0 ∧ errN H E C
def spGoalB (C : Addr) : Sp := fun vs H _ E => ∃ g : Int, vs = [.int g] ∧ g < 0 ∧ errG H E C "goal" (.int g)
def spSGoalB (C : Addr) : Sp := fun vs H _ E => ∃ (g : Int) (c n : Nat), vs = [.int g, .str (Str.ofString "head"), .int c, .int n] ∧ g < 0 ∧ errG H E C "goal" (.int g)
def spSeekB (PA : PP) (C : Addr) : Sp := fun vs H _ E => ∃ (p : Addr) (F : Addr → Prop) (r : List Int) (c : Nat) (g : Int), vs = [.ref p, .int g, .str (Str.ofString "head")] ∧ PA H p F r c ∧ g < 0 ∧ errG H E C "goal" (.int g)
def spCutB (PA : PP) (C : Addr) : Sp := fun vs H _ E => ∃ (p : Addr) (F : Addr → Prop) (r : List Int) (c : Nat) (g : Int), vs = [.ref p, .int g] ∧ PA H p F r c ∧ g < 0 ∧ errG H E C "goal" (.int g)

inductive Deed
  | rd (k : Option Nat) | rs (n : Nat) | pk (n : Nat) | rl (k : Option Nat) | wr (b : Addr) (d : List Int) | sk (pl : Int) (st : Str) (g : Nat) | ct (k : Option Nat) | tl | bR | bL | bS | bC
def dVals : Deed → List V
  | .rd k => [.str (Str.ofString "read"), cntV k]
  | .rs n => [.str (Str.ofString "read_some"), .int n]
  | .pk n => [.str (Str.ofString "peek"), .int n]
  | .rl k => [.str (Str.ofString "readline"), cntV k]
  | .wr b _ => [.str (Str.ofString "write"), .ref b]
  | .sk pl st _ => [.str (Str.ofString "seek"), .int pl, .str st]
  | .ct k => [.str (Str.ofString "cut"), cntV k]
  | .tl => [.str (Str.ofString "tell")]
  | .bR => [.str (Str.ofString "read"), .int (-1)]
  | .bL => [.str (Str.ofString "readline"), .int (-3)]
  | .bS => [.str (Str.ofString "seek"), .int (-1), .str (Str.ofString "head")]
  | .bC => [.str (Str.ofString "cut"), .int (-2)]
/-- a deed that was drawn for a row and a place -/
def Valid (H : Hp) (r : List Int) (c : Nat) : Deed → Prop
  | .rd k | .rl k => ∀ n, k = some n → n ≤ 12
  | .rs n | .pk n => n ≤ 12
  | .wr b d => H b = some (.lst (d.map V.int)) ∧ Bytes d ∧ d.length ≤ 20
  | .sk pl st g => ((st = Str.ofString "head" ∧ (g : Int) = pl) ∨ (st = Str.ofString "here" ∧ (g : Int) = c + pl) ∨ (st = Str.ofString "tail" ∧ (g : Int) = r.length + pl)) ∧ g ≤ r.length + 5
  | .ct k => ∀ n, k = some n → n ≤ r.length + 5
  | _ => True
def spDraw23 (K : PySem.W.Frag) : Sp := fun vs H Q _ => ∃ (p x : Addr) (n : Int) (o : HO) (r : List Int) (c : Nat), vs = [.ref p, .ref x, .int c] ∧ p ≠ x ∧ H p = some o ∧ PoolO n o ∧ n ≤ 800000000 ∧ H x = some (.lst (r.map V.int)) ∧ r.length ≤ 3000 ∧ c ≤ 3500 ∧
  ∀ (H' : Hp) (t : Addr) (D : Deed), H' t = some (.tup (dVals D)) → Valid H' r c D → (∀ b d, D = .wr b d → H b = none) → H t = none → Kp [p] H H' → Q (.ref t) H'
theorem many_at {r : Int} (h0 : 0 ≤ r) (h1 : r < 8) : ∃ k : Option Nat, atI [V.non, .int 0, .int 1, .int 2, .int 3, .int 4, .int 6, .int 12] r = some (cntV k) ∧ ∀ n, k = some n → n ≤ 12 := by
  rcases (show r = 0 ∨ r = 1 ∨ r = 2 ∨ r = 3 ∨ r = 4 ∨ r = 5 ∨ r = 6 ∨ r = 7 by omega) with rfl | rfl | rfl | rfl | rfl | rfl | rfl | rfl
  · exact ⟨none, rfl, fun n h => nomatch h⟩
  · exact ⟨some 0, rfl, fun n h => by cases h; decide⟩
  · exact ⟨some 1, rfl, fun n h => by cases h; decide⟩
  · exact ⟨some 2, rfl, fun n h => by cases h; decide⟩
  · exact ⟨some 3, rfl, fun n h => by cases h; decide⟩
  · exact ⟨some 4, rfl, fun n h => by cases h; decide⟩
  · exact ⟨some 6, rfl, fun n h => by cases h; decide⟩
  · exact ⟨some 12, rfl, fun n h => by cases h; decide⟩

theorem lay_ints23 : ∀ ns : List Int, PyData.canLayAll0 (ns.map PyData.int) = true
  | [] => rfl
  | n :: r => by
    have := lay_ints23 r
    simp [PyData.canLayAll0, PyData.canLay0, this]
theorem depth_ints23 : ∀ ns : List Int, PyData.depthAll (ns.map PyData.int) = 0
  | [] => rfl
  | n :: r => by
    have := depth_ints23 r
    simp [PyData.depthAll, PyData.depth, this]
def badD : Deed → Bool
  | .bR | .bL | .bS | .bC => true
  | _ => false
def goalB : Deed → Int
  | .bS => -1
  | .bC => -2
  | _ => 0
def isCnt : Deed → Bool
  | .bR | .bL => true
  | _ => false
/-- what a refused deed is told as -/
def refV (D : Deed) : List V := if isCnt D then [.str (Str.ofString "refused"), .str (Str.ofString "BadCount"), .non] else [.str (Str.ofString "refused"), .str (Str.ofString "BadPlace"), .int (goalB D)]
def vD : V → PyData
  | .int i => .int i
  | .str x => .str x
  | .bl b => .bool b
  | _ => .none
def dData : Deed → PyData
  | .wr _ d => .tuple [.str (Str.ofString "write"), .list (d.map .int)]
  | D => .tuple ((dVals D).map vD)
theorem deed_dp {K : PySem.W.Frag} {H : Hp} {t : Addr} {r : List Int} {c : Nat} : ∀ D : Deed, H t = some (.tup (dVals D)) → Valid H r c D → Dp K H (.ref t) (dData D)
  | .rd none, h, _ => .tup (.inl (.inl h)) (.cons (.str _) (.cons .non .nil))
  | .rd (some n), h, _ => .tup (.inl (.inl h)) (.cons (.str _) (.cons (.int _) .nil))
  | .rs n, h, _ => .tup (.inl (.inl h)) (.cons (.str _) (.cons (.int _) .nil))
  | .pk n, h, _ => .tup (.inl (.inl h)) (.cons (.str _) (.cons (.int _) .nil))
  | .rl none, h, _ => .tup (.inl (.inl h)) (.cons (.str _) (.cons .non .nil))
  | .rl (some n), h, _ => .tup (.inl (.inl h)) (.cons (.str _) (.cons (.int _) .nil))
  | .wr b d, h, v => .tup (.inl (.inl h)) (.cons (.str _) (.cons (dp_lst (sq_at v.1)) .nil))
  | .sk pl st g, h, _ => .tup (.inl (.inl h)) (.cons (.str _) (.cons (.int _) (.cons (.str _) .nil)))
  | .ct none, h, _ => .tup (.inl (.inl h)) (.cons (.str _) (.cons .non .nil))
  | .ct (some n), h, _ => .tup (.inl (.inl h)) (.cons (.str _) (.cons (.int _) .nil))
  | .tl, h, _ => .tup (.inl (.inl h)) (.cons (.str _) .nil)
  | .bR, h, _ => .tup (.inl (.inl h)) (.cons (.str _) (.cons (.int _) .nil))
  | .bL, h, _ => .tup (.inl (.inl h)) (.cons (.str _) (.cons (.int _) .nil))
  | .bS, h, _ => .tup (.inl (.inl h)) (.cons (.str _) (.cons (.int _) (.cons (.str _) .nil)))
  | .bC, h, _ => .tup (.inl (.inl h)) (.cons (.str _) (.cons (.int _) .nil))
theorem u65 {k : Nat} {A : Around} (hr : Room k A) : A.units + 65 < cLine := by have := hr.un; omega
theorem two_shaped (a b : Str) (i j : Int) (ha : PyData.strOk a = true) (hb : PyData.strOk b = true) : SeqAt.shaped (.list [.tuple [.str a, .int i], .tuple [.str b, .int j]]) = true := by simp [SeqAt.shaped, PyData.canLay0, PyData.canLayAll0, PyData.depth, PyData.depthAll, ha, hb]
theorem deed_shaped {H : Hp} {r : List Int} {c : Nat} : ∀ D : Deed, Valid H r c D → SeqAt.shaped (dData D) = true := by
  have h : ∀ w ∈ [Str.ofString "read", Str.ofString "read_some", Str.ofString "peek", Str.ofString "readline", Str.ofString "write", Str.ofString "seek", Str.ofString "cut", Str.ofString "tell", Str.ofString "head", Str.ofString "here", Str.ofString "tail"], PyData.strOk w = true := by decide +kernel
  intro D hv
  cases D with
  | rd k => cases k <;> simp [dData, dVals, cntV, vD, SeqAt.shaped, PyData.canLay0, PyData.canLayAll0, PyData.depth, PyData.depthAll, h]
  | rs n => simp [dData, dVals, vD, SeqAt.shaped, PyData.canLay0, PyData.canLayAll0, PyData.depth, PyData.depthAll, h]
  | pk n => simp [dData, dVals, vD, SeqAt.shaped, PyData.canLay0, PyData.canLayAll0, PyData.depth, PyData.depthAll, h]
  | rl k => cases k <;> simp [dData, dVals, cntV, vD, SeqAt.shaped, PyData.canLay0, PyData.canLayAll0, PyData.depth, PyData.depthAll, h]
  | wr b d =>
    have e := lay_ints23 d
    have f := depth_ints23 d
    simp [dData, SeqAt.shaped, PyData.canLay0, PyData.canLayAll0, PyData.depth, PyData.depthAll, h, e]; omega
  | sk pl st g =>
    have hs : PyData.strOk st = true := by
      rcases hv.1 with ⟨e, _⟩ | ⟨e, _⟩ | ⟨e, _⟩ <;> rw [e] <;> decide +kernel
    simp [dData, dVals, vD, SeqAt.shaped, PyData.canLay0, PyData.canLayAll0, PyData.depth, PyData.depthAll, h, hs]
  | ct k => cases k <;> simp [dData, dVals, cntV, vD, SeqAt.shaped, PyData.canLay0, PyData.canLayAll0, PyData.depth, PyData.depthAll, h]
  | tl => simp [dData, dVals, vD, SeqAt.shaped, PyData.canLay0, PyData.canLayAll0, PyData.depth, PyData.depthAll, h]
  | bR => simp [dData, dVals, vD, SeqAt.shaped, PyData.canLay0, PyData.canLayAll0, PyData.depth, PyData.depthAll, h]
  | bL => simp [dData, dVals, vD, SeqAt.shaped, PyData.canLay0, PyData.canLayAll0, PyData.depth, PyData.depthAll, h]
  | bS => simp [dData, dVals, vD, SeqAt.shaped, PyData.canLay0, PyData.canLayAll0, PyData.depth, PyData.depthAll, h]
  | bC => simp [dData, dVals, vD, SeqAt.shaped, PyData.canLay0, PyData.canLayAll0, PyData.depth, PyData.depthAll, h]
theorem ne_read_read_some : (Str.ofString "read" == Str.ofString "read_some") = false := by decide +kernel
theorem ne_read_peek : (Str.ofString "read" == Str.ofString "peek") = false := by decide +kernel
theorem ne_read_readline : (Str.ofString "read" == Str.ofString "readline") = false := by decide +kernel
theorem ne_read_write : (Str.ofString "read" == Str.ofString "write") = false := by decide +kernel
theorem ne_read_seek : (Str.ofString "read" == Str.ofString "seek") = false := by decide +kernel
theorem ne_read_cut : (Str.ofString "read" == Str.ofString "cut") = false := by decide +kernel
theorem ne_read_tell : (Str.ofString "read" == Str.ofString "tell") = false := by decide +kernel
theorem ne_readline_read : (Str.ofString "readline" == Str.ofString "read") = false := by decide +kernel
theorem ne_readline_read_some : (Str.ofString "readline" == Str.ofString "read_some") = false := by decide +kernel
theorem ne_readline_peek : (Str.ofString "readline" == Str.ofString "peek") = false := by decide +kernel
theorem ne_readline_write : (Str.ofString "readline" == Str.ofString "write") = false := by decide +kernel
theorem ne_readline_seek : (Str.ofString "readline" == Str.ofString "seek") = false := by decide +kernel
theorem ne_readline_cut : (Str.ofString "readline" == Str.ofString "cut") = false := by decide +kernel
theorem ne_readline_tell : (Str.ofString "readline" == Str.ofString "tell") = false := by decide +kernel
theorem ne_seek_read : (Str.ofString "seek" == Str.ofString "read") = false := by decide +kernel
theorem ne_seek_read_some : (Str.ofString "seek" == Str.ofString "read_some") = false := by decide +kernel
theorem ne_seek_peek : (Str.ofString "seek" == Str.ofString "peek") = false := by decide +kernel
theorem ne_seek_readline : (Str.ofString "seek" == Str.ofString "readline") = false := by decide +kernel
theorem ne_seek_write : (Str.ofString "seek" == Str.ofString "write") = false := by decide +kernel
theorem ne_seek_cut : (Str.ofString "seek" == Str.ofString "cut") = false := by decide +kernel
theorem ne_seek_tell : (Str.ofString "seek" == Str.ofString "tell") = false := by decide +kernel
theorem ne_cut_read : (Str.ofString "cut" == Str.ofString "read") = false := by decide +kernel
theorem ne_cut_read_some : (Str.ofString "cut" == Str.ofString "read_some") = false := by decide +kernel
theorem ne_cut_peek : (Str.ofString "cut" == Str.ofString "peek") = false := by decide +kernel
theorem ne_cut_readline : (Str.ofString "cut" == Str.ofString "readline") = false := by decide +kernel
theorem ne_cut_write : (Str.ofString "cut" == Str.ofString "write") = false := by decide +kernel
theorem ne_cut_seek : (Str.ofString "cut" == Str.ofString "seek") = false := by decide +kernel
theorem ne_cut_tell : (Str.ofString "cut" == Str.ofString "tell") = false := by decide +kernel
theorem in_cnt {H : Hp} {r : List Int} {c : Nat} (D : Deed) (hv : Valid H r c D) : ([PyData.tuple [.str (Str.ofString "read"), .int (-1)], .tuple [.str (Str.ofString "readline"), .int (-3)]].any fun z => PyData.eqv z (dData D)) = isCnt D := by
  cases D with
  | rd k => cases k with
    | none => simp [dData, dVals, cntV, vD, PyData.eqv, PyData.eqvAll, isCnt, badD, ne_read_read_some, ne_read_peek, ne_read_readline, ne_read_write, ne_read_seek, ne_read_cut, ne_read_tell, ne_readline_read, ne_readline_read_some, ne_readline_peek, ne_readline_write, ne_readline_seek, ne_readline_cut, ne_readline_tell, ne_seek_read, ne_seek_read_some, ne_seek_peek, ne_seek_readline, ne_seek_write, ne_seek_cut, ne_seek_tell, ne_cut_read, ne_cut_read_some, ne_cut_peek, ne_cut_readline, ne_cut_write, ne_cut_seek, ne_cut_tell]
    | some n => simp [dData, dVals, cntV, vD, PyData.eqv, PyData.eqvAll, isCnt, badD, ne_read_read_some, ne_read_peek, ne_read_readline, ne_read_write, ne_read_seek, ne_read_cut, ne_read_tell, ne_readline_read, ne_readline_read_some, ne_readline_peek, ne_readline_write, ne_readline_seek, ne_readline_cut, ne_readline_tell, ne_seek_read, ne_seek_read_some, ne_seek_peek, ne_seek_readline, ne_seek_write, ne_seek_cut, ne_seek_tell, ne_cut_read, ne_cut_read_some, ne_cut_peek, ne_cut_readline, ne_cut_write, ne_cut_seek, ne_cut_tell]; try omega
  | rs n => simp [dData, dVals, cntV, vD, PyData.eqv, PyData.eqvAll, isCnt, badD, ne_read_read_some, ne_read_peek, ne_read_readline, ne_read_write, ne_read_seek, ne_read_cut, ne_read_tell, ne_readline_read, ne_readline_read_some, ne_readline_peek, ne_readline_write, ne_readline_seek, ne_readline_cut, ne_readline_tell, ne_seek_read, ne_seek_read_some, ne_seek_peek, ne_seek_readline, ne_seek_write, ne_seek_cut, ne_seek_tell, ne_cut_read, ne_cut_read_some, ne_cut_peek, ne_cut_readline, ne_cut_write, ne_cut_seek, ne_cut_tell]
  | pk n => simp [dData, dVals, cntV, vD, PyData.eqv, PyData.eqvAll, isCnt, badD, ne_read_read_some, ne_read_peek, ne_read_readline, ne_read_write, ne_read_seek, ne_read_cut, ne_read_tell, ne_readline_read, ne_readline_read_some, ne_readline_peek, ne_readline_write, ne_readline_seek, ne_readline_cut, ne_readline_tell, ne_seek_read, ne_seek_read_some, ne_seek_peek, ne_seek_readline, ne_seek_write, ne_seek_cut, ne_seek_tell, ne_cut_read, ne_cut_read_some, ne_cut_peek, ne_cut_readline, ne_cut_write, ne_cut_seek, ne_cut_tell]
  | rl k => cases k with
    | none => simp [dData, dVals, cntV, vD, PyData.eqv, PyData.eqvAll, isCnt, badD, ne_read_read_some, ne_read_peek, ne_read_readline, ne_read_write, ne_read_seek, ne_read_cut, ne_read_tell, ne_readline_read, ne_readline_read_some, ne_readline_peek, ne_readline_write, ne_readline_seek, ne_readline_cut, ne_readline_tell, ne_seek_read, ne_seek_read_some, ne_seek_peek, ne_seek_readline, ne_seek_write, ne_seek_cut, ne_seek_tell, ne_cut_read, ne_cut_read_some, ne_cut_peek, ne_cut_readline, ne_cut_write, ne_cut_seek, ne_cut_tell]
    | some n => simp [dData, dVals, cntV, vD, PyData.eqv, PyData.eqvAll, isCnt, badD, ne_read_read_some, ne_read_peek, ne_read_readline, ne_read_write, ne_read_seek, ne_read_cut, ne_read_tell, ne_readline_read, ne_readline_read_some, ne_readline_peek, ne_readline_write, ne_readline_seek, ne_readline_cut, ne_readline_tell, ne_seek_read, ne_seek_read_some, ne_seek_peek, ne_seek_readline, ne_seek_write, ne_seek_cut, ne_seek_tell, ne_cut_read, ne_cut_read_some, ne_cut_peek, ne_cut_readline, ne_cut_write, ne_cut_seek, ne_cut_tell]; try omega
  | wr b d => simp [dData, dVals, cntV, vD, PyData.eqv, PyData.eqvAll, isCnt, badD, ne_read_read_some, ne_read_peek, ne_read_readline, ne_read_write, ne_read_seek, ne_read_cut, ne_read_tell, ne_readline_read, ne_readline_read_some, ne_readline_peek, ne_readline_write, ne_readline_seek, ne_readline_cut, ne_readline_tell, ne_seek_read, ne_seek_read_some, ne_seek_peek, ne_seek_readline, ne_seek_write, ne_seek_cut, ne_seek_tell, ne_cut_read, ne_cut_read_some, ne_cut_peek, ne_cut_readline, ne_cut_write, ne_cut_seek, ne_cut_tell]
  | sk pl st g =>
    simp [dData, dVals, cntV, vD, PyData.eqv, PyData.eqvAll, isCnt, badD, ne_read_read_some, ne_read_peek, ne_read_readline, ne_read_write, ne_read_seek, ne_read_cut, ne_read_tell, ne_readline_read, ne_readline_read_some, ne_readline_peek, ne_readline_write, ne_readline_seek, ne_readline_cut, ne_readline_tell, ne_seek_read, ne_seek_read_some, ne_seek_peek, ne_seek_readline, ne_seek_write, ne_seek_cut, ne_seek_tell, ne_cut_read, ne_cut_read_some, ne_cut_peek, ne_cut_readline, ne_cut_write, ne_cut_seek, ne_cut_tell]
    try (intro h1 h2; obtain ⟨hh, _⟩ := hv; subst h1; rcases hh with ⟨e, h⟩ | ⟨e, h⟩ | ⟨e, h⟩; · omega; · rw [← h2] at e; exact absurd e (by decide +kernel); · rw [← h2] at e; exact absurd e (by decide +kernel))
  | ct k => cases k with
    | none => simp [dData, dVals, cntV, vD, PyData.eqv, PyData.eqvAll, isCnt, badD, ne_read_read_some, ne_read_peek, ne_read_readline, ne_read_write, ne_read_seek, ne_read_cut, ne_read_tell, ne_readline_read, ne_readline_read_some, ne_readline_peek, ne_readline_write, ne_readline_seek, ne_readline_cut, ne_readline_tell, ne_seek_read, ne_seek_read_some, ne_seek_peek, ne_seek_readline, ne_seek_write, ne_seek_cut, ne_seek_tell, ne_cut_read, ne_cut_read_some, ne_cut_peek, ne_cut_readline, ne_cut_write, ne_cut_seek, ne_cut_tell]
    | some n => simp [dData, dVals, cntV, vD, PyData.eqv, PyData.eqvAll, isCnt, badD, ne_read_read_some, ne_read_peek, ne_read_readline, ne_read_write, ne_read_seek, ne_read_cut, ne_read_tell, ne_readline_read, ne_readline_read_some, ne_readline_peek, ne_readline_write, ne_readline_seek, ne_readline_cut, ne_readline_tell, ne_seek_read, ne_seek_read_some, ne_seek_peek, ne_seek_readline, ne_seek_write, ne_seek_cut, ne_seek_tell, ne_cut_read, ne_cut_read_some, ne_cut_peek, ne_cut_readline, ne_cut_write, ne_cut_seek, ne_cut_tell]; try omega
  | tl => simp [dData, dVals, cntV, vD, PyData.eqv, PyData.eqvAll, isCnt, badD, ne_read_read_some, ne_read_peek, ne_read_readline, ne_read_write, ne_read_seek, ne_read_cut, ne_read_tell, ne_readline_read, ne_readline_read_some, ne_readline_peek, ne_readline_write, ne_readline_seek, ne_readline_cut, ne_readline_tell, ne_seek_read, ne_seek_read_some, ne_seek_peek, ne_seek_readline, ne_seek_write, ne_seek_cut, ne_seek_tell, ne_cut_read, ne_cut_read_some, ne_cut_peek, ne_cut_readline, ne_cut_write, ne_cut_seek, ne_cut_tell]
  | bR => decide +kernel
  | bL => decide +kernel
  | bS => decide +kernel
  | bC => decide +kernel
theorem in_plc {H : Hp} {r : List Int} {c : Nat} (D : Deed) (hv : Valid H r c D) : ([PyData.tuple [.str (Str.ofString "seek"), .int (-1), .str (Str.ofString "head")], .tuple [.str (Str.ofString "cut"), .int (-2)]].any fun z => PyData.eqv z (dData D)) = (badD D && !isCnt D) := by
  cases D with
  | rd k => cases k with
    | none => simp [dData, dVals, cntV, vD, PyData.eqv, PyData.eqvAll, isCnt, badD, ne_read_read_some, ne_read_peek, ne_read_readline, ne_read_write, ne_read_seek, ne_read_cut, ne_read_tell, ne_readline_read, ne_readline_read_some, ne_readline_peek, ne_readline_write, ne_readline_seek, ne_readline_cut, ne_readline_tell, ne_seek_read, ne_seek_read_some, ne_seek_peek, ne_seek_readline, ne_seek_write, ne_seek_cut, ne_seek_tell, ne_cut_read, ne_cut_read_some, ne_cut_peek, ne_cut_readline, ne_cut_write, ne_cut_seek, ne_cut_tell]
    | some n => simp [dData, dVals, cntV, vD, PyData.eqv, PyData.eqvAll, isCnt, badD, ne_read_read_some, ne_read_peek, ne_read_readline, ne_read_write, ne_read_seek, ne_read_cut, ne_read_tell, ne_readline_read, ne_readline_read_some, ne_readline_peek, ne_readline_write, ne_readline_seek, ne_readline_cut, ne_readline_tell, ne_seek_read, ne_seek_read_some, ne_seek_peek, ne_seek_readline, ne_seek_write, ne_seek_cut, ne_seek_tell, ne_cut_read, ne_cut_read_some, ne_cut_peek, ne_cut_readline, ne_cut_write, ne_cut_seek, ne_cut_tell]; try omega
  | rs n => simp [dData, dVals, cntV, vD, PyData.eqv, PyData.eqvAll, isCnt, badD, ne_read_read_some, ne_read_peek, ne_read_readline, ne_read_write, ne_read_seek, ne_read_cut, ne_read_tell, ne_readline_read, ne_readline_read_some, ne_readline_peek, ne_readline_write, ne_readline_seek, ne_readline_cut, ne_readline_tell, ne_seek_read, ne_seek_read_some, ne_seek_peek, ne_seek_readline, ne_seek_write, ne_seek_cut, ne_seek_tell, ne_cut_read, ne_cut_read_some, ne_cut_peek, ne_cut_readline, ne_cut_write, ne_cut_seek, ne_cut_tell]
  | pk n => simp [dData, dVals, cntV, vD, PyData.eqv, PyData.eqvAll, isCnt, badD, ne_read_read_some, ne_read_peek, ne_read_readline, ne_read_write, ne_read_seek, ne_read_cut, ne_read_tell, ne_readline_read, ne_readline_read_some, ne_readline_peek, ne_readline_write, ne_readline_seek, ne_readline_cut, ne_readline_tell, ne_seek_read, ne_seek_read_some, ne_seek_peek, ne_seek_readline, ne_seek_write, ne_seek_cut, ne_seek_tell, ne_cut_read, ne_cut_read_some, ne_cut_peek, ne_cut_readline, ne_cut_write, ne_cut_seek, ne_cut_tell]
  | rl k => cases k with
    | none => simp [dData, dVals, cntV, vD, PyData.eqv, PyData.eqvAll, isCnt, badD, ne_read_read_some, ne_read_peek, ne_read_readline, ne_read_write, ne_read_seek, ne_read_cut, ne_read_tell, ne_readline_read, ne_readline_read_some, ne_readline_peek, ne_readline_write, ne_readline_seek, ne_readline_cut, ne_readline_tell, ne_seek_read, ne_seek_read_some, ne_seek_peek, ne_seek_readline, ne_seek_write, ne_seek_cut, ne_seek_tell, ne_cut_read, ne_cut_read_some, ne_cut_peek, ne_cut_readline, ne_cut_write, ne_cut_seek, ne_cut_tell]
    | some n => simp [dData, dVals, cntV, vD, PyData.eqv, PyData.eqvAll, isCnt, badD, ne_read_read_some, ne_read_peek, ne_read_readline, ne_read_write, ne_read_seek, ne_read_cut, ne_read_tell, ne_readline_read, ne_readline_read_some, ne_readline_peek, ne_readline_write, ne_readline_seek, ne_readline_cut, ne_readline_tell, ne_seek_read, ne_seek_read_some, ne_seek_peek, ne_seek_readline, ne_seek_write, ne_seek_cut, ne_seek_tell, ne_cut_read, ne_cut_read_some, ne_cut_peek, ne_cut_readline, ne_cut_write, ne_cut_seek, ne_cut_tell]; try omega
  | wr b d => simp [dData, dVals, cntV, vD, PyData.eqv, PyData.eqvAll, isCnt, badD, ne_read_read_some, ne_read_peek, ne_read_readline, ne_read_write, ne_read_seek, ne_read_cut, ne_read_tell, ne_readline_read, ne_readline_read_some, ne_readline_peek, ne_readline_write, ne_readline_seek, ne_readline_cut, ne_readline_tell, ne_seek_read, ne_seek_read_some, ne_seek_peek, ne_seek_readline, ne_seek_write, ne_seek_cut, ne_seek_tell, ne_cut_read, ne_cut_read_some, ne_cut_peek, ne_cut_readline, ne_cut_write, ne_cut_seek, ne_cut_tell]
  | sk pl st g =>
    simp [dData, dVals, cntV, vD, PyData.eqv, PyData.eqvAll, isCnt, badD, ne_read_read_some, ne_read_peek, ne_read_readline, ne_read_write, ne_read_seek, ne_read_cut, ne_read_tell, ne_readline_read, ne_readline_read_some, ne_readline_peek, ne_readline_write, ne_readline_seek, ne_readline_cut, ne_readline_tell, ne_seek_read, ne_seek_read_some, ne_seek_peek, ne_seek_readline, ne_seek_write, ne_seek_cut, ne_seek_tell, ne_cut_read, ne_cut_read_some, ne_cut_peek, ne_cut_readline, ne_cut_write, ne_cut_seek, ne_cut_tell]
    intro h1 h2
    obtain ⟨hh, _⟩ := hv
    rcases hh with ⟨e, h⟩ | ⟨e, h⟩ | ⟨e, h⟩
    · omega
    · rw [← h2] at e; exact absurd e (by decide +kernel)
    · rw [← h2] at e; exact absurd e (by decide +kernel)
  | ct k => cases k with
    | none => simp [dData, dVals, cntV, vD, PyData.eqv, PyData.eqvAll, isCnt, badD, ne_read_read_some, ne_read_peek, ne_read_readline, ne_read_write, ne_read_seek, ne_read_cut, ne_read_tell, ne_readline_read, ne_readline_read_some, ne_readline_peek, ne_readline_write, ne_readline_seek, ne_readline_cut, ne_readline_tell, ne_seek_read, ne_seek_read_some, ne_seek_peek, ne_seek_readline, ne_seek_write, ne_seek_cut, ne_seek_tell, ne_cut_read, ne_cut_read_some, ne_cut_peek, ne_cut_readline, ne_cut_write, ne_cut_seek, ne_cut_tell]
    | some n => simp [dData, dVals, cntV, vD, PyData.eqv, PyData.eqvAll, isCnt, badD, ne_read_read_some, ne_read_peek, ne_read_readline, ne_read_write, ne_read_seek, ne_read_cut, ne_read_tell, ne_readline_read, ne_readline_read_some, ne_readline_peek, ne_readline_write, ne_readline_seek, ne_readline_cut, ne_readline_tell, ne_seek_read, ne_seek_read_some, ne_seek_peek, ne_seek_readline, ne_seek_write, ne_seek_cut, ne_seek_tell, ne_cut_read, ne_cut_read_some, ne_cut_peek, ne_cut_readline, ne_cut_write, ne_cut_seek, ne_cut_tell]; try omega
  | tl => simp [dData, dVals, cntV, vD, PyData.eqv, PyData.eqvAll, isCnt, badD, ne_read_read_some, ne_read_peek, ne_read_readline, ne_read_write, ne_read_seek, ne_read_cut, ne_read_tell, ne_readline_read, ne_readline_read_some, ne_readline_peek, ne_readline_write, ne_readline_seek, ne_readline_cut, ne_readline_tell, ne_seek_read, ne_seek_read_some, ne_seek_peek, ne_seek_readline, ne_seek_write, ne_seek_cut, ne_seek_tell, ne_cut_read, ne_cut_read_some, ne_cut_peek, ne_cut_readline, ne_cut_write, ne_cut_seek, ne_cut_tell]
  | bR => decide +kernel
  | bL => decide +kernel
  | bS => decide +kernel
  | bC => decide +kernel
def spBad23 : Sp := fun vs H Q _ => ∃ (t : Addr) (r : List Int) (c : Nat) (D : Deed), vs = [.ref t] ∧ H t = some (.tup (dVals D)) ∧ Valid H r c D ∧
  (badD D = false → ∀ H', Same H H' → Q .non H') ∧ (badD D = true → ∀ (H' : Hp) (u : Addr), H' u = some (.tup (refV D)) → Same H H' → Q (.ref u) H')

theorem valid_same {H H' : Hp} {r : List Int} {c : Nat} {D : Deed} (h : Valid H r c D) (s : Same H H') : Valid H' r c D := by
  cases D with
  | wr b d => exact ⟨s _ _ h.1, h.2⟩
  | rd k => exact h
  | rs n => exact h
  | pk n => exact h
  | rl k => exact h
  | sk pl st g => exact h
  | ct k => exact h
  | tl => trivial
  | bR => trivial
  | bL => trivial
  | bS => trivial
  | bC => trivial

/-- what a good deed tells, the row and the place behind it -/
inductive Ans
  | lst (xs : List Int) | int (i : Int) | non
def ansOf (r : List Int) (c : Nat) : Deed → Ans
  | .rd k => .lst (takeO k (r.drop c))
  | .rs n => .lst (takeO (some n) (r.drop c))
  | .pk n => .lst (takeO (some n) (r.drop c))
  | .rl k => .lst (takeO k (lineF (r.drop c)))
  | .wr _ d => .int d.length
  | .sk _ _ g => .int g
  | .tl => .int c
  | _ => .non
def rowOf (r : List Int) (c : Nat) : Deed → List Int
  | .wr _ d => laidF r c d
  | .ct none => r.take c
  | .ct (some n) => r.take n
  | _ => r
def plcOf (r : List Int) (c : Nat) : Deed → Nat
  | .rd k => c + (takeO k (r.drop c)).length
  | .rs n => c + (takeO (some n) (r.drop c)).length
  | .rl k => c + (takeO k (lineF (r.drop c))).length
  | .wr _ d => c + d.length
  | .sk _ _ g => g
  | _ => c
/-- v stands for an answer; a list is at its own place -/
def AnsV (H : Hp) (N : Addr → Prop) : Ans → V → Prop
  | .lst xs, v => ∃ q, v = .ref q ∧ H q = some (.lst (xs.map V.int)) ∧ N q
  | .int i, v => v = .int i
  | .non, v => v = .non
def spDoes23 (PA : PP) (C1 C2 : Addr) : Sp := fun vs H Q E => ∃ (p t : Addr) (F : Addr → Prop) (r : List Int) (c : Nat) (D : Deed), vs = [.ref p, .ref t] ∧ PA H p F r c ∧ H t = some (.tup (dVals D)) ∧ Valid H r c D ∧ (∀ b d, D = .wr b d → ¬ F b) ∧ r.length ≤ 3000 ∧ c ≤ 3500 ∧
  (badD D = false → ∀ (H' : Hp) (F' : Addr → Prop) (v : V), PA H' p F' (rowOf r c D) (plcOf r c D) → AnsV H' (fun q => H q = none ∧ ¬ F' q) (ansOf r c D) v → Step F H F' H' → Q v H') ∧
  (isCnt D = true → errN H E C1) ∧ (badD D = true → isCnt D = false → errG H E C2 "goal" (.int (goalB D)))

def spTries23 (PA : PP) : Sp := fun vs H Q _ => ∃ (p t : Addr) (F : Addr → Prop) (r : List Int) (c : Nat) (D : Deed), vs = [.ref p, .ref t] ∧ PA H p F r c ∧ H t = some (.tup (dVals D)) ∧ Valid H r c D ∧ (∀ b d, D = .wr b d → ¬ F b) ∧ r.length ≤ 3000 ∧ c ≤ 3500 ∧
  (badD D = false → ∀ (H' : Hp) (F' : Addr → Prop) (u : Addr) (v : V), PA H' p F' (rowOf r c D) (plcOf r c D) → AnsV H' (fun q => H q = none ∧ ¬ F' q) (ansOf r c D) v → H' u = some (.tup [.str (Str.ofString "told"), v]) → Step F H F' H' → Q (.ref u) H') ∧
  (badD D = true → ∀ (H' : Hp) (u : Addr), H' u = some (.tup (refV D)) → Same H H' → Q (.ref u) H')
theorem AnsV.same {H H' : Hp} {N : Addr → Prop} {a : Ans} {v : V} (h : AnsV H N a v) (s : Same H H') : AnsV H' N a v := by
  cases a with
  | lst xs => obtain ⟨q, e, h, n⟩ := h; exact ⟨q, e, s _ _ h, n⟩
  | int i => exact h
  | non => exact h

def spLLaid23 (K : PySem.W.Frag) : Sp := fun vs H Q _ => ∃ (a b : Addr) (r : List Int) (c : Nat) (d : List Int), vs = [.ref a, .int c, .ref b] ∧ H a = some (.lst (r.map V.int)) ∧ H b = some (.lst (d.map V.int)) ∧ r.length ≤ 4400 ∧ c ≤ 4400 ∧ d.length ≤ 400 ∧
  ∀ (H' : Hp) (q : Addr), H q = none → H' q = some (.lst ((laidF r c d).map V.int)) → Same H H' → Q (.ref q) H'

def startsK (r : List Int) (c : Nat) : List (Key × V) := [(Sum.inr (Str.ofString "head"), .int 0), (Sum.inr (Str.ofString "here"), .int c), (Sum.inr (Str.ofString "tail"), .int ((r.map V.int).length : Nat))]
theorem starts_at {r : List Int} {c g : Nat} {pl : Int} {z : Str} (h : (z = Str.ofString "head" ∧ (g : Int) = pl) ∨ (z = Str.ofString "here" ∧ (g : Int) = c + pl) ∨ (z = Str.ofString "tail" ∧ (g : Int) = r.length + pl)) :
    valV (mergeK [] (startsK r c)) (Sum.inr z) = some (.int ((g : Int) - pl)) := by
  rcases h with ⟨rfl, e⟩ | ⟨rfl, e⟩ | ⟨rfl, e⟩
  · rw [show (g : Int) - pl = 0 by omega]; rfl
  · rw [show (g : Int) - pl = c by omega]; rfl
  · rw [show (g : Int) - pl = ((r.map V.int).length : Nat) by rw [List.length_map]; omega]; rfl
theorem lineF_le (xs : List Int) : (lineF xs).length ≤ xs.length := by unfold lineF; rw [List.length_take]; omega
def spDue23 (K : PySem.W.Frag) : Sp := fun vs H Q _ => ∃ (x t : Addr) (r : List Int) (c : Nat) (D : Deed), vs = [.ref x, .int c, .ref t] ∧ H x = some (.lst (r.map V.int)) ∧ H t = some (.tup (dVals D)) ∧ Valid H r c D ∧ badD D = false ∧ r.length ≤ 3000 ∧ c ≤ 3500 ∧
  ∀ (H' : Hp) (u x' : Addr) (v : V), AnsV H' (fun q => H q = none) (ansOf r c D) v → H' u = some (.tup [v, .ref x', .int (plcOf r c D)]) → H' x' = some (.lst ((rowOf r c D).map V.int)) → (x' = x ∨ H x' = none) → Same H H' → Q (.ref u) H'

theorem takeO_le (k : Option Nat) (xs : List Int) : (takeO k xs).length ≤ xs.length := by
  cases k with
  | none => exact Nat.le_refl _
  | some n => show (xs.take n).length ≤ _; rw [List.length_take]; omega
theorem takeO_sub {k : Option Nat} {xs : List Int} {v : Int} (h : v ∈ takeO k xs) : v ∈ xs := by
  cases k with
  | none => exact h
  | some n => exact List.mem_of_mem_take h
theorem laid_b {r d : List Int} {c : Nat} (hr : Bytes r) (hd : Bytes d) : Bytes (laidF r c d) := by
  by_cases e : d = []
  · subst e; rw [laidF_nil]; exact hr
  have hz : Bytes (r ++ List.replicate (c - r.length) 0) := fun v hv => by
    rcases List.mem_append.mp hv with h | h
    · exact hr v h
    · rw [(List.mem_replicate.mp h).2]; decide
  rw [laidF_cons e]
  intro v hv
  rcases List.mem_append.mp hv with h | h
  · rcases List.mem_append.mp h with h | h
    · exact hz v (List.mem_of_mem_take h)
    · exact hd v h
  · exact hz v (List.mem_of_mem_drop h)
theorem grow {H : Hp} {r : List Int} {c M : Nat} {D : Deed} (hv : Valid H r c D) (lr : r.length ≤ M) (lc : c ≤ M) (hb : Bytes r) : (rowOf r c D).length ≤ M + 20 ∧ plcOf r c D ≤ M + 20 ∧ Bytes (rowOf r c D) := by
  have dl : (r.drop c).length = r.length - c := List.length_drop
  cases D with
  | rd k => have := takeO_le k (r.drop c); exact ⟨by show r.length ≤ _; omega, by show c + (takeO k (r.drop c)).length ≤ _; omega, hb⟩
  | rs n => have := takeO_le (some n) (r.drop c); exact ⟨by show r.length ≤ _; omega, by show c + (takeO (some n) (r.drop c)).length ≤ _; omega, hb⟩
  | pk n => exact ⟨by show r.length ≤ _; omega, by show c ≤ _; omega, hb⟩
  | rl k =>
    have := takeO_le k (lineF (r.drop c))
    have := lineF_le (r.drop c)
    exact ⟨by show r.length ≤ _; omega, by show c + (takeO k (lineF (r.drop c))).length ≤ _; omega, hb⟩
  | wr b d =>
    obtain ⟨_, bd, ld⟩ := hv
    exact ⟨laidF_le ⟨by omega, by omega⟩, by show c + d.length ≤ _; omega, laid_b hb bd⟩
  | sk pl st g => exact ⟨by show r.length ≤ _; omega, by have := hv.2; show g ≤ _; omega, hb⟩
  | ct k =>
    cases k with
    | none => exact ⟨by show (r.take c).length ≤ _; rw [List.length_take]; omega, by show c ≤ _; omega, fun v h => hb v (List.mem_of_mem_take h)⟩
    | some n => exact ⟨by show (r.take n).length ≤ _; rw [List.length_take]; omega, by show c ≤ _; omega, fun v h => hb v (List.mem_of_mem_take h)⟩
  | tl => exact ⟨by show r.length ≤ _; omega, by show c ≤ _; omega, hb⟩
  | bR => exact ⟨by show r.length ≤ _; omega, by show c ≤ _; omega, hb⟩
  | bL => exact ⟨by show r.length ≤ _; omega, by show c ≤ _; omega, hb⟩
  | bS => exact ⟨by show r.length ≤ _; omega, by show c ≤ _; omega, hb⟩
  | bC => exact ⟨by show r.length ≤ _; omega, by show c ≤ _; omega, hb⟩
def ansD : Ans → PyData
  | .lst xs => .list (xs.map .int)
  | .int i => .int i
  | .non => .none
theorem AnsV.dp {K : PySem.W.Frag} {H : Hp} {N : Addr → Prop} {a : Ans} {v : V} (h : AnsV H N a v) : Dp K H v (ansD a) := by
  cases a with
  | lst xs => obtain ⟨q, e, h, n⟩ := h; subst e; exact dp_lst (sq_at h)
  | int i => cases (show v = _ from h); exact .int _
  | non => cases (show v = _ from h); exact .non
theorem AnsV.mono {H : Hp} {N N' : Addr → Prop} {a : Ans} {v : V} (h : AnsV H N a v) (m : ∀ q, N q → N' q) : AnsV H N' a v := by
  cases a with
  | lst xs => obtain ⟨q, e, h, n⟩ := h; exact ⟨q, e, h, m _ n⟩
  | int i => exact h
  | non => exact h
theorem ans_lst {xs : List Int} (hb : Bytes xs) (hl : xs.length ≤ 3000) : Sh 126000 1 (ansD (.lst xs)) :=
  (sh_ints (fun n hn => by have := hb n hn; omega)).up (by omega) (Nat.le_refl _)
theorem ans_int {i : Nat} (h : i ≤ 5000) : Sh 126000 1 (ansD (.int i)) := (sh_int (i := (i : Int)) (by omega)).up (by decide) (by decide)
theorem ans_sh {H : Hp} {r : List Int} {c : Nat} {D : Deed} (hv : Valid H r c D) (lr : r.length ≤ 3000) (lc : c ≤ 3500) (hb : Bytes r) : Sh 126000 1 (ansD (ansOf r c D)) := by
  have dl : (r.drop c).length = r.length - c := List.length_drop
  have hd : Bytes (r.drop c) := fun v h => hb v (List.mem_of_mem_drop h)
  cases D with
  | rd k => have := takeO_le k (r.drop c); exact ans_lst (fun v h => hd v (takeO_sub h)) (by omega)
  | rs n => have := takeO_le (some n) (r.drop c); exact ans_lst (fun v h => hd v (takeO_sub h)) (by omega)
  | pk n => have := takeO_le (some n) (r.drop c); exact ans_lst (fun v h => hd v (takeO_sub h)) (by omega)
  | rl k =>
    have := takeO_le k (lineF (r.drop c))
    have := lineF_le (r.drop c)
    exact ans_lst (fun v h => hd v (List.mem_of_mem_take (takeO_sub h : v ∈ lineF (r.drop c)))) (by omega)
  | wr b d => exact ans_int (by have := hv.2.2; omega)
  | sk pl st g => exact ans_int (by have := hv.2; omega)
  | ct k => exact sh_non.up (by decide) (by decide)
  | tl => exact ans_int (by omega)
  | bR => exact sh_non.up (by decide) (by decide)
  | bL => exact sh_non.up (by decide) (by decide)
  | bS => exact sh_non.up (by decide) (by decide)
  | bC => exact sh_non.up (by decide) (by decide)
/-- what is told of a deed -/
def outD (r : List Int) (c : Nat) (D : Deed) : PyData := if badD D then .tuple ((refV D).map vD) else .tuple [.str (Str.ofString "told"), ansD (ansOf r c D)]
theorem out_sh {H : Hp} {r : List Int} {c : Nat} {D : Deed} (hv : Valid H r c D) (lr : r.length ≤ 3000) (lc : c ≤ 3500) (hb : Bytes r) : Sh 200000 5 (outD r c D) := by
  unfold outD
  cases e : badD D with
  | false => exact (sh_tuple (shA_cons (sh_str (by decide +kernel)) (shA_cons (ans_sh hv lr lc hb) shA_nil))).up (by decide +kernel) (by decide)
  | true =>
    have c1 : Sh 200000 5 (.tuple [.str (Str.ofString "refused"), .str (Str.ofString "BadCount"), .none]) := (sh_tuple (shA_cons (sh_str (by decide +kernel)) (shA_cons (sh_str (by decide +kernel)) (shA_cons sh_non shA_nil)))).up (by decide +kernel) (by decide)
    have c2 : ∀ i : Int, i.natAbs < 10 ^ 12 → Sh 200000 5 (.tuple [.str (Str.ofString "refused"), .str (Str.ofString "BadPlace"), .int i]) := fun i hi => (sh_tuple (shA_cons (sh_str (by decide +kernel)) (shA_cons (sh_str (by decide +kernel)) (shA_cons (sh_int hi) shA_nil)))).up (by decide +kernel) (by decide)
    cases D <;> first | (cases e; done) | exact c1 | exact c2 _ (by decide)
theorem ref_dp {K : PySem.W.Frag} {H : Hp} {u : Addr} {r : List Int} {c : Nat} {D : Deed} (e : badD D = true) (h : H u = some (.tup (refV D))) : Dp K H (.ref u) (outD r c D) := by
  unfold outD
  rw [if_pos e]
  cases D <;> first | (cases e; done) | exact .tup (.inl (.inl h)) (.cons (.str _) (.cons (.str _) (.cons .non .nil))) | exact .tup (.inl (.inl h)) (.cons (.str _) (.cons (.str _) (.cons (.int _) .nil)))
theorem told_dp {K : PySem.W.Frag} {H : Hp} {N : Addr → Prop} {u : Addr} {v : V} {r : List Int} {c : Nat} {D : Deed} (e : badD D = false) (h : H u = some (.tup [.str (Str.ofString "told"), v])) (ha : AnsV H N (ansOf r c D) v) : Dp K H (.ref u) (outD r c D) := by
  unfold outD
  rw [if_neg (by rw [e]; decide)]
  exact .tup (.inl (.inl h)) (.cons (.str _) (.cons ha.dp .nil))
theorem bad_stays {r : List Int} {c : Nat} {D : Deed} (e : badD D = true) : rowOf r c D = r ∧ plcOf r c D = c := by
  cases D <;> first | (cases e; done) | exact ⟨rfl, rfl⟩
theorem ans_len {r xs : List Int} {c : Nat} {D : Deed} (h : ansOf r c D = .lst xs) : xs.length ≤ r.length := by
  have dl : (r.drop c).length = r.length - c := List.length_drop
  cases D with
  | rd k => cases h; have := takeO_le k (r.drop c); omega
  | rs n => cases h; have := takeO_le (some n) (r.drop c); omega
  | pk n => cases h; have := takeO_le (some n) (r.drop c); omega
  | rl k => cases h; have := takeO_le k (lineF (r.drop c)); have := lineF_le (r.drop c); omega
  | wr b d => cases h
  | sk pl st g => cases h
  | ct k => cases h
  | tl => cases h
  | bR => cases h
  | bL => cases h
  | bS => cases h
  | bC => cases h
def rowD (r : List Int) (c : Nat) : PyData := .list [.int c, .int (r.length : Nat), .list (r.map .int)]
theorem row_sh {r : List Int} {c : Nat} (lr : r.length ≤ 3000) (lc : c ≤ 3600) (hb : Bytes r) : Sh 200000 5 (rowD r c) :=
  (sh_list (shA_cons (sh_int (by omega)) (shA_cons (sh_int (by omega)) (shA_cons (ans_lst hb lr) shA_nil)))).up (by decide) (by decide)
theorem row_dp {K : PySem.W.Frag} {H : Hp} {l q : Addr} {r : List Int} {c : Nat} (hl : H l = some (.lst [.int c, .int (r.length : Nat), .ref q])) (hq : H q = some (.lst (r.map V.int))) : Dp K H (.ref l) (rowD r c) :=
  .lst (sq_at hl) (.cons (.int _) (.cons (.int _) (.cons (dp_lst (sq_at hq)) .nil)))
structure Tx (K : PySem.W.Frag) (mg : Str → Option Value) where
  C_Plain : Addr
  C_SipError : Addr
  C_BadPlace : Addr
  C_BadCount : Addr
  f_iBadPlace : Addr
  fd_iBadPlace : FuncData
  D_iBadPlace : FunA K "__init__" "BadPlace.__init__" s_iBadPlace f_iBadPlace fd_iBadPlace
  f_laid : Addr
  fd_laid : FuncData
  D_laid : Dg K mg "laid" s_laid f_laid fd_laid
  f_whole : Addr
  fd_whole : FuncData
  D_whole : Dg K mg "is_whole" s_whole f_whole fd_whole
  f_isbyte : Addr
  fd_isbyte : FuncData
  D_isbyte : Dg K mg "is_byte" s_isbyte f_isbyte fd_isbyte
  f_cbytes : Addr
  fd_cbytes : FuncData
  D_cbytes : Dg K mg "check_bytes" s_cbytes f_cbytes fd_cbytes
  f_clen : Addr
  fd_clen : FuncData
  D_clen : Dg K mg "check_length" s_clen f_clen fd_clen
  f_cgoal : Addr
  fd_cgoal : FuncData
  D_cgoal : Dg K mg "check_goal" s_cgoal f_cgoal fd_cgoal
  f_ccount : Addr
  fd_ccount : FuncData
  D_ccount : Dg K mg "check_count" s_ccount f_ccount fd_ccount
  f_sgoal : Addr
  fd_sgoal : FuncData
  D_sgoal : Dg K mg "seek_goal" s_sgoal f_sgoal fd_sgoal
  f_fline : Addr
  fd_fline : FuncData
  D_fline : Dg K mg "first_line" s_fline f_fline fd_fline
  f_init : Addr
  fd_init : FuncData
  D_init : Mf K C_Plain "__init__" "Plain.__init__" s_init f_init fd_init
  f_write : Addr
  fd_write : FuncData
  D_write : Mf K C_Plain "write" "Plain.write" s_write f_write fd_write
  f_seek : Addr
  fd_seek : FuncData
  D_seek : Mf K C_Plain "seek" "Plain.seek" s_seek f_seek fd_seek
  f_tell : Addr
  fd_tell : FuncData
  D_tell : Mf K C_Plain "tell" "Plain.tell" s_tell f_tell fd_tell
  f_size : Addr
  fd_size : FuncData
  D_size : Mf K C_Plain "size" "Plain.size" s_size f_size fd_size
  f_pcut : Addr
  fd_pcut : FuncData
  D_pcut : Mf K C_Plain "cut" "Plain.cut" s_pcut f_pcut fd_pcut
  f_row : Addr
  fd_row : FuncData
  D_row : Mf K C_Plain "row" "Plain.row" s_row f_row fd_row
  f_ahead : Addr
  fd_ahead : FuncData
  D_ahead : Mf K C_Plain "ahead" "Plain.ahead" s_ahead f_ahead fd_ahead
  f_passed : Addr
  fd_passed : FuncData
  D_passed : Mf K C_Plain "passed" "Plain.passed" s_passed f_passed fd_passed
  f_peek : Addr
  fd_peek : FuncData
  D_peek : Mf K C_Plain "peek" "Plain.peek" s_peek f_peek fd_peek
  f_read : Addr
  fd_read : FuncData
  D_read : Mf K C_Plain "read" "Plain.read" s_read f_read fd_read
  f_rsome : Addr
  fd_rsome : FuncData
  D_rsome : Mf K C_Plain "read_some" "Plain.read_some" s_rsome f_rsome fd_rsome
  f_rline : Addr
  fd_rline : FuncData
  D_rline : Mf K C_Plain "readline" "Plain.readline" s_rline f_rline fd_rline
  f_pool : Addr
  fd_pool : FuncData
  D_pool : Dg K mg "_law_pool" s_pool f_pool fd_pool
  f_take : Addr
  fd_take : FuncData
  D_take : Dg K mg "_law_take" s_take f_take fd_take
  f_bytes : Addr
  fd_bytes : FuncData
  D_bytes : Dg K mg "_law_bytes" s_bytes f_bytes fd_bytes
  f_llaid : Addr
  fd_llaid : FuncData
  D_llaid : Dg K mg "_law_laid" s_llaid f_llaid fd_llaid
  f_draw : Addr
  fd_draw : FuncData
  D_draw : Dg K mg "_law_draw" s_draw f_draw fd_draw
  f_due : Addr
  fd_due : FuncData
  D_due : Dg K mg "_law_due" s_due f_due fd_due
  f_bad : Addr
  fd_bad : FuncData
  D_bad : Dg K mg "_law_bad" s_bad f_bad fd_bad
  f_does : Addr
  fd_does : FuncData
  D_does : Dg K mg "_law_does" s_does f_does fd_does
  f_tries : Addr
  fd_tries : FuncData
  D_tries : Dg K mg "_law_tries" s_tries f_tries fd_tries
  f_law : Addr
  fd_law : FuncData
  D_law : Dg K mg "law" s_law f_law fd_law
  cl_Plain : Cls K C_Plain
  g_Plain : mg "Plain" = some (.ref C_Plain)
  mk_Plain : Mk K C_Plain f_init
  n_Plain_cells : NoAttr K C_Plain "cells"
  n_Plain_cursor : NoAttr K C_Plain "cursor"
  g_SipError : mg "SipError" = some (.ref C_SipError)
  g_BadPlace : mg "BadPlace" = some (.ref C_BadPlace)
  g_BadCount : mg "BadCount" = some (.ref C_BadCount)
  o_BadPlace : OexC K C_BadPlace
  e_BadPlace : ExcC K C_BadPlace
  n_BadPlace : PySem.W.findIn K (.ref C_BadPlace) "goal" = some none
  ini_BadPlace : PySem.W.findIn K (.ref C_BadPlace) "__init__" = some (some (.ref f_iBadPlace))
  tI_BadPlace : PySem.W.typeIn K (.ref f_iBadPlace) = some (.type "function")
  te_BadPlace : PySem.W.exmOne K (.ref C_BadPlace) (.ref C_SipError) = some true
  x_BadCount : PySem.W.excIn K C_BadCount [.type "ValueError", .type "Exception", .type "BaseException", .type "object"] "ValueError.__new__" = true
  kk_BadCount : PySem.W.keepIn K (.ref C_BadCount) = true
  bx_BadCount : PySem.W.subIn K (.ref C_BadCount) (.type "BaseException") = some true
  tx_BadCount : PySem.W.typeIn K (.ref C_BadCount) = some (.type "type")
  te_BadPlace_BadCount : PySem.W.exmOne K (.ref C_BadPlace) (.ref C_BadCount) = some false
  te_BadPlace_BadPlace : PySem.W.exmOne K (.ref C_BadPlace) (.ref C_BadPlace) = some true
  te_BadPlace_SipError : PySem.W.exmOne K (.ref C_BadPlace) (.ref C_SipError) = some true
  te_BadCount_BadCount : PySem.W.exmOne K (.ref C_BadCount) (.ref C_BadCount) = some true
  te_BadCount_BadPlace : PySem.W.exmOne K (.ref C_BadCount) (.ref C_BadPlace) = some false
  te_BadCount_SipError : PySem.W.exmOne K (.ref C_BadCount) (.ref C_SipError) = some true
  bb_ahead : Binds K fd_ahead P_ahead []
  bb_bad : Binds K fd_bad P_bad []
  bb_bytes : Binds K fd_bytes P_bytes []
  bb_cbytes : Binds K fd_cbytes P_cbytes []
  bb_ccount : Binds K fd_ccount P_ccount []
  bb_cgoal : Binds K fd_cgoal P_cgoal []
  bb_clen : Binds K fd_clen P_clen []
  bb_does : Binds K fd_does P_does []
  bb_draw : Binds K fd_draw P_draw []
  bb_due : Binds K fd_due P_due []
  bb_fline : Binds K fd_fline P_fline []
  bb_iBadPlace : Binds K fd_iBadPlace P_iBadPlace []
  bb_init : Binds K fd_init P_init []
  bb_isbyte : Binds K fd_isbyte P_isbyte []
  bb_laid : Binds K fd_laid P_laid []
  bb_llaid : Binds K fd_llaid P_llaid []
  bb_passed : Binds K fd_passed P_passed []
  bb_pcut : Binds K fd_pcut P_pcut []
  bb_peek : Binds K fd_peek P_peek []
  bb_pool : Binds K fd_pool P_pool []
  bb_read : Binds K fd_read P_read []
  bb_rline : Binds K fd_rline P_rline []
  bb_row : Binds K fd_row P_row []
  bb_rsome : Binds K fd_rsome P_rsome []
  bb_sgoal : Binds K fd_sgoal P_sgoal []
  bb_size : Binds K fd_size P_size []
  bb_take : Binds K fd_take P_take []
  bb_tell : Binds K fd_tell P_tell []
  bb_tries : Binds K fd_tries P_tries []
  bb_whole : Binds K fd_whole P_whole []
  bb_write : Binds K fd_write P_write []
  kb_seek_1_start : KBn K fd_seek P_seek 2 ["start"] (fun us ws => us ++ ws) (fun vs zs => vs ++ zs)
  t_LONGEST : Tok
  c_LONGEST : mg "LONGEST" = some (.int 4000 t_LONGEST)
  t_LINE_FEED : Tok
  c_LINE_FEED : mg "LINE_FEED" = some (.int 10 t_LINE_FEED)
  m_list : mg "list" = none
  m_len : mg "len" = none
  m_range : mg "range" = none
  m_max : mg "max" = none
  m_min : mg "min" = none
  m_isinstance : mg "isinstance" = none
  m_int : mg "int" = none
  m_bool : mg "bool" = none
  m_all : mg "all" = none
  m_enumerate : mg "enumerate" = none
  m_repr : mg "repr" = none
section
variable {P : Program} {w : World} {K : PySem.W.Frag} {mg : Str → Option Value} {base : Heap}

theorem ok_pool (T : Tx K mg) : FnOk P w K mg base CX0 1 T.f_pool T.fd_pool P_pool (spPool K) := by
  have sz : sizeLine = 16777216 := sizeLine_eq
  refine T.D_pool.F.ok sc_pool (fun vs H Q E h => ?_) (fun cdv A outer s H vs Q E hr h => ?_)
  · obtain ⟨a, ns, i, rfl, _⟩ := h
    rfl
  · obtain ⟨a, ns, i, rfl, hS, h63, i0, i1, q⟩ := h
    refine ⟨_, (pss_cons (ps_set (i := 2) sc_pool.nd rfl (.inl rfl) pe_int)
      (C8.pss_cut (ps_if (pt_cmpR op_gt (pe_callB call_len_seq (by rfl) T.m_len PySem.boot_len (pa_cons (pv 0) pa_nil)) pe_int (nomark _)) (pss_one (ps_set (i := 2) sc_pool.nd rfl (.inl rfl) (pe_ix ix_list (pv 0) (pe_op op_mod (pv 1) (pe_callB call_len_seq (by rfl) T.m_len PySem.boot_len (pa_cons (pv 0) pa_nil))) (fun _ _ => rfl)))) pss_nil)
      (pss_cons (ps_set (i := 3) sc_pool.nd rfl (.inl rfl) pe_int)
      (C8.pss_cut (ps_if (PW.pt (pw_and (pt_cmpR op_ge (pv 2) (pe_op op_pow pe_int pe_int) (nomark _)) (pw_and1 (pt_cmpR op_lt (pv 1) (pe_callB call_len_seq (by rfl) T.m_len PySem.boot_len (pa_cons (pv 0) pa_nil)) (nomark _))))) (pss_one (ps_set (i := 3) sc_pool.nd rfl (.inl rfl) (pv 2))) pss_nil)
      (pss_one (ps_ret (pe_lst (pa_cons (pv 3) (pa_cons (pe_op op_mul pe_int (pv 1)) (pa_cons (pv 2) pa_nil)))))))))), ?_⟩
    refine ⟨fun σ' H' => H' = H ∧ ∃ c : Int, σ' = [some (.ref a), some (.int i), some (.int c), none], ?_, fun σ' H' hm => ?_⟩
    · refine ⟨.ref a, rfl, a, ns.map V.int, rfl, .inl hS, _, _, rfl, rfl, _, rfl, ite2 (fun e => ?_) (fun e => ?_)⟩
      · have e1 : (0 : Int) < ((ns.map V.int).length : Int) := of_decide_eq_true e
        rw [List.length_map] at e1
        obtain ⟨m, _, em, _⟩ := atI_int (ms := ns) (i := i % (ns.length : Int)) (Int.emod_nonneg _ (by omega)) (Int.emod_lt_of_pos _ e1)
        refine ⟨.ref a, rfl, .int i, rfl, .ref a, rfl, a, ns.map V.int, rfl, .inl hS, _, _, rfl, rfl, ?_, a, _, _, .int m, rfl, rfl, hS, ?_, rfl, m, rfl⟩
        · rw [List.length_map]; exact e1
        · rw [List.length_map]; exact em
      · exact ⟨rfl, 0, rfl⟩
    · obtain ⟨rfl, c, rfl⟩ := hm
      refine ⟨fun σ' H'' => H'' = H' ∧ ∃ d : Int, 0 ≤ d ∧ σ' = [some (.ref a), some (.int i), some (.int c), some (.int d)], ?_, fun σ' H'' hm => ?_⟩
      · refine ⟨.int c, rfl, _, _, rfl, rfl, ⟨by decide, by decide, by decide⟩, _, _, rfl, rfl, _, rfl, ite2 (fun e => ?_) (fun e => iteF ⟨rfl, 0, by decide, rfl⟩)⟩
        have e1 : ((10 : Int) ^ (18 : Int).toNat) ≤ c := of_decide_eq_true e
        refine ⟨.int i, rfl, .ref a, rfl, a, ns.map V.int, rfl, .inl hS, _, _, rfl, rfl, _, rfl, ite2 (fun e => ?_) (fun e => ⟨rfl, 0, by decide, rfl⟩)⟩
        exact ⟨.int c, rfl, rfl, c, Int.le_trans (by decide) e1, rfl⟩
      · obtain ⟨rfl, d, d0, rfl⟩ := hm
        refine ⟨.int d, rfl, .int i, rfl, _, _, rfl, rfl, .inl ⟨by decide, by decide⟩, .int c, rfl, by show (3 : Nat) ≤ sizeLine; decide, fun p np => q p _ np ⟨d, 1000 * i, c, rfl, d0, by omega, by omega⟩⟩


theorem ok_take (T : Tx K mg) : FnOk P w K mg base CX0 1 T.f_take T.fd_take P_take (spTake) := by
  have sz : sizeLine = 16777216 := sizeLine_eq
  refine T.D_take.F.ok sc_take (fun vs H Q E h => ?_) (fun cdv A outer s H vs Q E hr h => ?_)
  · obtain ⟨p, n, wd, o, rfl, _⟩ := h
    rfl
  · obtain ⟨p, n, wd, o, rfl, hp, ⟨d, c, x, rfl, d0, c0, cn⟩, n9, w0, w1, q⟩ := h
    refine ⟨_, (pss_cons (ps_if (pt_cmpR op_gt (pe_ix ix_list (pv 0) pe_int (fun _ _ => rfl)) pe_int (nomark _)) (pss_cons (ps_set (i := 2) sc_take.nd rfl (.inl rfl) (pe_op op_mod (pe_ix ix_list (pv 0) pe_int (fun _ _ => rfl)) (pv 1)))
      (pss_cons (ps_asg (pe_op op_fdiv (pe_ix ix_list (pv 0) pe_int (fun _ _ => rfl)) (pv 1)) (pg_sub (pv 0) pe_int set_list))
      (pss_one (ps_ret (pv 2))))) pss_nil)
      (pss_cons (ps_asg (pe_op op_add (pe_ix ix_list (pv 0) pe_int (fun _ _ => rfl)) pe_int) (pg_sub (pv 0) pe_int set_list))
      (pss_cons (ps_set (i := 3) sc_take.nd rfl (.inl rfl) (pe_op op_mod (pe_op op_pow (pe_op op_add (pe_op op_mod (pe_ix ix_list (pv 0) pe_int (fun _ _ => rfl)) pe_int) (pe_op op_mul pe_int (pe_ix ix_list (pv 0) pe_int (fun _ _ => rfl)))) pe_int) pe_int))
      (pss_cons (ps_set (i := 3) sc_take.nd rfl (.inl rfl) (pe_op op_add (pe_op op_mul (pv 3) pe_int) (pe_op op_mul (pe_op op_mul (pe_ix ix_list (pv 0) pe_int (fun _ _ => rfl)) (pe_ix ix_list (pv 0) pe_int (fun _ _ => rfl))) pe_int)))
      (pss_one (ps_ret (pe_op op_mod (pe_op op_fdiv (pe_op op_mod (pe_op op_add (pv 3) (pe_op op_fdivW (pe_ix ix_list (pv 0) pe_int (fun _ _ => rfl)) pe_int)) pe_int) pe_int) (pv 1)))))))), ?_⟩
    have S0 : SqL K H p [.int d, .int c, .int x] := sq_at hp
    refine ⟨.ref p, rfl, p, _, 0, .int d, rfl, rfl, S0, rfl, d, 0, rfl, rfl, _, rfl, ite2 (fun e => ?_) (fun e => ?_)⟩
    · refine ⟨.ref p, rfl, p, _, 0, .int d, rfl, rfl, S0, rfl, .int wd, rfl, d, wd, rfl, rfl, w0, ?_⟩
      refine ⟨.ref p, rfl, p, _, 0, .int d, rfl, rfl, S0, rfl, .int wd, rfl, d, wd, rfl, rfl, ⟨w0, w1⟩, ?_⟩
      refine ⟨.ref p, rfl, p, _, 0, 0, rfl, rfl, hp, rfl, .int (d % wd), rfl, ?_⟩
      exact q _ _ (Int.emod_nonneg _ (by omega)) (Int.emod_lt_of_pos _ w0) ⟨d / wd, c, x, rfl, Int.ediv_nonneg d0 (by omega), c0, by omega⟩
    · refine ⟨.ref p, rfl, p, _, 1, .int c, rfl, rfl, S0, rfl, c, 1, rfl, rfl, .ref p, rfl, p, _, 1, 1, rfl, rfl, hp, rfl, ?_⟩
      have S1 : SqL K (upd H p (.lst [.int d, .int (c + 1), .int x])) p [.int d, .int (c + 1), .int x] := sq_new
      have y0 : 0 ≤ x % 2147483647 := Int.emod_nonneg _ (by decide)
      have y1 : x % 2147483647 < 2147483647 := Int.emod_lt_of_pos _ (by decide)
      refine ⟨.ref p, rfl, p, _, 2, .int x, rfl, rfl, S1, rfl, x, _, rfl, rfl, by show (0 : Int) < 2147483647; decide, .ref p, rfl, p, _, 1, .int (c + 1), rfl, rfl, S1, rfl, 40503, c + 1, rfl, rfl, .inl ⟨by decide, by decide⟩, _, _, rfl, rfl, _, 5, rfl, rfl, ⟨by decide, by decide, ?_⟩, _, 2147483647, rfl, rfl, by show (0 : Int) < 2147483647; decide, ?_⟩
      · show (x % 2147483647 + 40503 * (c + 1)).natAbs < 18446744073709551616
        omega
      · refine ⟨_, rfl, _, 48271, rfl, rfl, .inr ⟨by decide, by decide⟩, .ref p, rfl, p, _, 1, .int (c + 1), rfl, rfl, S1, rfl, .ref p, rfl, p, _, 1, .int (c + 1), rfl, rfl, S1, rfl, c + 1, c + 1, rfl, rfl, .inl ⟨by omega, by omega⟩, _, 39373, rfl, rfl, .inr ⟨by decide, by decide⟩, _, _, rfl, rfl, ?_⟩
        refine ⟨_, rfl, .ref p, rfl, p, _, 2, .int x, rfl, rfl, S1, rfl, x, _, rfl, rfl, wide_div (b := 32) (by decide) (by decide) (by decide) (by decide), _, _, rfl, rfl, _, _, rfl, rfl, by show (0 : Int) < 1000000007; decide, _, 16, rfl, rfl, ⟨by decide, by decide⟩, .int wd, rfl, _, wd, rfl, rfl, w0, ?_⟩
        exact q _ _ (Int.emod_nonneg _ (by omega)) (Int.emod_lt_of_pos _ w0) ⟨d, c + 1, x, rfl, d0, by omega, by omega⟩


theorem ok_laid (T : Tx K mg) : FnOk P w K mg base CX0 1 T.f_laid T.fd_laid P_laid (spLaid K) := by
  have sz : sizeLine = 16777216 := sizeLine_eq
  refine T.D_laid.F.ok sc_laid (fun vs H Q E h => ?_) (fun cdv A outer s H vs Q E hr h => ?_)
  · obtain ⟨a, b, r, n, d, rfl, _⟩ := h
    rfl
  · obtain ⟨a, b, r, n, d, rfl, hA, hB, lr, ln, ld, q⟩ := h
    refine ⟨_, (pss_cons (ps_set (i := 3) sc_laid.nd rfl (.inl rfl) (pe_callTy call_list_of (by rfl) T.m_list (by decide +kernel) (pa_cons (pv 0) pa_nil)))
      (pss_cons (ps_if (pt_not (pt_truth (pv 2) (by intro _; rfl))) (pss_one (ps_ret (pv 3))) pss_nil)
      (pss_cons (ps_expr (pe_bm PySem.F.plainAttrs_list PySem.F.slot_list_extend PySem.F.type_list_extend mt_extend (pv 3) (pa_cons (pe_op op_rep (pe_lst (pa_cons pe_int pa_nil)) (pe_op op_sub (pv 1) (pe_callB call_len_seq (by rfl) T.m_len PySem.boot_len (pa_cons (pv 3) pa_nil)))) pa_nil)))
      (pss_cons (ps_asg (pv 2) (Sip.pg_cut (pv 3) (po_some (pv 1)) (po_some (pe_op op_add (pv 1) (pe_callB call_len_seq (by rfl) T.m_len PySem.boot_len (pa_cons (pv 2) pa_nil))))))
      (pss_one (ps_ret (pv 3))))))), ?_⟩
    refine ⟨.ref a, rfl, a, _, rfl, .inl hA, fun t nt => ?_⟩
    have bt : b ≠ t := ne_of_none hB nt
    have hB1 : (upd H t (.lst (r.map V.int))) b = some (.lst (d.map V.int)) := by rw [upd_ne bt]; exact hB
    refine ⟨.ref b, rfl, _, .inl ⟨_, sq_at hB1, rfl⟩, ite2 (fun e => ?_) (fun e => ?_)⟩
    · have d0 : d = [] := by
        cases d with
        | nil => rfl
        | cons x y => cases e
      subst d0
      exact ⟨.ref t, rfl, q _ t nt (by rw [upd_same, laidF_nil]) (Kp.new (ps := []) nt).same⟩
    · have d0 : d ≠ [] := fun z => by subst z; exact e rfl
      refine ⟨.ref t, rfl, .inl ⟨rfl, _, sq_new⟩, by show (1 : Nat) ≤ sizeLine; decide, fun l nl => ?_⟩
      have tl : t ≠ l := ne_of_none (upd_same : (upd H t (.lst (r.map V.int))) t = _) nl
      have bl : b ≠ l := ne_of_none hB1 nl
      refine ⟨.int n, rfl, .ref t, rfl, t, _, rfl, .inl (sq_at (by rw [upd_ne tl]; exact upd_same)), _, _, rfl, rfl, l, _, [.int 0], rfl, rfl, upd_same, ?_, ?_, ?_, fun z nz => ?_⟩
      · rw [List.length_map]; omega
      · rw [List.length_map]; omega
      · rw [List.length_map]; show 1 * ((n : Int) - (r.length : Int)).toNat ≤ sizeLine; omega
      · have tz : t ≠ z := ne_of_none (by rw [upd_ne tl]; exact upd_same) nz
        have bz : b ≠ z := ne_of_none (by rw [upd_ne bl]; exact hB1) nz
        have ez : (List.replicate ((n : Int) - ((r.map V.int).length : Int)).toNat [V.int 0]).flatten = (List.replicate (n - r.length) (0 : Int)).map V.int := by
          rw [List.length_map, flat_rep, List.map_replicate]
          congr 1
          omega
        rw [ez]
        refine ⟨t, z, _, _, rfl, rfl, by rw [upd_ne tz, upd_ne tl]; exact upd_same, upd_same, by rw [List.length_map, List.length_map, List.length_replicate]; omega, ?_⟩
        rw [← List.map_append]
        refine ⟨.ref b, rfl, .ref t, rfl, .int n, rfl, n, rfl, .int n, rfl, .ref b, rfl, b, d.map V.int, rfl, .inl (sq_at (by rw [upd_ne bt, upd_ne bz, upd_ne bl]; exact hB1)), _, _, rfl, rfl, _, rfl, ?_⟩
        refine ⟨t, b, _, _, _, _, rfl, rfl, rfl, rfl, upd_same, by rw [upd_ne bt, upd_ne bz, upd_ne bl]; exact hB1, bt.symm, by omega, by omega, ?_, ?_, ?_⟩
        · rw [List.length_map, List.length_append, List.length_replicate]; omega
        · rw [List.length_map, List.length_append, List.length_replicate, List.length_map]; omega
        · refine ⟨.ref t, rfl, q _ t nt ?_ ?_⟩
          · rw [upd_same]
            have e1 : ((n : Int)).toNat = n := Int.toNat_natCast n
            have e2 : ((n : Int) + ((d.map V.int).length : Int)).toNat = n + d.length := by rw [List.length_map]; omega
            rw [e1, e2, laidF_cons d0, ← List.map_take, ← List.map_drop, ← List.map_append, ← List.map_append]
          · refine Kp.same ?_
            exact ((((Kp.new nt).trans (Kp.new nl)).trans (Kp.new nz)).put nt).put nt


theorem ok_bytes (T : Tx K mg) : FnOk P w K mg base CX0 2 T.f_bytes T.fd_bytes P_bytes (spBytesM K) := by
  have G_take := ok_take (P := P) (w := w) (base := base) T
  have sz : sizeLine = 16777216 := sizeLine_eq
  refine T.D_bytes.F.ok sc_bytes (fun vs H Q E h => ?_) (fun cdv A outer s H vs Q E hr h => ?_)
  · obtain ⟨p, m, n, o, ms, rfl, _⟩ := h
    rfl
  · obtain ⟨p, m, n, o, ms, rfl, hp, hP, n9, hM, pm, m0, ml, mz, q⟩ := h
    refine ⟨_, (pss_cons (ps_set (i := 2) sc_bytes.nd rfl (.inl rfl) (pe_lst pa_nil))
      (pss_cons (ps_for PassesOwn.never rfl (pi_range1 (by rfl) T.m_range (pa_cons (pe_ix ix_list (pv 1) (pe_call G_take (hr.mono (by decide)) (by rfl) T.D_take.g T.D_take.F.kp T.bb_take .nil pass0 (pa_cons (pv 0) (pa_cons (pe_callB call_len_seq (by rfl) T.m_len PySem.boot_len (pa_cons (pv 1) pa_nil)) pa_nil))) (fun _ _ => rfl)) pa_nil)) (pg_name (i := 3) sc_bytes.nd rfl (.inl rfl)) (pss_one (ps_if (pt_cmpR op_eq (pe_call G_take (hr.mono (by decide)) (by rfl) T.D_take.g T.D_take.F.kp T.bb_take .nil pass0 (pa_cons (pv 0) (pa_cons pe_int pa_nil))) pe_int (nomark _)) (pss_one (ps_expr (pe_bm PySem.F.plainAttrs_list PySem.F.slot_list_append PySem.F.type_list_append mt_append (pv 2) (pa_cons (pe_ix ix_list (pe_lst (pa_cons pe_int (pa_cons pe_int (pa_cons pe_int (pa_cons pe_int pa_nil))))) (pe_call G_take (hr.mono (by decide)) (by rfl) T.D_take.g T.D_take.F.kp T.bb_take .nil pass0 (pa_cons (pv 0) (pa_cons pe_int pa_nil))) (fun _ _ => rfl)) pa_nil)))) (pss_one (ps_expr (pe_bm PySem.F.plainAttrs_list PySem.F.slot_list_append PySem.F.type_list_append mt_append (pv 2) (pa_cons (pe_call G_take (hr.mono (by decide)) (by rfl) T.D_take.g T.D_take.F.kp T.bb_take .nil pass0 (pa_cons (pv 0) (pa_cons pe_int pa_nil))) pa_nil)))))))
      (pss_one (ps_ret (pv 2))))), ?_⟩
    refine ⟨Nat.zero_le _, fun a na => ?_⟩
    have pa : p ≠ a := ne_of_none hp na
    have s1 : Same H (upd H a (.lst [])) := (Kp.new (ps := []) na).same
    have lm : 0 < ms.length := List.length_pos_iff.mpr m0
    refine ⟨.ref m, rfl, .ref p, rfl, .ref m, rfl, m, _, rfl, .inl (s1.seq hM), p, n, _, o, rfl, s1 _ _ hp, hP, by omega, by rw [List.length_map]; omega, by rw [List.length_map]; omega, fun r o1 r0 r1 hP1 => ?_⟩
    rw [List.length_map] at r1
    obtain ⟨z, zm, ez, _⟩ := atI_int (ms := ms) (i := r) r0 r1
    obtain ⟨z0, z1⟩ := mz z zm
    have k2 : Kp [p] H (upd (upd H a (.lst [])) p o1) := (Kp.new na).trans (Kp.at (by simp))
    refine ⟨m, _, r, .int z, rfl, rfl, k2.seq (by simpa using pm.symm) hM, ez, z, rfl, by omega, by omega, for_range (lo := 0) (n := z.toNat) (fun i σ H' => ∃ (bs : List Int) (o2 : HO) (y : Option V), σ = [some (.ref p), some (.ref m), some (.ref a), y] ∧ H' a = some (.lst (bs.map V.int)) ∧ bs.length = i ∧ Bytes bs ∧ H' p = some o2 ∧ PoolO (n + 1 + 2 * i) o2 ∧ Kp [p] H H') ?_ (fun i σ H' hi hW => ?_) (fun σ H' hW => ?_)⟩
    · exact ⟨[], o1, none, rfl, by rw [upd_ne pa.symm]; exact upd_same, rfl, fun b hb => by simp at hb, upd_same, hP1.up (by omega), k2⟩
    · obtain ⟨bs, o2, y, rfl, ea, eb, hb, ep, hP2, kk⟩ := hW
      have fit : (bs.map V.int).length < sizeLine := by rw [List.length_map]; exact small1000 (by omega)
      refine ⟨.ref p, rfl, p, _, 4, o2, rfl, ep, hP2, by omega, by decide, by decide, fun r2 o3 s0 s1 hP3 => ?_⟩
      have ea3 : (upd H' p o3) a = some (.lst (bs.map V.int)) := by rw [upd_ne pa.symm]; exact ea
      have k3 : Kp [p] H (upd H' p o3) := kk.trans (Kp.at (by simp))
      refine ⟨rfl, _, rfl, ite2 (fun e => ?_) (fun e => ?_)⟩
      · refine ⟨.ref a, rfl, .inl ⟨rfl, _, sq_at ea3⟩, by show (4 : Nat) ≤ sizeLine; decide, fun l2 nl2 => ?_⟩
        have pl2 : p ≠ l2 := ne_of_none (upd_same : (upd H' p o3) p = some o3) nl2
        have al2 : a ≠ l2 := ne_of_none ea3 nl2
        refine ⟨.ref p, rfl, p, _, 4, o3, rfl, by rw [upd_ne pl2]; exact upd_same, hP3, by omega, by decide, by decide, fun r3 o4 t0 t1 hP4 => ?_⟩
        obtain ⟨v, mv, ev, _⟩ := atI_int (ms := [0, 10, 10, 255]) (i := r3) t0 t1
        have vb : 0 ≤ v ∧ v ≤ 255 := (show ∀ y ∈ ([0, 10, 10, 255] : List Int), 0 ≤ y ∧ y ≤ 255 by decide) v mv
        refine ⟨l2, _, r3, .int v, rfl, rfl, .inl (.inl (by rw [upd_ne pl2.symm, upd_same]; rfl)), ev, a, bs.map V.int, .int v, rfl, rfl, by rw [upd_ne pa.symm, upd_ne al2]; exact ea3, fit, ?_⟩
        refine ⟨bs ++ [v], o4, _, rfl, by rw [upd_same, List.map_append]; rfl, by rw [List.length_append, eb]; rfl, ?_, by rw [upd_ne pa]; exact upd_same, hP4.up (by omega), ((k3.trans (Kp.new nl2)).trans (Kp.at (by simp))).put na⟩
        intro b hb2
        rcases List.mem_append.mp hb2 with hb3 | hb3
        · exact hb b hb3
        · rw [List.mem_singleton.mp hb3]; exact vb
      · refine ⟨.ref a, rfl, .inl ⟨rfl, _, sq_at ea3⟩, .ref p, rfl, p, _, 256, o3, rfl, upd_same, hP3, by omega, by decide, by decide, fun v o4 t0 t1 hP4 => ?_⟩
        refine ⟨a, bs.map V.int, .int v, rfl, rfl, by rw [upd_ne pa.symm]; exact ea3, fit, ?_⟩
        refine ⟨bs ++ [v], o4, _, rfl, by rw [upd_same, List.map_append]; rfl, by rw [List.length_append, eb]; rfl, ?_, by rw [upd_ne pa]; exact upd_same, hP4.up (by omega), (k3.trans (Kp.at (by simp))).put na⟩
        intro b hb2
        rcases List.mem_append.mp hb2 with hb3 | hb3
        · exact hb b hb3
        · rw [List.mem_singleton.mp hb3]; exact ⟨t0, by omega⟩
    · obtain ⟨bs, o2, y, rfl, ea, eb, hb, ep, hP2, kk⟩ := hW
      exact ⟨.ref a, rfl, q H' a bs o2 na ea ep (hP2.up (by omega)) kk ⟨z, zm, by omega⟩ hb⟩


theorem ok_whole (T : Tx K mg) : FnOk P w K mg base CX0 1 T.f_whole T.fd_whole P_whole (spWhole) := by
  have sz : sizeLine = 16777216 := sizeLine_eq
  refine T.D_whole.F.ok sc_whole (fun vs H Q E h => ?_) (fun cdv A outer s H vs Q E hr h => ?_)
  · obtain ⟨v, rfl, _⟩ := h
    rfl
  · obtain ⟨v, rfl, q⟩ := h
    refine ⟨_, (pss_one (ps_ret (pe_and (pe_callB (id := "isinstance") (r := rIsi K) call_isi (by rfl) T.m_isinstance (by decide +kernel) (pa_cons (pv 0) (pa_cons (pe_bltn (v := .ty "int") (by rfl) T.m_int (by decide +kernel) rfl) pa_nil))) (pe_one (pe_not (pe_callB (id := "isinstance") (r := rIsi K) call_isi (by rfl) T.m_isinstance (by decide +kernel) (pa_cons (pv 0) (pa_cons (pe_bltn (v := .ty "bool") (by rfl) T.m_bool (by decide +kernel) rfl) pa_nil)))))))), ?_⟩
    refine ⟨.int v, rfl, .int v, .ty "int", _, _, true, rfl, .ty "int", .base (.int v), kit_ty (by decide +kernel), true, rfl, ?_⟩
    exact ⟨.int v, rfl, .int v, .ty "bool", _, _, false, rfl, .ty "bool", .base (.int v), kit_ty (by decide +kernel), false, rfl, q⟩

theorem ok_isbyte (T : Tx K mg) : FnOk P w K mg base CX0 2 T.f_isbyte T.fd_isbyte P_isbyte (spByte) := by
  have G_whole := ok_whole (P := P) (w := w) (base := base) T
  have sz : sizeLine = 16777216 := sizeLine_eq
  refine T.D_isbyte.F.ok sc_isbyte (fun vs H Q E h => ?_) (fun cdv A outer s H vs Q E hr h => ?_)
  · obtain ⟨v, rfl, _⟩ := h
    rfl
  · obtain ⟨v, rfl, v0, v1, q⟩ := h
    refine ⟨_, (pss_one (ps_ret (pe_and (pe_call G_whole (hr.mono (by decide)) (by rfl) T.D_whole.g T.D_whole.F.kp T.bb_whole .nil pass0 (pa_cons (pv 0) pa_nil)) (pe_one (pe_chain op_le op_le pe_int (pv 0) pe_int))))), ?_⟩
    refine ⟨.int v, rfl, v, rfl, true, rfl, ?_⟩
    refine ⟨.int v, rfl, _, _, rfl, rfl, _, rfl, ?_⟩
    rw [if_pos (decide_eq_true v0)]
    refine ⟨_, _, rfl, rfl, ?_⟩
    show Q (V.bl (decide (v ≤ 255))) H
    rw [decide_eq_true v1]
    exact q

theorem ok_cbytes (T : Tx K mg) : FnOk P w K mg base CX0 3 T.f_cbytes T.fd_cbytes P_cbytes (spBytesC) := by
  have G_isbyte := ok_isbyte (P := P) (w := w) (base := base) T
  have sz : sizeLine = 16777216 := sizeLine_eq
  refine T.D_cbytes.F.ok sc_cbytes (fun vs H Q E h => ?_) (fun cdv A outer s H vs Q E hr h => ?_)
  · obtain ⟨b, d, rfl, _⟩ := h
    rfl
  · obtain ⟨b, d, rfl, hb, bd, q⟩ := h
    refine ⟨_, (pss_one (ps_for PassesOwn.never rfl (pi_enum (by rfl) T.m_enumerate (pa_cons (pv 0) pa_nil)) (pg_tup rfl (pgs_cons (pg_name (i := 1) sc_cbytes.nd rfl (.inl rfl)) (pgs_cons (pg_name (i := 2) sc_cbytes.nd rfl (.inl rfl)) pgs_nil))) (pss_one (ps_if (pt_not (pt_val (pe_call G_isbyte (hr.mono (by decide)) (by rfl) T.D_isbyte.g T.D_isbyte.F.kp T.bb_isbyte .nil pass0 (pa_cons (pv 2) pa_nil)))) (pss_one ps_never) pss_nil)))), ?_⟩
    refine ⟨.ref b, rfl, b, _, rfl, sq_at hb, ?_⟩
    refine for_enum (xs := d.map V.int) (fun i σ H' => (∃ y z, σ = [some (.ref b), y, z]) ∧ Same H H') ⟨⟨none, none, rfl⟩, Same.refl _⟩ (fun i σ H' _ h => h.2.seq (sq_at hb)) (fun i x σ H' t hx hP nt => ?_) (fun σ H' hP => q _ hP.2)
    obtain ⟨⟨y, z, rfl⟩, sm⟩ := hP
    rw [List.getElem?_map] at hx
    obtain ⟨v, hv, rfl⟩ := Option.map_eq_some_iff.mp hx
    obtain ⟨v0, v1⟩ := bd v (List.mem_of_getElem? hv)
    refine ⟨t, _, rfl, .inl (.inl upd_same), rfl, ?_⟩
    refine ⟨_, _, rfl, _, _, rfl, rfl, .int v, rfl, v, rfl, v0, v1, _, rfl, iteF ?_⟩
    exact ⟨⟨_, _, rfl⟩, sm.trans (Kp.new (ps := []) nt).same⟩

theorem ok_clen (T : Tx K mg) : FnOk P w K mg base CX0 1 T.f_clen T.fd_clen P_clen (spLen) := by
  have sz : sizeLine = 16777216 := sizeLine_eq
  refine T.D_clen.F.ok sc_clen (fun vs H Q E h => ?_) (fun cdv A outer s H vs Q E hr h => ?_)
  · obtain ⟨g, rfl, _⟩ := h
    rfl
  · obtain ⟨g, rfl, hg, q⟩ := h
    refine ⟨_, (pss_one (ps_if (pt_cmpR op_gt (pv 0) (pe_glob (v := .int 4000) (by rfl) T.c_LONGEST ⟨_, rfl⟩) (nomark _)) (pss_one ps_never) pss_nil)), ?_⟩
    refine ⟨.int g, rfl, _, _, rfl, rfl, _, rfl, ite2 (fun e => ?_) (fun _ => q)⟩
    have e1 : (4000 : Int) < g := of_decide_eq_true e
    omega

theorem ok_cgoal (T : Tx K mg) : FnOk P w K mg base CX0 2 T.f_cgoal T.fd_cgoal P_cgoal (spGoalC) := by
  have G_clen := ok_clen (P := P) (w := w) (base := base) T
  have sz : sizeLine = 16777216 := sizeLine_eq
  refine T.D_cgoal.F.ok sc_cgoal (fun vs H Q E h => ?_) (fun cdv A outer s H vs Q E hr h => ?_)
  · obtain ⟨g, rfl, _⟩ := h
    rfl
  · obtain ⟨g, rfl, g0, hg, q⟩ := h
    refine ⟨_, (pss_cons (ps_if (pt_cmpR op_lt (pv 0) pe_int (nomark _)) (pss_one ps_never) pss_nil)
      (pss_one (ps_expr (pe_call G_clen (hr.mono (by decide)) (by rfl) T.D_clen.g T.D_clen.F.kp T.bb_clen .nil pass0 (pa_cons (pv 0) pa_nil))))), ?_⟩
    refine ⟨.int g, rfl, _, _, rfl, rfl, _, rfl, ite2 (fun e => ?_) (fun _ => ⟨.int g, rfl, g, rfl, hg, q⟩)⟩
    have e1 : g < 0 := of_decide_eq_true e
    omega

theorem ok_sgoal (T : Tx K mg) : FnOk P w K mg base CX0 3 T.f_sgoal T.fd_sgoal P_sgoal (spSeekGoal) := by
  have G_cgoal := ok_cgoal (P := P) (w := w) (base := base) T
  have sz : sizeLine = 16777216 := sizeLine_eq
  refine T.D_sgoal.F.ok sc_sgoal (fun vs H Q E h => ?_) (fun cdv A outer s H vs Q E hr h => ?_)
  · obtain ⟨pl, st, c, n, g, rfl, _⟩ := h
    rfl
  · obtain ⟨pl, st, c, n, g, rfl, hst, hg, q⟩ := h
    refine ⟨_, (C8.pss_cut (ps_if (pt_cmpR op_eq (pv 1) pe_str (nomark _)) (pss_one (ps_set (i := 4) sc_sgoal.nd rfl (.inl rfl) (pv 0))) (pss_one (ps_if (pt_cmpR op_eq (pv 1) pe_str (nomark _)) (pss_one (ps_set (i := 4) sc_sgoal.nd rfl (.inl rfl) (pe_op op_add (pv 2) (pv 0)))) (pss_one (ps_if (pt_cmpR op_eq (pv 1) pe_str (nomark _)) (pss_one (ps_set (i := 4) sc_sgoal.nd rfl (.inl rfl) (pe_op op_add (pv 3) (pv 0)))) (pss_one ps_never))))))
      (pss_cons (ps_expr (pe_call G_cgoal (hr.mono (by decide)) (by rfl) T.D_cgoal.g T.D_cgoal.F.kp T.bb_cgoal .nil pass0 (pa_cons (pv 4) pa_nil)))
      (pss_one (ps_ret (pv 4))))), ?_⟩
    refine ⟨fun σ' H' => σ' = [some (V.int pl), some (V.str st), some (V.int c), some (V.int n), some (V.int g)] ∧ H' = H, ?_, fun σ' H' hm => ?_⟩
    · rcases hst with ⟨rfl, eg⟩ | ⟨rfl, eg⟩ | ⟨rfl, eg⟩
      · refine ⟨_, rfl, rfl, _, rfl, ite2 (fun _ => ⟨.int pl, rfl, ?_, rfl⟩) (fun e => absurd (decide_eq_true rfl) e)⟩
        rw [eg]; rfl
      · refine ⟨_, rfl, rfl, _, rfl, ite2 (fun e => absurd (of_decide_eq_true e) (by decide +kernel)) (fun _ => ?_)⟩
        refine ⟨_, rfl, rfl, _, rfl, ite2 (fun _ => ?_) (fun e => absurd (decide_eq_true rfl) e)⟩
        refine ⟨.int c, rfl, .int pl, rfl, _, _, rfl, rfl, ?_, rfl⟩
        rw [eg]; rfl
      · refine ⟨_, rfl, rfl, _, rfl, ite2 (fun e => absurd (of_decide_eq_true e) (by decide +kernel)) (fun _ => ?_)⟩
        refine ⟨_, rfl, rfl, _, rfl, ite2 (fun e => absurd (of_decide_eq_true e) (by decide +kernel)) (fun _ => ?_)⟩
        refine ⟨_, rfl, rfl, _, rfl, ite2 (fun _ => ?_) (fun e => absurd (decide_eq_true rfl) e)⟩
        refine ⟨.int n, rfl, .int pl, rfl, _, _, rfl, rfl, ?_, rfl⟩
        rw [eg]; rfl
    · obtain ⟨rfl, rfl⟩ := hm
      exact ⟨.int g, rfl, g, rfl, by omega, by omega, .int g, rfl, q⟩

theorem ok_init (T : Tx K mg) : FnOk P w K mg base CX0 1 T.f_init T.fd_init P_init (spPInit K T.C_Plain (PlainAt T.C_Plain)) := by
  have sz : sizeLine = 16777216 := sizeLine_eq
  refine T.D_init.F.ok sc_init (fun vs H Q E h => ?_) (fun cdv A outer s H vs Q E hr h => ?_)
  · obtain ⟨p, a, dx, r, c, rfl, _⟩ := h
    rfl
  · obtain ⟨p, a, dx, r, c, rfl, hp, hd, hA, pa, lr, lc, q⟩ := h
    refine ⟨_, (pss_cons (ps_fld (pv 0) (pe_callTy call_list_of (by rfl) T.m_list (by decide +kernel) (pa_cons (pv 1) pa_nil)) rfl)
      (pss_one (ps_fld (pv 0) (pv 2) rfl))), ?_⟩
    refine ⟨.ref a, rfl, a, _, rfl, .inl hA, fun l nl => ?_⟩
    have pl : p ≠ l := ne_of_none hp nl
    refine ⟨.ref p, rfl, p, T.C_Plain, dx, [], rfl, by rw [upd_ne pl]; exact hp, T.cl_Plain, T.n_Plain_cells, by show 0 < 1000; decide, ?_⟩
    refine ⟨.int c, rfl, .ref p, rfl, p, T.C_Plain, dx, _, rfl, upd_same, T.cl_Plain, T.n_Plain_cursor, by show 1 < 1000; decide, ?_⟩
    rw [pfs_new, upd_upd]
    refine q _ (fun b => b = p ∨ b = l) ⟨dx, l, upd_same, by rw [upd_ne pl.symm]; exact upd_same, fun _ => Iff.rfl⟩ ⟨fun b o nf e => ?_, fun b z => ?_⟩
    · rw [upd_ne (fun z => nf (.inl z)), upd_ne (ne_of_none e nl)]; exact e
    · rcases z with rfl | rfl
      · exact .inl (.inl rfl)
      · exact .inr nl

theorem ok_tell (T : Tx K mg) : FnOk P w K mg base CX0 1 T.f_tell T.fd_tell P_tell (spPTell (PlainAt T.C_Plain)) := by
  have sz : sizeLine = 16777216 := sizeLine_eq
  refine T.D_tell.F.ok sc_tell (fun vs H Q E h => ?_) (fun cdv A outer s H vs Q E hr h => ?_)
  · obtain ⟨p, F, r, c, rfl, _⟩ := h
    rfl
  · obtain ⟨p, F, r, c, rfl, ⟨dx, l, hp, hl, hF⟩, q⟩ := h
    refine ⟨_, (pss_one (ps_ret (pe_fld (pv 0) rfl))), ?_⟩
    exact ⟨.ref p, rfl, p, T.C_Plain, dx, _, _, rfl, hp, T.cl_Plain, T.n_Plain_cursor, pfs_cursor l c, q⟩

theorem ok_size (T : Tx K mg) : FnOk P w K mg base CX0 1 T.f_size T.fd_size P_size (spPSize (PlainAt T.C_Plain)) := by
  have sz : sizeLine = 16777216 := sizeLine_eq
  refine T.D_size.F.ok sc_size (fun vs H Q E h => ?_) (fun cdv A outer s H vs Q E hr h => ?_)
  · obtain ⟨p, F, r, c, rfl, _⟩ := h
    rfl
  · obtain ⟨p, F, r, c, rfl, ⟨dx, l, hp, hl, hF⟩, q⟩ := h
    refine ⟨_, (pss_one (ps_ret (pe_callB call_len_seq (by rfl) T.m_len PySem.boot_len (pa_cons (pe_fld (pv 0) rfl) pa_nil)))), ?_⟩
    refine ⟨.ref p, rfl, p, T.C_Plain, dx, _, _, rfl, hp, T.cl_Plain, T.n_Plain_cells, pfs_cells l c, l, _, rfl, .inl (sq_at hl), ?_⟩
    rw [List.length_map]
    exact q

theorem ok_row (T : Tx K mg) : FnOk P w K mg base CX0 1 T.f_row T.fd_row P_row (spPRow (PlainAt T.C_Plain)) := by
  have sz : sizeLine = 16777216 := sizeLine_eq
  refine T.D_row.F.ok sc_row (fun vs H Q E h => ?_) (fun cdv A outer s H vs Q E hr h => ?_)
  · obtain ⟨p, F, r, c, rfl, _⟩ := h
    rfl
  · obtain ⟨p, F, r, c, rfl, ⟨dx, l, hp, hl, hF⟩, q⟩ := h
    refine ⟨_, (pss_one (ps_ret (pe_callTy call_list_of (by rfl) T.m_list (by decide +kernel) (pa_cons (pe_fld (pv 0) rfl) pa_nil)))), ?_⟩
    exact ⟨.ref p, rfl, p, T.C_Plain, dx, _, _, rfl, hp, T.cl_Plain, T.n_Plain_cells, pfs_cells l c, l, _, rfl, .inl (sq_at hl), fun m nm => q _ m nm upd_same (Kp.new (ps := []) nm).same⟩

theorem ok_seek (T : Tx K mg) : FnOk P w K mg base CX0 4 T.f_seek T.fd_seek P_seek (spPSeek (PlainAt T.C_Plain)) := by
  have G_sgoal := ok_sgoal (P := P) (w := w) (base := base) T
  have sz : sizeLine = 16777216 := sizeLine_eq
  refine T.D_seek.F.ok sc_seek (fun vs H Q E h => ?_) (fun cdv A outer s H vs Q E hr h => ?_)
  · obtain ⟨p, F, r, c, g, pl, st, rfl, _⟩ := h
    rfl
  · obtain ⟨p, F, r, c, g, pl, st, rfl, ⟨dx, l, hp, hl, hF⟩, hst, hg, q⟩ := h
    refine ⟨_, (pss_cons (ps_fld (pv 0) (pe_call G_sgoal (hr.mono (by decide)) (by rfl) T.D_sgoal.g T.D_sgoal.F.kp T.bb_sgoal .nil pass0 (pa_cons (pv 1) (pa_cons (pv 2) (pa_cons (pe_fld (pv 0) rfl) (pa_cons (pe_callB call_len_seq (by rfl) T.m_len PySem.boot_len (pa_cons (pe_fld (pv 0) rfl) pa_nil)) pa_nil))))) rfl)
      (pss_one (ps_ret (pe_fld (pv 0) rfl)))), ?_⟩
    refine ⟨.int pl, rfl, .str st, rfl, .ref p, rfl, p, T.C_Plain, dx, _, _, rfl, hp, T.cl_Plain, T.n_Plain_cursor, pfs_cursor l c, .ref p, rfl, p, T.C_Plain, dx, _, _, rfl, hp, T.cl_Plain, T.n_Plain_cells, pfs_cells l c, l, _, rfl, .inl (sq_at hl), ?_⟩
    rw [List.length_map]
    refine ⟨pl, st, c, r.length, g, rfl, hst, hg, ?_⟩
    refine ⟨.ref p, rfl, p, T.C_Plain, dx, _, rfl, hp, T.cl_Plain, T.n_Plain_cursor, pfs_few l c, ?_⟩
    have pl' : l ≠ p := ne_of hl hp (by intro z; cases z)
    rw [pfs_put_c]
    exact ⟨.ref p, rfl, p, T.C_Plain, dx, _, _, rfl, upd_same, T.cl_Plain, T.n_Plain_cursor, pfs_cursor l g, q _ _ ⟨dx, l, upd_same, by rw [upd_ne pl']; exact hl, fun _ => Iff.rfl⟩ (own_step hF (Kp.at (by simp)) (.inl rfl))⟩

theorem ok_pcut (T : Tx K mg) : FnOk P w K mg base CX0 3 T.f_pcut T.fd_pcut P_pcut (spPCut (PlainAt T.C_Plain)) := by
  have G_cgoal := ok_cgoal (P := P) (w := w) (base := base) T
  have sz : sizeLine = 16777216 := sizeLine_eq
  refine T.D_pcut.F.ok sc_pcut (fun vs H Q E h => ?_) (fun cdv A outer s H vs Q E hr h => ?_)
  · obtain ⟨p, F, r, c, g, v, rfl, _⟩ := h
    rfl
  · obtain ⟨p, F, r, c, g, v, rfl, ⟨dx, l, hp, hl, hF⟩, hv, hg, q⟩ := h
    refine ⟨_, (pss_cons (ps_set (i := 2) sc_pcut.nd rfl (.inl rfl) (pe_ifExp (pt_cmpR op_isN (pv 1) pe_non (nomark _)) (pe_fld (pv 0) rfl) (pv 1)))
      (pss_cons (ps_expr (pe_call G_cgoal (hr.mono (by decide)) (by rfl) T.D_cgoal.g T.D_cgoal.F.kp T.bb_cgoal .nil pass0 (pa_cons (pv 2) pa_nil)))
      (pss_one (Sip.ps_delS (pe_fld (pv 0) rfl) (po_some (pv 2)) po_none)))), ?_⟩
    have pl' : l ≠ p := ne_of hl hp (by intro z; cases z)
    have go : ∀ σ', σ' = [some (V.ref p), some v, some (V.int g)] → _ := fun _ _ => trivial
    rcases hv with ⟨rfl, rfl⟩ | rfl
    · refine ⟨.non, rfl, rfl, _, rfl, ite2 (fun _ => ?_) (fun e => absurd (decide_eq_true rfl) e)⟩
      refine ⟨.ref p, rfl, p, T.C_Plain, dx, _, _, rfl, hp, T.cl_Plain, T.n_Plain_cursor, pfs_cursor l g, ?_⟩
      refine ⟨.int g, rfl, g, rfl, by omega, by omega, ?_⟩
      refine ⟨.ref p, rfl, p, T.C_Plain, dx, _, _, rfl, hp, T.cl_Plain, T.n_Plain_cells, pfs_cells l g, .int g, rfl, _, rfl, l, _, rfl, hl, ?_⟩
      rw [del_from]
      exact q _ _ ⟨dx, l, by rw [upd_ne pl'.symm]; exact hp, upd_same, fun _ => Iff.rfl⟩ (own_step hF (Kp.at (by simp)) (.inl rfl))
    · refine ⟨.int g, rfl, rfl, _, rfl, ite2 (fun e => absurd (of_decide_eq_true e) (fun y => by cases y)) (fun _ => ?_)⟩
      refine ⟨.int g, rfl, ?_⟩
      refine ⟨.int g, rfl, g, rfl, by omega, by omega, ?_⟩
      refine ⟨.ref p, rfl, p, T.C_Plain, dx, _, _, rfl, hp, T.cl_Plain, T.n_Plain_cells, pfs_cells l c, .int g, rfl, _, rfl, l, _, rfl, hl, ?_⟩
      rw [del_from]
      exact q _ _ ⟨dx, l, by rw [upd_ne pl'.symm]; exact hp, upd_same, fun _ => Iff.rfl⟩ (own_step hF (Kp.at (by simp)) (.inl rfl))

theorem ok_write (T : Tx K mg) : FnOk P w K mg base CX0 4 T.f_write T.fd_write P_write (spPWrite (PlainAt T.C_Plain)) := by
  have G_cbytes := ok_cbytes (P := P) (w := w) (base := base) T
  have G_laid := ok_laid (P := P) (w := w) (base := base) T
  have G_clen := ok_clen (P := P) (w := w) (base := base) T
  have sz : sizeLine = 16777216 := sizeLine_eq
  refine T.D_write.F.ok sc_write (fun vs H Q E h => ?_) (fun cdv A outer s H vs Q E hr h => ?_)
  · obtain ⟨p, b, F, r, c, d, rfl, _⟩ := h
    rfl
  · obtain ⟨p, b, F, r, c, d, rfl, ⟨dx, l, hp, hl, hF⟩, nb, hb, bd, lr, lc, ld, ll, q⟩ := h
    refine ⟨_, (pss_cons (ps_expr (pe_call G_cbytes (hr.mono (by decide)) (by rfl) T.D_cbytes.g T.D_cbytes.F.kp T.bb_cbytes .nil pass0 (pa_cons (pv 1) pa_nil)))
      (C8.pss_cut (ps_if (pt_truth (pv 1) (by intro _; rfl)) (pss_one (ps_expr (pe_call G_clen (hr.mono (by decide)) (by rfl) T.D_clen.g T.D_clen.F.kp T.bb_clen .nil pass0 (pa_cons (pe_callB (call_max2 rfl) (by rfl) T.m_max (by decide +kernel) (pa_cons (pe_callB call_len_seq (by rfl) T.m_len PySem.boot_len (pa_cons (pe_fld (pv 0) rfl) pa_nil)) (pa_cons (pe_op op_add (pe_fld (pv 0) rfl) (pe_callB call_len_seq (by rfl) T.m_len PySem.boot_len (pa_cons (pv 1) pa_nil))) pa_nil))) pa_nil)))) pss_nil)
      (pss_cons (ps_fld (pv 0) (pe_call G_laid (hr.mono (by decide)) (by rfl) T.D_laid.g T.D_laid.F.kp T.bb_laid .nil pass0 (pa_cons (pe_fld (pv 0) rfl) (pa_cons (pe_fld (pv 0) rfl) (pa_cons (pv 1) pa_nil)))) rfl)
      (pss_cons (ps_fldaug (pv 0) (pe_callB call_len_seq (by rfl) T.m_len PySem.boot_len (pa_cons (pv 1) pa_nil)) in_add)
      (pss_one (ps_ret (pe_callB call_len_seq (by rfl) T.m_len PySem.boot_len (pa_cons (pv 1) pa_nil)))))))), ?_⟩
    refine ⟨.ref b, rfl, b, d, rfl, hb, bd, fun H1 s1 => ?_⟩
    have hp1 := s1 _ _ hp
    have hl1 := s1 _ _ hl
    have hb1 := s1 _ _ hb
    refine ⟨fun σ' H' => σ' = [some (V.ref p), some (V.ref b)] ∧ H' = H1, ?_, fun σ' H' hm => ?_⟩
    · refine ⟨.ref b, rfl, _, .inl ⟨_, sq_at hb1, rfl⟩, ite2 (fun e => ?_) (fun e => ⟨rfl, rfl⟩)⟩
      have d0 : d ≠ [] := fun z => by subst z; cases e
      rw [laidF_length d0] at ll
      refine ⟨.ref p, rfl, p, T.C_Plain, dx, _, _, rfl, hp1, T.cl_Plain, T.n_Plain_cells, pfs_cells l c, l, _, rfl, .inl (sq_at hl1), .ref p, rfl, p, T.C_Plain, dx, _, _, rfl, hp1, T.cl_Plain, T.n_Plain_cursor, pfs_cursor l c, .ref b, rfl, b, _, rfl, .inl (sq_at hb1), _, _, rfl, rfl, _, _, rfl, _, rfl, ?_, rfl, rfl⟩
      rw [List.length_map, List.length_map]
      split <;> omega
    · obtain ⟨rfl, rfl⟩ := hm
      refine ⟨.ref p, rfl, p, T.C_Plain, dx, _, _, rfl, hp1, T.cl_Plain, T.n_Plain_cells, pfs_cells l c, .ref p, rfl, p, T.C_Plain, dx, _, _, rfl, hp1, T.cl_Plain, T.n_Plain_cursor, pfs_cursor l c, .ref b, rfl, l, b, r, c, d, rfl, sq_at hl1, hb1, by omega, by omega, by omega, fun H2 t nt et s2 => ?_⟩
      have hp2 := s2 _ _ hp1
      have pt : p ≠ t := ne_of_none hp1 nt
      have bp : b ≠ p := ne_of hb hp (by intro z; cases z)
      refine ⟨.ref p, rfl, p, T.C_Plain, dx, _, rfl, hp2, T.cl_Plain, T.n_Plain_cells, pfs_few l c, ?_⟩
      rw [pfs_put_h]
      refine ⟨.ref p, rfl, p, T.C_Plain, dx, _, _, rfl, upd_same, T.cl_Plain, T.n_Plain_cursor, pfs_cursor t c, .ref b, rfl, b, _, rfl, .inl (sq_at (by rw [upd_ne bp]; exact s2 _ _ hb1)), _, _, rfl, rfl, dx, _, upd_same, pfs_few t c, ?_⟩
      have e2 : (V.int ((c : Int) + ((d.map V.int).length : Int))) = V.int ((c + d.length : Nat) : Int) := by rw [List.length_map]; congr 1
      rw [e2, pfs_put_c, upd_upd]
      refine ⟨.ref b, rfl, b, _, rfl, .inl (sq_at (by rw [upd_ne bp]; exact s2 _ _ hb1)), ?_⟩
      rw [List.length_map]
      exact q _ _ ⟨dx, t, upd_same, by rw [upd_ne pt.symm]; exact et, fun _ => Iff.rfl⟩ (own_step hF ((Kp.of (s1.trans s2)).trans (Kp.at (by simp))) (.inr (s1.free nt)))

theorem ok_ccount (T : Tx K mg) : FnOk P w K mg base CX0 1 T.f_ccount T.fd_ccount P_ccount (spCount) := by
  have sz : sizeLine = 16777216 := sizeLine_eq
  refine T.D_ccount.F.ok sc_ccount (fun vs H Q E h => ?_) (fun cdv A outer s H vs Q E hr h => ?_)
  · obtain ⟨k, rfl, _⟩ := h
    rfl
  · obtain ⟨k, rfl, q⟩ := h
    refine ⟨_, (pss_one (ps_if (PW.pt (pw_and (pt_cmpR op_notN (pv 0) pe_non (nomark _)) (pw_and1 (pt_cmpR op_lt (pv 0) pe_int (nomark _))))) (pss_one ps_never) pss_nil)), ?_⟩
    cases k with
    | none => exact ⟨.non, rfl, rfl, _, rfl, ite2 (fun e => by cases e) (fun _ => q)⟩
    | some n =>
      refine ⟨.int n, rfl, rfl, _, rfl, ite2 (fun _ => ?_) (fun e => ?_)⟩
      · refine ⟨.int n, rfl, _, _, rfl, rfl, _, rfl, ite2 (fun e => ?_) (fun _ => q)⟩
        have e1 : (n : Int) < 0 := of_decide_eq_true e
        omega
      · exact q

theorem ok_ahead (T : Tx K mg) : FnOk P w K mg base CX0 1 T.f_ahead T.fd_ahead P_ahead (spAhead (PlainAt T.C_Plain)) := by
  have sz : sizeLine = 16777216 := sizeLine_eq
  refine T.D_ahead.F.ok sc_ahead (fun vs H Q E h => ?_) (fun cdv A outer s H vs Q E hr h => ?_)
  · obtain ⟨p, F, r, c, rfl, _⟩ := h
    rfl
  · obtain ⟨p, F, r, c, rfl, ⟨dx, l, hp, hl, hF⟩, q⟩ := h
    refine ⟨_, (pss_one (ps_ret (pe_slice sl_list (pe_fld (pv 0) rfl) (po_some (pe_fld (pv 0) rfl)) po_none))), ?_⟩
    refine ⟨.ref p, rfl, p, T.C_Plain, dx, _, _, rfl, hp, T.cl_Plain, T.n_Plain_cells, pfs_cells l c, .ref p, rfl, p, T.C_Plain, dx, _, _, rfl, hp, T.cl_Plain, T.n_Plain_cursor, pfs_cursor l c, _, rfl, l, _, rfl, sq_at hl, fun m nm => ?_⟩
    rw [drop_cut]
    exact q _ m nm upd_same (Kp.new (ps := []) nm).same

theorem ok_passed (T : Tx K mg) : FnOk P w K mg base CX0 1 T.f_passed T.fd_passed P_passed (spPassed (PlainAt T.C_Plain)) := by
  have sz : sizeLine = 16777216 := sizeLine_eq
  refine T.D_passed.F.ok sc_passed (fun vs H Q E h => ?_) (fun cdv A outer s H vs Q E hr h => ?_)
  · obtain ⟨p, t, F, r, xs, c, rfl, _⟩ := h
    rfl
  · obtain ⟨p, t, F, r, xs, c, rfl, ⟨dx, l, hp, hl, hF⟩, nt, et, q⟩ := h
    refine ⟨_, (pss_cons (ps_fldaug (pv 0) (pe_callB call_len_seq (by rfl) T.m_len PySem.boot_len (pa_cons (pv 1) pa_nil)) in_add)
      (pss_one (ps_ret (pv 1)))), ?_⟩
    have pt : p ≠ t := fun z => nt ((hF t).mpr (.inl z.symm))
    have lt : l ≠ t := fun z => nt ((hF t).mpr (.inr z.symm))
    have pl' : l ≠ p := ne_of hl hp (by intro z; cases z)
    refine ⟨.ref p, rfl, p, T.C_Plain, dx, _, _, rfl, hp, T.cl_Plain, T.n_Plain_cursor, pfs_cursor l c, .ref t, rfl, t, _, rfl, .inl (sq_at et), _, _, rfl, rfl, dx, _, hp, pfs_few l c, ?_⟩
    have e2 : (V.int ((c : Int) + ((xs.map V.int).length : Int))) = V.int ((c + xs.length : Nat) : Int) := by rw [List.length_map]; congr 1
    rw [e2, pfs_put_c]
    exact ⟨.ref t, rfl, q _ _ ⟨dx, l, upd_same, by rw [upd_ne pl']; exact hl, fun _ => Iff.rfl⟩ (fun z => z.elim (fun z => pt z.symm) (fun z => lt z.symm)) (by rw [upd_ne pt.symm]; exact et) (own_step hF (Kp.at (by simp)) (.inl rfl))⟩

theorem ok_peek (T : Tx K mg) : FnOk P w K mg base CX0 2 T.f_peek T.fd_peek P_peek (spPPeek (PlainAt T.C_Plain)) := by
  have G_ccount := ok_ccount (P := P) (w := w) (base := base) T
  have G_ahead := ok_ahead (P := P) (w := w) (base := base) T
  have sz : sizeLine = 16777216 := sizeLine_eq
  refine T.D_peek.F.ok sc_peek (fun vs H Q E h => ?_) (fun cdv A outer s H vs Q E hr h => ?_)
  · obtain ⟨p, F, r, c, k, rfl, _⟩ := h
    rfl
  · obtain ⟨p, F, r, c, k, rfl, hPA, q⟩ := h
    refine ⟨_, (pss_cons (ps_expr (pe_call G_ccount (hr.mono (by decide)) (by rfl) T.D_ccount.g T.D_ccount.F.kp T.bb_ccount .nil pass0 (pa_cons (pv 1) pa_nil)))
      (pss_one (ps_ret (pe_slice sl_list (pe_meth0 (pv 0) T.cl_Plain T.D_ahead.m G_ahead (hr.mono (by decide)) T.bb_ahead .nil pass0) po_none (Sip.po_opt (pv 1)))))), ?_⟩
    have hPA' := hPA
    obtain ⟨dx, l, hp, hl, hF⟩ := hPA'
    refine ⟨cntV k, rfl, k, rfl, .ref p, rfl, p, dx, _, rfl, hp, pfs_no l c "ahead" (by decide +kernel), p, F, r, c, rfl, hPA, fun H2 t nt et s2 => ?_⟩
    refine ⟨cntV k, rfl, cntI k, cntV_eq k, t, _, rfl, sq_at et, fun m nm => ?_⟩
    rw [cut_O]
    exact q _ m (s2.free nm) upd_same (s2.trans (Kp.new (ps := []) nm).same)

theorem ok_read (T : Tx K mg) : FnOk P w K mg base CX0 3 T.f_read T.fd_read P_read (spPRead (PlainAt T.C_Plain)) := by
  have G_passed := ok_passed (P := P) (w := w) (base := base) T
  have G_peek := ok_peek (P := P) (w := w) (base := base) T
  have sz : sizeLine = 16777216 := sizeLine_eq
  refine T.D_read.F.ok sc_read (fun vs H Q E h => ?_) (fun cdv A outer s H vs Q E hr h => ?_)
  · obtain ⟨p, F, r, c, k, rfl, _⟩ := h
    rfl
  · obtain ⟨p, F, r, c, k, rfl, hPA, q⟩ := h
    refine ⟨_, (pss_one (ps_ret (pe_meth (pv 0) T.cl_Plain T.D_passed.m G_passed (hr.mono (by decide)) T.bb_passed .nil pass0 (pa_cons (pe_meth (pv 0) T.cl_Plain T.D_peek.m G_peek (hr.mono (by decide)) T.bb_peek .nil pass0 (pa_cons (pv 1) pa_nil)) pa_nil)))), ?_⟩
    have hPA' := hPA
    obtain ⟨dx, l, hp, hl, hF⟩ := hPA'
    refine ⟨.ref p, rfl, p, dx, _, rfl, hp, pfs_no l c "passed" (by decide +kernel), .ref p, rfl, p, dx, _, rfl, hp, pfs_no l c "peek" (by decide +kernel), cntV k, rfl, p, F, r, c, k, rfl, hPA, fun H2 t nt et s2 => ?_⟩
    have hPA2 := (isPlain T.C_Plain).same hPA s2
    exact ⟨p, t, F, r, _, c, rfl, hPA2, (isPlain T.C_Plain).new hPA nt, et, fun H3 F3 hPA3 nt3 et3 st3 => q _ F3 t hPA3 nt nt3 et3 ((Step.of s2).trans st3)⟩

theorem ok_rsome (T : Tx K mg) : FnOk P w K mg base CX0 3 T.f_rsome T.fd_rsome P_rsome (spPRead (PlainAt T.C_Plain)) := by
  have G_passed := ok_passed (P := P) (w := w) (base := base) T
  have G_peek := ok_peek (P := P) (w := w) (base := base) T
  have sz : sizeLine = 16777216 := sizeLine_eq
  refine T.D_rsome.F.ok sc_rsome (fun vs H Q E h => ?_) (fun cdv A outer s H vs Q E hr h => ?_)
  · obtain ⟨p, F, r, c, k, rfl, _⟩ := h
    rfl
  · obtain ⟨p, F, r, c, k, rfl, hPA, q⟩ := h
    refine ⟨_, (pss_one (ps_ret (pe_meth (pv 0) T.cl_Plain T.D_passed.m G_passed (hr.mono (by decide)) T.bb_passed .nil pass0 (pa_cons (pe_meth (pv 0) T.cl_Plain T.D_peek.m G_peek (hr.mono (by decide)) T.bb_peek .nil pass0 (pa_cons (pv 1) pa_nil)) pa_nil)))), ?_⟩
    have hPA' := hPA
    obtain ⟨dx, l, hp, hl, hF⟩ := hPA'
    refine ⟨.ref p, rfl, p, dx, _, rfl, hp, pfs_no l c "passed" (by decide +kernel), .ref p, rfl, p, dx, _, rfl, hp, pfs_no l c "peek" (by decide +kernel), cntV k, rfl, p, F, r, c, k, rfl, hPA, fun H2 t nt et s2 => ?_⟩
    have hPA2 := (isPlain T.C_Plain).same hPA s2
    exact ⟨p, t, F, r, _, c, rfl, hPA2, (isPlain T.C_Plain).new hPA nt, et, fun H3 F3 hPA3 nt3 et3 st3 => q _ F3 t hPA3 nt nt3 et3 ((Step.of s2).trans st3)⟩

theorem ok_fline (T : Tx K mg) : FnOk P w K mg base CX0 1 T.f_fline T.fd_fline P_fline (spFLine K) := by
  have sz : sizeLine = 16777216 := sizeLine_eq
  refine T.D_fline.F.ok sc_fline (fun vs H Q E h => ?_) (fun cdv A outer s H vs Q E hr h => ?_)
  · obtain ⟨a, xs, k, rfl, _⟩ := h
    rfl
  · obtain ⟨a, xs, k, rfl, hA, lx, q⟩ := h
    refine ⟨_, (pss_cons (ps_set (i := 2) sc_fline.nd rfl (.inl rfl) (pe_slice sl_list (pv 0) po_none (Sip.po_opt (pv 1))))
      (pss_cons (ps_if (pt_cmpR op_in_seq (pe_glob (v := .int 10) (by rfl) T.c_LINE_FEED ⟨_, rfl⟩) (pv 2) rfl) (pss_one (ps_ret (pe_slice sl_list (pv 2) po_none (po_some (pe_op op_add (pe_bm PySem.F.plainAttrs_list PySem.F.slot_list_index PySem.F.type_list_index mt_index (pv 2) (pa_cons (pe_glob (v := .int 10) (by rfl) T.c_LINE_FEED ⟨_, rfl⟩) pa_nil)) pe_int))))) pss_nil)
      (pss_one (ps_ret (pv 2))))), ?_⟩
    refine ⟨.ref a, rfl, cntV k, rfl, cntI k, cntV_eq k, a, _, rfl, hA, fun m nm => ?_⟩
    rw [cut_O]
    have s1 : Same H (upd H m (.lst ((takeO k xs).map V.int))) := (Kp.new (ps := []) nm).same
    have lz : (takeO k xs).length ≤ 10000 := Nat.le_trans (takeO_len k xs) lx
    refine ⟨.ref m, rfl, m, _, rfl, .inl sq_new, rfl, flat_ints _, _, rfl, ?_⟩
    rw [show (if false = true then !inV (V.int 10) ((takeO k xs).map V.int) else inV (V.int 10) ((takeO k xs).map V.int)) = decide ((10 : Int) ∈ takeO k xs) from inV_ten _ _]
    refine ite2 (fun e => ?_) (fun e => ?_)
    · have h10 := of_decide_eq_true e
      obtain ⟨i1, i2⟩ := idx_facts h10
      refine ⟨.ref m, rfl, .ref m, rfl, .inl ⟨rfl, _, sq_new⟩, m, _, .int 10, (takeO k xs).idxOf 10, .int 10, rfl, rfl, sq_new, rfl, flat_ints _, i1, by decide +kernel, i2, ?_⟩
      refine ⟨_, _, rfl, rfl, _, rfl, m, _, rfl, sq_new, fun z nz => ?_⟩
      rw [show (((takeO k xs).idxOf 10 : Nat) : Int) + 1 = (((takeO k xs).idxOf 10 + 1 : Nat) : Int) by omega, take_cut]
      exact q _ z (s1.free nz) (by rw [upd_same, ← lineF_O]; rfl) (s1.trans (Kp.new (ps := []) nz).same)
    · have h10 : (10 : Int) ∉ takeO k xs := fun z => e (decide_eq_true z)
      exact ⟨.ref m, rfl, q _ m nm (by rw [upd_same, ← lineF_O, lineF_no h10]) s1⟩

theorem ok_rline (T : Tx K mg) : FnOk P w K mg base CX0 2 T.f_rline T.fd_rline P_rline (spPLine (PlainAt T.C_Plain)) := by
  have G_ccount := ok_ccount (P := P) (w := w) (base := base) T
  have G_passed := ok_passed (P := P) (w := w) (base := base) T
  have G_fline := ok_fline (P := P) (w := w) (base := base) T
  have G_ahead := ok_ahead (P := P) (w := w) (base := base) T
  have sz : sizeLine = 16777216 := sizeLine_eq
  refine T.D_rline.F.ok sc_rline (fun vs H Q E h => ?_) (fun cdv A outer s H vs Q E hr h => ?_)
  · obtain ⟨p, F, r, c, k, rfl, _⟩ := h
    rfl
  · obtain ⟨p, F, r, c, k, rfl, hPA, lr, q⟩ := h
    refine ⟨_, (pss_cons (ps_expr (pe_call G_ccount (hr.mono (by decide)) (by rfl) T.D_ccount.g T.D_ccount.F.kp T.bb_ccount .nil pass0 (pa_cons (pv 1) pa_nil)))
      (pss_one (ps_ret (pe_meth (pv 0) T.cl_Plain T.D_passed.m G_passed (hr.mono (by decide)) T.bb_passed .nil pass0 (pa_cons (pe_call G_fline (hr.mono (by decide)) (by rfl) T.D_fline.g T.D_fline.F.kp T.bb_fline .nil pass0 (pa_cons (pe_meth0 (pv 0) T.cl_Plain T.D_ahead.m G_ahead (hr.mono (by decide)) T.bb_ahead .nil pass0) (pa_cons (pv 1) pa_nil))) pa_nil))))), ?_⟩
    have hPA' := hPA
    obtain ⟨dx, l, hp, hl, hF⟩ := hPA'
    refine ⟨cntV k, rfl, k, rfl, .ref p, rfl, p, dx, _, rfl, hp, pfs_no l c "passed" (by decide +kernel), .ref p, rfl, p, dx, _, rfl, hp, pfs_no l c "ahead" (by decide +kernel), p, F, r, c, rfl, hPA, fun H1 t nt et s1 => ?_⟩
    refine ⟨cntV k, rfl, t, r.drop c, k, rfl, sq_at et, by rw [List.length_drop]; omega, fun H2 z nz ez s2 => ?_⟩
    have s12 := s1.trans s2
    have nz' := s1.free nz
    have hPA2 := (isPlain T.C_Plain).same hPA s12
    exact ⟨p, z, F, r, _, c, rfl, hPA2, (isPlain T.C_Plain).new hPA nz', ez, fun H3 F3 hPA3 nt3 et3 st3 => q _ F3 z hPA3 nz' nt3 et3 ((Step.of s12).trans st3)⟩

theorem ok_iBadPlace (T : Tx K mg) : FnOk P w K mg base CX0 1 T.f_iBadPlace T.fd_iBadPlace P_iBadPlace (spErr1 T.C_BadPlace "goal") := by
  have sz : sizeLine = 16777216 := sizeLine_eq
  refine T.D_iBadPlace.ok sc_iBadPlace (fun vs H Q E h => ?_) (fun cdv A outer s H vs Q E hr h => ?_)
  · obtain ⟨a, v, rfl, _⟩ := h
    rfl
  · obtain ⟨a, v, rfl, hA, q⟩ := h
    refine ⟨_, (pss_one (ps_ost (pv 0) (pv 1))), ?_⟩
    exact ⟨v, rfl, .ref a, rfl, a, T.C_BadPlace, rfl, T.o_BadPlace, T.n_BadPlace, .inl ⟨hA, q⟩⟩

theorem ok_ccountB (T : Tx K mg) : FnOk P w K mg base (L2.CX P w) 1 T.f_ccount T.fd_ccount P_ccount (spCountB T.C_BadCount) := by
  have sz : sizeLine = 16777216 := sizeLine_eq
  refine T.D_ccount.F.okX sc_ccount (fun vs H Q E h => ?_) (fun cdv A outer s H vs Q E hr h => ?_)
  · obtain ⟨n, rfl, _⟩ := h
    rfl
  · obtain ⟨n, rfl, n0, q⟩ := h
    refine ⟨_, (pss_one (ps_if (PW.pt (pw_and (pt_cmpR op_notN (pv 0) pe_non (nomark _)) (pw_and1 (pt_cmpR op_lt (pv 0) pe_int (nomark _))))) (pss_one (ps_raise rfl (takes_of rfl rfl rfl rfl) (Sip.pmk_own0 PySem.F.excBase_ValueError T.x_BadCount T.g_BadCount T.kk_BadCount (raises_own T.bx_BadCount T.tx_BadCount) (by rfl)))) pss_nil)), ?_⟩
    refine ⟨.int n, rfl, rfl, _, rfl, iteTc (by rfl) ?_⟩
    refine ⟨.int n, rfl, _, _, rfl, rfl, _, rfl, iteTc (decide_eq_true n0) ?_⟩
    exact q _ (Same.refl _)

theorem ok_peekB (T : Tx K mg) : FnOk P w K mg base (L2.CX P w) 2 T.f_peek T.fd_peek P_peek (spReadB (PlainAt T.C_Plain) T.C_BadCount) := by
  have G_ccount := ok_ccountB (P := P) (w := w) (base := base) T
  have G_ahead := ok_ahead (P := P) (w := w) (base := base) T
  have sz : sizeLine = 16777216 := sizeLine_eq
  refine T.D_peek.F.okX sc_peek (fun vs H Q E h => ?_) (fun cdv A outer s H vs Q E hr h => ?_)
  · obtain ⟨p, F, r, c, n, rfl, _⟩ := h
    rfl
  · obtain ⟨p, F, r, c, n, rfl, hPA, n0, q⟩ := h
    refine ⟨_, (pss_cons (ps_expr (pe_call G_ccount (hr.mono (by decide)) (by rfl) T.D_ccount.g T.D_ccount.F.kp T.bb_ccount .nil (Sip.passX (takes_of rfl rfl rfl rfl)) (pa_cons (pv 1) pa_nil)))
      (pss_one (ps_ret (pe_slice sl_list (pe_meth0 (pv 0) T.cl_Plain T.D_ahead.m G_ahead (hr.mono (by decide)) T.bb_ahead .nil pass0) po_none (Sip.po_opt (pv 1)))))), ?_⟩
    exact ⟨.int n, rfl, n, rfl, n0, q⟩

theorem ok_readB (T : Tx K mg) : FnOk P w K mg base (L2.CX P w) 3 T.f_read T.fd_read P_read (spReadB (PlainAt T.C_Plain) T.C_BadCount) := by
  have G_peek := ok_peekB (P := P) (w := w) (base := base) T
  have G_passed := ok_passed (P := P) (w := w) (base := base) T
  have sz : sizeLine = 16777216 := sizeLine_eq
  refine T.D_read.F.okX sc_read (fun vs H Q E h => ?_) (fun cdv A outer s H vs Q E hr h => ?_)
  · obtain ⟨p, F, r, c, n, rfl, _⟩ := h
    rfl
  · obtain ⟨p, F, r, c, n, rfl, hPA, n0, q⟩ := h
    refine ⟨_, (pss_one (ps_ret (pe_meth (pv 0) T.cl_Plain T.D_passed.m G_passed (hr.mono (by decide)) T.bb_passed .nil pass0 (pa_cons (pe_meth (pv 0) T.cl_Plain T.D_peek.m G_peek (hr.mono (by decide)) T.bb_peek .nil (Sip.passX (takes_of rfl rfl rfl rfl)) (pa_cons (pv 1) pa_nil)) pa_nil)))), ?_⟩
    have hPA' := hPA
    obtain ⟨dx, l, hp, hl, hF⟩ := hPA'
    exact ⟨.ref p, rfl, p, dx, _, rfl, hp, pfs_no l c "passed" (by decide +kernel), .ref p, rfl, p, dx, _, rfl, hp, pfs_no l c "peek" (by decide +kernel), .int n, rfl, p, F, r, c, n, rfl, hPA, n0, q⟩

theorem ok_rlineB (T : Tx K mg) : FnOk P w K mg base (L2.CX P w) 2 T.f_rline T.fd_rline P_rline (spReadB (PlainAt T.C_Plain) T.C_BadCount) := by
  have G_ccount := ok_ccountB (P := P) (w := w) (base := base) T
  have G_ahead := ok_ahead (P := P) (w := w) (base := base) T
  have G_passed := ok_passed (P := P) (w := w) (base := base) T
  have G_fline := ok_fline (P := P) (w := w) (base := base) T
  have sz : sizeLine = 16777216 := sizeLine_eq
  refine T.D_rline.F.okX sc_rline (fun vs H Q E h => ?_) (fun cdv A outer s H vs Q E hr h => ?_)
  · obtain ⟨p, F, r, c, n, rfl, _⟩ := h
    rfl
  · obtain ⟨p, F, r, c, n, rfl, hPA, n0, q⟩ := h
    refine ⟨_, (pss_cons (ps_expr (pe_call G_ccount (hr.mono (by decide)) (by rfl) T.D_ccount.g T.D_ccount.F.kp T.bb_ccount .nil (Sip.passX (takes_of rfl rfl rfl rfl)) (pa_cons (pv 1) pa_nil)))
      (pss_one (ps_ret (pe_meth (pv 0) T.cl_Plain T.D_passed.m G_passed (hr.mono (by decide)) T.bb_passed .nil pass0 (pa_cons (pe_call G_fline (hr.mono (by decide)) (by rfl) T.D_fline.g T.D_fline.F.kp T.bb_fline .nil pass0 (pa_cons (pe_meth0 (pv 0) T.cl_Plain T.D_ahead.m G_ahead (hr.mono (by decide)) T.bb_ahead .nil pass0) (pa_cons (pv 1) pa_nil))) pa_nil))))), ?_⟩
    exact ⟨.int n, rfl, n, rfl, n0, q⟩

theorem ok_cgoalB (T : Tx K mg) : FnOk P w K mg base (L2.CX P w) 3 T.f_cgoal T.fd_cgoal P_cgoal (spGoalB T.C_BadPlace) := by
  have G_clen := ok_clen (P := P) (w := w) (base := base) T
  have G_iBadPlace := ok_iBadPlace (P := P) (w := w) (base := base) T
  have sz : sizeLine = 16777216 := sizeLine_eq
  refine T.D_cgoal.F.okX sc_cgoal (fun vs H Q E h => ?_) (fun cdv A outer s H vs Q E hr h => ?_)
  · obtain ⟨g, rfl, _⟩ := h
    rfl
  · obtain ⟨g, rfl, g0, q⟩ := h
    refine ⟨_, (pss_cons (ps_if (pt_cmpR op_lt (pv 0) pe_int (nomark _)) (pss_one (ps_raise rfl (takes_of rfl rfl rfl rfl) (pmk_oex T.o_BadPlace T.ini_BadPlace T.tI_BadPlace G_iBadPlace (hr.mono (by decide)) T.bb_iBadPlace .nil pass0 (by rfl) T.g_BadPlace (pa_cons (pv 0) pa_nil)))) pss_nil)
      (pss_one (ps_expr (pe_call G_clen (hr.mono (by decide)) (by rfl) T.D_clen.g T.D_clen.F.kp T.bb_clen .nil pass0 (pa_cons (pv 0) pa_nil))))), ?_⟩
    refine ⟨.int g, rfl, _, _, rfl, rfl, _, rfl, iteTc (decide_eq_true g0) ?_⟩
    exact ⟨.int g, rfl, mk1_fin q.raise⟩

theorem ok_sgoalB (T : Tx K mg) : FnOk P w K mg base (L2.CX P w) 4 T.f_sgoal T.fd_sgoal P_sgoal (spSGoalB T.C_BadPlace) := by
  have G_cgoal := ok_cgoalB (P := P) (w := w) (base := base) T
  have sz : sizeLine = 16777216 := sizeLine_eq
  refine T.D_sgoal.F.okX sc_sgoal (fun vs H Q E h => ?_) (fun cdv A outer s H vs Q E hr h => ?_)
  · obtain ⟨g, c, n, rfl, _⟩ := h
    rfl
  · obtain ⟨g, c, n, rfl, g0, q⟩ := h
    refine ⟨_, (C8.pss_cut (ps_if (pt_cmpR op_eq (pv 1) pe_str (nomark _)) (pss_one (ps_set (i := 4) sc_sgoal.nd rfl (.inl rfl) (pv 0))) (pss_one (ps_if (pt_cmpR op_eq (pv 1) pe_str (nomark _)) (pss_one (ps_set (i := 4) sc_sgoal.nd rfl (.inl rfl) (pe_op op_add (pv 2) (pv 0)))) (pss_one (ps_if (pt_cmpR op_eq (pv 1) pe_str (nomark _)) (pss_one (ps_set (i := 4) sc_sgoal.nd rfl (.inl rfl) (pe_op op_add (pv 3) (pv 0)))) (pss_one ps_never))))))
      (pss_cons (ps_expr (pe_call G_cgoal (hr.mono (by decide)) (by rfl) T.D_cgoal.g T.D_cgoal.F.kp T.bb_cgoal .nil (Sip.passX (takes_of rfl rfl rfl rfl)) (pa_cons (pv 4) pa_nil)))
      (pss_one (ps_ret (pv 4))))), ?_⟩
    refine ⟨fun σ' H' => σ' = [some (V.int g), some (V.str (Str.ofString "head")), some (V.int c), some (V.int n), some (V.int g)] ∧ H' = H, ?_, fun σ' H' hm => ?_⟩
    · exact ⟨_, rfl, rfl, _, rfl, ite2 (fun _ => ⟨.int g, rfl, rfl, rfl⟩) (fun e => absurd (decide_eq_true rfl) e)⟩
    · obtain ⟨rfl, rfl⟩ := hm
      exact ⟨.int g, rfl, g, rfl, g0, q⟩

theorem ok_seekB (T : Tx K mg) : FnOk P w K mg base (L2.CX P w) 5 T.f_seek T.fd_seek P_seek (spSeekB (PlainAt T.C_Plain) T.C_BadPlace) := by
  have G_sgoal := ok_sgoalB (P := P) (w := w) (base := base) T
  have sz : sizeLine = 16777216 := sizeLine_eq
  refine T.D_seek.F.okX sc_seek (fun vs H Q E h => ?_) (fun cdv A outer s H vs Q E hr h => ?_)
  · obtain ⟨p, F, r, c, g, rfl, _⟩ := h
    rfl
  · obtain ⟨p, F, r, c, g, rfl, ⟨dx, l, hp, hl, hF⟩, g0, q⟩ := h
    refine ⟨_, (pss_cons (ps_fld (pv 0) (pe_call G_sgoal (hr.mono (by decide)) (by rfl) T.D_sgoal.g T.D_sgoal.F.kp T.bb_sgoal .nil (Sip.passX (takes_of rfl rfl rfl rfl)) (pa_cons (pv 1) (pa_cons (pv 2) (pa_cons (pe_fld (pv 0) rfl) (pa_cons (pe_callB call_len_seq (by rfl) T.m_len PySem.boot_len (pa_cons (pe_fld (pv 0) rfl) pa_nil)) pa_nil))))) rfl)
      (pss_one (ps_ret (pe_fld (pv 0) rfl)))), ?_⟩
    refine ⟨.int g, rfl, .str (Str.ofString "head"), rfl, .ref p, rfl, p, T.C_Plain, dx, _, _, rfl, hp, T.cl_Plain, T.n_Plain_cursor, pfs_cursor l c, .ref p, rfl, p, T.C_Plain, dx, _, _, rfl, hp, T.cl_Plain, T.n_Plain_cells, pfs_cells l c, l, _, rfl, .inl (sq_at hl), ?_⟩
    rw [List.length_map]
    exact ⟨g, c, r.length, rfl, g0, q⟩

theorem ok_pcutB (T : Tx K mg) : FnOk P w K mg base (L2.CX P w) 4 T.f_pcut T.fd_pcut P_pcut (spCutB (PlainAt T.C_Plain) T.C_BadPlace) := by
  have G_cgoal := ok_cgoalB (P := P) (w := w) (base := base) T
  have sz : sizeLine = 16777216 := sizeLine_eq
  refine T.D_pcut.F.okX sc_pcut (fun vs H Q E h => ?_) (fun cdv A outer s H vs Q E hr h => ?_)
  · obtain ⟨p, F, r, c, g, rfl, _⟩ := h
    rfl
  · obtain ⟨p, F, r, c, g, rfl, hPA, g0, q⟩ := h
    refine ⟨_, (pss_cons (ps_set (i := 2) sc_pcut.nd rfl (.inl rfl) (pe_ifExp (pt_cmpR op_isN (pv 1) pe_non (nomark _)) (pe_fld (pv 0) rfl) (pv 1)))
      (pss_cons (ps_expr (pe_call G_cgoal (hr.mono (by decide)) (by rfl) T.D_cgoal.g T.D_cgoal.F.kp T.bb_cgoal .nil (Sip.passX (takes_of rfl rfl rfl rfl)) (pa_cons (pv 2) pa_nil)))
      (pss_one (Sip.ps_delS (pe_fld (pv 0) rfl) (po_some (pv 2)) po_none)))), ?_⟩
    refine ⟨.int g, rfl, rfl, _, rfl, iteFc (by rfl) ?_⟩
    refine ⟨.int g, rfl, ?_⟩
    exact ⟨.int g, rfl, g, rfl, g0, q⟩

theorem ok_draw (T : Tx K mg) : FnOk P w K mg base CX0 3 T.f_draw T.fd_draw P_draw (spDraw23 K) := by
  have G_take := ok_take (P := P) (w := w) (base := base) T
  have G_bytes := ok_bytes (P := P) (w := w) (base := base) T
  have sz : sizeLine = 16777216 := sizeLine_eq
  refine T.D_draw.F.ok sc_draw (fun vs H Q E h => ?_) (fun cdv A outer s H vs Q E hr h => ?_)
  · obtain ⟨p, x, n, o, r, c, rfl, _⟩ := h
    rfl
  · obtain ⟨p, x, n, o, r, c, rfl, px, hp, hP, n9, hx, lr, lc, q⟩ := h
    refine ⟨_, (pss_cons (ps_set (i := 3) sc_draw.nd rfl (.inl rfl) (pe_call G_take (hr.mono (by decide)) (by rfl) T.D_take.g T.D_take.F.kp T.bb_take .nil pass0 (pa_cons (pv 0) (pa_cons pe_int pa_nil))))
      (pss_cons (ps_set (i := 4) sc_draw.nd rfl (.inl rfl) (pe_ix ix_list (pe_lst (pa_cons pe_non (pa_cons pe_int (pa_cons pe_int (pa_cons pe_int (pa_cons pe_int (pa_cons pe_int (pa_cons pe_int (pa_cons pe_int pa_nil))))))))) (pe_call G_take (hr.mono (by decide)) (by rfl) T.D_take.g T.D_take.F.kp T.bb_take .nil pass0 (pa_cons (pv 0) (pa_cons pe_int pa_nil))) (fun _ _ => rfl)))
      (pss_cons (ps_set (i := 5) sc_draw.nd rfl (.inl rfl) (pe_call G_take (hr.mono (by decide)) (by rfl) T.D_take.g T.D_take.F.kp T.bb_take .nil pass0 (pa_cons (pv 0) (pa_cons (pe_op op_add (pe_callB call_len_seq (by rfl) T.m_len PySem.boot_len (pa_cons (pv 1) pa_nil)) pe_int) pa_nil))))
      (pss_cons (ps_if (pt_cmpR op_lt (pv 3) pe_int (nomark _)) (pss_one (ps_ret (pe_tup (pa_cons pe_str (pa_cons (pv 4) pa_nil))))) pss_nil)
      (pss_cons (ps_if (pt_cmpR op_lt (pv 3) pe_int (nomark _)) (pss_one (ps_ret (pe_tup (pa_cons (pe_ix ix_list (pe_lst (pa_cons pe_str (pa_cons pe_str pa_nil))) (pe_op op_sub (pv 3) pe_int) (fun _ _ => rfl)) (pa_cons (pe_call G_take (hr.mono (by decide)) (by rfl) T.D_take.g T.D_take.F.kp T.bb_take .nil pass0 (pa_cons (pv 0) (pa_cons pe_int pa_nil))) pa_nil))))) pss_nil)
      (pss_cons (ps_if (pt_cmpR op_lt (pv 3) pe_int (nomark _)) (pss_one (ps_ret (pe_tup (pa_cons pe_str (pa_cons (pv 4) pa_nil))))) pss_nil)
      (pss_cons (ps_if (pt_cmpR op_lt (pv 3) pe_int (nomark _)) (pss_one (ps_ret (pe_tup (pa_cons pe_str (pa_cons (pe_call G_bytes (hr.mono (by decide)) (by rfl) T.D_bytes.g T.D_bytes.F.kp T.bb_bytes .nil pass0 (pa_cons (pv 0) (pa_cons (pe_lst (pa_cons pe_int (pa_cons pe_int (pa_cons pe_int (pa_cons pe_int (pa_cons pe_int (pa_cons pe_int (pa_cons pe_int (pa_cons pe_int pa_nil))))))))) pa_nil))) pa_nil))))) pss_nil)
      (pss_cons (ps_if (pt_cmpR op_lt (pv 3) pe_int (nomark _)) (pss_one (ps_ret (pe_tup (pa_cons pe_str (pa_cons (pe_op op_sub (pv 5) (pe_ix ix_list (pe_lst (pa_cons pe_int (pa_cons (pv 2) (pa_cons (pe_callB call_len_seq (by rfl) T.m_len PySem.boot_len (pa_cons (pv 1) pa_nil)) pa_nil)))) (pe_op op_sub (pv 3) pe_int) (fun _ _ => rfl))) (pa_cons (pe_ix ix_list (pe_lst (pa_cons pe_str (pa_cons pe_str (pa_cons pe_str pa_nil)))) (pe_op op_sub (pv 3) pe_int) (fun _ _ => rfl)) pa_nil)))))) pss_nil)
      (pss_cons (ps_if (pt_cmpR op_eq (pv 3) pe_int (nomark _)) (pss_one (ps_ret (pe_tup (pa_cons pe_str (pa_cons (pe_ix ix_list (pe_lst (pa_cons pe_non (pa_cons (pv 5) pa_nil))) (pe_call G_take (hr.mono (by decide)) (by rfl) T.D_take.g T.D_take.F.kp T.bb_take .nil pass0 (pa_cons (pv 0) (pa_cons pe_int pa_nil))) (fun _ _ => rfl)) pa_nil))))) pss_nil)
      (pss_cons (ps_if (pt_cmpR op_eq (pv 3) pe_int (nomark _)) (pss_one (ps_ret (pe_tup (pa_cons pe_str pa_nil)))) pss_nil)
      (pss_one (ps_ret (pe_ix ix_list (pe_lst (pa_cons (pe_tup (pa_cons pe_str (pa_cons (pe_un un_neg pe_int) pa_nil))) (pa_cons (pe_tup (pa_cons pe_str (pa_cons (pe_un un_neg pe_int) (pa_cons pe_str pa_nil)))) (pa_cons (pe_tup (pa_cons pe_str (pa_cons (pe_un un_neg pe_int) pa_nil))) (pa_cons (pe_tup (pa_cons pe_str (pa_cons (pe_un un_neg pe_int) pa_nil))) pa_nil))))) (pe_call G_take (hr.mono (by decide)) (by rfl) T.D_take.g T.D_take.F.kp T.bb_take .nil pass0 (pa_cons (pv 0) (pa_cons pe_int pa_nil))) (fun _ _ => rfl)))))))))))))), ?_⟩
    refine ⟨.ref p, rfl, p, n, 20, o, rfl, hp, hP, by omega, by decide, by decide, fun w o1 w0 w1 hP1 => ?_⟩
    have ep1 : (upd H p o1) p = some o1 := upd_same
    have k1 : Kp [p] H (upd H p o1) := Kp.at (by simp)
    have ex1 : (upd H p o1) x = some (.lst (r.map V.int)) := by rw [upd_ne px.symm]; exact hx
    generalize upd H p o1 = H1 at ep1 k1 ex1 ⊢
    refine ⟨by show (8 : Nat) ≤ sizeLine; omega, fun l1 nl1 => ?_⟩
    have pl1 : p ≠ l1 := ne_of_none ep1 nl1
    refine ⟨.ref p, rfl, p, _, 8, o1, rfl, by rw [upd_ne pl1]; exact ep1, hP1, by omega, by decide, by decide, fun r1 o2 r10 r11 hP2 => ?_⟩
    obtain ⟨k, ek, hk⟩ := many_at r10 r11
    refine ⟨l1, _, r1, cntV k, rfl, rfl, .inl (.inl (by rw [upd_ne pl1.symm, upd_same])), ek, ?_⟩
    have t1 := (Kp.new (ps := []) (o := HO.lst [V.non, .int 0, .int 1, .int 2, .int 3, .int 4, .int 6, .int 12]) nl1).same
    have ep2 : (upd (upd H1 l1 (.lst [V.non, .int 0, .int 1, .int 2, .int 3, .int 4, .int 6, .int 12])) p o2) p = some o2 := upd_same
    have k2 : Kp [p] H (upd (upd H1 l1 (.lst [V.non, .int 0, .int 1, .int 2, .int 3, .int 4, .int 6, .int 12])) p o2) := (k1.trans (Kp.of t1)).trans (Kp.at (by simp))
    have ex2 : (upd (upd H1 l1 (.lst [V.non, .int 0, .int 1, .int 2, .int 3, .int 4, .int 6, .int 12])) p o2) x = some (.lst (r.map V.int)) := by rw [upd_ne px.symm]; exact t1 _ _ ex1
    generalize upd (upd H1 l1 (.lst [V.non, .int 0, .int 1, .int 2, .int 3, .int 4, .int 6, .int 12])) p o2 = H2 at ep2 k2 ex2 ⊢
    refine ⟨.ref p, rfl, .ref x, rfl, x, _, rfl, .inl (sq_at ex2), _, _, rfl, rfl, p, _, _, o2, rfl, ep2, hP2, by omega, by rw [List.length_map]; omega, by rw [List.length_map]; omega, fun g o3 g0 g1 hP3 => ?_⟩
    rw [List.length_map] at g1
    obtain ⟨g, rfl⟩ := Int.eq_ofNat_of_zero_le g0
    have ep3 : (upd H2 p o3) p = some o3 := upd_same
    have k3 : Kp [p] H (upd H2 p o3) := k2.trans (Kp.at (by simp))
    have ex3 : (upd H2 p o3) x = some (.lst (r.map V.int)) := by rw [upd_ne px.symm]; exact ex2
    generalize upd H2 p o3 = H3 at ep3 k3 ex3 ⊢
    have new : ∀ {H' : Hp} {t : Addr}, Kp [p] H H' → H' p ≠ none → H' t = none → H t = none := fun {H' t} kk hn nt => by
      have : t ≠ p := fun z => hn (z ▸ nt)
      exact kk.free (by simpa using this) nt
    have np3 : H3 p ≠ none := by rw [ep3]; exact fun z => nomatch z
    clear k1 k2 ex1 ex2 ep1 ep2 t1 ek
    refine ⟨.int w, rfl, _, _, rfl, rfl, _, rfl, ite2 (fun e => ?_) (fun _ => ?_)⟩
    · refine ⟨_, rfl, by show (2 : Nat) ≤ sizeLine; omega, fun t nt => ?_⟩
      exact q _ t (.rd k) upd_same hk (fun b d h => nomatch h) (new k3 np3 nt) (k3.trans (Kp.new nt))
    refine ⟨.int w, rfl, _, _, rfl, rfl, _, rfl, ite2 (fun e => ?_) (fun _ => ?_)⟩
    · have w7 : w < 7 := of_decide_eq_true e
      refine ⟨by show (2 : Nat) ≤ sizeLine; omega, fun l nl => ?_⟩
      have tl := (Kp.new (ps := []) (o := HO.lst [V.str (Str.ofString "read_some"), .str (Str.ofString "peek")]) nl).same
      have pick : ∃ z : Str, atI [V.str (Str.ofString "read_some"), .str (Str.ofString "peek")] (w - 5) = some (.str z) ∧ ∀ m : Nat, [V.str z, .int m] = dVals (.rs m) ∨ [V.str z, .int m] = dVals (.pk m) := by
        rcases (show w - 5 = 0 ∨ w - 5 = 1 by simp at *; omega) with h | h
        · rw [h]; exact ⟨_, rfl, fun m => .inl rfl⟩
        · rw [h]; exact ⟨_, rfl, fun m => .inr rfl⟩
      obtain ⟨z, ez, hz⟩ := pick
      refine ⟨_, rfl, _, _, rfl, rfl, l, _, _, .str z, rfl, rfl, .inl (.inl upd_same), ez, .ref p, rfl, p, _, 13, o3, rfl, tl _ _ ep3, hP3, by omega, by decide, by decide, fun v o4 v0 v1 hP4 => ?_⟩
      obtain ⟨v, rfl⟩ := Int.eq_ofNat_of_zero_le v0
      refine ⟨by show (2 : Nat) ≤ sizeLine; omega, fun t nt => ?_⟩
      have k4 : Kp [p] H (upd (upd H3 l (.lst [V.str (Str.ofString "read_some"), .str (Str.ofString "peek")])) p o4) := (k3.trans (Kp.of tl)).trans (Kp.at (by simp))
      have nt' := new k4 (by rw [upd_same]; exact fun z => nomatch z) nt
      rcases hz v with h | h
      · exact q _ t (.rs v) (by rw [upd_same, h]) (show v ≤ 12 by omega) (fun b d h => nomatch h) nt' (k4.trans (Kp.new nt))
      · exact q _ t (.pk v) (by rw [upd_same, h]) (show v ≤ 12 by omega) (fun b d h => nomatch h) nt' (k4.trans (Kp.new nt))
    refine ⟨.int w, rfl, _, _, rfl, rfl, _, rfl, ite2 (fun e => ?_) (fun _ => ?_)⟩
    · refine ⟨_, rfl, by show (2 : Nat) ≤ sizeLine; omega, fun t nt => ?_⟩
      exact q _ t (.rl k) upd_same hk (fun b d h => nomatch h) (new k3 np3 nt) (k3.trans (Kp.new nt))
    refine ⟨.int w, rfl, _, _, rfl, rfl, _, rfl, ite2 (fun e => ?_) (fun e14 => ?_)⟩
    · refine ⟨.ref p, rfl, by show (8 : Nat) ≤ sizeLine; omega, fun l nl => ?_⟩
      have tl := (Kp.new (ps := []) (o := HO.lst [.int 0, .int 1, .int 2, .int 3, .int 5, .int 8, .int 13, .int 20]) nl).same
      have pl : p ≠ l := ne_of_none ep3 nl
      refine ⟨p, l, _, o3, [0, 1, 2, 3, 5, 8, 13, 20], rfl, tl _ _ ep3, hP3, by omega, .inl (.inl upd_same), pl, by decide, by decide, by decide, fun H4 b bs o4 nb eb ep4 hP4 k4 hz hb => ?_⟩
      have kk := (k3.trans (Kp.of tl)).trans k4
      refine ⟨by show (2 : Nat) ≤ sizeLine; omega, fun t nt => ?_⟩
      have nbH := new (k3.trans (Kp.of tl)) (by rw [tl _ _ ep3]; exact fun z => nomatch z) nb
      have lb : bs.length ≤ 20 := by
        obtain ⟨z, zm, ez⟩ := hz
        have : z ≤ 20 := (show ∀ y ∈ ([0, 1, 2, 3, 5, 8, 13, 20] : List Int), y ≤ 20 by decide) z zm
        omega
      exact q _ t (.wr b bs) upd_same ⟨by rw [upd_ne (ne_of_none eb nt)]; exact eb, hb, lb⟩ (fun b' d' h => by cases h; exact nbH) (new kk (by rw [ep4]; exact fun z => nomatch z) nt) (kk.trans (Kp.new nt))
    refine ⟨.int w, rfl, _, _, rfl, rfl, _, rfl, ite2 (fun e => ?_) (fun e17 => ?_)⟩
    · have w17 : w < 17 := of_decide_eq_true e
      have w14 : ¬ w < 14 := fun z => e14 (decide_eq_true z)
      refine ⟨_, rfl, _, rfl, .ref x, rfl, x, _, rfl, .inl (sq_at ex3), by show (3 : Nat) ≤ sizeLine; omega, fun l nl => ?_⟩
      rw [List.length_map]
      have tl := (Kp.new (ps := []) (o := HO.lst [.int 0, .int c, .int r.length]) nl).same
      have pick : ∃ (b : Int) (z : Str), atI [V.int 0, .int c, .int r.length] (w - 14) = some (.int b) ∧ atI [V.str (Str.ofString "head"), .str (Str.ofString "here"), .str (Str.ofString "tail")] (w - 14) = some (.str z) ∧ ((z = Str.ofString "head" ∧ (g : Int) = (g : Int) - b) ∨ (z = Str.ofString "here" ∧ (g : Int) = c + ((g : Int) - b)) ∨ (z = Str.ofString "tail" ∧ (g : Int) = r.length + ((g : Int) - b))) := by
        rcases (show w - 14 = 0 ∨ w - 14 = 1 ∨ w - 14 = 2 by omega) with h | h | h
        · rw [h]; exact ⟨0, _, rfl, rfl, .inl ⟨rfl, by omega⟩⟩
        · rw [h]; exact ⟨c, _, rfl, rfl, .inr (.inl ⟨rfl, by omega⟩)⟩
        · rw [h]; exact ⟨r.length, _, rfl, rfl, .inr (.inr ⟨rfl, by omega⟩)⟩
      obtain ⟨b, z, e1, e2, hz⟩ := pick
      refine ⟨_, rfl, _, _, rfl, rfl, l, _, _, .int b, rfl, rfl, .inl (.inl upd_same), e1, _, _, rfl, rfl, by show (3 : Nat) ≤ sizeLine; omega, fun l2 nl2 => ?_⟩
      have tl2 := tl.trans (Kp.new (ps := []) (o := HO.lst [V.str (Str.ofString "head"), .str (Str.ofString "here"), .str (Str.ofString "tail")]) nl2).same
      refine ⟨_, rfl, _, _, rfl, rfl, l2, _, _, .str z, rfl, rfl, .inl (.inl upd_same), e2, by show (3 : Nat) ≤ sizeLine; omega, fun t nt => ?_⟩
      have kk := k3.trans (Kp.of tl2)
      exact q _ t (.sk ((g : Int) - b) z g) upd_same ⟨hz, by omega⟩ (fun b d h => nomatch h) (new kk (by rw [tl2 _ _ ep3]; exact fun z => nomatch z) nt) (kk.trans (Kp.new nt))
    refine ⟨.int w, rfl, rfl, _, rfl, ite2 (fun e => ?_) (fun _ => ?_)⟩
    · refine ⟨_, rfl, by show (2 : Nat) ≤ sizeLine; omega, fun l nl => ?_⟩
      have tl := (Kp.new (ps := []) (o := HO.lst [.non, .int g]) nl).same
      have pl : p ≠ l := ne_of_none ep3 nl
      refine ⟨.ref p, rfl, p, _, 2, o3, rfl, tl _ _ ep3, hP3, by omega, by decide, by decide, fun v o4 v0 v1 hP4 => ?_⟩
      have pick : ∃ k : Option Nat, atI [V.non, .int g] v = some (cntV k) ∧ ∀ n, k = some n → n ≤ r.length + 5 := by
        rcases (show v = 0 ∨ v = 1 by omega) with rfl | rfl
        · exact ⟨none, rfl, fun n h => nomatch h⟩
        · exact ⟨some g, rfl, fun n h => by cases h; omega⟩
      obtain ⟨k', e1, hk'⟩ := pick
      have k4 : Kp [p] H (upd (upd H3 l (.lst [.non, .int g])) p o4) := (k3.trans (Kp.of tl)).trans (Kp.at (by simp))
      refine ⟨l, _, v, cntV k', rfl, rfl, .inl (.inl (by rw [upd_ne pl.symm]; exact upd_same)), e1, by show (2 : Nat) ≤ sizeLine; omega, fun t nt => ?_⟩
      exact q _ t (.ct k') upd_same hk' (fun b d h => nomatch h) (new k4 (by rw [upd_same]; exact fun z => nomatch z) nt) (k4.trans (Kp.new nt))
    refine ⟨.int w, rfl, rfl, _, rfl, ite2 (fun e => ?_) (fun _ => ?_)⟩
    · refine ⟨by show (1 : Nat) ≤ sizeLine; omega, fun t nt => ?_⟩
      exact q _ t .tl upd_same trivial (fun b d h => nomatch h) (new k3 np3 nt) (k3.trans (Kp.new nt))
    refine ⟨_, rfl, by show (2 : Nat) ≤ sizeLine; omega, fun t1 m1 => ?_⟩
    have q1 := (Kp.new (ps := []) (o := HO.tup (dVals .bR)) m1).same
    have f1 : (upd H3 t1 (.tup (dVals .bR))) t1 = some (.tup (dVals .bR)) := upd_same
    refine ⟨_, rfl, by show (3 : Nat) ≤ sizeLine; omega, fun t2 m2 => ?_⟩
    have q2 := (Kp.new (ps := []) (o := HO.tup (dVals .bS)) m2).same
    refine ⟨_, rfl, by show (2 : Nat) ≤ sizeLine; omega, fun t3 m3 => ?_⟩
    have q3 := (Kp.new (ps := []) (o := HO.tup (dVals .bC)) m3).same
    refine ⟨_, rfl, by show (2 : Nat) ≤ sizeLine; omega, fun t4 m4 => ?_⟩
    have q4 := (Kp.new (ps := []) (o := HO.tup (dVals .bL)) m4).same
    refine ⟨by show (4 : Nat) ≤ sizeLine; omega, fun l nl => ?_⟩
    have q5 := (Kp.new (ps := []) (o := HO.lst [.ref t1, .ref t2, .ref t3, .ref t4]) nl).same
    have nH : H t1 = none ∧ H t2 = none ∧ H t3 = none ∧ H t4 = none := by
      have aux : ∀ {G : Hp} {t : Addr}, Same H3 G → G t = none → H t = none := fun s n => new (k3.trans (Kp.of s)) (by rw [s _ _ ep3]; exact fun z => nomatch z) n
      exact ⟨new k3 np3 m1, aux q1 m2, aux (q1.trans q2) m3, aux ((q1.trans q2).trans q3) m4⟩
    generalize hG : upd _ l _ = H5
    have g1 : H5 t1 = some (.tup (dVals .bR)) := by rw [← hG]; exact q5 _ _ (q4 _ _ (q3 _ _ (q2 _ _ f1)))
    have g2 : H5 t2 = some (.tup (dVals .bS)) := by rw [← hG]; exact q5 _ _ (q4 _ _ (q3 _ _ (show (upd (upd H3 t1 (.tup (dVals .bR))) t2 (.tup (dVals .bS))) t2 = some (.tup (dVals .bS)) from upd_same)))
    have g3 : H5 t3 = some (.tup (dVals .bC)) := by rw [← hG]; exact q5 _ _ (q4 _ _ (show (upd (upd (upd H3 t1 (.tup (dVals .bR))) t2 (.tup (dVals .bS))) t3 (.tup (dVals .bC))) t3 = some (.tup (dVals .bC)) from upd_same))
    have g4 : H5 t4 = some (.tup (dVals .bL)) := by rw [← hG]; exact q5 _ _ (show (upd (upd (upd (upd H3 t1 (.tup (dVals .bR))) t2 (.tup (dVals .bS))) t3 (.tup (dVals .bC))) t4 (.tup (dVals .bL))) t4 = some (.tup (dVals .bL)) from upd_same)
    have el : H5 l = some (.lst [.ref t1, .ref t2, .ref t3, .ref t4]) := by rw [← hG]; exact upd_same
    have qq : Same H3 H5 := by rw [← hG]; exact (((q1.trans q2).trans q3).trans q4).trans q5
    clear hG q1 q2 q3 q4 q5 f1 m1 m2 m3 m4 nl
    have ep5 := qq _ _ ep3
    have pl : l ≠ p := fun e => by rw [e, ep5] at el; obtain ⟨a, b, c, h, _⟩ := hP3; rw [h] at el; cases el
    have ptn : ∀ {t : Addr} {D : Deed}, H5 t = some (.tup (dVals D)) → t ≠ p := fun h e => by rw [e, ep5] at h; obtain ⟨a, b, c, h', _⟩ := hP3; rw [h'] at h; cases h
    refine ⟨.ref p, rfl, p, _, 4, o3, rfl, ep5, hP3, by omega, by decide, by decide, fun v o4 v0 v1 hP4 => ?_⟩
    have k6 : Kp [p] H (upd H5 p o4) := (k3.trans (Kp.of qq)).trans (Kp.at (by simp))
    have el6 : (upd H5 p o4) l = some (.lst [.ref t1, .ref t2, .ref t3, .ref t4]) := by rw [upd_ne pl]; exact el
    rcases (show v = 0 ∨ v = 1 ∨ v = 2 ∨ v = 3 by omega) with rfl | rfl | rfl | rfl
    · exact ⟨l, _, _, .ref t1, rfl, rfl, sq_at el6, rfl, q _ t1 .bR (by rw [upd_ne (ptn g1)]; exact g1) trivial (fun b d h => nomatch h) nH.1 k6⟩
    · exact ⟨l, _, _, .ref t2, rfl, rfl, sq_at el6, rfl, q _ t2 .bS (by rw [upd_ne (ptn g2)]; exact g2) trivial (fun b d h => nomatch h) nH.2.1 k6⟩
    · exact ⟨l, _, _, .ref t3, rfl, rfl, sq_at el6, rfl, q _ t3 .bC (by rw [upd_ne (ptn g3)]; exact g3) trivial (fun b d h => nomatch h) nH.2.2.1 k6⟩
    · exact ⟨l, _, _, .ref t4, rfl, rfl, sq_at el6, rfl, q _ t4 .bL (by rw [upd_ne (ptn g4)]; exact g4) trivial (fun b d h => nomatch h) nH.2.2.2 k6⟩

theorem ok_bad (T : Tx K mg) : FnOk P w K mg base CX0 1 T.f_bad T.fd_bad P_bad (spBad23) := by
  have sz : sizeLine = 16777216 := sizeLine_eq
  refine T.D_bad.F.ok sc_bad (fun vs H Q E h => ?_) (fun cdv A outer s H vs Q E hr h => ?_)
  · obtain ⟨t, r, c, D, rfl, _⟩ := h
    rfl
  · obtain ⟨t, r, c, D, rfl, ht, hv, q1, q2⟩ := h
    refine ⟨_, (pss_cons (ps_if (pt_cmpR (op_inD (u65 hr)) (pv 0) (pe_lst (pa_cons (pe_tup (pa_cons pe_str (pa_cons (pe_un un_neg pe_int) pa_nil))) (pa_cons (pe_tup (pa_cons pe_str (pa_cons (pe_un un_neg pe_int) pa_nil))) pa_nil))) rfl) (pss_one (ps_ret (pe_tup (pa_cons pe_str (pa_cons pe_str (pa_cons pe_non pa_nil)))))) pss_nil)
      (pss_cons (ps_if (pt_cmpR (op_inD (u65 hr)) (pv 0) (pe_lst (pa_cons (pe_tup (pa_cons pe_str (pa_cons (pe_un un_neg pe_int) (pa_cons pe_str pa_nil)))) (pa_cons (pe_tup (pa_cons pe_str (pa_cons (pe_un un_neg pe_int) pa_nil))) pa_nil))) rfl) (pss_one (ps_ret (pe_tup (pa_cons pe_str (pa_cons pe_str (pa_cons (pe_ix ix_tup (pv 0) pe_int (fun _ _ => rfl)) pa_nil)))))) pss_nil)
      (pss_one (ps_ret pe_non)))), ?_⟩
    have dsh := deed_shaped D hv
    refine ⟨.ref t, rfl, _, rfl, by show (2 : Nat) ≤ sizeLine; omega, fun a1 na1 => ?_⟩
    have c1 := (Kp.new (ps := []) (o := HO.tup [.str (Str.ofString "read"), .int (-1)]) na1).same
    refine ⟨_, rfl, by show (2 : Nat) ≤ sizeLine; omega, fun a2 na2 => ?_⟩
    have c2 := (Kp.new (ps := []) (o := HO.tup [.str (Str.ofString "readline"), .int (-3)]) na2).same
    refine ⟨by show (2 : Nat) ≤ sizeLine; omega, fun l nl => ?_⟩
    have c3 := (Kp.new (ps := []) (o := HO.lst [.ref a1, .ref a2]) nl).same
    generalize hG : upd _ l _ = H5
    have g1 : H5 a1 = some (.tup [.str (Str.ofString "read"), .int (-1)]) := by rw [← hG]; exact c3 _ _ (c2 _ _ (show (upd H a1 (.tup [.str (Str.ofString "read"), .int (-1)])) a1 = _ from upd_same))
    have g2 : H5 a2 = some (.tup [.str (Str.ofString "readline"), .int (-3)]) := by rw [← hG]; exact c3 _ _ (show (upd (upd H a1 (.tup [.str (Str.ofString "read"), .int (-1)])) a2 (.tup [.str (Str.ofString "readline"), .int (-3)])) a2 = _ from upd_same)
    have el : H5 l = some (.lst [.ref a1, .ref a2]) := by rw [← hG]; exact upd_same
    have s5 : Same H H5 := by rw [← hG]; exact (c1.trans c2).trans c3
    clear hG c1 c2 c3 na1 na2 nl
    have hv5 : Valid H5 r c D := valid_same hv s5
    refine ⟨_, [.tuple [.str (Str.ofString "read"), .int (-1)], .tuple [.str (Str.ofString "readline"), .int (-3)]], deed_dp D (s5 _ _ ht) hv5, .lst (sq_at el) (.cons (.tup (.inl (.inl g1)) (.cons (.str _) (.cons (.int _) .nil))) (.cons (.tup (.inl (.inl g2)) (.cons (.str _) (.cons (.int _) .nil))) .nil)), dsh, two_shaped _ _ _ _ (by decide +kernel) (by decide +kernel), _, rfl, ?_⟩
    rw [in_cnt D hv]
    cases hc : isCnt D with
    | true =>
      have hb : badD D = true := by cases D <;> first | rfl | cases hc
      refine iteT ⟨by show (3 : Nat) ≤ sizeLine; omega, fun u nu => q2 hb _ u ?_ (s5.trans (Kp.new (ps := []) nu).same)⟩
      rw [upd_same]; unfold refV; rw [hc]; rfl
    | false =>
      refine iteF ?_
      refine ⟨.ref t, rfl, _, rfl, by show (3 : Nat) ≤ sizeLine; omega, fun a1 na1 => ?_⟩
      have c1 := (Kp.new (ps := []) (o := HO.tup [.str (Str.ofString "seek"), .int (-1), .str (Str.ofString "head")]) na1).same
      refine ⟨_, rfl, by show (2 : Nat) ≤ sizeLine; omega, fun a2 na2 => ?_⟩
      have c2 := (Kp.new (ps := []) (o := HO.tup [.str (Str.ofString "cut"), .int (-2)]) na2).same
      refine ⟨by show (2 : Nat) ≤ sizeLine; omega, fun l nl => ?_⟩
      have c3 := (Kp.new (ps := []) (o := HO.lst [.ref a1, .ref a2]) nl).same
      generalize hG : upd _ l _ = H6
      have g1 : H6 a1 = some (.tup [.str (Str.ofString "seek"), .int (-1), .str (Str.ofString "head")]) := by rw [← hG]; exact c3 _ _ (c2 _ _ (show (upd H5 a1 (.tup [.str (Str.ofString "seek"), .int (-1), .str (Str.ofString "head")])) a1 = _ from upd_same))
      have g2 : H6 a2 = some (.tup [.str (Str.ofString "cut"), .int (-2)]) := by rw [← hG]; exact c3 _ _ (show (upd (upd H5 a1 (.tup [.str (Str.ofString "seek"), .int (-1), .str (Str.ofString "head")])) a2 (.tup [.str (Str.ofString "cut"), .int (-2)])) a2 = _ from upd_same)
      have el : H6 l = some (.lst [.ref a1, .ref a2]) := by rw [← hG]; exact upd_same
      have s6 : Same H H6 := by rw [← hG]; exact ((s5.trans c1).trans c2).trans c3
      clear hG c1 c2 c3 na1 na2 nl
      refine ⟨_, [.tuple [.str (Str.ofString "seek"), .int (-1), .str (Str.ofString "head")], .tuple [.str (Str.ofString "cut"), .int (-2)]], deed_dp D (s6 _ _ ht) (valid_same hv s6), .lst (sq_at el) (.cons (.tup (.inl (.inl g1)) (.cons (.str _) (.cons (.int _) (.cons (.str _) .nil)))) (.cons (.tup (.inl (.inl g2)) (.cons (.str _) (.cons (.int _) .nil))) .nil)), dsh, by decide +kernel, _, rfl, ?_⟩
      rw [in_plc D hv, hc, Bool.not_false, Bool.and_true]
      cases hb : badD D with
      | true =>
        refine iteT ?_
        have gl : ∃ g : Int, (dVals D)[1]? = some (.int g) ∧ goalB D = g := by
          cases D <;> first | exact ⟨_, rfl, rfl⟩ | (cases hb; done) | (cases hc; done)
        obtain ⟨g, e1, e2⟩ := gl
        have ea : atI (dVals D) 1 = some (.int g) := atI_nat (j := 1) e1
        refine ⟨.ref t, rfl, t, _, _, .int g, rfl, rfl, .inl (.inl (s6 _ _ ht)), ea, by show (3 : Nat) ≤ sizeLine; omega, fun u nu => q2 hb _ u ?_ (s6.trans (Kp.new (ps := []) nu).same)⟩
        rw [upd_same]; unfold refV; rw [hc, e2]; rfl
      | false => exact iteF (q1 hb _ s6)

theorem ok_does (T : Tx K mg) : FnOk P w K mg base (L2.CX P w) 7 T.f_does T.fd_does P_does (spDoes23 (PlainAt T.C_Plain) T.C_BadCount T.C_BadPlace) := by
  have G_read := Sip.FnOk.or (Sip.FnOk.lift (FnOk.mono (ok_read (P := P) (w := w) (base := base) T) (by decide : _ ≤ 6))) (FnOk.mono (ok_readB (P := P) (w := w) (base := base) T) (by decide : _ ≤ 6))
  have G_rline := Sip.FnOk.or (Sip.FnOk.lift (FnOk.mono (ok_rline (P := P) (w := w) (base := base) T) (by decide : _ ≤ 6))) (FnOk.mono (ok_rlineB (P := P) (w := w) (base := base) T) (by decide : _ ≤ 6))
  have G_seek := Sip.FnOk.or (Sip.FnOk.lift (FnOk.mono (ok_seek (P := P) (w := w) (base := base) T) (by decide : _ ≤ 6))) (FnOk.mono (ok_seekB (P := P) (w := w) (base := base) T) (by decide : _ ≤ 6))
  have G_pcut := Sip.FnOk.or (Sip.FnOk.lift (FnOk.mono (ok_pcut (P := P) (w := w) (base := base) T) (by decide : _ ≤ 6))) (FnOk.mono (ok_pcutB (P := P) (w := w) (base := base) T) (by decide : _ ≤ 6))
  have G_rsome := ok_rsome (P := P) (w := w) (base := base) T
  have G_peek := ok_peek (P := P) (w := w) (base := base) T
  have G_write := ok_write (P := P) (w := w) (base := base) T
  have G_tell := ok_tell (P := P) (w := w) (base := base) T
  have sz : sizeLine = 16777216 := sizeLine_eq
  refine T.D_does.F.okX sc_does (fun vs H Q E h => ?_) (fun cdv A outer s H vs Q E hr h => ?_)
  · obtain ⟨p, t, F, r, c, D, rfl, _⟩ := h
    rfl
  · obtain ⟨p, t, F, r, c, D, rfl, hPA, ht, hv, nb, lr, lc, q, e1, e2⟩ := h
    refine ⟨_, (pss_cons (ps_set (i := 2) sc_does.nd rfl (.inl rfl) (pe_ix ix_tup (pv 1) pe_int (fun _ _ => rfl)))
      (pss_cons (ps_if (pt_cmpR op_eq (pv 2) pe_str (nomark _)) (pss_one (ps_ret (pe_meth (pv 0) T.cl_Plain T.D_read.m G_read (hr.mono (by decide)) T.bb_read .nil (Sip.passX (takes_of rfl rfl rfl rfl)) (pa_cons (pe_ix ix_tup (pv 1) pe_int (fun _ _ => rfl)) pa_nil)))) pss_nil)
      (pss_cons (ps_if (pt_cmpR op_eq (pv 2) pe_str (nomark _)) (pss_one (ps_ret (pe_meth (pv 0) T.cl_Plain T.D_rsome.m G_rsome (hr.mono (by decide)) T.bb_rsome .nil pass0 (pa_cons (pe_ix ix_tup (pv 1) pe_int (fun _ _ => rfl)) pa_nil)))) pss_nil)
      (pss_cons (ps_if (pt_cmpR op_eq (pv 2) pe_str (nomark _)) (pss_one (ps_ret (pe_meth (pv 0) T.cl_Plain T.D_peek.m G_peek (hr.mono (by decide)) T.bb_peek .nil pass0 (pa_cons (pe_ix ix_tup (pv 1) pe_int (fun _ _ => rfl)) pa_nil)))) pss_nil)
      (pss_cons (ps_if (pt_cmpR op_eq (pv 2) pe_str (nomark _)) (pss_one (ps_ret (pe_meth (pv 0) T.cl_Plain T.D_rline.m G_rline (hr.mono (by decide)) T.bb_rline .nil (Sip.passX (takes_of rfl rfl rfl rfl)) (pa_cons (pe_ix ix_tup (pv 1) pe_int (fun _ _ => rfl)) pa_nil)))) pss_nil)
      (pss_cons (ps_if (pt_cmpR op_eq (pv 2) pe_str (nomark _)) (pss_one (ps_ret (Sip.pe_methN (pv 0) T.cl_Plain T.D_seek.m G_seek (hr.mono (by decide)) T.kb_seek_1_start (Sip.passX (takes_of rfl rfl rfl rfl)) (pa_cons (pe_ix ix_tup (pv 1) pe_int (fun _ _ => rfl)) pa_nil) (pk_cons (pe_ix ix_tup (pv 1) pe_int (fun _ _ => rfl)) pk_nil)))) pss_nil)
      (pss_cons (ps_if (pt_cmpR op_eq (pv 2) pe_str (nomark _)) (pss_one (ps_ret (pe_meth (pv 0) T.cl_Plain T.D_pcut.m G_pcut (hr.mono (by decide)) T.bb_pcut .nil (Sip.passX (takes_of rfl rfl rfl rfl)) (pa_cons (pe_ix ix_tup (pv 1) pe_int (fun _ _ => rfl)) pa_nil)))) pss_nil)
      (pss_cons (ps_if (pt_cmpR op_eq (pv 2) pe_str (nomark _)) (pss_one (ps_ret (pe_meth0 (pv 0) T.cl_Plain T.D_tell.m G_tell (hr.mono (by decide)) T.bb_tell .nil pass0))) pss_nil)
      (pss_cons (ps_set (i := 3) sc_does.nd rfl (.inl rfl) (pe_callTy call_list_of (by rfl) T.m_list (by decide +kernel) (pa_cons (pe_ix ix_tup (pv 1) pe_int (fun _ _ => rfl)) pa_nil)))
      (pss_cons (ps_set (i := 4) sc_does.nd rfl (.inl rfl) (pe_meth (pv 0) T.cl_Plain T.D_write.m G_write (hr.mono (by decide)) T.bb_write .nil pass0 (pa_cons (pv 3) pa_nil)))
      (pss_cons (ps_expr (pe_bm PySem.F.plainAttrs_list PySem.F.slot_list_append PySem.F.type_list_append mt_append (pv 3) (pa_cons pe_int pa_nil)))
      (pss_one (ps_ret (pv 4)))))))))))))), ?_⟩
    obtain ⟨dx, fs, hi, no⟩ := (isPlain T.C_Plain).ins hPA
    cases D with
    | rd k =>
      refine ⟨.ref t, rfl, t, _, _, .str (Str.ofString "read"), rfl, rfl, .inl (.inl ht), rfl, ?_⟩
      refine ⟨_, rfl, rfl, _, rfl, iteTc (by decide +kernel) ?_⟩
      exact ⟨.ref p, rfl, p, dx, fs, rfl, hi, no "read" (by decide +kernel), .ref t, rfl, t, _, _, cntV k, rfl, rfl, .inl (.inl ht), rfl, .inl ⟨p, F, r, c, k, rfl, hPA, fun H1 F1 x hPA1 nx nF ex st => q rfl H1 F1 (.ref x) hPA1 ⟨x, rfl, ex, nx, nF⟩ st⟩⟩
    | rs n =>
      refine ⟨.ref t, rfl, t, _, _, .str (Str.ofString "read_some"), rfl, rfl, .inl (.inl ht), rfl, ?_⟩
      refine ⟨_, rfl, rfl, _, rfl, iteFc (by decide +kernel) ?_⟩
      refine ⟨_, rfl, rfl, _, rfl, iteTc (by decide +kernel) ?_⟩
      exact ⟨.ref p, rfl, p, dx, fs, rfl, hi, no "read_some" (by decide +kernel), .ref t, rfl, t, _, _, .int n, rfl, rfl, .inl (.inl ht), rfl, p, F, r, c, some n, rfl, hPA, fun H1 F1 x hPA1 nx nF ex st => q rfl H1 F1 (.ref x) hPA1 ⟨x, rfl, ex, nx, nF⟩ st⟩
    | pk n =>
      refine ⟨.ref t, rfl, t, _, _, .str (Str.ofString "peek"), rfl, rfl, .inl (.inl ht), rfl, ?_⟩
      refine ⟨_, rfl, rfl, _, rfl, iteFc (by decide +kernel) ?_⟩
      refine ⟨_, rfl, rfl, _, rfl, iteFc (by decide +kernel) ?_⟩
      refine ⟨_, rfl, rfl, _, rfl, iteTc (by decide +kernel) ?_⟩
      exact ⟨.ref p, rfl, p, dx, fs, rfl, hi, no "peek" (by decide +kernel), .ref t, rfl, t, _, _, .int n, rfl, rfl, .inl (.inl ht), rfl, p, F, r, c, some n, rfl, hPA, fun H1 x nx ex s1 => q rfl H1 F (.ref x) ((isPlain T.C_Plain).same hPA s1) ⟨x, rfl, ex, nx, (isPlain T.C_Plain).new hPA nx⟩ (Step.of s1)⟩
    | rl k =>
      refine ⟨.ref t, rfl, t, _, _, .str (Str.ofString "readline"), rfl, rfl, .inl (.inl ht), rfl, ?_⟩
      refine ⟨_, rfl, rfl, _, rfl, iteFc (by decide +kernel) ?_⟩
      refine ⟨_, rfl, rfl, _, rfl, iteFc (by decide +kernel) ?_⟩
      refine ⟨_, rfl, rfl, _, rfl, iteFc (by decide +kernel) ?_⟩
      refine ⟨_, rfl, rfl, _, rfl, iteTc (by decide +kernel) ?_⟩
      exact ⟨.ref p, rfl, p, dx, fs, rfl, hi, no "readline" (by decide +kernel), .ref t, rfl, t, _, _, cntV k, rfl, rfl, .inl (.inl ht), rfl, .inl ⟨p, F, r, c, k, rfl, hPA, by omega, fun H1 F1 x hPA1 nx nF ex st => q rfl H1 F1 (.ref x) hPA1 ⟨x, rfl, ex, nx, nF⟩ st⟩⟩
    | wr b d =>
      refine ⟨.ref t, rfl, t, _, _, .str (Str.ofString "write"), rfl, rfl, .inl (.inl ht), rfl, ?_⟩
      refine ⟨_, rfl, rfl, _, rfl, iteFc (by decide +kernel) ?_⟩
      refine ⟨_, rfl, rfl, _, rfl, iteFc (by decide +kernel) ?_⟩
      refine ⟨_, rfl, rfl, _, rfl, iteFc (by decide +kernel) ?_⟩
      refine ⟨_, rfl, rfl, _, rfl, iteFc (by decide +kernel) ?_⟩
      refine ⟨_, rfl, rfl, _, rfl, iteFc (by decide +kernel) ?_⟩
      refine ⟨_, rfl, rfl, _, rfl, iteFc (by decide +kernel) ?_⟩
      refine ⟨_, rfl, rfl, _, rfl, iteFc (by decide +kernel) ?_⟩
      obtain ⟨eb, hb, ld⟩ := hv
      refine ⟨.ref t, rfl, t, _, _, .ref b, rfl, rfl, .inl (.inl ht), rfl, b, _, rfl, .inl (sq_at eb), fun h nh => ?_⟩
      have s1 := (Kp.new (ps := []) (o := HO.lst (d.map V.int)) nh).same
      have hPA1 := (isPlain T.C_Plain).same hPA s1
      have eh : (upd H h (.lst (d.map V.int))) h = some (.lst (d.map V.int)) := upd_same
      have nFh := (isPlain T.C_Plain).new hPA nh
      have ll : (laidF r c d).length ≤ 4000 := laidF_le ⟨by omega, by omega⟩
      refine ⟨.ref p, rfl, p, dx, fs, rfl, s1 _ _ hi, no "write" (by decide +kernel), .ref h, rfl, p, h, F, r, c, d, rfl, hPA1, nFh, eh, hb, by omega, by omega, by omega, ll, fun H1 F1 hPA2 st => ?_⟩
      have eh1 := (st.keep nFh eh).1
      have nF1 := (st.keep nFh eh).2
      refine ⟨.ref h, rfl, .inl ⟨rfl, _, sq_at eh1⟩, h, _, _, rfl, rfl, eh1, by rw [List.length_map]; omega, ?_⟩
      refine ⟨_, rfl, q rfl _ F1 _ ((isPlain T.C_Plain).kp hPA2 (qs := [h]) (Kp.at (by simp)) (by simpa using nF1)) rfl ?_⟩
      have st0 := (Step.of (F := F) s1).trans st
      exact ⟨fun b' o' nf e => by
        have : b' ≠ h := ne_of_none e nh
        rw [upd_ne this]; exact st0.1 b' o' nf e, st0.2⟩
    | sk pl z g =>
      refine ⟨.ref t, rfl, t, _, _, .str (Str.ofString "seek"), rfl, rfl, .inl (.inl ht), rfl, ?_⟩
      refine ⟨_, rfl, rfl, _, rfl, iteFc (by decide +kernel) ?_⟩
      refine ⟨_, rfl, rfl, _, rfl, iteFc (by decide +kernel) ?_⟩
      refine ⟨_, rfl, rfl, _, rfl, iteFc (by decide +kernel) ?_⟩
      refine ⟨_, rfl, rfl, _, rfl, iteFc (by decide +kernel) ?_⟩
      refine ⟨_, rfl, rfl, _, rfl, iteTc (by decide +kernel) ?_⟩
      exact ⟨.ref p, rfl, p, dx, fs, rfl, hi, no "seek" (by decide +kernel), .ref t, rfl, t, _, _, .int pl, rfl, rfl, .inl (.inl ht), rfl, .ref t, rfl, t, _, _, .str z, rfl, rfl, .inl (.inl ht), rfl, rfl, rfl, .inl ⟨p, F, r, c, g, pl, z, rfl, hPA, hv.1, by have := hv.2; omega, fun H1 F1 hPA1 st => q rfl H1 F1 (.int g) hPA1 rfl st⟩⟩
    | ct k =>
      refine ⟨.ref t, rfl, t, _, _, .str (Str.ofString "cut"), rfl, rfl, .inl (.inl ht), rfl, ?_⟩
      refine ⟨_, rfl, rfl, _, rfl, iteFc (by decide +kernel) ?_⟩
      refine ⟨_, rfl, rfl, _, rfl, iteFc (by decide +kernel) ?_⟩
      refine ⟨_, rfl, rfl, _, rfl, iteFc (by decide +kernel) ?_⟩
      refine ⟨_, rfl, rfl, _, rfl, iteFc (by decide +kernel) ?_⟩
      refine ⟨_, rfl, rfl, _, rfl, iteFc (by decide +kernel) ?_⟩
      refine ⟨_, rfl, rfl, _, rfl, iteTc (by decide +kernel) ?_⟩
      cases k with
      | none => exact ⟨.ref p, rfl, p, dx, fs, rfl, hi, no "cut" (by decide +kernel), .ref t, rfl, t, _, _, .non, rfl, rfl, .inl (.inl ht), rfl, .inl ⟨p, F, r, c, c, .non, rfl, hPA, .inl ⟨rfl, rfl⟩, by omega, fun H1 F1 hPA1 st => q rfl H1 F1 .non hPA1 rfl st⟩⟩
      | some n => exact ⟨.ref p, rfl, p, dx, fs, rfl, hi, no "cut" (by decide +kernel), .ref t, rfl, t, _, _, .int n, rfl, rfl, .inl (.inl ht), rfl, .inl ⟨p, F, r, c, n, .int n, rfl, hPA, .inr rfl, by have := hv n rfl; omega, fun H1 F1 hPA1 st => q rfl H1 F1 .non hPA1 rfl st⟩⟩
    | tl =>
      refine ⟨.ref t, rfl, t, _, _, .str (Str.ofString "tell"), rfl, rfl, .inl (.inl ht), rfl, ?_⟩
      refine ⟨_, rfl, rfl, _, rfl, iteFc (by decide +kernel) ?_⟩
      refine ⟨_, rfl, rfl, _, rfl, iteFc (by decide +kernel) ?_⟩
      refine ⟨_, rfl, rfl, _, rfl, iteFc (by decide +kernel) ?_⟩
      refine ⟨_, rfl, rfl, _, rfl, iteFc (by decide +kernel) ?_⟩
      refine ⟨_, rfl, rfl, _, rfl, iteFc (by decide +kernel) ?_⟩
      refine ⟨_, rfl, rfl, _, rfl, iteFc (by decide +kernel) ?_⟩
      refine ⟨_, rfl, rfl, _, rfl, iteTc (by decide +kernel) ?_⟩
      exact ⟨.ref p, rfl, p, dx, fs, rfl, hi, no "tell" (by decide +kernel), p, F, r, c, rfl, hPA, q rfl H F (.int c) hPA rfl (Step.of (Same.refl _))⟩
    | bR =>
      refine ⟨.ref t, rfl, t, _, _, .str (Str.ofString "read"), rfl, rfl, .inl (.inl ht), rfl, ?_⟩
      refine ⟨_, rfl, rfl, _, rfl, iteTc (by decide +kernel) ?_⟩
      exact ⟨.ref p, rfl, p, dx, fs, rfl, hi, no "read" (by decide +kernel), .ref t, rfl, t, _, _, .int (-1), rfl, rfl, .inl (.inl ht), rfl, .inr ⟨p, F, r, c, -1, rfl, hPA, by decide, e1 rfl⟩⟩
    | bL =>
      refine ⟨.ref t, rfl, t, _, _, .str (Str.ofString "readline"), rfl, rfl, .inl (.inl ht), rfl, ?_⟩
      refine ⟨_, rfl, rfl, _, rfl, iteFc (by decide +kernel) ?_⟩
      refine ⟨_, rfl, rfl, _, rfl, iteFc (by decide +kernel) ?_⟩
      refine ⟨_, rfl, rfl, _, rfl, iteFc (by decide +kernel) ?_⟩
      refine ⟨_, rfl, rfl, _, rfl, iteTc (by decide +kernel) ?_⟩
      exact ⟨.ref p, rfl, p, dx, fs, rfl, hi, no "readline" (by decide +kernel), .ref t, rfl, t, _, _, .int (-3), rfl, rfl, .inl (.inl ht), rfl, .inr ⟨p, F, r, c, -3, rfl, hPA, by decide, e1 rfl⟩⟩
    | bS =>
      refine ⟨.ref t, rfl, t, _, _, .str (Str.ofString "seek"), rfl, rfl, .inl (.inl ht), rfl, ?_⟩
      refine ⟨_, rfl, rfl, _, rfl, iteFc (by decide +kernel) ?_⟩
      refine ⟨_, rfl, rfl, _, rfl, iteFc (by decide +kernel) ?_⟩
      refine ⟨_, rfl, rfl, _, rfl, iteFc (by decide +kernel) ?_⟩
      refine ⟨_, rfl, rfl, _, rfl, iteFc (by decide +kernel) ?_⟩
      refine ⟨_, rfl, rfl, _, rfl, iteTc (by decide +kernel) ?_⟩
      exact ⟨.ref p, rfl, p, dx, fs, rfl, hi, no "seek" (by decide +kernel), .ref t, rfl, t, _, _, .int (-1), rfl, rfl, .inl (.inl ht), rfl, .ref t, rfl, t, _, _, .str (Str.ofString "head"), rfl, rfl, .inl (.inl ht), rfl, rfl, rfl, .inr ⟨p, F, r, c, -1, rfl, hPA, by decide, e2 rfl rfl⟩⟩
    | bC =>
      refine ⟨.ref t, rfl, t, _, _, .str (Str.ofString "cut"), rfl, rfl, .inl (.inl ht), rfl, ?_⟩
      refine ⟨_, rfl, rfl, _, rfl, iteFc (by decide +kernel) ?_⟩
      refine ⟨_, rfl, rfl, _, rfl, iteFc (by decide +kernel) ?_⟩
      refine ⟨_, rfl, rfl, _, rfl, iteFc (by decide +kernel) ?_⟩
      refine ⟨_, rfl, rfl, _, rfl, iteFc (by decide +kernel) ?_⟩
      refine ⟨_, rfl, rfl, _, rfl, iteFc (by decide +kernel) ?_⟩
      refine ⟨_, rfl, rfl, _, rfl, iteTc (by decide +kernel) ?_⟩
      exact ⟨.ref p, rfl, p, dx, fs, rfl, hi, no "cut" (by decide +kernel), .ref t, rfl, t, _, _, .int (-2), rfl, rfl, .inl (.inl ht), rfl, .inr ⟨p, F, r, c, -2, rfl, hPA, by decide, e2 rfl rfl⟩⟩

theorem ok_tries (T : Tx K mg) : FnOk P w K mg base CX0 8 T.f_tries T.fd_tries P_tries (spTries23 (PlainAt T.C_Plain)) := by
  have G_does := ok_does (P := P) (w := w) (base := base) T
  have sz : sizeLine = 16777216 := sizeLine_eq
  refine T.D_tries.F.ok sc_tries (fun vs H Q E h => ?_) (fun cdv A outer s H vs Q E hr h => ?_)
  · obtain ⟨p, t, F, r, c, D, rfl, _⟩ := h
    rfl
  · obtain ⟨p, t, F, r, c, D, rfl, hPA, ht, hv, nb, lr, lc, q1, q2⟩ := h
    refine ⟨_, (pss_cons (ps_set (i := 2) sc_tries.nd rfl (.inl rfl) pe_non)
      (pss_cons (Sip.ps_try_mix rfl rfl takes0 (fun W pn xe tk _ => (pss_one (ps_set (i := 2) sc_tries.nd rfl (.inl rfl) (pe_tup (pa_cons pe_str (pa_cons (by exact (pe_callS G_does (hr.mono (by decide)) (by rfl) T.D_does.g T.D_does.F.kp T.bb_does (fun σ => passAt tk σ) (by exact (pa_cons (pv 0) (pa_cons (pv 1) pa_nil))))) pa_nil)))))) (Sip.ClsOk.cons (o := none) ⟨rfl, by decide, .inl T.g_BadCount⟩ trivial (fun a oe cls d pn hz hf => (pss_one (ps_set (i := 2) sc_tries.nd rfl (.inl rfl) (pe_tup (pa_cons pe_str (pa_cons pe_str (pa_cons pe_non pa_nil))))))) (Sip.ClsOk.cons (o := some 3) ⟨rfl, by decide, .inl T.g_BadPlace⟩ ⟨sc_tries.nd, rfl, rfl⟩ (fun a oe cls d pn hz hf => (pss_one (ps_set (i := 2) sc_tries.nd rfl (.inl rfl) (pe_tup (pa_cons pe_str (pa_cons pe_str (pa_cons (show PE _ _ (Sip.tXf K "goal" a cls d _) from Sip.pe_xf (f := "goal") hz hf (pv 3)) pa_nil))))))) (Sip.ClsOk.cons (o := none) ⟨rfl, by decide, .inl T.g_SipError⟩ trivial (fun a oe cls d pn hz hf => (pss_one (ps_set (i := 2) sc_tries.nd rfl (.inl rfl) (pe_tup (pa_cons pe_str (pa_cons pe_str (pa_cons pe_non pa_nil))))))) Sip.ClsOk.nil))))
      (pss_one (ps_ret (pv 2))))), ?_⟩
    refine ⟨_, rfl, _, rfl, p, t, F, r, c, D, rfl, hPA, ht, hv, nb, lr, lc, fun hg H1 F1 v hPA1 hA st => ?_, fun hc H1 s1 => ?_, fun hb hc H1 d s1 hd => ?_⟩
    · refine ⟨by show (2 : Nat) ≤ sizeLine; omega, fun u nu => ?_⟩
      have su := (Kp.new (ps := []) (o := HO.tup [.str (Str.ofString "told"), v]) nu).same
      exact ⟨_, rfl, q1 hg _ F1 u v ((isPlain T.C_Plain).same hPA1 su) (hA.same su) upd_same (st.trans (Step.of su))⟩
    · have hb : badD D = true := by cases D <;> first | rfl | (cases hc; done)
      refine ⟨true, T.te_BadCount_BadCount, fun _ e ne => ?_, fun h => nomatch h⟩
      refine ⟨by show (3 : Nat) ≤ sizeLine; omega, fun u nu => ?_⟩
      refine ⟨_, rfl, q2 hb _ u ?_ (s1.trans (Kp.new (ps := []) nu).same)⟩
      rw [upd_same]; unfold refV; rw [hc]; rfl
    · refine ⟨false, T.te_BadPlace_BadCount, (fun h => nomatch h), fun _ => ⟨true, T.te_BadPlace_BadPlace, fun _ e ne => ?_, fun h => nomatch h⟩⟩
      refine ⟨.ref e, rfl, T.C_BadPlace, d, _, .int (goalB D), rfl, rfl, T.e_BadPlace, T.n_BadPlace, rfl, hd, (by kernel_rfl), by show (3 : Nat) ≤ sizeLine; omega, fun u nu => ?_⟩
      refine ⟨_, rfl, q2 hb _ u ?_ (s1.trans (Kp.new (ps := []) nu).same)⟩
      rw [upd_same]; unfold refV; rw [hc]; rfl

theorem ok_llaid (T : Tx K mg) : FnOk P w K mg base CX0 1 T.f_llaid T.fd_llaid P_llaid (spLLaid23 K) := by
  have sz : sizeLine = 16777216 := sizeLine_eq
  refine T.D_llaid.F.ok sc_llaid (fun vs H Q E h => ?_) (fun cdv A outer s H vs Q E hr h => ?_)
  · obtain ⟨a, b, r, c, d, rfl, _⟩ := h
    rfl
  · obtain ⟨a, b, r, c, d, rfl, hA, hB, lr, lc, ld, q⟩ := h
    refine ⟨_, (pss_cons (ps_if (pt_cmpR op_eq (pe_callB call_len_seq (by rfl) T.m_len PySem.boot_len (pa_cons (pv 2) pa_nil)) pe_int (nomark _)) (pss_one (ps_ret (pe_callTy call_list_of (by rfl) T.m_list (by decide +kernel) (pa_cons (pv 0) pa_nil)))) pss_nil)
      (pss_cons (ps_set (i := 3) sc_llaid.nd rfl (.inl rfl) (pe_op op_cat (pv 0) (pe_lc (own := [("_law_k", 4)]) (g := gName 4) (tt := tYes) (by rfl) sc_llaid.nd (pi_range2 (by rfl) T.m_range (pa_cons (pe_callB call_len_seq (by rfl) T.m_len PySem.boot_len (pa_cons (pv 0) pa_nil)) (pa_cons (pv 1) pa_nil))) (blkOk_by (own := [("_law_k", 4)]) (N := N_llaid) (sc := defScope s_llaid) (by decide +kernel)) (fun _ _ _ _ _ => pg_name (i := 4) sc_llaid.nd rfl (Or.inl rfl)) (fun _ _ _ _ _ => pts_nil) (fun _ _ _ _ _ => pe_int))))
      (pss_one (ps_ret (pe_op op_cat (pe_op op_cat (pe_slice sl_list (pv 3) po_none (po_some (pv 1))) (pv 2)) (pe_slice sl_list (pv 3) (po_some (pe_op op_add (pv 1) (pe_callB call_len_seq (by rfl) T.m_len PySem.boot_len (pa_cons (pv 2) pa_nil)))) po_none)))))), ?_⟩
    refine ⟨.ref b, rfl, b, _, rfl, .inl (sq_at hB), rfl, _, rfl, ?_⟩
    by_cases d0 : d = []
    · subst d0
      refine iteTc (by rfl) ?_
      refine ⟨.ref a, rfl, a, _, rfl, .inl (sq_at hA), fun t nt => q _ t nt (by rw [upd_same, laidF_nil]) (Kp.new (ps := []) nt).same⟩
    refine iteFc (decide_eq_false (fun z => d0 (List.length_eq_zero_iff.mp (by have := V.int.inj z; rw [List.length_map] at this; omega)))) ?_
    refine ⟨.ref a, rfl, .ref a, rfl, a, _, rfl, .inl (sq_at hA), .int c, rfl, ?_⟩
    refine ⟨_, _, rfl, ⟨by rw [List.length_map]; omega, by rw [List.length_map]; omega, by omega, by omega⟩, fun D nD => ?_⟩
    have zn : (((c : Int) - ((r.map V.int).length : Int)).toNat) = c - r.length := by rw [List.length_map]; omega
    rw [zn]
    refine lc_range (lo := ((r.map V.int).length : Int)) (n := c - r.length) (fun j H' => H' D = some (.lst ((List.replicate j (0 : Int)).map V.int)) ∧ Same H H') ⟨by rw [upd_same]; rfl, (Kp.new (ps := []) nD).same⟩ (fun j H' hj hP => ?_) (fun H4 hP => ?_)
    · obtain ⟨eD, s⟩ := hP
      refine ⟨rfl, ?_⟩
      refine ⟨_, eD, by rw [List.length_map, List.length_replicate]; omega, ?_, (Kp.put (ps := []) (Kp.of s) nD).same⟩
      rw [upd_same, List.replicate_succ', List.map_append]; rfl
    · obtain ⟨eD, s4⟩ := hP
      refine ⟨a, D, _, _, rfl, rfl, s4 _ _ hA, eD, by rw [List.length_map, List.length_map, List.length_replicate]; omega, fun l1 nl1 => ?_⟩
      rw [← List.map_append]
      have lz : (r ++ List.replicate (c - r.length) (0 : Int)).length ≤ 9000 := by rw [List.length_append, List.length_replicate]; omega
      generalize eZ : r ++ List.replicate (c - r.length) (0 : Int) = Z at lz ⊢
      have c1 := (Kp.new (ps := []) (o := HO.lst (Z.map V.int)) nl1).same
      refine ⟨.ref l1, rfl, _, rfl, _, rfl, l1, _, rfl, sq_new, fun l2 nl2 => ?_⟩
      rw [take_cut]
      have c2 := (Kp.new (ps := []) (o := HO.lst ((Z.take c).map V.int)) nl2).same
      have s6 := (s4.trans c1).trans c2
      refine ⟨.ref b, rfl, l2, b, _, _, rfl, rfl, upd_same, s6 _ _ hB, by rw [List.length_map, List.length_map, List.length_take]; omega, fun l3 nl3 => ?_⟩
      rw [← List.map_append]
      have c3 := (Kp.new (ps := []) (o := HO.lst ((Z.take c ++ d).map V.int)) nl3).same
      have s7 := s6.trans c3
      refine ⟨.ref l1, rfl, _, rfl, .ref b, rfl, b, _, rfl, .inl (sq_at (s7 _ _ hB)), _, _, rfl, rfl, _, rfl, l1, _, rfl, sq_at (c3 _ _ (c2 _ _ upd_same)), fun l4 nl4 => ?_⟩
      rw [List.length_map, show ((c : Int) + (d.length : Int)) = ((c + d.length : Nat) : Int) by omega, drop_cut]
      have c4 := (Kp.new (ps := []) (o := HO.lst ((Z.drop (c + d.length)).map V.int)) nl4).same
      refine ⟨l3, l4, _, _, rfl, rfl, c4 _ _ upd_same, upd_same, by rw [List.length_map, List.length_map, List.length_append, List.length_take, List.length_drop]; omega, fun l5 nl5 => ?_⟩
      rw [← List.map_append]
      have s8 := s7.trans c4
      refine q _ l5 (s8.free nl5) ?_ (s8.trans (Kp.new (ps := []) nl5).same)
      rw [upd_same, laidF_cons d0, eZ]

theorem ok_due (T : Tx K mg) : FnOk P w K mg base CX0 2 T.f_due T.fd_due P_due (spDue23 K) := by
  have G_llaid := ok_llaid (P := P) (w := w) (base := base) T
  have sz : sizeLine = 16777216 := sizeLine_eq
  refine T.D_due.F.ok sc_due (fun vs H Q E h => ?_) (fun cdv A outer s H vs Q E hr h => ?_)
  · obtain ⟨x, t, r, c, D, rfl, _⟩ := h
    rfl
  · obtain ⟨x, t, r, c, D, rfl, hx, ht, hv, hg, lr, lc, q⟩ := h
    refine ⟨_, (pss_cons (ps_set (i := 3) sc_due.nd rfl (.inl rfl) (pe_ix ix_tup (pv 2) pe_int (fun _ _ => rfl)))
      (pss_cons (ps_if (pt_cmpR op_eq (pv 3) pe_str (nomark _)) (pss_one (ps_ret (pe_tup (pa_cons (pv 1) (pa_cons (pv 0) (pa_cons (pv 1) pa_nil)))))) pss_nil)
      (pss_cons (ps_if (pt_cmpR op_in_seq (pv 3) (pe_tup (pa_cons pe_str (pa_cons pe_str (pa_cons pe_str (pa_cons pe_str pa_nil))))) rfl) (pss_cons (ps_set (i := 4) sc_due.nd rfl (.inl rfl) (pe_slice sl_list (pv 0) (po_some (pv 1)) po_none))
      (C8.pss_cut (ps_if (PW.pt (pw_and (pt_cmpR op_eq (pv 3) pe_str (nomark _)) (pw_and1 (pt_cmpR op_in_seq pe_int (pv 4) rfl)))) (pss_one (ps_set (i := 4) sc_due.nd rfl (.inl rfl) (pe_slice sl_list (pv 4) po_none (po_some (pe_op op_add (pe_bm PySem.F.plainAttrs_list PySem.F.slot_list_index PySem.F.type_list_index mt_index (pv 4) (pa_cons pe_int pa_nil)) pe_int))))) pss_nil)
      (C8.pss_cut (ps_if (pt_cmpR op_notN (pe_ix ix_tup (pv 2) pe_int (fun _ _ => rfl)) pe_non (nomark _)) (pss_one (ps_set (i := 4) sc_due.nd rfl (.inl rfl) (pe_slice sl_list (pv 4) po_none (po_some (pe_ix ix_tup (pv 2) pe_int (fun _ _ => rfl)))))) pss_nil)
      (pss_one (ps_ret (pe_tup (pa_cons (pv 4) (pa_cons (pv 0) (pa_cons (pe_op op_add (pv 1) (pe_op op_mul (pe_callB call_len_seq (by rfl) T.m_len PySem.boot_len (pa_cons (pv 4) pa_nil)) (pe_callTy call_int1 (by rfl) T.m_int (by decide +kernel) (pa_cons (pe_cmpR op_ne (pv 3) pe_str (nomark _)) pa_nil)))) pa_nil))))))))) pss_nil)
      (pss_cons (ps_if (pt_cmpR op_eq (pv 3) pe_str (nomark _)) (pss_one (ps_ret (pe_tup (pa_cons (pe_callB call_len_seq (by rfl) T.m_len PySem.boot_len (pa_cons (pe_ix ix_tup (pv 2) pe_int (fun _ _ => rfl)) pa_nil)) (pa_cons (pe_call G_llaid (hr.mono (by decide)) (by rfl) T.D_llaid.g T.D_llaid.F.kp T.bb_llaid .nil pass0 (pa_cons (pv 0) (pa_cons (pv 1) (pa_cons (pe_ix ix_tup (pv 2) pe_int (fun _ _ => rfl)) pa_nil)))) (pa_cons (pe_op op_add (pv 1) (pe_callB call_len_seq (by rfl) T.m_len PySem.boot_len (pa_cons (pe_ix ix_tup (pv 2) pe_int (fun _ _ => rfl)) pa_nil))) pa_nil)))))) pss_nil)
      (pss_cons (ps_if (pt_cmpR op_eq (pv 3) pe_str (nomark _)) (pss_cons (ps_set (i := 5) sc_due.nd rfl (.inl rfl) (pe_op op_add (pe_ix ix_tup (pv 2) pe_int (fun _ _ => rfl)) (pe_dget (hu_of hr) (pe_disp (pps_cons pe_str pe_int (pps_cons pe_str (pv 1) (pps_cons pe_str (pe_callB call_len_seq (by rfl) T.m_len PySem.boot_len (pa_cons (pv 0) pa_nil)) pps_nil))) (by rfl) (by rfl) (fun z => by cases z) (by decide)) (pe_ix ix_tup (pv 2) pe_int (fun _ _ => rfl)) (fun _ _ => rfl))))
      (pss_one (ps_ret (pe_tup (pa_cons (pv 5) (pa_cons (pv 0) (pa_cons (pv 5) pa_nil))))))) pss_nil)
      (pss_cons (ps_set (i := 5) sc_due.nd rfl (.inl rfl) (pv 1))
      (C8.pss_cut (ps_if (pt_cmpR op_notN (pe_ix ix_tup (pv 2) pe_int (fun _ _ => rfl)) pe_non (nomark _)) (pss_one (ps_set (i := 5) sc_due.nd rfl (.inl rfl) (pe_ix ix_tup (pv 2) pe_int (fun _ _ => rfl)))) pss_nil)
      (pss_one (ps_ret (pe_tup (pa_cons pe_non (pa_cons (pe_slice sl_list (pv 0) po_none (po_some (pv 5))) (pa_cons (pv 1) pa_nil))))))))))))), ?_⟩
    have w0 : ∃ z, (dVals D)[0]? = some (.str z) := by cases D <;> exact ⟨_, rfl⟩
    cases D with
    | tl =>
      refine ⟨.ref t, rfl, t, _, _, .str (Str.ofString "tell"), rfl, rfl, .inl (.inl ht), rfl, ?_⟩
      refine ⟨_, rfl, rfl, _, rfl, iteTc (by decide +kernel) ?_⟩
      refine ⟨_, rfl, _, rfl, _, rfl, by show (3 : Nat) ≤ sizeLine; omega, fun u nu => ?_⟩
      exact q _ u x (.int c) rfl upd_same (by rw [upd_ne (ne_of_none hx nu)]; exact hx) (.inl rfl) (Kp.new (ps := []) nu).same
    | rd k =>
      refine ⟨.ref t, rfl, t, _, _, .str (Str.ofString "read"), rfl, rfl, .inl (.inl ht), rfl, ?_⟩
      refine ⟨_, rfl, rfl, _, rfl, iteFc (by decide +kernel) ?_⟩
      refine ⟨_, rfl, by show (4 : Nat) ≤ sizeLine; omega, fun i4 ni4 => ?_⟩
      have c1 := (Kp.new (ps := []) (o := HO.tup [.str (Str.ofString "read"), .str (Str.ofString "read_some"), .str (Str.ofString "peek"), .str (Str.ofString "readline")]) ni4).same
      refine ⟨i4, _, rfl, .inr (.inl (.inl upd_same)), rfl, rfl, _, rfl, iteTc (by decide +kernel) ?_⟩
      refine ⟨.ref x, rfl, _, rfl, _, rfl, x, _, rfl, sq_at (c1 _ _ hx), fun f nf => ?_⟩
      rw [drop_cut]
      have s2 := c1.trans (Kp.new (ps := []) (o := HO.lst ((r.drop c).map V.int)) nf).same
      refine ⟨fun σ' H' => ∃ f : Addr, σ' = [some (.ref x), some (.int c), some (.ref t), some (.str (Str.ofString "read")), some (.ref f), none] ∧ H' f = some (.lst ((r.drop c).map V.int)) ∧ H f = none ∧ Same H H', ?_, fun σ' H1 hm => ?_⟩
      · exact ⟨_, rfl, rfl, _, rfl, iteFc (by decide +kernel) (iteF ⟨f, rfl, upd_same, c1.free nf, s2⟩)⟩
      obtain ⟨f1, rfl, ef, nf1, s3⟩ := hm
      generalize eX : r.drop c = X at ef
      have lX : X.length ≤ 3000 := by
        rw [← eX]
        rw [List.length_drop]; omega
      refine ⟨fun σ' H' => ∃ f : Addr, σ' = [some (.ref x), some (.int c), some (.ref t), some (.str (Str.ofString "read")), some (.ref f), none] ∧ H' f = some (.lst ((takeO (k) X).map V.int)) ∧ H f = none ∧ Same H H', ?_, fun σ' H2 hm => ?_⟩
      · cases k with
        | none => exact ⟨.ref t, rfl, t, _, _, .non, rfl, rfl, .inl (.inl (s3 _ _ ht)), rfl, rfl, _, rfl, iteFc (by rfl) ⟨f1, rfl, ef, nf1, s3⟩⟩
        | some n =>
          refine ⟨.ref t, rfl, t, _, _, .int n, rfl, rfl, .inl (.inl (s3 _ _ ht)), rfl, rfl, _, rfl, ?_⟩
          refine iteTc (by rfl) ?_
          refine ⟨.ref f1, rfl, .ref t, rfl, t, _, _, .int n, rfl, rfl, .inl (.inl (s3 _ _ ht)), rfl, _, rfl, f1, _, rfl, sq_at ef, fun z nz => ?_⟩
          rw [take_cut]
          exact ⟨z, rfl, upd_same, s3.free nz, s3.trans (Kp.new (ps := []) nz).same⟩
      obtain ⟨f2, rfl, ef2, nf2, s4⟩ := hm
      refine ⟨_, rfl, _, rfl, _, rfl, _, rfl, f2, _, rfl, .inl (sq_at ef2), _, rfl, rfl, .inr ⟨_, rfl, _, _, rfl, rfl, .inr (by decide +kernel), _, _, rfl, rfl, by show (3 : Nat) ≤ sizeLine; omega, fun u nu => ?_⟩⟩
      have su := (Kp.new (ps := []) (o := HO.tup [.ref f2, .ref x, .int (c + (takeO (k) X).length : Nat)]) nu).same
      subst eX
      refine q _ u x (.ref f2) ⟨f2, rfl, by rw [upd_ne (ne_of_none ef2 nu)]; exact ef2, nf2⟩ ?_ (by rw [upd_ne (ne_of_none (s4 _ _ hx) nu)]; exact s4 _ _ hx) (.inl rfl) (s4.trans (Kp.new (ps := []) nu).same)
      rw [upd_same, List.length_map]
      show some (HO.tup [_, _, V.int ((c : Int) + _ * (if (!decide (V.str (Str.ofString "read") = V.str (Str.ofString "peek"))) = true then 1 else 0))]) = some (HO.tup [_, _, V.int ((c + (takeO (k) (r.drop c)).length : Nat) : Int)])
      rw [if_pos (by decide +kernel)]
      show some (HO.tup [_, _, V.int _]) = some (HO.tup [_, _, V.int _])
      congr 4
      congr 1
      exact congrArg V.int (by omega)
    | rs n =>
      refine ⟨.ref t, rfl, t, _, _, .str (Str.ofString "read_some"), rfl, rfl, .inl (.inl ht), rfl, ?_⟩
      refine ⟨_, rfl, rfl, _, rfl, iteFc (by decide +kernel) ?_⟩
      refine ⟨_, rfl, by show (4 : Nat) ≤ sizeLine; omega, fun i4 ni4 => ?_⟩
      have c1 := (Kp.new (ps := []) (o := HO.tup [.str (Str.ofString "read"), .str (Str.ofString "read_some"), .str (Str.ofString "peek"), .str (Str.ofString "readline")]) ni4).same
      refine ⟨i4, _, rfl, .inr (.inl (.inl upd_same)), rfl, rfl, _, rfl, iteTc (by decide +kernel) ?_⟩
      refine ⟨.ref x, rfl, _, rfl, _, rfl, x, _, rfl, sq_at (c1 _ _ hx), fun f nf => ?_⟩
      rw [drop_cut]
      have s2 := c1.trans (Kp.new (ps := []) (o := HO.lst ((r.drop c).map V.int)) nf).same
      refine ⟨fun σ' H' => ∃ f : Addr, σ' = [some (.ref x), some (.int c), some (.ref t), some (.str (Str.ofString "read_some")), some (.ref f), none] ∧ H' f = some (.lst ((r.drop c).map V.int)) ∧ H f = none ∧ Same H H', ?_, fun σ' H1 hm => ?_⟩
      · exact ⟨_, rfl, rfl, _, rfl, iteFc (by decide +kernel) (iteF ⟨f, rfl, upd_same, c1.free nf, s2⟩)⟩
      obtain ⟨f1, rfl, ef, nf1, s3⟩ := hm
      generalize eX : r.drop c = X at ef
      have lX : X.length ≤ 3000 := by
        rw [← eX]
        rw [List.length_drop]; omega
      refine ⟨fun σ' H' => ∃ f : Addr, σ' = [some (.ref x), some (.int c), some (.ref t), some (.str (Str.ofString "read_some")), some (.ref f), none] ∧ H' f = some (.lst ((takeO (some n) X).map V.int)) ∧ H f = none ∧ Same H H', ?_, fun σ' H2 hm => ?_⟩
      · refine ⟨.ref t, rfl, t, _, _, .int n, rfl, rfl, .inl (.inl (s3 _ _ ht)), rfl, rfl, _, rfl, ?_⟩
        refine iteTc (by rfl) ?_
        refine ⟨.ref f1, rfl, .ref t, rfl, t, _, _, .int n, rfl, rfl, .inl (.inl (s3 _ _ ht)), rfl, _, rfl, f1, _, rfl, sq_at ef, fun z nz => ?_⟩
        rw [take_cut]
        exact ⟨z, rfl, upd_same, s3.free nz, s3.trans (Kp.new (ps := []) nz).same⟩
      obtain ⟨f2, rfl, ef2, nf2, s4⟩ := hm
      refine ⟨_, rfl, _, rfl, _, rfl, _, rfl, f2, _, rfl, .inl (sq_at ef2), _, rfl, rfl, .inr ⟨_, rfl, _, _, rfl, rfl, .inr (by decide +kernel), _, _, rfl, rfl, by show (3 : Nat) ≤ sizeLine; omega, fun u nu => ?_⟩⟩
      have su := (Kp.new (ps := []) (o := HO.tup [.ref f2, .ref x, .int (c + (takeO (some n) X).length : Nat)]) nu).same
      subst eX
      refine q _ u x (.ref f2) ⟨f2, rfl, by rw [upd_ne (ne_of_none ef2 nu)]; exact ef2, nf2⟩ ?_ (by rw [upd_ne (ne_of_none (s4 _ _ hx) nu)]; exact s4 _ _ hx) (.inl rfl) (s4.trans (Kp.new (ps := []) nu).same)
      rw [upd_same, List.length_map]
      show some (HO.tup [_, _, V.int ((c : Int) + _ * (if (!decide (V.str (Str.ofString "read_some") = V.str (Str.ofString "peek"))) = true then 1 else 0))]) = some (HO.tup [_, _, V.int ((c + (takeO (some n) (r.drop c)).length : Nat) : Int)])
      rw [if_pos (by decide +kernel)]
      show some (HO.tup [_, _, V.int _]) = some (HO.tup [_, _, V.int _])
      congr 4
      congr 1
      exact congrArg V.int (by omega)
    | pk n =>
      refine ⟨.ref t, rfl, t, _, _, .str (Str.ofString "peek"), rfl, rfl, .inl (.inl ht), rfl, ?_⟩
      refine ⟨_, rfl, rfl, _, rfl, iteFc (by decide +kernel) ?_⟩
      refine ⟨_, rfl, by show (4 : Nat) ≤ sizeLine; omega, fun i4 ni4 => ?_⟩
      have c1 := (Kp.new (ps := []) (o := HO.tup [.str (Str.ofString "read"), .str (Str.ofString "read_some"), .str (Str.ofString "peek"), .str (Str.ofString "readline")]) ni4).same
      refine ⟨i4, _, rfl, .inr (.inl (.inl upd_same)), rfl, rfl, _, rfl, iteTc (by decide +kernel) ?_⟩
      refine ⟨.ref x, rfl, _, rfl, _, rfl, x, _, rfl, sq_at (c1 _ _ hx), fun f nf => ?_⟩
      rw [drop_cut]
      have s2 := c1.trans (Kp.new (ps := []) (o := HO.lst ((r.drop c).map V.int)) nf).same
      refine ⟨fun σ' H' => ∃ f : Addr, σ' = [some (.ref x), some (.int c), some (.ref t), some (.str (Str.ofString "peek")), some (.ref f), none] ∧ H' f = some (.lst ((r.drop c).map V.int)) ∧ H f = none ∧ Same H H', ?_, fun σ' H1 hm => ?_⟩
      · exact ⟨_, rfl, rfl, _, rfl, iteFc (by decide +kernel) (iteF ⟨f, rfl, upd_same, c1.free nf, s2⟩)⟩
      obtain ⟨f1, rfl, ef, nf1, s3⟩ := hm
      generalize eX : r.drop c = X at ef
      have lX : X.length ≤ 3000 := by
        rw [← eX]
        rw [List.length_drop]; omega
      refine ⟨fun σ' H' => ∃ f : Addr, σ' = [some (.ref x), some (.int c), some (.ref t), some (.str (Str.ofString "peek")), some (.ref f), none] ∧ H' f = some (.lst ((takeO (some n) X).map V.int)) ∧ H f = none ∧ Same H H', ?_, fun σ' H2 hm => ?_⟩
      · refine ⟨.ref t, rfl, t, _, _, .int n, rfl, rfl, .inl (.inl (s3 _ _ ht)), rfl, rfl, _, rfl, ?_⟩
        refine iteTc (by rfl) ?_
        refine ⟨.ref f1, rfl, .ref t, rfl, t, _, _, .int n, rfl, rfl, .inl (.inl (s3 _ _ ht)), rfl, _, rfl, f1, _, rfl, sq_at ef, fun z nz => ?_⟩
        rw [take_cut]
        exact ⟨z, rfl, upd_same, s3.free nz, s3.trans (Kp.new (ps := []) nz).same⟩
      obtain ⟨f2, rfl, ef2, nf2, s4⟩ := hm
      refine ⟨_, rfl, _, rfl, _, rfl, _, rfl, f2, _, rfl, .inl (sq_at ef2), _, rfl, rfl, .inr ⟨_, rfl, _, _, rfl, rfl, .inr (by decide +kernel), _, _, rfl, rfl, by show (3 : Nat) ≤ sizeLine; omega, fun u nu => ?_⟩⟩
      have su := (Kp.new (ps := []) (o := HO.tup [.ref f2, .ref x, .int (c : Nat)]) nu).same
      subst eX
      refine q _ u x (.ref f2) ⟨f2, rfl, by rw [upd_ne (ne_of_none ef2 nu)]; exact ef2, nf2⟩ ?_ (by rw [upd_ne (ne_of_none (s4 _ _ hx) nu)]; exact s4 _ _ hx) (.inl rfl) (s4.trans (Kp.new (ps := []) nu).same)
      rw [upd_same, List.length_map]
      show some (HO.tup [_, _, V.int ((c : Int) + _ * (if (!decide (V.str (Str.ofString "peek") = V.str (Str.ofString "peek"))) = true then 1 else 0))]) = some (HO.tup [_, _, V.int ((c : Nat) : Int)])
      rw [if_neg (by decide +kernel)]
      show some (HO.tup [_, _, V.int _]) = some (HO.tup [_, _, V.int _])
      congr 4
    | rl k =>
      refine ⟨.ref t, rfl, t, _, _, .str (Str.ofString "readline"), rfl, rfl, .inl (.inl ht), rfl, ?_⟩
      refine ⟨_, rfl, rfl, _, rfl, iteFc (by decide +kernel) ?_⟩
      refine ⟨_, rfl, by show (4 : Nat) ≤ sizeLine; omega, fun i4 ni4 => ?_⟩
      have c1 := (Kp.new (ps := []) (o := HO.tup [.str (Str.ofString "read"), .str (Str.ofString "read_some"), .str (Str.ofString "peek"), .str (Str.ofString "readline")]) ni4).same
      refine ⟨i4, _, rfl, .inr (.inl (.inl upd_same)), rfl, rfl, _, rfl, iteTc (by decide +kernel) ?_⟩
      refine ⟨.ref x, rfl, _, rfl, _, rfl, x, _, rfl, sq_at (c1 _ _ hx), fun f nf => ?_⟩
      rw [drop_cut]
      have s2 := c1.trans (Kp.new (ps := []) (o := HO.lst ((r.drop c).map V.int)) nf).same
      refine ⟨fun σ' H' => ∃ f : Addr, σ' = [some (.ref x), some (.int c), some (.ref t), some (.str (Str.ofString "readline")), some (.ref f), none] ∧ H' f = some (.lst ((lineF (r.drop c)).map V.int)) ∧ H f = none ∧ Same H H', ?_, fun σ' H1 hm => ?_⟩
      · have lz : (r.drop c).length ≤ 10000 := by rw [List.length_drop]; omega
        refine ⟨_, rfl, rfl, _, rfl, iteTc (by decide +kernel) ?_⟩
        refine ⟨.ref f, rfl, f, _, rfl, .inl sq_new, rfl, flat_ints _, _, rfl, ?_⟩
        rw [show (if false = true then !inV (V.int 10) ((r.drop c).map V.int) else inV (V.int 10) ((r.drop c).map V.int)) = decide ((10 : Int) ∈ r.drop c) from inV_ten _ _]
        refine ite2 (fun e => ?_) (fun e => ?_)
        · have h10 := of_decide_eq_true e
          obtain ⟨i1, i2⟩ := idx_facts h10
          refine ⟨.ref f, rfl, .ref f, rfl, .inl ⟨rfl, _, sq_new⟩, f, _, .int 10, (r.drop c).idxOf 10, .int 10, rfl, rfl, sq_new, rfl, flat_ints _, i1, by decide +kernel, i2, ?_⟩
          refine ⟨_, _, rfl, rfl, _, rfl, f, _, rfl, sq_new, fun z nz => ?_⟩
          rw [show (((r.drop c).idxOf 10 : Nat) : Int) + 1 = (((r.drop c).idxOf 10 + 1 : Nat) : Int) by omega, take_cut]
          exact ⟨z, rfl, by rw [upd_same]; rfl, s2.free nz, s2.trans (Kp.new (ps := []) nz).same⟩
        · have h10 : (10 : Int) ∉ r.drop c := fun z => e (decide_eq_true z)
          exact ⟨f, rfl, by rw [upd_same, lineF_no h10], c1.free nf, s2⟩
      obtain ⟨f1, rfl, ef, nf1, s3⟩ := hm
      generalize eX : lineF (r.drop c) = X at ef
      have lX : X.length ≤ 3000 := by
        rw [← eX]
        have := lineF_le (r.drop c); rw [List.length_drop] at this; omega
      refine ⟨fun σ' H' => ∃ f : Addr, σ' = [some (.ref x), some (.int c), some (.ref t), some (.str (Str.ofString "readline")), some (.ref f), none] ∧ H' f = some (.lst ((takeO (k) X).map V.int)) ∧ H f = none ∧ Same H H', ?_, fun σ' H2 hm => ?_⟩
      · cases k with
        | none => exact ⟨.ref t, rfl, t, _, _, .non, rfl, rfl, .inl (.inl (s3 _ _ ht)), rfl, rfl, _, rfl, iteFc (by rfl) ⟨f1, rfl, ef, nf1, s3⟩⟩
        | some n =>
          refine ⟨.ref t, rfl, t, _, _, .int n, rfl, rfl, .inl (.inl (s3 _ _ ht)), rfl, rfl, _, rfl, ?_⟩
          refine iteTc (by rfl) ?_
          refine ⟨.ref f1, rfl, .ref t, rfl, t, _, _, .int n, rfl, rfl, .inl (.inl (s3 _ _ ht)), rfl, _, rfl, f1, _, rfl, sq_at ef, fun z nz => ?_⟩
          rw [take_cut]
          exact ⟨z, rfl, upd_same, s3.free nz, s3.trans (Kp.new (ps := []) nz).same⟩
      obtain ⟨f2, rfl, ef2, nf2, s4⟩ := hm
      refine ⟨_, rfl, _, rfl, _, rfl, _, rfl, f2, _, rfl, .inl (sq_at ef2), _, rfl, rfl, .inr ⟨_, rfl, _, _, rfl, rfl, .inr (by decide +kernel), _, _, rfl, rfl, by show (3 : Nat) ≤ sizeLine; omega, fun u nu => ?_⟩⟩
      have su := (Kp.new (ps := []) (o := HO.tup [.ref f2, .ref x, .int (c + (takeO (k) X).length : Nat)]) nu).same
      subst eX
      refine q _ u x (.ref f2) ⟨f2, rfl, by rw [upd_ne (ne_of_none ef2 nu)]; exact ef2, nf2⟩ ?_ (by rw [upd_ne (ne_of_none (s4 _ _ hx) nu)]; exact s4 _ _ hx) (.inl rfl) (s4.trans (Kp.new (ps := []) nu).same)
      rw [upd_same, List.length_map]
      show some (HO.tup [_, _, V.int ((c : Int) + _ * (if (!decide (V.str (Str.ofString "readline") = V.str (Str.ofString "peek"))) = true then 1 else 0))]) = some (HO.tup [_, _, V.int ((c + (takeO (k) (lineF (r.drop c))).length : Nat) : Int)])
      rw [if_pos (by decide +kernel)]
      show some (HO.tup [_, _, V.int _]) = some (HO.tup [_, _, V.int _])
      congr 4
      congr 1
      exact congrArg V.int (by omega)
    | wr b d =>
      refine ⟨.ref t, rfl, t, _, _, .str (Str.ofString "write"), rfl, rfl, .inl (.inl ht), rfl, ?_⟩
      refine ⟨_, rfl, rfl, _, rfl, iteFc (by decide +kernel) ?_⟩
      refine ⟨_, rfl, by show (4 : Nat) ≤ sizeLine; omega, fun i4 ni4 => ?_⟩
      have c1 := (Kp.new (ps := []) (o := HO.tup [.str (Str.ofString "read"), .str (Str.ofString "read_some"), .str (Str.ofString "peek"), .str (Str.ofString "readline")]) ni4).same
      refine ⟨i4, _, rfl, .inr (.inl (.inl upd_same)), rfl, rfl, _, rfl, iteFc (by decide +kernel) ?_⟩
      have ht1 := c1 _ _ ht
      have hx1 := c1 _ _ hx
      obtain ⟨eb, hb, ld⟩ := hv
      have eb1 := c1 _ _ eb
      refine ⟨_, rfl, rfl, _, rfl, iteTc (by decide +kernel) ?_⟩
      refine ⟨.ref t, rfl, t, _, _, .ref b, rfl, rfl, .inl (.inl ht1), rfl, b, _, rfl, .inl (sq_at eb1), .ref x, rfl, _, rfl, .ref t, rfl, t, _, _, .ref b, rfl, rfl, .inl (.inl ht1), rfl, x, b, r, c, d, rfl, hx1, eb1, by omega, by omega, by omega, fun H1 y ny ey s1 => ?_⟩
      have s2 := c1.trans s1
      refine ⟨_, rfl, .ref t, rfl, t, _, _, .ref b, rfl, rfl, .inl (.inl (s2 _ _ ht)), rfl, b, _, rfl, .inl (sq_at (s2 _ _ eb)), _, _, rfl, rfl, by show (3 : Nat) ≤ sizeLine; omega, fun u nu => ?_⟩
      rw [List.length_map]
      exact q _ u y (.int d.length) rfl (by rw [upd_same]; rfl) (by rw [upd_ne (ne_of_none ey nu)]; exact ey) (.inr (c1.free ny)) (s2.trans (Kp.new (ps := []) nu).same)
    | sk pl z g =>
      refine ⟨.ref t, rfl, t, _, _, .str (Str.ofString "seek"), rfl, rfl, .inl (.inl ht), rfl, ?_⟩
      refine ⟨_, rfl, rfl, _, rfl, iteFc (by decide +kernel) ?_⟩
      refine ⟨_, rfl, by show (4 : Nat) ≤ sizeLine; omega, fun i4 ni4 => ?_⟩
      have c1 := (Kp.new (ps := []) (o := HO.tup [.str (Str.ofString "read"), .str (Str.ofString "read_some"), .str (Str.ofString "peek"), .str (Str.ofString "readline")]) ni4).same
      refine ⟨i4, _, rfl, .inr (.inl (.inl upd_same)), rfl, rfl, _, rfl, iteFc (by decide +kernel) ?_⟩
      have ht1 := c1 _ _ ht
      have hx1 := c1 _ _ hx
      refine ⟨_, rfl, rfl, _, rfl, iteFc (by decide +kernel) ?_⟩
      refine ⟨_, rfl, rfl, _, rfl, iteTc (by decide +kernel) ?_⟩
      refine ⟨.ref t, rfl, t, _, _, .int pl, rfl, rfl, .inl (.inl ht1), rfl, ?_⟩
      intro d nd
      have s2 := (Kp.new (ps := []) (o := HO.dK []) nd).same
      refine ⟨_, rfl, .ref x, rfl, x, _, rfl, .inl (sq_at (s2 _ _ hx1)), ?_⟩
      refine ⟨upd_same, startsK r c, rfl, by show (3 : Nat) ≤ 15; decide, ?_⟩
      rw [L2.upd_upd]
      have s3 := (Kp.new (ps := []) (o := HO.dK (mergeK [] (startsK r c))) nd).same
      refine ⟨.ref t, rfl, t, _, _, .str z, rfl, rfl, .inl (.inl (s3 _ _ ht1)), rfl, ?_⟩
      refine ⟨d, .int ((g : Int) - pl), rfl, ?_, ?_⟩
      · rw [← starts_at hv.1]
        exact DGet.k (k := Sum.inr z) upd_same
      have s4 := c1.trans s3
      generalize upd _ d (HO.dK (mergeK [] (startsK r c))) = H2 at s4 ⊢
      refine ⟨_, _, rfl, rfl, ?_⟩
      have eg : pl + ((g : Int) - pl) = (g : Int) := by omega
      refine ⟨_, rfl, _, rfl, _, rfl, by show (3 : Nat) ≤ sizeLine; omega, fun u nu => ?_⟩
      exact q _ u x (.int (pl + ((g : Int) - pl))) (congrArg V.int eg) (by rw [upd_same]; exact congrArg (fun z : Int => some (HO.tup [.int (pl + ((g : Int) - pl)), .ref x, .int z])) eg) (by rw [upd_ne (ne_of_none (s4 _ _ hx) nu)]; exact s4 _ _ hx) (.inl rfl) (s4.trans (Kp.new (ps := []) nu).same)
    | ct k =>
      refine ⟨.ref t, rfl, t, _, _, .str (Str.ofString "cut"), rfl, rfl, .inl (.inl ht), rfl, ?_⟩
      refine ⟨_, rfl, rfl, _, rfl, iteFc (by decide +kernel) ?_⟩
      refine ⟨_, rfl, by show (4 : Nat) ≤ sizeLine; omega, fun i4 ni4 => ?_⟩
      have c1 := (Kp.new (ps := []) (o := HO.tup [.str (Str.ofString "read"), .str (Str.ofString "read_some"), .str (Str.ofString "peek"), .str (Str.ofString "readline")]) ni4).same
      refine ⟨i4, _, rfl, .inr (.inl (.inl upd_same)), rfl, rfl, _, rfl, iteFc (by decide +kernel) ?_⟩
      have ht1 := c1 _ _ ht
      have hx1 := c1 _ _ hx
      refine ⟨_, rfl, rfl, _, rfl, iteFc (by decide +kernel) ?_⟩
      refine ⟨_, rfl, rfl, _, rfl, iteFc (by decide +kernel) ?_⟩
      cases k with
      | none =>
        refine ⟨_, rfl, ⟨fun σ' H' => σ' = [some (.ref x), some (.int c), some (.ref t), some (.str (Str.ofString "cut")), none, some (.int c)] ∧ Same H H', ?_, fun σ' H1 hm => ?_⟩⟩
        · exact ⟨.ref t, rfl, t, _, _, .non, rfl, rfl, .inl (.inl ht1), rfl, rfl, _, rfl, iteFc (by rfl) ⟨rfl, c1⟩⟩
        obtain ⟨rfl, s1⟩ := hm
        refine ⟨.ref x, rfl, _, rfl, _, rfl, x, _, rfl, sq_at (s1 _ _ hx), fun f nf => ?_⟩
        rw [take_cut]
        have s2 := s1.trans (Kp.new (ps := []) (o := HO.lst ((r.take c).map V.int)) nf).same
        refine ⟨_, rfl, by show (3 : Nat) ≤ sizeLine; omega, fun u nu => ?_⟩
        exact q _ u f .non rfl upd_same (by rw [upd_ne (ne_of_none upd_same nu)]; exact upd_same) (.inr (s1.free nf)) (s2.trans (Kp.new (ps := []) nu).same)
      | some n =>
        refine ⟨_, rfl, ⟨fun σ' H' => σ' = [some (.ref x), some (.int c), some (.ref t), some (.str (Str.ofString "cut")), none, some (.int n)] ∧ Same H H', ?_, fun σ' H1 hm => ?_⟩⟩
        · exact ⟨.ref t, rfl, t, _, _, .int n, rfl, rfl, .inl (.inl ht1), rfl, rfl, _, rfl, iteTc (by rfl) ⟨.ref t, rfl, t, _, _, .int n, rfl, rfl, .inl (.inl ht1), rfl, rfl, c1⟩⟩
        obtain ⟨rfl, s1⟩ := hm
        refine ⟨.ref x, rfl, _, rfl, _, rfl, x, _, rfl, sq_at (s1 _ _ hx), fun f nf => ?_⟩
        rw [take_cut]
        have s2 := s1.trans (Kp.new (ps := []) (o := HO.lst ((r.take n).map V.int)) nf).same
        refine ⟨_, rfl, by show (3 : Nat) ≤ sizeLine; omega, fun u nu => ?_⟩
        exact q _ u f .non rfl upd_same (by rw [upd_ne (ne_of_none upd_same nu)]; exact upd_same) (.inr (s1.free nf)) (s2.trans (Kp.new (ps := []) nu).same)
    | bR => cases hg
    | bL => cases hg
    | bS => cases hg
    | bC => cases hg

theorem ok_law (T : Tx K mg) : FnG P w K mg base CX0 9 T.f_law T.fd_law P_law (spLaw K) := by
  have G_pool := ok_pool (P := P) (w := w) (base := base) T
  have G_bytes := ok_bytes (P := P) (w := w) (base := base) T
  have G_init := ok_init (P := P) (w := w) (base := base) T
  have G_take := ok_take (P := P) (w := w) (base := base) T
  have G_draw := ok_draw (P := P) (w := w) (base := base) T
  have G_bad := ok_bad (P := P) (w := w) (base := base) T
  have G_tries := ok_tries (P := P) (w := w) (base := base) T
  have G_due := ok_due (P := P) (w := w) (base := base) T
  have G_tell := ok_tell (P := P) (w := w) (base := base) T
  have G_size := ok_size (P := P) (w := w) (base := base) T
  have G_row := ok_row (P := P) (w := w) (base := base) T
  have sz : sizeLine = 16777216 := sizeLine_eq
  refine T.D_law.F.okG0 sc_law (fun vs H Q E h => ?_) (fun cdv A outer s H vs Q E hG hr h => ?_)
  · obtain ⟨a, ns, rfl, _⟩ := h
    rfl
  · obtain ⟨a, ns, rfl, hS, h63, q⟩ := h
    refine ⟨_, (pss_cons (ps_set (i := 1) sc_law.nd rfl (.inl rfl) (pe_call G_pool (hr.mono (by decide)) (by rfl) T.D_pool.g T.D_pool.F.kp T.bb_pool .nil pass0 (pa_cons (pv 0) (pa_cons pe_int pa_nil))))
      (pss_cons (ps_set (i := 2) sc_law.nd rfl (.inl rfl) (pe_call G_bytes (hr.mono (by decide)) (by rfl) T.D_bytes.g T.D_bytes.F.kp T.bb_bytes .nil pass0 (pa_cons (pv 1) (pa_cons (pe_lst (pa_cons pe_int (pa_cons pe_int (pa_cons pe_int (pa_cons pe_int (pa_cons pe_int (pa_cons pe_int (pa_cons pe_int (pa_cons pe_int (pa_cons pe_int pa_nil)))))))))) pa_nil))))
      (pss_cons (ps_set (i := 3) sc_law.nd rfl (.inl rfl) (pe_ix ix_list (pe_lst (pa_cons pe_int (pa_cons (pe_call G_take (hr.mono (by decide)) (by rfl) T.D_take.g T.D_take.F.kp T.bb_take .nil pass0 (pa_cons (pv 1) (pa_cons (pe_op op_add (pe_callB call_len_seq (by rfl) T.m_len PySem.boot_len (pa_cons (pv 2) pa_nil)) pe_int) pa_nil))) pa_nil))) (pe_call G_take (hr.mono (by decide)) (by rfl) T.D_take.g T.D_take.F.kp T.bb_take .nil pass0 (pa_cons (pv 1) (pa_cons pe_int pa_nil))) (fun _ _ => rfl)))
      (pss_cons (ps_set (i := 4) sc_law.nd rfl (.inl rfl) (pe_make T.mk_Plain G_init (hr.mono (by decide)) (by rfl) T.g_Plain T.bb_init .nil pass0 (pa_cons (pe_callTy call_list_of (by rfl) T.m_list (by decide +kernel) (pa_cons (pv 2) pa_nil)) (pa_cons (pv 3) pa_nil))))
      (pss_cons (ps_for PassesOwn.never rfl (pi_range2 (by rfl) T.m_range (pa_cons pe_int (pa_cons (pe_callB (call_max2 rfl) (by rfl) T.m_max (by decide +kernel) (pa_cons pe_int (pa_cons (pe_callB (call_min2 rfl) (by rfl) T.m_min (by decide +kernel) (pa_cons pe_int (pa_cons (pe_callB call_len_seq (by rfl) T.m_len PySem.boot_len (pa_cons (pv 0) pa_nil)) pa_nil))) pa_nil))) pa_nil))) (pg_name (i := 5) sc_law.nd rfl (.inl rfl)) (pss_cons (ps_set (i := 6) sc_law.nd rfl (.inl rfl) (pe_call G_draw (hr.mono (by decide)) (by rfl) T.D_draw.g T.D_draw.F.kp T.bb_draw .nil pass0 (pa_cons (pe_call G_pool (hr.mono (by decide)) (by rfl) T.D_pool.g T.D_pool.F.kp T.bb_pool .nil pass0 (pa_cons (pv 0) (pa_cons (pv 5) pa_nil))) (pa_cons (pv 2) (pa_cons (pv 3) pa_nil)))))
      (pss_cons (ps_set (i := 7) sc_law.nd rfl (.inl rfl) (pe_call G_bad (hr.mono (by decide)) (by rfl) T.D_bad.g T.D_bad.F.kp T.bb_bad .nil pass0 (pa_cons (pv 6) pa_nil)))
      (C8.pss_cut (ps_if (pt_cmpR op_isN (pv 7) pe_non (nomark _)) (pss_cons (ps_asg (pe_call G_due (hr.mono (by decide)) (by rfl) T.D_due.g T.D_due.F.kp T.bb_due .nil pass0 (pa_cons (pv 2) (pa_cons (pv 3) (pa_cons (pv 6) pa_nil)))) (pg_tup rfl (pgs_cons (pg_name (i := 8) sc_law.nd rfl (.inl rfl)) (pgs_cons (pg_name (i := 2) sc_law.nd rfl (.inl rfl)) (pgs_cons (pg_name (i := 3) sc_law.nd rfl (.inl rfl)) pgs_nil)))))
      (pss_one (ps_set (i := 7) sc_law.nd rfl (.inl rfl) (pe_tup (pa_cons pe_str (pa_cons (pv 8) pa_nil)))))) pss_nil)
      (pss_cons (ps_set (i := 9) sc_law.nd rfl (.inl rfl) (pe_call G_tries (hr.mono (by decide)) (by rfl) T.D_tries.g T.D_tries.F.kp T.bb_tries .nil pass0 (pa_cons (pv 4) (pa_cons (pv 6) pa_nil))))
      (pss_cons (ps_if (pt_cmpR op_ne (pe_callB (id := "repr") (r := Sip.rRepr K) (Sip.call_reprD (by exact hG) (by exact hr.units)) (by rfl) T.m_repr (by decide +kernel) (pa_cons (pv 9) pa_nil)) (pe_callB (id := "repr") (r := Sip.rRepr K) (Sip.call_reprD (by exact hG) (by exact hr.units)) (by rfl) T.m_repr (by decide +kernel) (pa_cons (pv 7) pa_nil)) (nomark _)) (pss_one (ps_ret pe_bl)) pss_nil)
      (C8.pss_cut (ps_if (pt_val (pe_callB (id := "isinstance") (r := rIsi K) call_isi (by rfl) T.m_isinstance (by decide +kernel) (pa_cons (pe_ix ix_tup (pv 9) pe_int (fun _ _ => rfl)) (pa_cons (pe_bltn (v := .ty "list") (by rfl) T.m_list (by decide +kernel) rfl) pa_nil)))) (pss_one (ps_expr (pe_bm PySem.F.plainAttrs_list PySem.F.slot_list_append PySem.F.type_list_append mt_append (pe_ix ix_tup (pv 9) pe_int (fun _ _ => rfl)) (pa_cons pe_int pa_nil)))) pss_nil)
      (pss_one (ps_if (pt_cmpR op_ne (pe_callB (id := "repr") (r := Sip.rRepr K) (Sip.call_reprD (by exact hG) (by exact hr.units)) (by rfl) T.m_repr (by decide +kernel) (pa_cons (pe_lst (pa_cons (pe_meth0 (pv 4) T.cl_Plain T.D_tell.m G_tell (hr.mono (by decide)) T.bb_tell .nil pass0) (pa_cons (pe_meth0 (pv 4) T.cl_Plain T.D_size.m G_size (hr.mono (by decide)) T.bb_size .nil pass0) (pa_cons (pe_meth0 (pv 4) T.cl_Plain T.D_row.m G_row (hr.mono (by decide)) T.bb_row .nil pass0) pa_nil)))) pa_nil)) (pe_callB (id := "repr") (r := Sip.rRepr K) (Sip.call_reprD (by exact hG) (by exact hr.units)) (by rfl) T.m_repr (by decide +kernel) (pa_cons (pe_lst (pa_cons (pv 3) (pa_cons (pe_callB call_len_seq (by rfl) T.m_len PySem.boot_len (pa_cons (pv 2) pa_nil)) (pa_cons (pv 2) pa_nil)))) pa_nil)) (nomark _)) (pss_one (ps_ret pe_bl)) pss_nil)))))))))
      (pss_one (ps_ret pe_bl))))))), ?_⟩
    refine ⟨.ref a, rfl, a, ns, 0, rfl, hS, h63, by decide, by decide, fun p o1 np hP1 => ?_⟩
    have s1 : Same H (upd H p o1) := (Kp.new (ps := []) np).same
    refine ⟨.ref p, rfl, by show (9 : Nat) ≤ sizeLine; omega, fun m nm => ?_⟩
    have s2 := s1.trans (Kp.new (ps := []) (o := HO.lst [.int 0, .int 1, .int 2, .int 3, .int 5, .int 8, .int 13, .int 30, .int 60]) nm).same
    have pm : p ≠ m := ne_of_none (upd_same : (upd H p o1) p = some o1) nm
    refine ⟨p, m, _, o1, [0, 1, 2, 3, 5, 8, 13, 30, 60], rfl, by rw [upd_ne pm]; exact upd_same, hP1, by omega, .inl (.inl (by rw [upd_same]; rfl)), pm, by decide, by decide, by decide, fun H2 x r o2 nx ex ep hP2 kk lz hb => ?_⟩
    have s3 : Same H H2 := step_same s2 np kk
    have lr : r.length ≤ 60 := by
      obtain ⟨z, zm, ze⟩ := lz
      have := (show ∀ y ∈ ([0, 1, 2, 3, 5, 8, 13, 30, 60] : List Int), y ≤ 60 by decide) z zm
      omega
    have px : p ≠ x := fun z => by
      rw [← z, upd_ne pm, upd_same] at nx; cases nx
    have lm : ((r.map V.int).length : Int) = r.length := by rw [List.length_map]
    refine ⟨.ref p, rfl, .ref x, rfl, x, _, rfl, .inl (sq_at ex), _, _, rfl, rfl, p, _, _, o2, rfl, ep, hP2, by omega, by omega, by omega, fun w o3 w0 w1 hP3 => ?_⟩
    refine ⟨by show (2 : Nat) ≤ sizeLine; omega, fun l nl => ?_⟩
    have s3b : Same H (upd H2 p o3) := put_same s3 np
    have ex3 : (upd H2 p o3) x = some (.lst (r.map V.int)) := by rw [upd_ne px.symm]; exact ex
    have ep3 : (upd H2 p o3) p = some o3 := upd_same
    generalize upd H2 p o3 = H3 at nl s3b ex3 ep3 ⊢
    have pl : p ≠ l := ne_of_none ep3 nl
    have xl : x ≠ l := ne_of_none ex3 nl
    refine ⟨.ref p, rfl, p, _, 2, o3, rfl, by rw [upd_ne pl]; exact ep3, hP3, by omega, by decide, by decide, fun t o4 t0 t1 hP4 => ?_⟩
    have s4 : Same H (upd (upd H3 l (.lst [.int 0, .int w])) p o4) := put_same (s3b.trans (Kp.new (ps := []) nl).same) np
    have ex4 : (upd (upd H3 l (.lst [.int 0, .int w])) p o4) x = some (.lst (r.map V.int)) := by rw [upd_ne px.symm, upd_ne xl]; exact ex3
    have el4 : (upd (upd H3 l (.lst [.int 0, .int w])) p o4) l = some (.lst [.int 0, .int w]) := by rw [upd_ne pl.symm]; exact upd_same
    have hc : ∃ c : Nat, c ≤ 100 ∧ atI [V.int 0, .int w] t = some (.int c) := by
      rcases (show t = 0 ∨ t = 1 by omega) with rfl | rfl
      · exact ⟨0, by decide, rfl⟩
      · exact ⟨w.toNat, by omega, by rw [show ((w.toNat : Nat) : Int) = w by omega]; rfl⟩
    obtain ⟨c, c9, hc⟩ := hc
    generalize upd (upd H3 l (.lst [.int 0, .int w])) p o4 = H4 at s4 ex4 el4 ⊢
    refine ⟨l, _, _, .int c, rfl, rfl, sq_at el4, hc, ?_⟩
    refine ⟨.ref x, rfl, x, _, rfl, .inl (sq_at ex4), fun h nh => ?_⟩
    have xh : x ≠ h := ne_of_none ex4 nh
    have s5 : Same H (upd H4 h (.lst (r.map V.int))) := s4.trans (Kp.new (ps := []) nh).same
    have eh5 : (upd H4 h (.lst (r.map V.int))) h = some (.lst (r.map V.int)) := upd_same
    have ex5 : (upd H4 h (.lst (r.map V.int))) x = some (.lst (r.map V.int)) := by rw [upd_ne xh]; exact ex4
    generalize upd H4 h (.lst (r.map V.int)) = H5 at s5 eh5 ex5 ⊢
    refine ⟨.int c, rfl, fun f dx nf ndx nfx => ?_⟩
    have hf : h ≠ f := ne_of_none eh5 nf
    have hd : h ≠ dx := ne_of_none eh5 ndx
    refine ⟨f, h, dx, r, c, rfl, upd_same, by rw [upd_ne nfx]; exact upd_same, sq_at (by rw [upd_ne hf, upd_ne hd]; exact eh5), hf.symm, by omega, by omega, fun H6 F hPA st => ⟨rfl, ?_⟩⟩
    obtain ⟨sN, nF⟩ := made_new st nf ndx
    have s6 := s5.trans sN
    refine ⟨.ref a, rfl, a, _, rfl, .inl (s6.seq hS), _, _, rfl, _, _, rfl, _, _, rfl, ?_, ?_⟩
    · refine ⟨by decide, by decide, ?_, ?_⟩ <;> split <;> (split <;> omega)
    have en : ∃ n : Nat, n ≤ 63 ∧ ((if (if (((ns.map V.int).length : Nat) : Int) < 64 then (((ns.map V.int).length : Nat) : Int) else 64) > 9 then (if (((ns.map V.int).length : Nat) : Int) < 64 then (((ns.map V.int).length : Nat) : Int) else 64) else 9) - 1).toNat = n := by
      refine ⟨_, ?_, rfl⟩
      split <;> (split <;> omega)
    obtain ⟨n, n63, en⟩ := en
    rw [en]
    refine for_range (lo := 1) (n := n) (fun i σ H' => ∃ (x : Addr) (r : List Int) (c : Nat) (F : Addr → Prop) (y5 y6 y7 y8 y9 : Option V), σ = [some (.ref a), some (.ref p), some (.ref x), some (.int c), some (.ref f), y5, y6, y7, y8, y9] ∧ PlainAt T.C_Plain H' f F r c ∧ H' x = some (.lst (r.map V.int)) ∧ ¬ F x ∧ r.length ≤ 100 + 20 * i ∧ c ≤ 100 + 20 * i ∧ Bytes r ∧ (∀ b o, H b = some o → ¬ F b) ∧ Same H H') ⟨x, r, c, F, none, none, none, none, none, rfl, hPA, sN _ _ ex5, nF _ _ ex5, by omega, by omega, hb, fun b o e => nF _ _ (s5 _ _ e), s6⟩ (fun i σ H' hi hW => ?_) (fun σ H' hW => q _)
    clear hPA st sN nF s6 nx ex kk lz hb s3 lr px lm ep hP2 ex3 ex4 el4 ex5 eh5 s5 s4 s3b xh xl hf hd nf ndx nfx nh nl hc hP3 hP4 ep3 pl w0 w1 t0 t1
    obtain ⟨x, r, c, F, y5, y6, y7, y8, y9, rfl, hPA, hx, nFx, lr, lc, hb, nF, sm⟩ := hW
    refine ⟨.ref a, rfl, _, rfl, a, ns, 1 + (i : Int), rfl, sm.seq hS, h63, by omega, by omega, fun p1 o1 np1 hP1 => ?_⟩
    have s1 : Same H' (upd H' p1 o1) := (Kp.new (ps := []) np1).same
    have p1x : p1 ≠ x := (ne_of_none hx np1).symm
    refine ⟨.ref x, rfl, .int c, rfl, p1, x, _, o1, r, c, rfl, p1x, upd_same, hP1, by omega, s1 _ _ hx, by omega, by omega, fun H3 t D ht hv hn nt kk => ?_⟩
    have s3 : Same H' H3 := step_same s1 np1 kk
    have nb : ∀ b d, D = .wr b d → ¬ F b := fun b d e => (isPlain T.C_Plain).new hPA (s1.free (hn b d e))
    have hPA3 := (isPlain T.C_Plain).same hPA s3
    have nF3 : ∀ b, H3 b = none → ¬ F b := fun b e => (isPlain T.C_Plain).new hPA3 e
    obtain ⟨g1, g2, g3⟩ := grow hv lr lc hb
    have osh : Sh 200000 5 (outD r c D) := out_sh hv (by omega) (by omega) hb
    refine ⟨.ref t, rfl, t, r, c, D, rfl, ht, hv, fun hg H4 s4 => ?_, fun hg H4 u hu s4 => ?_⟩
    · refine ⟨fun σ' H5 => ∃ (x' b7 : Addr) (v : V), σ' = [some (.ref a), some (.ref p), some (.ref x'), some (.int (plcOf r c D : Nat)), some (.ref f), some (.int (1 + (i : Int))), some (.ref t), some (.ref b7), some v, y9] ∧ H5 x' = some (.lst ((rowOf r c D).map V.int)) ∧ ¬ F x' ∧ H5 b7 = some (.tup [.str (Str.ofString "told"), v]) ∧ H3 b7 = none ∧ AnsV H5 (fun q => H3 q = none) (ansOf r c D) v ∧ Same H3 H5, ?_, fun σ' H5 hm => ?_⟩
      · refine ⟨_, rfl, rfl, _, rfl, iteTc (by rfl) ?_⟩
        refine ⟨.ref x, rfl, .int c, rfl, .ref t, rfl, x, t, r, c, D, rfl, s4 _ _ (s3 _ _ hx), s4 _ _ ht, valid_same hv s4, hg, by omega, by omega, fun H5 u x' v hA eu ex' hor s5 => ?_⟩
        refine ⟨u, _, rfl, .inl (.inl eu), rfl, ?_⟩
        refine ⟨v, _, rfl, .ref x', _, rfl, .int _, _, rfl, rfl, ?_⟩
        refine ⟨_, rfl, by show (2 : Nat) ≤ sizeLine; omega, fun b7 n7 => ?_⟩
        have c7 := (Kp.new (ps := []) (o := HO.tup [.str (Str.ofString "told"), v]) n7).same
        have s45 := s4.trans s5
        have nx' : ¬ F x' := by
          rcases hor with e | e
          · rw [e]; exact nFx
          · exact nF3 _ (s4.free e)
        exact ⟨x', b7, v, rfl, c7 _ _ ex', nx', upd_same, s45.free n7, (hA.same c7).mono (fun q e => s4.free e), s45.trans c7⟩
      obtain ⟨x', b7, v, rfl, ex', nFx', e7, n7, hA, s5⟩ := hm
      refine ⟨.ref f, rfl, .ref t, rfl, f, t, F, r, c, D, rfl, (isPlain T.C_Plain).same hPA3 s5, s5 _ _ ht, valid_same hv s5, nb, by omega, by omega, fun _ H6 F6 u v6 hPA6 hA6 eu st => ?_, fun hb' => absurd hb' (by rw [hg]; decide)⟩
      have e76 := (st.keep (nF3 _ n7) e7).1
      have hA7 : AnsV H6 (fun q => True) (ansOf r c D) v := by
        generalize ansOf r c D = z at hA
        cases z with
        | lst xs => obtain ⟨q, e, h, n⟩ := hA; exact ⟨q, e, (st.keep (nF3 _ n) h).1, trivial⟩
        | int i => exact hA
        | non => exact hA
      obtain ⟨ex6, nFx6⟩ := st.keep nFx' ex'
      have keep : ∀ b o, H b = some o → H6 b = some o ∧ ¬ F6 b := fun b o e => st.keep (nF b o e) (s5 _ _ (s3 _ _ (sm _ _ e)))
      refine ⟨.ref u, rfl, u, outD r c D, _, _, rfl, told_dp hg eu hA6, osh, by decide, by decide, ?_⟩
      refine ⟨.ref b7, rfl, b7, outD r c D, _, _, rfl, told_dp hg e76 hA7, osh, by decide, by decide, ?_⟩
      refine ⟨rfl, _, rfl, ?_⟩
      rw [show decide (V.str (outD r c D).shown = V.str (outD r c D).shown) = true from decide_eq_true rfl]
      refine iteF ?_
      refine ⟨fun σ' H7 => σ' = [some (.ref a), some (.ref p), some (.ref x'), some (.int (plcOf r c D : Nat)), some (.ref f), some (.int (1 + (i : Int))), some (.ref t), some (.ref b7), some v, some (.ref u)] ∧ PlainAt T.C_Plain H7 f F6 (rowOf r c D) (plcOf r c D) ∧ H7 x' = some (.lst ((rowOf r c D).map V.int)) ∧ Same H H7, ?_, fun σ' H7 hm => ?_⟩
      · clear hA7 osh
        generalize hz : ansOf r c D = z at hA6
        cases z with
        | lst xs =>
          obtain ⟨q, rfl, hq, nq5, nF6q⟩ := hA6
          refine ⟨.ref u, rfl, u, _, _, .ref q, rfl, rfl, .inl (.inl eu), rfl, .ref q, .ty "list", _, _, true, rfl, .ty "list", .base (.lst hq), kit_ty (by decide +kernel), true, rfl, iteT ?_⟩
          refine ⟨.ref u, rfl, u, _, _, .ref q, rfl, rfl, .inl (.inl eu), rfl, .inl ⟨rfl, _, sq_at hq⟩, q, _, _, rfl, rfl, hq, ?_, ?_⟩
          · have := ans_len hz
            rw [List.length_map]; omega
          refine ⟨rfl, (isPlain T.C_Plain).kp hPA6 (qs := [q]) (Kp.at (by simp)) (by simpa using nF6q), by rw [upd_ne (ne_of_none ex' nq5)]; exact ex6, fun b o e => ?_⟩
          rw [upd_ne (ne_of_none (s5 _ _ (s3 _ _ (sm _ _ e))) nq5)]
          exact (keep b o e).1
        | int j =>
          cases (show v6 = _ from hA6)
          exact ⟨.ref u, rfl, u, _, _, .int j, rfl, rfl, .inl (.inl eu), rfl, .int j, .ty "list", _, _, false, rfl, .ty "list", .base (.int j), kit_ty (by decide +kernel), false, rfl, iteF ⟨rfl, hPA6, ex6, fun b o e => (keep b o e).1⟩⟩
        | non =>
          cases (show v6 = _ from hA6)
          exact ⟨.ref u, rfl, u, _, _, .non, rfl, rfl, .inl (.inl eu), rfl, .non, .ty "list", _, _, false, rfl, .ty "list", .base .non, kit_ty (by decide +kernel), false, rfl, iteF ⟨rfl, hPA6, ex6, fun b o e => (keep b o e).1⟩⟩
      obtain ⟨rfl, hPA7, ex7, sm7⟩ := hm
      obtain ⟨dx, fs, hi, no⟩ := (isPlain T.C_Plain).ins hPA7
      have rsh : Sh 200000 5 (rowD (rowOf r c D) (plcOf r c D)) := row_sh (by omega) (by omega) g3
      refine ⟨.ref f, rfl, f, dx, fs, rfl, hi, no "tell" (by decide +kernel), f, F6, _, _, rfl, hPA7, ?_⟩
      refine ⟨.ref f, rfl, f, dx, fs, rfl, hi, no "size" (by decide +kernel), f, F6, _, _, rfl, hPA7, ?_⟩
      refine ⟨.ref f, rfl, f, dx, fs, rfl, hi, no "row" (by decide +kernel), f, F6, _, _, rfl, hPA7, fun H8 w8 n8 e8 s8 => ?_⟩
      refine ⟨by show (3 : Nat) ≤ sizeLine; omega, fun l1 nl1 => ?_⟩
      have c1 := (Kp.new (ps := []) (o := HO.lst [.int (plcOf r c D : Nat), .int (((rowOf r c D)).length : Nat), .ref w8]) nl1).same
      refine ⟨l1, _, _, _, rfl, row_dp (show (upd H8 l1 (.lst [.int (plcOf r c D : Nat), .int (((rowOf r c D)).length : Nat), .ref w8])) l1 = _ from upd_same) (c1 _ _ e8), rsh, by decide, by decide, ?_⟩
      have ex9 := c1 _ _ (s8 _ _ ex7)
      refine ⟨_, rfl, .ref x', rfl, x', _, rfl, .inl (sq_at ex9), ?_⟩
      rw [List.length_map]
      have s9 := s8.trans c1
      generalize upd H8 l1 (.lst [.int (plcOf r c D : Nat), .int (((rowOf r c D)).length : Nat), .ref w8]) = H9 at ex9 s9 ⊢
      refine ⟨.ref x', rfl, by show (3 : Nat) ≤ sizeLine; omega, fun l2 nl2 => ?_⟩
      have c2 := (Kp.new (ps := []) (o := HO.lst [.int (plcOf r c D : Nat), .int (((rowOf r c D)).length : Nat), .ref x']) nl2).same
      refine ⟨l2, _, _, _, rfl, row_dp (show (upd H9 l2 (.lst [.int (plcOf r c D : Nat), .int (((rowOf r c D)).length : Nat), .ref x'])) l2 = _ from upd_same) (c2 _ _ ex9), rsh, by decide, by decide, ?_⟩
      refine ⟨rfl, _, rfl, ?_⟩
      rw [show decide (V.str (rowD (rowOf r c D) (plcOf r c D)).shown = V.str (rowD (rowOf r c D) (plcOf r c D)).shown) = true from decide_eq_true rfl]
      refine iteF ?_
      have s10 := s9.trans c2
      exact ⟨x', _, _, F6, _, _, _, _, _, rfl, (isPlain T.C_Plain).same hPA7 s10, s10 _ _ ex7, nFx6, by omega, by omega, g3, fun b o e => (keep b o e).2, sm7.trans s10⟩
    · obtain ⟨b1, b2⟩ := bad_stays (r := r) (c := c) hg
      rw [b1] at g1 g3
      rw [b2] at g2
      refine ⟨fun σ' H5 => σ' = [some (.ref a), some (.ref p), some (.ref x), some (.int c), some (.ref f), some (.int (1 + (i : Int))), some (.ref t), some (.ref u), y8, y9] ∧ H5 = H4, ⟨_, rfl, rfl, _, rfl, iteFc (by rfl) ⟨rfl, rfl⟩⟩, fun σ' H5 hm => ?_⟩
      obtain ⟨rfl, rfl⟩ := hm
      refine ⟨.ref f, rfl, .ref t, rfl, f, t, F, r, c, D, rfl, (isPlain T.C_Plain).same hPA3 s4, s4 _ _ ht, valid_same hv s4, nb, by omega, by omega, fun hb' => absurd hg (by rw [hb']; decide), fun _ H6 u6 e6 s6 => ?_⟩
      have s36 := (s3.trans s4).trans s6
      have hPA6 := (isPlain T.C_Plain).same hPA s36
      have ex6 := s36 _ _ hx
      have nFx6 := nFx
      have keep : ∀ b o, H b = some o → H6 b = some o ∧ ¬ F b := fun b o e => ⟨s36 _ _ (sm _ _ e), nF b o e⟩
      refine ⟨.ref u6, rfl, u6, outD r c D, _, _, rfl, ref_dp hg e6, osh, by decide, by decide, ?_⟩
      refine ⟨.ref u, rfl, u, outD r c D, _, _, rfl, ref_dp hg (s6 _ _ hu), osh, by decide, by decide, ?_⟩
      refine ⟨rfl, _, rfl, ?_⟩
      rw [show decide (V.str (outD r c D).shown = V.str (outD r c D).shown) = true from decide_eq_true rfl]
      refine iteF ?_
      refine ⟨fun σ' H7 => σ' = [some (.ref a), some (.ref p), some (.ref x), some (.int c), some (.ref f), some (.int (1 + (i : Int))), some (.ref t), some (.ref u), y8, some (.ref u6)] ∧ H7 = H6, ?_, fun σ' H7 hm => ?_⟩
      · cases hc : isCnt D with
        | true =>
          have e6' : H6 u6 = some (.tup [.str (Str.ofString "refused"), .str (Str.ofString "BadCount"), .non]) := by rw [e6]; unfold refV; rw [hc]; rfl
          exact ⟨.ref u6, rfl, u6, _, _, .str (Str.ofString "BadCount"), rfl, rfl, .inl (.inl e6'), rfl, .str _, .ty "list", _, _, false, rfl, .ty "list", .base (.str _), kit_ty (by decide +kernel), false, rfl, iteF ⟨rfl, rfl⟩⟩
        | false =>
          have e6' : H6 u6 = some (.tup [.str (Str.ofString "refused"), .str (Str.ofString "BadPlace"), .int (goalB D)]) := by rw [e6]; unfold refV; rw [hc]; rfl
          exact ⟨.ref u6, rfl, u6, _, _, .str (Str.ofString "BadPlace"), rfl, rfl, .inl (.inl e6'), rfl, .str _, .ty "list", _, _, false, rfl, .ty "list", .base (.str _), kit_ty (by decide +kernel), false, rfl, iteF ⟨rfl, rfl⟩⟩
      obtain ⟨rfl, rfl⟩ := hm
      have sm7 : Same H H7 := sm.trans s36
      obtain ⟨dx, fs, hi, no⟩ := (isPlain T.C_Plain).ins hPA6
      have rsh : Sh 200000 5 (rowD r (c)) := row_sh (by omega) (by omega) g3
      refine ⟨.ref f, rfl, f, dx, fs, rfl, hi, no "tell" (by decide +kernel), f, F, _, _, rfl, hPA6, ?_⟩
      refine ⟨.ref f, rfl, f, dx, fs, rfl, hi, no "size" (by decide +kernel), f, F, _, _, rfl, hPA6, ?_⟩
      refine ⟨.ref f, rfl, f, dx, fs, rfl, hi, no "row" (by decide +kernel), f, F, _, _, rfl, hPA6, fun H8 w8 n8 e8 s8 => ?_⟩
      refine ⟨by show (3 : Nat) ≤ sizeLine; omega, fun l1 nl1 => ?_⟩
      have c1 := (Kp.new (ps := []) (o := HO.lst [.int (c : Nat), .int ((r).length : Nat), .ref w8]) nl1).same
      refine ⟨l1, _, _, _, rfl, row_dp (show (upd H8 l1 (.lst [.int (c : Nat), .int ((r).length : Nat), .ref w8])) l1 = _ from upd_same) (c1 _ _ e8), rsh, by decide, by decide, ?_⟩
      have ex9 := c1 _ _ (s8 _ _ ex6)
      refine ⟨_, rfl, .ref x, rfl, x, _, rfl, .inl (sq_at ex9), ?_⟩
      rw [List.length_map]
      have s9 := s8.trans c1
      generalize upd H8 l1 (.lst [.int (c : Nat), .int ((r).length : Nat), .ref w8]) = H9 at ex9 s9 ⊢
      refine ⟨.ref x, rfl, by show (3 : Nat) ≤ sizeLine; omega, fun l2 nl2 => ?_⟩
      have c2 := (Kp.new (ps := []) (o := HO.lst [.int (c : Nat), .int ((r).length : Nat), .ref x]) nl2).same
      refine ⟨l2, _, _, _, rfl, row_dp (show (upd H9 l2 (.lst [.int (c : Nat), .int ((r).length : Nat), .ref x])) l2 = _ from upd_same) (c2 _ _ ex9), rsh, by decide, by decide, ?_⟩
      refine ⟨rfl, _, rfl, ?_⟩
      rw [show decide (V.str (rowD r (c)).shown = V.str (rowD r (c)).shown) = true from decide_eq_true rfl]
      refine iteF ?_
      have s10 := s9.trans c2
      exact ⟨x, _, _, F, _, _, _, _, _, rfl, (isPlain T.C_Plain).same hPA6 s10, s10 _ _ ex6, nFx6, by omega, by omega, g3, fun b o e => (keep b o e).2, sm7.trans s10⟩
end
set_option maxHeartbeats 0 in
theorem all_mk {l : PySem.W.OpenLaw} {w : World} {K : PySem.W.Frag} {h : Heap} {mg : Str → Option Value} {fa C_Plain C_SipError C_BadPlace C_BadCount f_iBadPlace f_laid f_whole f_isbyte f_cbytes f_clen f_cgoal f_ccount f_sgoal f_fline f_init T_init f_write f_seek K_seek f_tell f_size f_pcut T_pcut f_row f_ahead f_passed f_peek T_peek f_read T_read f_rsome f_rline T_rline f_pool f_take f_bytes f_llaid f_draw f_due f_bad f_does f_tries f_law : Addr} (X : K.In h) (G : h.Ns mainGlobals mg) (hfa : mg "law" = some (.ref fa))
    {od_iBadPlace an_iBadPlace : Option Addr} {sl_iBadPlace : Array (Option Value)} {oc_iBadPlace dc_iBadPlace pm_iBadPlace cd_iBadPlace ct_iBadPlace : Value}
    {kV_iBadPlace : Value}
    {od_laid an_laid : Option Addr} {sl_laid : Array (Option Value)} {oc_laid dc_laid pm_laid cd_laid ct_laid : Value}
    {kV_laid : Value}
    {od_whole an_whole : Option Addr} {sl_whole : Array (Option Value)} {oc_whole dc_whole pm_whole cd_whole ct_whole : Value}
    {kV_whole : Value}
    {od_isbyte an_isbyte : Option Addr} {sl_isbyte : Array (Option Value)} {oc_isbyte dc_isbyte pm_isbyte cd_isbyte ct_isbyte : Value}
    {kV_isbyte : Value}
    {od_cbytes an_cbytes : Option Addr} {sl_cbytes : Array (Option Value)} {oc_cbytes dc_cbytes pm_cbytes cd_cbytes ct_cbytes : Value}
    {kV_cbytes : Value}
    {od_clen an_clen : Option Addr} {sl_clen : Array (Option Value)} {oc_clen dc_clen pm_clen cd_clen ct_clen : Value}
    {kV_clen : Value}
    {od_cgoal an_cgoal : Option Addr} {sl_cgoal : Array (Option Value)} {oc_cgoal dc_cgoal pm_cgoal cd_cgoal ct_cgoal : Value}
    {kV_cgoal : Value}
    {od_ccount an_ccount : Option Addr} {sl_ccount : Array (Option Value)} {oc_ccount dc_ccount pm_ccount cd_ccount ct_ccount : Value}
    {kV_ccount : Value}
    {od_sgoal an_sgoal : Option Addr} {sl_sgoal : Array (Option Value)} {oc_sgoal dc_sgoal pm_sgoal cd_sgoal ct_sgoal : Value}
    {kV_sgoal : Value}
    {od_fline an_fline : Option Addr} {sl_fline : Array (Option Value)} {oc_fline dc_fline pm_fline cd_fline ct_fline : Value}
    {kV_fline : Value}
    {od_init an_init : Option Addr} {sl_init : Array (Option Value)} {oc_init dc_init pm_init cd_init ct_init : Value}
    {tk_init_0 : Tok}
    {uc_init : Value} {ud_init : Option Addr} {un_init : Nat} {us_init : Array (Option Value)}
    {kV_init : Value}
    {od_write an_write : Option Addr} {sl_write : Array (Option Value)} {oc_write dc_write pm_write cd_write ct_write : Value}
    {kV_write : Value}
    {od_seek an_seek : Option Addr} {sl_seek : Array (Option Value)} {oc_seek dc_seek pm_seek cd_seek ct_seek : Value}
    {kk_seek_0 : Tok}
    {od_tell an_tell : Option Addr} {sl_tell : Array (Option Value)} {oc_tell dc_tell pm_tell cd_tell ct_tell : Value}
    {kV_tell : Value}
    {od_size an_size : Option Addr} {sl_size : Array (Option Value)} {oc_size dc_size pm_size cd_size ct_size : Value}
    {kV_size : Value}
    {od_pcut an_pcut : Option Addr} {sl_pcut : Array (Option Value)} {oc_pcut dc_pcut pm_pcut cd_pcut ct_pcut : Value}
    {uc_pcut : Value} {ud_pcut : Option Addr} {un_pcut : Nat} {us_pcut : Array (Option Value)}
    {kV_pcut : Value}
    {od_row an_row : Option Addr} {sl_row : Array (Option Value)} {oc_row dc_row pm_row cd_row ct_row : Value}
    {kV_row : Value}
    {od_ahead an_ahead : Option Addr} {sl_ahead : Array (Option Value)} {oc_ahead dc_ahead pm_ahead cd_ahead ct_ahead : Value}
    {kV_ahead : Value}
    {od_passed an_passed : Option Addr} {sl_passed : Array (Option Value)} {oc_passed dc_passed pm_passed cd_passed ct_passed : Value}
    {kV_passed : Value}
    {od_peek an_peek : Option Addr} {sl_peek : Array (Option Value)} {oc_peek dc_peek pm_peek cd_peek ct_peek : Value}
    {tk_peek_0 : Tok}
    {uc_peek : Value} {ud_peek : Option Addr} {un_peek : Nat} {us_peek : Array (Option Value)}
    {kV_peek : Value}
    {od_read an_read : Option Addr} {sl_read : Array (Option Value)} {oc_read dc_read pm_read cd_read ct_read : Value}
    {uc_read : Value} {ud_read : Option Addr} {un_read : Nat} {us_read : Array (Option Value)}
    {kV_read : Value}
    {od_rsome an_rsome : Option Addr} {sl_rsome : Array (Option Value)} {oc_rsome dc_rsome pm_rsome cd_rsome ct_rsome : Value}
    {kV_rsome : Value}
    {od_rline an_rline : Option Addr} {sl_rline : Array (Option Value)} {oc_rline dc_rline pm_rline cd_rline ct_rline : Value}
    {uc_rline : Value} {ud_rline : Option Addr} {un_rline : Nat} {us_rline : Array (Option Value)}
    {kV_rline : Value}
    {od_pool an_pool : Option Addr} {sl_pool : Array (Option Value)} {oc_pool dc_pool pm_pool cd_pool ct_pool : Value}
    {kV_pool : Value}
    {od_take an_take : Option Addr} {sl_take : Array (Option Value)} {oc_take dc_take pm_take cd_take ct_take : Value}
    {kV_take : Value}
    {od_bytes an_bytes : Option Addr} {sl_bytes : Array (Option Value)} {oc_bytes dc_bytes pm_bytes cd_bytes ct_bytes : Value}
    {kV_bytes : Value}
    {od_llaid an_llaid : Option Addr} {sl_llaid : Array (Option Value)} {oc_llaid dc_llaid pm_llaid cd_llaid ct_llaid : Value}
    {kV_llaid : Value}
    {od_draw an_draw : Option Addr} {sl_draw : Array (Option Value)} {oc_draw dc_draw pm_draw cd_draw ct_draw : Value}
    {kV_draw : Value}
    {od_due an_due : Option Addr} {sl_due : Array (Option Value)} {oc_due dc_due pm_due cd_due ct_due : Value}
    {kV_due : Value}
    {od_bad an_bad : Option Addr} {sl_bad : Array (Option Value)} {oc_bad dc_bad pm_bad cd_bad ct_bad : Value}
    {kV_bad : Value}
    {od_does an_does : Option Addr} {sl_does : Array (Option Value)} {oc_does dc_does pm_does cd_does ct_does : Value}
    {kV_does : Value}
    {od_tries an_tries : Option Addr} {sl_tries : Array (Option Value)} {oc_tries dc_tries pm_tries cd_tries ct_tries : Value}
    {kV_tries : Value}
    {od_law an_law : Option Addr} {sl_law : Array (Option Value)} {oc_law dc_law pm_law cd_law ct_law : Value}
    {kV_law : Value}
    {t_LONGEST : Tok}
    {t_LINE_FEED : Tok}
    (qa_Plain : PySem.W.nsIn K mainGlobals "Plain" = some (some (.ref C_Plain)))
    (qa_SipError : PySem.W.nsIn K mainGlobals "SipError" = some (some (.ref C_SipError)))
    (qa_BadPlace : PySem.W.nsIn K mainGlobals "BadPlace" = some (some (.ref C_BadPlace)))
    (qa_BadCount : PySem.W.nsIn K mainGlobals "BadCount" = some (some (.ref C_BadCount)))
    (sb_SipError : PySem.W.subIn K (.ref C_SipError) (.type "BaseException") = some true)
    (sh_SipError : PySem.W.hasDictIn K C_SipError = true)
    (st_SipError : PySem.W.typeIn K (.ref C_SipError) = some (.type "type"))
    (qx_BadCount : PySem.W.excIn K C_BadCount [.type "ValueError", .type "Exception", .type "BaseException", .type "object"] "ValueError.__new__" = true)
    (qk_BadCount : PySem.W.keepIn K (.ref C_BadCount) = true)
    (qb_BadCount : PySem.W.subIn K (.ref C_BadCount) (.type "BaseException") = some true)
    (qt_BadCount : PySem.W.typeIn K (.ref C_BadCount) = some (.type "type"))
    (hb_BadCount : PySem.W.subIn K (.ref C_BadCount) (.type "BaseException") = some true)
    (hh_BadCount : PySem.W.hasDictIn K C_BadCount = true)
    (hy_BadCount : PySem.W.typeIn K (.ref C_BadCount) = some (.type "type"))
    (hs_BadPlace_BadCount : PySem.W.subIn K (.ref C_BadPlace) (.ref C_BadCount) = some false)
    (hs_BadCount_BadCount : PySem.W.subIn K (.ref C_BadCount) (.ref C_BadCount) = some true)
    (hb_BadPlace : PySem.W.subIn K (.ref C_BadPlace) (.type "BaseException") = some true)
    (hh_BadPlace : PySem.W.hasDictIn K C_BadPlace = true)
    (hy_BadPlace : PySem.W.typeIn K (.ref C_BadPlace) = some (.type "type"))
    (hs_BadPlace_BadPlace : PySem.W.subIn K (.ref C_BadPlace) (.ref C_BadPlace) = some true)
    (hs_BadCount_BadPlace : PySem.W.subIn K (.ref C_BadCount) (.ref C_BadPlace) = some false)
    (hb_SipError : PySem.W.subIn K (.ref C_SipError) (.type "BaseException") = some true)
    (hh_SipError : PySem.W.hasDictIn K C_SipError = true)
    (hy_SipError : PySem.W.typeIn K (.ref C_SipError) = some (.type "type"))
    (hs_BadPlace_SipError : PySem.W.subIn K (.ref C_BadPlace) (.ref C_SipError) = some true)
    (hs_BadCount_SipError : PySem.W.subIn K (.ref C_BadCount) (.ref C_SipError) = some true)
    (xo_BadPlace : Sip.IsExcObj K C_BadPlace C_SipError)
    (sa_BadPlace : PySem.W.findIn K (.ref C_BadPlace) "__setattr__" = some (some (.builtin "object.__setattr__")))
    (ex_BadPlace : PySem.W.subIn K (.ref C_BadPlace) (.type "BaseException") = some true)
    (ty_BadPlace : PySem.W.typeIn K (.ref C_BadPlace) = some (.type "type"))
    (kx_BadPlace : PySem.W.keepIn K (.ref C_BadPlace) = true)
    (hg_BadPlace : PySem.W.findIn K (.ref C_BadPlace) "__getattribute__" = some (some (.builtin "BaseException.__getattribute__")))
    (hk_BadPlace : PySem.W.findIn K (.ref C_BadPlace) "__getattr__" = some none)
    (hd_BadPlace : PySem.W.hasDictIn K C_BadPlace = true)
    (ha_BadPlace : PySem.W.findIn K (.ref C_BadPlace) "__class__" = some (some (.builtin "object.__class__")))
    (hn_BadPlace : PySem.W.specialIn K (.builtin "object.__class__") "__get__" = some (some (.builtin "getset_descriptor.__get__")))
    (ht_BadPlace : PySem.W.takesIn K (.builtin "object.__class__") = some true)
    (hm_BadPlace : PySem.W.mroIn K C_BadPlace (.type "object") = some true)
    (no_BadPlace : PySem.W.findIn K (.ref C_BadPlace) "goal" = some none)
    (ss_BadPlace : PySem.W.subIn K (.ref C_BadPlace) (.ref C_SipError) = some true)
    (se_BadPlace : PySem.W.subIn K (.ref C_BadPlace) (.ref C_BadPlace) = some true)
    (a_iBadPlace : PySem.W.findIn K (.ref C_BadPlace) "__init__" = some (some (.ref f_iBadPlace)))
    (i_iBadPlace : PySem.W.typeIn K (.ref f_iBadPlace) = some (.type "function"))
    (l_iBadPlace : K.lookup f_iBadPlace = some ⟨oc_iBadPlace, od_iBadPlace, .func (PySem.W.fnOf "__init__" "BadPlace.__init__" (defArgs s_iBadPlace) (defBody s_iBadPlace) (defScope s_iBadPlace) .none kV_iBadPlace dc_iBadPlace pm_iBadPlace an_iBadPlace cd_iBadPlace ct_iBadPlace), sl_iBadPlace⟩)
    (c_iBadPlace : PySem.W.codeIn K cd_iBadPlace "BadPlace.__init__" = true)
    (k_iBadPlace : PySem.W.keepIn K (.ref f_iBadPlace) = true)
    (a_laid : PySem.W.nsIn K mainGlobals "laid" = some (some (.ref f_laid)))
    (l_laid : K.lookup f_laid = some ⟨oc_laid, od_laid, .func (PySem.W.fnOf "laid" "laid" (defArgs s_laid) (defBody s_laid) (defScope s_laid) .none kV_laid dc_laid pm_laid an_laid cd_laid ct_laid), sl_laid⟩)
    (c_laid : PySem.W.codeIn K cd_laid "laid" = true)
    (k_laid : PySem.W.keepIn K (.ref f_laid) = true)
    (a_whole : PySem.W.nsIn K mainGlobals "is_whole" = some (some (.ref f_whole)))
    (l_whole : K.lookup f_whole = some ⟨oc_whole, od_whole, .func (PySem.W.fnOf "is_whole" "is_whole" (defArgs s_whole) (defBody s_whole) (defScope s_whole) .none kV_whole dc_whole pm_whole an_whole cd_whole ct_whole), sl_whole⟩)
    (c_whole : PySem.W.codeIn K cd_whole "is_whole" = true)
    (k_whole : PySem.W.keepIn K (.ref f_whole) = true)
    (a_isbyte : PySem.W.nsIn K mainGlobals "is_byte" = some (some (.ref f_isbyte)))
    (l_isbyte : K.lookup f_isbyte = some ⟨oc_isbyte, od_isbyte, .func (PySem.W.fnOf "is_byte" "is_byte" (defArgs s_isbyte) (defBody s_isbyte) (defScope s_isbyte) .none kV_isbyte dc_isbyte pm_isbyte an_isbyte cd_isbyte ct_isbyte), sl_isbyte⟩)
    (c_isbyte : PySem.W.codeIn K cd_isbyte "is_byte" = true)
    (k_isbyte : PySem.W.keepIn K (.ref f_isbyte) = true)
    (a_cbytes : PySem.W.nsIn K mainGlobals "check_bytes" = some (some (.ref f_cbytes)))
    (l_cbytes : K.lookup f_cbytes = some ⟨oc_cbytes, od_cbytes, .func (PySem.W.fnOf "check_bytes" "check_bytes" (defArgs s_cbytes) (defBody s_cbytes) (defScope s_cbytes) .none kV_cbytes dc_cbytes pm_cbytes an_cbytes cd_cbytes ct_cbytes), sl_cbytes⟩)
    (c_cbytes : PySem.W.codeIn K cd_cbytes "check_bytes" = true)
    (k_cbytes : PySem.W.keepIn K (.ref f_cbytes) = true)
    (a_clen : PySem.W.nsIn K mainGlobals "check_length" = some (some (.ref f_clen)))
    (l_clen : K.lookup f_clen = some ⟨oc_clen, od_clen, .func (PySem.W.fnOf "check_length" "check_length" (defArgs s_clen) (defBody s_clen) (defScope s_clen) .none kV_clen dc_clen pm_clen an_clen cd_clen ct_clen), sl_clen⟩)
    (c_clen : PySem.W.codeIn K cd_clen "check_length" = true)
    (k_clen : PySem.W.keepIn K (.ref f_clen) = true)
    (a_cgoal : PySem.W.nsIn K mainGlobals "check_goal" = some (some (.ref f_cgoal)))
    (l_cgoal : K.lookup f_cgoal = some ⟨oc_cgoal, od_cgoal, .func (PySem.W.fnOf "check_goal" "check_goal" (defArgs s_cgoal) (defBody s_cgoal) (defScope s_cgoal) .none kV_cgoal dc_cgoal pm_cgoal an_cgoal cd_cgoal ct_cgoal), sl_cgoal⟩)
    (c_cgoal : PySem.W.codeIn K cd_cgoal "check_goal" = true)
    (k_cgoal : PySem.W.keepIn K (.ref f_cgoal) = true)
    (a_ccount : PySem.W.nsIn K mainGlobals "check_count" = some (some (.ref f_ccount)))
    (l_ccount : K.lookup f_ccount = some ⟨oc_ccount, od_ccount, .func (PySem.W.fnOf "check_count" "check_count" (defArgs s_ccount) (defBody s_ccount) (defScope s_ccount) .none kV_ccount dc_ccount pm_ccount an_ccount cd_ccount ct_ccount), sl_ccount⟩)
    (c_ccount : PySem.W.codeIn K cd_ccount "check_count" = true)
    (k_ccount : PySem.W.keepIn K (.ref f_ccount) = true)
    (a_sgoal : PySem.W.nsIn K mainGlobals "seek_goal" = some (some (.ref f_sgoal)))
    (l_sgoal : K.lookup f_sgoal = some ⟨oc_sgoal, od_sgoal, .func (PySem.W.fnOf "seek_goal" "seek_goal" (defArgs s_sgoal) (defBody s_sgoal) (defScope s_sgoal) .none kV_sgoal dc_sgoal pm_sgoal an_sgoal cd_sgoal ct_sgoal), sl_sgoal⟩)
    (c_sgoal : PySem.W.codeIn K cd_sgoal "seek_goal" = true)
    (k_sgoal : PySem.W.keepIn K (.ref f_sgoal) = true)
    (a_fline : PySem.W.nsIn K mainGlobals "first_line" = some (some (.ref f_fline)))
    (l_fline : K.lookup f_fline = some ⟨oc_fline, od_fline, .func (PySem.W.fnOf "first_line" "first_line" (defArgs s_fline) (defBody s_fline) (defScope s_fline) .none kV_fline dc_fline pm_fline an_fline cd_fline ct_fline), sl_fline⟩)
    (c_fline : PySem.W.codeIn K cd_fline "first_line" = true)
    (k_fline : PySem.W.keepIn K (.ref f_fline) = true)
    (a_init : PySem.W.findIn K (.ref C_Plain) "__init__" = some (some (.ref f_init)))
    (i_init : PySem.W.isFn K (.ref f_init) = true)
    (l_init : K.lookup f_init = some ⟨oc_init, od_init, .func (PySem.W.fnOf "__init__" "Plain.__init__" (defArgs s_init) (defBody s_init) (defScope s_init) (.ref T_init) kV_init dc_init pm_init an_init cd_init ct_init), sl_init⟩)
    (c_init : PySem.W.codeIn K cd_init "Plain.__init__" = true)
    (k_init : PySem.W.keepIn K (.ref f_init) = true)
    (t_init : K.lookup T_init = some ⟨uc_init, ud_init, .seq #[.int 0 tk_init_0] un_init, us_init⟩)
    (a_write : PySem.W.findIn K (.ref C_Plain) "write" = some (some (.ref f_write)))
    (i_write : PySem.W.isFn K (.ref f_write) = true)
    (l_write : K.lookup f_write = some ⟨oc_write, od_write, .func (PySem.W.fnOf "write" "Plain.write" (defArgs s_write) (defBody s_write) (defScope s_write) .none kV_write dc_write pm_write an_write cd_write ct_write), sl_write⟩)
    (c_write : PySem.W.codeIn K cd_write "Plain.write" = true)
    (k_write : PySem.W.keepIn K (.ref f_write) = true)
    (a_seek : PySem.W.findIn K (.ref C_Plain) "seek" = some (some (.ref f_seek)))
    (i_seek : PySem.W.isFn K (.ref f_seek) = true)
    (l_seek : K.lookup f_seek = some ⟨oc_seek, od_seek, .func (PySem.W.fnOf "seek" "Plain.seek" (defArgs s_seek) (defBody s_seek) (defScope s_seek) .none (.ref K_seek) dc_seek pm_seek an_seek cd_seek ct_seek), sl_seek⟩)
    (c_seek : PySem.W.codeIn K cd_seek "Plain.seek" = true)
    (k_seek : PySem.W.keepIn K (.ref f_seek) = true)
    (w_seek_0 : PySem.W.nsIn K K_seek "start" = some (some (.str (Str.ofString "head") kk_seek_0)))
    (a_tell : PySem.W.findIn K (.ref C_Plain) "tell" = some (some (.ref f_tell)))
    (i_tell : PySem.W.isFn K (.ref f_tell) = true)
    (l_tell : K.lookup f_tell = some ⟨oc_tell, od_tell, .func (PySem.W.fnOf "tell" "Plain.tell" (defArgs s_tell) (defBody s_tell) (defScope s_tell) .none kV_tell dc_tell pm_tell an_tell cd_tell ct_tell), sl_tell⟩)
    (c_tell : PySem.W.codeIn K cd_tell "Plain.tell" = true)
    (k_tell : PySem.W.keepIn K (.ref f_tell) = true)
    (a_size : PySem.W.findIn K (.ref C_Plain) "size" = some (some (.ref f_size)))
    (i_size : PySem.W.isFn K (.ref f_size) = true)
    (l_size : K.lookup f_size = some ⟨oc_size, od_size, .func (PySem.W.fnOf "size" "Plain.size" (defArgs s_size) (defBody s_size) (defScope s_size) .none kV_size dc_size pm_size an_size cd_size ct_size), sl_size⟩)
    (c_size : PySem.W.codeIn K cd_size "Plain.size" = true)
    (k_size : PySem.W.keepIn K (.ref f_size) = true)
    (a_pcut : PySem.W.findIn K (.ref C_Plain) "cut" = some (some (.ref f_pcut)))
    (i_pcut : PySem.W.isFn K (.ref f_pcut) = true)
    (l_pcut : K.lookup f_pcut = some ⟨oc_pcut, od_pcut, .func (PySem.W.fnOf "cut" "Plain.cut" (defArgs s_pcut) (defBody s_pcut) (defScope s_pcut) (.ref T_pcut) kV_pcut dc_pcut pm_pcut an_pcut cd_pcut ct_pcut), sl_pcut⟩)
    (c_pcut : PySem.W.codeIn K cd_pcut "Plain.cut" = true)
    (k_pcut : PySem.W.keepIn K (.ref f_pcut) = true)
    (t_pcut : K.lookup T_pcut = some ⟨uc_pcut, ud_pcut, .seq #[.none] un_pcut, us_pcut⟩)
    (a_row : PySem.W.findIn K (.ref C_Plain) "row" = some (some (.ref f_row)))
    (i_row : PySem.W.isFn K (.ref f_row) = true)
    (l_row : K.lookup f_row = some ⟨oc_row, od_row, .func (PySem.W.fnOf "row" "Plain.row" (defArgs s_row) (defBody s_row) (defScope s_row) .none kV_row dc_row pm_row an_row cd_row ct_row), sl_row⟩)
    (c_row : PySem.W.codeIn K cd_row "Plain.row" = true)
    (k_row : PySem.W.keepIn K (.ref f_row) = true)
    (a_ahead : PySem.W.findIn K (.ref C_Plain) "ahead" = some (some (.ref f_ahead)))
    (i_ahead : PySem.W.isFn K (.ref f_ahead) = true)
    (l_ahead : K.lookup f_ahead = some ⟨oc_ahead, od_ahead, .func (PySem.W.fnOf "ahead" "Plain.ahead" (defArgs s_ahead) (defBody s_ahead) (defScope s_ahead) .none kV_ahead dc_ahead pm_ahead an_ahead cd_ahead ct_ahead), sl_ahead⟩)
    (c_ahead : PySem.W.codeIn K cd_ahead "Plain.ahead" = true)
    (k_ahead : PySem.W.keepIn K (.ref f_ahead) = true)
    (a_passed : PySem.W.findIn K (.ref C_Plain) "passed" = some (some (.ref f_passed)))
    (i_passed : PySem.W.isFn K (.ref f_passed) = true)
    (l_passed : K.lookup f_passed = some ⟨oc_passed, od_passed, .func (PySem.W.fnOf "passed" "Plain.passed" (defArgs s_passed) (defBody s_passed) (defScope s_passed) .none kV_passed dc_passed pm_passed an_passed cd_passed ct_passed), sl_passed⟩)
    (c_passed : PySem.W.codeIn K cd_passed "Plain.passed" = true)
    (k_passed : PySem.W.keepIn K (.ref f_passed) = true)
    (a_peek : PySem.W.findIn K (.ref C_Plain) "peek" = some (some (.ref f_peek)))
    (i_peek : PySem.W.isFn K (.ref f_peek) = true)
    (l_peek : K.lookup f_peek = some ⟨oc_peek, od_peek, .func (PySem.W.fnOf "peek" "Plain.peek" (defArgs s_peek) (defBody s_peek) (defScope s_peek) (.ref T_peek) kV_peek dc_peek pm_peek an_peek cd_peek ct_peek), sl_peek⟩)
    (c_peek : PySem.W.codeIn K cd_peek "Plain.peek" = true)
    (k_peek : PySem.W.keepIn K (.ref f_peek) = true)
    (t_peek : K.lookup T_peek = some ⟨uc_peek, ud_peek, .seq #[.int 1 tk_peek_0] un_peek, us_peek⟩)
    (a_read : PySem.W.findIn K (.ref C_Plain) "read" = some (some (.ref f_read)))
    (i_read : PySem.W.isFn K (.ref f_read) = true)
    (l_read : K.lookup f_read = some ⟨oc_read, od_read, .func (PySem.W.fnOf "read" "Plain.read" (defArgs s_read) (defBody s_read) (defScope s_read) (.ref T_read) kV_read dc_read pm_read an_read cd_read ct_read), sl_read⟩)
    (c_read : PySem.W.codeIn K cd_read "Plain.read" = true)
    (k_read : PySem.W.keepIn K (.ref f_read) = true)
    (t_read : K.lookup T_read = some ⟨uc_read, ud_read, .seq #[.none] un_read, us_read⟩)
    (a_rsome : PySem.W.findIn K (.ref C_Plain) "read_some" = some (some (.ref f_rsome)))
    (i_rsome : PySem.W.isFn K (.ref f_rsome) = true)
    (l_rsome : K.lookup f_rsome = some ⟨oc_rsome, od_rsome, .func (PySem.W.fnOf "read_some" "Plain.read_some" (defArgs s_rsome) (defBody s_rsome) (defScope s_rsome) .none kV_rsome dc_rsome pm_rsome an_rsome cd_rsome ct_rsome), sl_rsome⟩)
    (c_rsome : PySem.W.codeIn K cd_rsome "Plain.read_some" = true)
    (k_rsome : PySem.W.keepIn K (.ref f_rsome) = true)
    (a_rline : PySem.W.findIn K (.ref C_Plain) "readline" = some (some (.ref f_rline)))
    (i_rline : PySem.W.isFn K (.ref f_rline) = true)
    (l_rline : K.lookup f_rline = some ⟨oc_rline, od_rline, .func (PySem.W.fnOf "readline" "Plain.readline" (defArgs s_rline) (defBody s_rline) (defScope s_rline) (.ref T_rline) kV_rline dc_rline pm_rline an_rline cd_rline ct_rline), sl_rline⟩)
    (c_rline : PySem.W.codeIn K cd_rline "Plain.readline" = true)
    (k_rline : PySem.W.keepIn K (.ref f_rline) = true)
    (t_rline : K.lookup T_rline = some ⟨uc_rline, ud_rline, .seq #[.none] un_rline, us_rline⟩)
    (a_pool : PySem.W.nsIn K mainGlobals "_law_pool" = some (some (.ref f_pool)))
    (l_pool : K.lookup f_pool = some ⟨oc_pool, od_pool, .func (PySem.W.fnOf "_law_pool" "_law_pool" (defArgs s_pool) (defBody s_pool) (defScope s_pool) .none kV_pool dc_pool pm_pool an_pool cd_pool ct_pool), sl_pool⟩)
    (c_pool : PySem.W.codeIn K cd_pool "_law_pool" = true)
    (k_pool : PySem.W.keepIn K (.ref f_pool) = true)
    (a_take : PySem.W.nsIn K mainGlobals "_law_take" = some (some (.ref f_take)))
    (l_take : K.lookup f_take = some ⟨oc_take, od_take, .func (PySem.W.fnOf "_law_take" "_law_take" (defArgs s_take) (defBody s_take) (defScope s_take) .none kV_take dc_take pm_take an_take cd_take ct_take), sl_take⟩)
    (c_take : PySem.W.codeIn K cd_take "_law_take" = true)
    (k_take : PySem.W.keepIn K (.ref f_take) = true)
    (a_bytes : PySem.W.nsIn K mainGlobals "_law_bytes" = some (some (.ref f_bytes)))
    (l_bytes : K.lookup f_bytes = some ⟨oc_bytes, od_bytes, .func (PySem.W.fnOf "_law_bytes" "_law_bytes" (defArgs s_bytes) (defBody s_bytes) (defScope s_bytes) .none kV_bytes dc_bytes pm_bytes an_bytes cd_bytes ct_bytes), sl_bytes⟩)
    (c_bytes : PySem.W.codeIn K cd_bytes "_law_bytes" = true)
    (k_bytes : PySem.W.keepIn K (.ref f_bytes) = true)
    (a_llaid : PySem.W.nsIn K mainGlobals "_law_laid" = some (some (.ref f_llaid)))
    (l_llaid : K.lookup f_llaid = some ⟨oc_llaid, od_llaid, .func (PySem.W.fnOf "_law_laid" "_law_laid" (defArgs s_llaid) (defBody s_llaid) (defScope s_llaid) .none kV_llaid dc_llaid pm_llaid an_llaid cd_llaid ct_llaid), sl_llaid⟩)
    (c_llaid : PySem.W.codeIn K cd_llaid "_law_laid" = true)
    (k_llaid : PySem.W.keepIn K (.ref f_llaid) = true)
    (a_draw : PySem.W.nsIn K mainGlobals "_law_draw" = some (some (.ref f_draw)))
    (l_draw : K.lookup f_draw = some ⟨oc_draw, od_draw, .func (PySem.W.fnOf "_law_draw" "_law_draw" (defArgs s_draw) (defBody s_draw) (defScope s_draw) .none kV_draw dc_draw pm_draw an_draw cd_draw ct_draw), sl_draw⟩)
    (c_draw : PySem.W.codeIn K cd_draw "_law_draw" = true)
    (k_draw : PySem.W.keepIn K (.ref f_draw) = true)
    (a_due : PySem.W.nsIn K mainGlobals "_law_due" = some (some (.ref f_due)))
    (l_due : K.lookup f_due = some ⟨oc_due, od_due, .func (PySem.W.fnOf "_law_due" "_law_due" (defArgs s_due) (defBody s_due) (defScope s_due) .none kV_due dc_due pm_due an_due cd_due ct_due), sl_due⟩)
    (c_due : PySem.W.codeIn K cd_due "_law_due" = true)
    (k_due : PySem.W.keepIn K (.ref f_due) = true)
    (a_bad : PySem.W.nsIn K mainGlobals "_law_bad" = some (some (.ref f_bad)))
    (l_bad : K.lookup f_bad = some ⟨oc_bad, od_bad, .func (PySem.W.fnOf "_law_bad" "_law_bad" (defArgs s_bad) (defBody s_bad) (defScope s_bad) .none kV_bad dc_bad pm_bad an_bad cd_bad ct_bad), sl_bad⟩)
    (c_bad : PySem.W.codeIn K cd_bad "_law_bad" = true)
    (k_bad : PySem.W.keepIn K (.ref f_bad) = true)
    (a_does : PySem.W.nsIn K mainGlobals "_law_does" = some (some (.ref f_does)))
    (l_does : K.lookup f_does = some ⟨oc_does, od_does, .func (PySem.W.fnOf "_law_does" "_law_does" (defArgs s_does) (defBody s_does) (defScope s_does) .none kV_does dc_does pm_does an_does cd_does ct_does), sl_does⟩)
    (c_does : PySem.W.codeIn K cd_does "_law_does" = true)
    (k_does : PySem.W.keepIn K (.ref f_does) = true)
    (a_tries : PySem.W.nsIn K mainGlobals "_law_tries" = some (some (.ref f_tries)))
    (l_tries : K.lookup f_tries = some ⟨oc_tries, od_tries, .func (PySem.W.fnOf "_law_tries" "_law_tries" (defArgs s_tries) (defBody s_tries) (defScope s_tries) .none kV_tries dc_tries pm_tries an_tries cd_tries ct_tries), sl_tries⟩)
    (c_tries : PySem.W.codeIn K cd_tries "_law_tries" = true)
    (k_tries : PySem.W.keepIn K (.ref f_tries) = true)
    (a_law : PySem.W.nsIn K mainGlobals "law" = some (some (.ref f_law)))
    (l_law : K.lookup f_law = some ⟨oc_law, od_law, .func (PySem.W.fnOf "law" "law" (defArgs s_law) (defBody s_law) (defScope s_law) .none kV_law dc_law pm_law an_law cd_law ct_law), sl_law⟩)
    (c_law : PySem.W.codeIn K cd_law "law" = true)
    (k_law : PySem.W.keepIn K (.ref f_law) = true)
    (pg_Plain : PySem.W.plainGet K C_Plain Str.empty = true)
    (hd_Plain : PySem.W.hasDictIn K C_Plain = true)
    (po_Plain : PySem.W.plainOver K C_Plain = true)
    (sa_Plain : PySem.W.findIn K (.ref C_Plain) "__setattr__" = some (some (.builtin "object.__setattr__")))
    (mk_Plain : PySem.W.makesIn K C_Plain = true)
    (kc_Plain : PySem.W.keepIn K (.ref C_Plain) = true)
    (n_Plain_cells : PySem.W.findIn K (.ref C_Plain) "cells" = some none)
    (n_Plain_cursor : PySem.W.findIn K (.ref C_Plain) "cursor" = some none)
    (v_LONGEST : PySem.W.nsIn K mainGlobals "LONGEST" = some (some (.int 4000 t_LONGEST)))
    (v_LINE_FEED : PySem.W.nsIn K mainGlobals "LINE_FEED" = some (some (.int 10 t_LINE_FEED)))
    (z_list : PySem.W.nsIn K mainGlobals "list" = some none)
    (z_len : PySem.W.nsIn K mainGlobals "len" = some none)
    (z_range : PySem.W.nsIn K mainGlobals "range" = some none)
    (z_max : PySem.W.nsIn K mainGlobals "max" = some none)
    (z_min : PySem.W.nsIn K mainGlobals "min" = some none)
    (z_isinstance : PySem.W.nsIn K mainGlobals "isinstance" = some none)
    (z_int : PySem.W.nsIn K mainGlobals "int" = some none)
    (z_bool : PySem.W.nsIn K mainGlobals "bool" = some none)
    (z_all : PySem.W.nsIn K mainGlobals "all" = some none)
    (z_enumerate : PySem.W.nsIn K mainGlobals "enumerate" = some none)
    (z_repr : PySem.W.nsIn K mainGlobals "repr" = some none) :
    ∃ fd : FuncData, (∀ (s : Shared) (v : Value), BindsTo s fd ⟨[v], []⟩ [("_law_script", v)]) ∧ ∀ base : Heap, K.In base → base.Ns mainGlobals mg → FnG l.prog w K mg base CX0 9 fa fd ["_law_script"] (spLaw K) := by
  have e := hfa.symm.trans (PySem.W.mg_of X G a_law)
  cases e
  have F_iBadPlace := funA_mk (st := s_iBadPlace) l_iBadPlace c_iBadPlace k_iBadPlace
  have F_laid := funA_mk (st := s_laid) l_laid c_laid k_laid
  have F_whole := funA_mk (st := s_whole) l_whole c_whole k_whole
  have F_isbyte := funA_mk (st := s_isbyte) l_isbyte c_isbyte k_isbyte
  have F_cbytes := funA_mk (st := s_cbytes) l_cbytes c_cbytes k_cbytes
  have F_clen := funA_mk (st := s_clen) l_clen c_clen k_clen
  have F_cgoal := funA_mk (st := s_cgoal) l_cgoal c_cgoal k_cgoal
  have F_ccount := funA_mk (st := s_ccount) l_ccount c_ccount k_ccount
  have F_sgoal := funA_mk (st := s_sgoal) l_sgoal c_sgoal k_sgoal
  have F_fline := funA_mk (st := s_fline) l_fline c_fline k_fline
  have F_init := funA_mk (st := s_init) l_init c_init k_init
  have F_write := funA_mk (st := s_write) l_write c_write k_write
  have F_seek := funA_mk (st := s_seek) l_seek c_seek k_seek
  have F_tell := funA_mk (st := s_tell) l_tell c_tell k_tell
  have F_size := funA_mk (st := s_size) l_size c_size k_size
  have F_pcut := funA_mk (st := s_pcut) l_pcut c_pcut k_pcut
  have F_row := funA_mk (st := s_row) l_row c_row k_row
  have F_ahead := funA_mk (st := s_ahead) l_ahead c_ahead k_ahead
  have F_passed := funA_mk (st := s_passed) l_passed c_passed k_passed
  have F_peek := funA_mk (st := s_peek) l_peek c_peek k_peek
  have F_read := funA_mk (st := s_read) l_read c_read k_read
  have F_rsome := funA_mk (st := s_rsome) l_rsome c_rsome k_rsome
  have F_rline := funA_mk (st := s_rline) l_rline c_rline k_rline
  have F_pool := funA_mk (st := s_pool) l_pool c_pool k_pool
  have F_take := funA_mk (st := s_take) l_take c_take k_take
  have F_bytes := funA_mk (st := s_bytes) l_bytes c_bytes k_bytes
  have F_llaid := funA_mk (st := s_llaid) l_llaid c_llaid k_llaid
  have F_draw := funA_mk (st := s_draw) l_draw c_draw k_draw
  have F_due := funA_mk (st := s_due) l_due c_due k_due
  have F_bad := funA_mk (st := s_bad) l_bad c_bad k_bad
  have F_does := funA_mk (st := s_does) l_does c_does k_does
  have F_tries := funA_mk (st := s_tries) l_tries c_tries k_tries
  have F_law := funA_mk (st := s_law) l_law c_law k_law
  have FD_init : FunD K "__init__" "Plain.__init__" (defArgs s_init) (defBody s_init) (defScope s_init) ([.int 0] : List V) ([] : List (Str × V)) f_init (PySem.W.fnOf "__init__" "Plain.__init__" (defArgs s_init) (defBody s_init) (defScope s_init) (.ref T_init) kV_init dc_init pm_init an_init cd_init ct_init) := ⟨⟨_, _, _, _, _, _, _, _, _, _, rfl, l_init, c_init, .inr ⟨by decide, T_init, _, _, un_init, rfl, t_init, rfl, (.cons ⟨tk_init_0, rfl⟩ .nil)⟩, .inl rfl⟩, k_init⟩
  have KW_seek : KwdV K (.ref K_seek) ([("start", .str (Str.ofString "head"))] : List (Str × V)) := by
    refine .inr ⟨K_seek, rfl, fun q hq => ?_⟩
    simp only [List.mem_cons, List.mem_nil_iff, or_false] at hq
    rcases hq with rfl
    · exact ⟨_, w_seek_0, ⟨kk_seek_0, rfl⟩⟩
  have FD_seek : FunD K "seek" "Plain.seek" (defArgs s_seek) (defBody s_seek) (defScope s_seek) ([] : List V) ([("start", .str (Str.ofString "head"))] : List (Str × V)) f_seek (PySem.W.fnOf "seek" "Plain.seek" (defArgs s_seek) (defBody s_seek) (defScope s_seek) .none (.ref K_seek) dc_seek pm_seek an_seek cd_seek ct_seek) := ⟨⟨_, _, _, _, _, _, _, _, _, _, rfl, l_seek, c_seek, .inl ⟨rfl, rfl⟩, KW_seek⟩, k_seek⟩
  have FD_pcut : FunD K "cut" "Plain.cut" (defArgs s_pcut) (defBody s_pcut) (defScope s_pcut) ([.non] : List V) ([] : List (Str × V)) f_pcut (PySem.W.fnOf "cut" "Plain.cut" (defArgs s_pcut) (defBody s_pcut) (defScope s_pcut) (.ref T_pcut) kV_pcut dc_pcut pm_pcut an_pcut cd_pcut ct_pcut) := ⟨⟨_, _, _, _, _, _, _, _, _, _, rfl, l_pcut, c_pcut, .inr ⟨by decide, T_pcut, _, _, un_pcut, rfl, t_pcut, rfl, (.cons rfl .nil)⟩, .inl rfl⟩, k_pcut⟩
  have FD_peek : FunD K "peek" "Plain.peek" (defArgs s_peek) (defBody s_peek) (defScope s_peek) ([.int 1] : List V) ([] : List (Str × V)) f_peek (PySem.W.fnOf "peek" "Plain.peek" (defArgs s_peek) (defBody s_peek) (defScope s_peek) (.ref T_peek) kV_peek dc_peek pm_peek an_peek cd_peek ct_peek) := ⟨⟨_, _, _, _, _, _, _, _, _, _, rfl, l_peek, c_peek, .inr ⟨by decide, T_peek, _, _, un_peek, rfl, t_peek, rfl, (.cons ⟨tk_peek_0, rfl⟩ .nil)⟩, .inl rfl⟩, k_peek⟩
  have FD_read : FunD K "read" "Plain.read" (defArgs s_read) (defBody s_read) (defScope s_read) ([.non] : List V) ([] : List (Str × V)) f_read (PySem.W.fnOf "read" "Plain.read" (defArgs s_read) (defBody s_read) (defScope s_read) (.ref T_read) kV_read dc_read pm_read an_read cd_read ct_read) := ⟨⟨_, _, _, _, _, _, _, _, _, _, rfl, l_read, c_read, .inr ⟨by decide, T_read, _, _, un_read, rfl, t_read, rfl, (.cons rfl .nil)⟩, .inl rfl⟩, k_read⟩
  have FD_rline : FunD K "readline" "Plain.readline" (defArgs s_rline) (defBody s_rline) (defScope s_rline) ([.non] : List V) ([] : List (Str × V)) f_rline (PySem.W.fnOf "readline" "Plain.readline" (defArgs s_rline) (defBody s_rline) (defScope s_rline) (.ref T_rline) kV_rline dc_rline pm_rline an_rline cd_rline ct_rline) := ⟨⟨_, _, _, _, _, _, _, _, _, _, rfl, l_rline, c_rline, .inr ⟨by decide, T_rline, _, _, un_rline, rfl, t_rline, rfl, (.cons rfl .nil)⟩, .inl rfl⟩, k_rline⟩
  have bb_ahead : Binds K (PySem.W.fnOf "ahead" "Plain.ahead" (defArgs s_ahead) (defBody s_ahead) (defScope s_ahead) .none kV_ahead dc_ahead pm_ahead an_ahead cd_ahead ct_ahead) P_ahead [] := .all fun us hl => match us, hl with | [_], _ => rfl
  have bb_bad : Binds K (PySem.W.fnOf "_law_bad" "_law_bad" (defArgs s_bad) (defBody s_bad) (defScope s_bad) .none kV_bad dc_bad pm_bad an_bad cd_bad ct_bad) P_bad [] := .all fun us hl => match us, hl with | [_], _ => rfl
  have bb_bytes : Binds K (PySem.W.fnOf "_law_bytes" "_law_bytes" (defArgs s_bytes) (defBody s_bytes) (defScope s_bytes) .none kV_bytes dc_bytes pm_bytes an_bytes cd_bytes ct_bytes) P_bytes [] := .all fun us hl => match us, hl with | [_, _], _ => rfl
  have bb_cbytes : Binds K (PySem.W.fnOf "check_bytes" "check_bytes" (defArgs s_cbytes) (defBody s_cbytes) (defScope s_cbytes) .none kV_cbytes dc_cbytes pm_cbytes an_cbytes cd_cbytes ct_cbytes) P_cbytes [] := .all fun us hl => match us, hl with | [_], _ => rfl
  have bb_ccount : Binds K (PySem.W.fnOf "check_count" "check_count" (defArgs s_ccount) (defBody s_ccount) (defScope s_ccount) .none kV_ccount dc_ccount pm_ccount an_ccount cd_ccount ct_ccount) P_ccount [] := .all fun us hl => match us, hl with | [_], _ => rfl
  have bb_cgoal : Binds K (PySem.W.fnOf "check_goal" "check_goal" (defArgs s_cgoal) (defBody s_cgoal) (defScope s_cgoal) .none kV_cgoal dc_cgoal pm_cgoal an_cgoal cd_cgoal ct_cgoal) P_cgoal [] := .all fun us hl => match us, hl with | [_], _ => rfl
  have bb_clen : Binds K (PySem.W.fnOf "check_length" "check_length" (defArgs s_clen) (defBody s_clen) (defScope s_clen) .none kV_clen dc_clen pm_clen an_clen cd_clen ct_clen) P_clen [] := .all fun us hl => match us, hl with | [_], _ => rfl
  have bb_does : Binds K (PySem.W.fnOf "_law_does" "_law_does" (defArgs s_does) (defBody s_does) (defScope s_does) .none kV_does dc_does pm_does an_does cd_does ct_does) P_does [] := .all fun us hl => match us, hl with | [_, _], _ => rfl
  have bb_draw : Binds K (PySem.W.fnOf "_law_draw" "_law_draw" (defArgs s_draw) (defBody s_draw) (defScope s_draw) .none kV_draw dc_draw pm_draw an_draw cd_draw ct_draw) P_draw [] := .all fun us hl => match us, hl with | [_, _, _], _ => rfl
  have bb_due : Binds K (PySem.W.fnOf "_law_due" "_law_due" (defArgs s_due) (defBody s_due) (defScope s_due) .none kV_due dc_due pm_due an_due cd_due ct_due) P_due [] := .all fun us hl => match us, hl with | [_, _, _], _ => rfl
  have bb_fline : Binds K (PySem.W.fnOf "first_line" "first_line" (defArgs s_fline) (defBody s_fline) (defScope s_fline) .none kV_fline dc_fline pm_fline an_fline cd_fline ct_fline) P_fline [] := .all fun us hl => match us, hl with | [_, _], _ => rfl
  have bb_iBadPlace : Binds K (PySem.W.fnOf "__init__" "BadPlace.__init__" (defArgs s_iBadPlace) (defBody s_iBadPlace) (defScope s_iBadPlace) .none kV_iBadPlace dc_iBadPlace pm_iBadPlace an_iBadPlace cd_iBadPlace ct_iBadPlace) P_iBadPlace [] := .all fun us hl => match us, hl with | [_, _], _ => rfl
  obtain ⟨ds_all_init, v_all_init, b_all_init⟩ := FD_init.binds1 (ps := P_init) 3 1 (by decide) rfl fun _ _ _ _ _ _ _ us its h1 h2 => match us, its, h1, h2 with | [_, _, _], [_], _, _ => ⟨_, rfl, rfl⟩
  have bb_init : Binds K (PySem.W.fnOf "__init__" "Plain.__init__" (defArgs s_init) (defBody s_init) (defScope s_init) (.ref T_init) kV_init dc_init pm_init an_init cd_init ct_init) P_init [] := by cases v_all_init; exact b_all_init
  have bb_isbyte : Binds K (PySem.W.fnOf "is_byte" "is_byte" (defArgs s_isbyte) (defBody s_isbyte) (defScope s_isbyte) .none kV_isbyte dc_isbyte pm_isbyte an_isbyte cd_isbyte ct_isbyte) P_isbyte [] := .all fun us hl => match us, hl with | [_], _ => rfl
  have bb_laid : Binds K (PySem.W.fnOf "laid" "laid" (defArgs s_laid) (defBody s_laid) (defScope s_laid) .none kV_laid dc_laid pm_laid an_laid cd_laid ct_laid) P_laid [] := .all fun us hl => match us, hl with | [_, _, _], _ => rfl
  have bb_llaid : Binds K (PySem.W.fnOf "_law_laid" "_law_laid" (defArgs s_llaid) (defBody s_llaid) (defScope s_llaid) .none kV_llaid dc_llaid pm_llaid an_llaid cd_llaid ct_llaid) P_llaid [] := .all fun us hl => match us, hl with | [_, _, _], _ => rfl
  have bb_passed : Binds K (PySem.W.fnOf "passed" "Plain.passed" (defArgs s_passed) (defBody s_passed) (defScope s_passed) .none kV_passed dc_passed pm_passed an_passed cd_passed ct_passed) P_passed [] := .all fun us hl => match us, hl with | [_, _], _ => rfl
  obtain ⟨ds_all_pcut, v_all_pcut, b_all_pcut⟩ := FD_pcut.binds1 (ps := P_pcut) 2 1 (by decide) rfl fun _ _ _ _ _ _ _ us its h1 h2 => match us, its, h1, h2 with | [_, _], [_], _, _ => ⟨_, rfl, rfl⟩
  have bb_pcut : Binds K (PySem.W.fnOf "cut" "Plain.cut" (defArgs s_pcut) (defBody s_pcut) (defScope s_pcut) (.ref T_pcut) kV_pcut dc_pcut pm_pcut an_pcut cd_pcut ct_pcut) P_pcut [] := by cases v_all_pcut; exact b_all_pcut
  obtain ⟨ds_all_peek, v_all_peek, b_all_peek⟩ := FD_peek.binds1 (ps := P_peek) 2 1 (by decide) rfl fun _ _ _ _ _ _ _ us its h1 h2 => match us, its, h1, h2 with | [_, _], [_], _, _ => ⟨_, rfl, rfl⟩
  have bb_peek : Binds K (PySem.W.fnOf "peek" "Plain.peek" (defArgs s_peek) (defBody s_peek) (defScope s_peek) (.ref T_peek) kV_peek dc_peek pm_peek an_peek cd_peek ct_peek) P_peek [] := by cases v_all_peek; exact b_all_peek
  have bb_pool : Binds K (PySem.W.fnOf "_law_pool" "_law_pool" (defArgs s_pool) (defBody s_pool) (defScope s_pool) .none kV_pool dc_pool pm_pool an_pool cd_pool ct_pool) P_pool [] := .all fun us hl => match us, hl with | [_, _], _ => rfl
  obtain ⟨ds_all_read, v_all_read, b_all_read⟩ := FD_read.binds1 (ps := P_read) 2 1 (by decide) rfl fun _ _ _ _ _ _ _ us its h1 h2 => match us, its, h1, h2 with | [_, _], [_], _, _ => ⟨_, rfl, rfl⟩
  have bb_read : Binds K (PySem.W.fnOf "read" "Plain.read" (defArgs s_read) (defBody s_read) (defScope s_read) (.ref T_read) kV_read dc_read pm_read an_read cd_read ct_read) P_read [] := by cases v_all_read; exact b_all_read
  obtain ⟨ds_all_rline, v_all_rline, b_all_rline⟩ := FD_rline.binds1 (ps := P_rline) 2 1 (by decide) rfl fun _ _ _ _ _ _ _ us its h1 h2 => match us, its, h1, h2 with | [_, _], [_], _, _ => ⟨_, rfl, rfl⟩
  have bb_rline : Binds K (PySem.W.fnOf "readline" "Plain.readline" (defArgs s_rline) (defBody s_rline) (defScope s_rline) (.ref T_rline) kV_rline dc_rline pm_rline an_rline cd_rline ct_rline) P_rline [] := by cases v_all_rline; exact b_all_rline
  have bb_row : Binds K (PySem.W.fnOf "row" "Plain.row" (defArgs s_row) (defBody s_row) (defScope s_row) .none kV_row dc_row pm_row an_row cd_row ct_row) P_row [] := .all fun us hl => match us, hl with | [_], _ => rfl
  have bb_rsome : Binds K (PySem.W.fnOf "read_some" "Plain.read_some" (defArgs s_rsome) (defBody s_rsome) (defScope s_rsome) .none kV_rsome dc_rsome pm_rsome an_rsome cd_rsome ct_rsome) P_rsome [] := .all fun us hl => match us, hl with | [_, _], _ => rfl
  have bb_sgoal : Binds K (PySem.W.fnOf "seek_goal" "seek_goal" (defArgs s_sgoal) (defBody s_sgoal) (defScope s_sgoal) .none kV_sgoal dc_sgoal pm_sgoal an_sgoal cd_sgoal ct_sgoal) P_sgoal [] := .all fun us hl => match us, hl with | [_, _, _, _], _ => rfl
  have bb_size : Binds K (PySem.W.fnOf "size" "Plain.size" (defArgs s_size) (defBody s_size) (defScope s_size) .none kV_size dc_size pm_size an_size cd_size ct_size) P_size [] := .all fun us hl => match us, hl with | [_], _ => rfl
  have bb_take : Binds K (PySem.W.fnOf "_law_take" "_law_take" (defArgs s_take) (defBody s_take) (defScope s_take) .none kV_take dc_take pm_take an_take cd_take ct_take) P_take [] := .all fun us hl => match us, hl with | [_, _], _ => rfl
  have bb_tell : Binds K (PySem.W.fnOf "tell" "Plain.tell" (defArgs s_tell) (defBody s_tell) (defScope s_tell) .none kV_tell dc_tell pm_tell an_tell cd_tell ct_tell) P_tell [] := .all fun us hl => match us, hl with | [_], _ => rfl
  have bb_tries : Binds K (PySem.W.fnOf "_law_tries" "_law_tries" (defArgs s_tries) (defBody s_tries) (defScope s_tries) .none kV_tries dc_tries pm_tries an_tries cd_tries ct_tries) P_tries [] := .all fun us hl => match us, hl with | [_, _], _ => rfl
  have bb_whole : Binds K (PySem.W.fnOf "is_whole" "is_whole" (defArgs s_whole) (defBody s_whole) (defScope s_whole) .none kV_whole dc_whole pm_whole an_whole cd_whole ct_whole) P_whole [] := .all fun us hl => match us, hl with | [_], _ => rfl
  have bb_write : Binds K (PySem.W.fnOf "write" "Plain.write" (defArgs s_write) (defBody s_write) (defScope s_write) .none kV_write dc_write pm_write an_write cd_write ct_write) P_write [] := .all fun us hl => match us, hl with | [_, _], _ => rfl
  have kb_seek_1_start : KBn K (PySem.W.fnOf "seek" "Plain.seek" (defArgs s_seek) (defBody s_seek) (defScope s_seek) .none (.ref K_seek) dc_seek pm_seek an_seek cd_seek ct_seek) P_seek 2 ["start"] (fun us ws => us ++ ws) (fun vs zs => vs ++ zs) := ⟨fun s us ws X l1 l2 => .of_eq (match us, ws, l1, l2 with | [_, _], [_], _, _ => rfl), fun r1 r2 => Vals.append r1 r2⟩
  let T : Tx K mg := ⟨C_Plain, C_SipError, C_BadPlace, C_BadCount, f_iBadPlace, _, F_iBadPlace, f_laid, _, ⟨F_laid, PySem.W.mg_of X G a_laid⟩, f_whole, _, ⟨F_whole, PySem.W.mg_of X G a_whole⟩, f_isbyte, _, ⟨F_isbyte, PySem.W.mg_of X G a_isbyte⟩, f_cbytes, _, ⟨F_cbytes, PySem.W.mg_of X G a_cbytes⟩, f_clen, _, ⟨F_clen, PySem.W.mg_of X G a_clen⟩, f_cgoal, _, ⟨F_cgoal, PySem.W.mg_of X G a_cgoal⟩, f_ccount, _, ⟨F_ccount, PySem.W.mg_of X G a_ccount⟩, f_sgoal, _, ⟨F_sgoal, PySem.W.mg_of X G a_sgoal⟩, f_fline, _, ⟨F_fline, PySem.W.mg_of X G a_fline⟩, f_init, _, ⟨F_init, ⟨a_init, i_init, k_init⟩⟩, f_write, _, ⟨F_write, ⟨a_write, i_write, k_write⟩⟩, f_seek, _, ⟨F_seek, ⟨a_seek, i_seek, k_seek⟩⟩, f_tell, _, ⟨F_tell, ⟨a_tell, i_tell, k_tell⟩⟩, f_size, _, ⟨F_size, ⟨a_size, i_size, k_size⟩⟩, f_pcut, _, ⟨F_pcut, ⟨a_pcut, i_pcut, k_pcut⟩⟩, f_row, _, ⟨F_row, ⟨a_row, i_row, k_row⟩⟩, f_ahead, _, ⟨F_ahead, ⟨a_ahead, i_ahead, k_ahead⟩⟩, f_passed, _, ⟨F_passed, ⟨a_passed, i_passed, k_passed⟩⟩, f_peek, _, ⟨F_peek, ⟨a_peek, i_peek, k_peek⟩⟩, f_read, _, ⟨F_read, ⟨a_read, i_read, k_read⟩⟩, f_rsome, _, ⟨F_rsome, ⟨a_rsome, i_rsome, k_rsome⟩⟩, f_rline, _, ⟨F_rline, ⟨a_rline, i_rline, k_rline⟩⟩, f_pool, _, ⟨F_pool, PySem.W.mg_of X G a_pool⟩, f_take, _, ⟨F_take, PySem.W.mg_of X G a_take⟩, f_bytes, _, ⟨F_bytes, PySem.W.mg_of X G a_bytes⟩, f_llaid, _, ⟨F_llaid, PySem.W.mg_of X G a_llaid⟩, f_draw, _, ⟨F_draw, PySem.W.mg_of X G a_draw⟩, f_due, _, ⟨F_due, PySem.W.mg_of X G a_due⟩, f_bad, _, ⟨F_bad, PySem.W.mg_of X G a_bad⟩, f_does, _, ⟨F_does, PySem.W.mg_of X G a_does⟩, f_tries, _, ⟨F_tries, PySem.W.mg_of X G a_tries⟩, fa, _, ⟨F_law, PySem.W.mg_of X G a_law⟩, ⟨pg_Plain, hd_Plain, po_Plain, sa_Plain⟩, PySem.W.mg_of X G qa_Plain, ⟨mk_Plain, a_init, i_init, kc_Plain⟩, n_Plain_cells, n_Plain_cursor, PySem.W.mg_of X G qa_SipError, PySem.W.mg_of X G qa_BadPlace, PySem.W.mg_of X G qa_BadCount, ⟨xo_BadPlace, sa_BadPlace, ex_BadPlace, ty_BadPlace, kx_BadPlace⟩, ⟨hg_BadPlace, hk_BadPlace, ex_BadPlace, hd_BadPlace, ha_BadPlace, hn_BadPlace, ht_BadPlace, hm_BadPlace⟩, no_BadPlace, a_iBadPlace, i_iBadPlace, PySem.W.exm_ref sb_SipError sh_SipError st_SipError ss_BadPlace, qx_BadCount, qk_BadCount, qb_BadCount, qt_BadCount, PySem.W.exm_ref hb_BadCount hh_BadCount hy_BadCount hs_BadPlace_BadCount, PySem.W.exm_ref hb_BadPlace hh_BadPlace hy_BadPlace hs_BadPlace_BadPlace, PySem.W.exm_ref hb_SipError hh_SipError hy_SipError hs_BadPlace_SipError, PySem.W.exm_ref hb_BadCount hh_BadCount hy_BadCount hs_BadCount_BadCount, PySem.W.exm_ref hb_BadPlace hh_BadPlace hy_BadPlace hs_BadCount_BadPlace, PySem.W.exm_ref hb_SipError hh_SipError hy_SipError hs_BadCount_SipError, bb_ahead, bb_bad, bb_bytes, bb_cbytes, bb_ccount, bb_cgoal, bb_clen, bb_does, bb_draw, bb_due, bb_fline, bb_iBadPlace, bb_init, bb_isbyte, bb_laid, bb_llaid, bb_passed, bb_pcut, bb_peek, bb_pool, bb_read, bb_rline, bb_row, bb_rsome, bb_sgoal, bb_size, bb_take, bb_tell, bb_tries, bb_whole, bb_write, kb_seek_1_start, t_LONGEST, PySem.W.mg_of X G v_LONGEST, t_LINE_FEED, PySem.W.mg_of X G v_LINE_FEED, PySem.W.mg_none_of X G z_list, PySem.W.mg_none_of X G z_len, PySem.W.mg_none_of X G z_range, PySem.W.mg_none_of X G z_max, PySem.W.mg_none_of X G z_min, PySem.W.mg_none_of X G z_isinstance, PySem.W.mg_none_of X G z_int, PySem.W.mg_none_of X G z_bool, PySem.W.mg_none_of X G z_all, PySem.W.mg_none_of X G z_enumerate, PySem.W.mg_none_of X G z_repr⟩
  exact ⟨_, fun s v => .of_eq rfl, fun base _ _ => ok_law T⟩
end Sip
open PySem PySem.W PyProof.Rows
set_option maxHeartbeats 0 in
theorem PySem.Challenge.cw_sipstack_k23_whole_plain_holds : PySem.Challenge.rw_sipstack_k23_whole_plain.Holds := by
  w_on; o_law; k_head; (case hw => w_witness2)
  k_fill
  refine Sip.walk_ofG (l := PySem.Challenge.rw_sipstack_k23_whole_plain) (n := 63) (k := 9) (x := "_law_script") (CX := fun _ => L2.CX0) (sp := fun w => Sip.spLaw _) rfl (by decide) rfl ⟨rfl, by decide, by decide⟩ (fun w h Y => PySem.W.kIn_of Y) ?F (fun _ _ a ns hl _ hS => ⟨a, ns, rfl, hS, hl, fun _ => rfl⟩) (fun _ _ _ _ _ h => h)
  case F =>
    intro w mg fa h KX G hmg
    refine' Sip.all_mk KX G hmg ?qa_Plain ?qa_SipError ?qa_BadPlace ?qa_BadCount ?sb_SipError ?sh_SipError ?st_SipError ?qx_BadCount ?qk_BadCount ?qb_BadCount ?qt_BadCount ?hb_BadCount ?hh_BadCount ?hy_BadCount ?hs_BadPlace_BadCount ?hs_BadCount_BadCount ?hb_BadPlace ?hh_BadPlace ?hy_BadPlace ?hs_BadPlace_BadPlace ?hs_BadCount_BadPlace ?hb_SipError ?hh_SipError ?hy_SipError ?hs_BadPlace_SipError ?hs_BadCount_SipError ?xo_BadPlace ?sa_BadPlace ?ex_BadPlace ?ty_BadPlace ?kx_BadPlace ?hg_BadPlace ?hk_BadPlace ?hd_BadPlace ?ha_BadPlace ?hn_BadPlace ?ht_BadPlace ?hm_BadPlace ?no_BadPlace ?ss_BadPlace ?se_BadPlace ?a_iBadPlace ?i_iBadPlace ?l_iBadPlace ?c_iBadPlace ?k_iBadPlace ?a_laid ?l_laid ?c_laid ?k_laid ?a_whole ?l_whole ?c_whole ?k_whole ?a_isbyte ?l_isbyte ?c_isbyte ?k_isbyte ?a_cbytes ?l_cbytes ?c_cbytes ?k_cbytes ?a_clen ?l_clen ?c_clen ?k_clen ?a_cgoal ?l_cgoal ?c_cgoal ?k_cgoal ?a_ccount ?l_ccount ?c_ccount ?k_ccount ?a_sgoal ?l_sgoal ?c_sgoal ?k_sgoal ?a_fline ?l_fline ?c_fline ?k_fline ?a_init ?i_init ?l_init ?c_init ?k_init ?t_init ?a_write ?i_write ?l_write ?c_write ?k_write ?a_seek ?i_seek ?l_seek ?c_seek ?k_seek ?w_seek_0 ?a_tell ?i_tell ?l_tell ?c_tell ?k_tell ?a_size ?i_size ?l_size ?c_size ?k_size ?a_pcut ?i_pcut ?l_pcut ?c_pcut ?k_pcut ?t_pcut ?a_row ?i_row ?l_row ?c_row ?k_row ?a_ahead ?i_ahead ?l_ahead ?c_ahead ?k_ahead ?a_passed ?i_passed ?l_passed ?c_passed ?k_passed ?a_peek ?i_peek ?l_peek ?c_peek ?k_peek ?t_peek ?a_read ?i_read ?l_read ?c_read ?k_read ?t_read ?a_rsome ?i_rsome ?l_rsome ?c_rsome ?k_rsome ?a_rline ?i_rline ?l_rline ?c_rline ?k_rline ?t_rline ?a_pool ?l_pool ?c_pool ?k_pool ?a_take ?l_take ?c_take ?k_take ?a_bytes ?l_bytes ?c_bytes ?k_bytes ?a_llaid ?l_llaid ?c_llaid ?k_llaid ?a_draw ?l_draw ?c_draw ?k_draw ?a_due ?l_due ?c_due ?k_due ?a_bad ?l_bad ?c_bad ?k_bad ?a_does ?l_does ?c_does ?k_does ?a_tries ?l_tries ?c_tries ?k_tries ?a_law ?l_law ?c_law ?k_law ?pg_Plain ?hd_Plain ?po_Plain ?sa_Plain ?mk_Plain ?kc_Plain ?n_Plain_cells ?n_Plain_cursor ?v_LONGEST ?v_LINE_FEED ?z_list ?z_len ?z_range ?z_max ?z_min ?z_isinstance ?z_int ?z_bool ?z_all ?z_enumerate ?z_repr
    (case qa_Plain => k_is)
    (case qa_SipError => k_is)
    (case qa_BadPlace => k_is)
    (case qa_BadCount => k_is)
    (case sb_SipError => k_is)
    (case sh_SipError => k_is)
    (case st_SipError => k_is)
    (case qx_BadCount => k_exc)
    (case qk_BadCount => k_is)
    (case qb_BadCount => k_is)
    (case qt_BadCount => k_is)
    (case hb_BadCount => k_is)
    (case hh_BadCount => k_is)
    (case hy_BadCount => k_is)
    (case hs_BadPlace_BadCount => k_is)
    (case hs_BadCount_BadCount => k_is)
    (case hb_BadPlace => k_is)
    (case hh_BadPlace => k_is)
    (case hy_BadPlace => k_is)
    (case hs_BadPlace_BadPlace => k_is)
    (case hs_BadCount_BadPlace => k_is)
    (case hb_SipError => k_is)
    (case hh_SipError => k_is)
    (case hy_SipError => k_is)
    (case hs_BadPlace_SipError => k_is)
    (case hs_BadCount_SipError => k_is)
    (case xo_BadPlace => exact ⟨_, _, _, _, _, _, _, _, _, _, _, _, _, _, _, (by k_is), (by decide +kernel)⟩)
    (case sa_BadPlace => k_is)
    (case ex_BadPlace => k_is)
    (case ty_BadPlace => k_is)
    (case kx_BadPlace => k_is)
    (case hg_BadPlace => k_is)
    (case hk_BadPlace => k_is)
    (case hd_BadPlace => k_is)
    (case ha_BadPlace => k_is)
    (case hn_BadPlace => k_is)
    (case ht_BadPlace => k_is)
    (case hm_BadPlace => k_is)
    (case no_BadPlace => k_is)
    (case ss_BadPlace => k_is)
    (case se_BadPlace => k_is)
    (case a_iBadPlace => k_is)
    (case i_iBadPlace => k_is)
    (case l_iBadPlace => k_is)
    (case c_iBadPlace => k_is)
    (case k_iBadPlace => k_is)
    (case a_laid => k_is)
    (case l_laid => k_is)
    (case c_laid => k_is)
    (case k_laid => k_is)
    (case a_whole => k_is)
    (case l_whole => k_is)
    (case c_whole => k_is)
    (case k_whole => k_is)
    (case a_isbyte => k_is)
    (case l_isbyte => k_is)
    (case c_isbyte => k_is)
    (case k_isbyte => k_is)
    (case a_cbytes => k_is)
    (case l_cbytes => k_is)
    (case c_cbytes => k_is)
    (case k_cbytes => k_is)
    (case a_clen => k_is)
    (case l_clen => k_is)
    (case c_clen => k_is)
    (case k_clen => k_is)
    (case a_cgoal => k_is)
    (case l_cgoal => k_is)
    (case c_cgoal => k_is)
    (case k_cgoal => k_is)
    (case a_ccount => k_is)
    (case l_ccount => k_is)
    (case c_ccount => k_is)
    (case k_ccount => k_is)
    (case a_sgoal => k_is)
    (case l_sgoal => k_is)
    (case c_sgoal => k_is)
    (case k_sgoal => k_is)
    (case a_fline => k_is)
    (case l_fline => k_is)
    (case c_fline => k_is)
    (case k_fline => k_is)
    (case a_init => k_is)
    (case i_init => k_is)
    (case l_init => k_is)
    (case c_init => k_is)
    (case k_init => k_is)
    (case t_init => k_is)
    (case a_write => k_is)
    (case i_write => k_is)
    (case l_write => k_is)
    (case c_write => k_is)
    (case k_write => k_is)
    (case a_seek => k_is)
    (case i_seek => k_is)
    (case l_seek => k_is)
    (case c_seek => k_is)
    (case k_seek => k_is)
    (case w_seek_0 => k_is)
    (case a_tell => k_is)
    (case i_tell => k_is)
    (case l_tell => k_is)
    (case c_tell => k_is)
    (case k_tell => k_is)
    (case a_size => k_is)
    (case i_size => k_is)
    (case l_size => k_is)
    (case c_size => k_is)
    (case k_size => k_is)
    (case a_pcut => k_is)
    (case i_pcut => k_is)
    (case l_pcut => k_is)
    (case c_pcut => k_is)
    (case k_pcut => k_is)
    (case t_pcut => k_is)
    (case a_row => k_is)
    (case i_row => k_is)
    (case l_row => k_is)
    (case c_row => k_is)
    (case k_row => k_is)
    (case a_ahead => k_is)
    (case i_ahead => k_is)
    (case l_ahead => k_is)
    (case c_ahead => k_is)
    (case k_ahead => k_is)
    (case a_passed => k_is)
    (case i_passed => k_is)
    (case l_passed => k_is)
    (case c_passed => k_is)
    (case k_passed => k_is)
    (case a_peek => k_is)
    (case i_peek => k_is)
    (case l_peek => k_is)
    (case c_peek => k_is)
    (case k_peek => k_is)
    (case t_peek => k_is)
    (case a_read => k_is)
    (case i_read => k_is)
    (case l_read => k_is)
    (case c_read => k_is)
    (case k_read => k_is)
    (case t_read => k_is)
    (case a_rsome => k_is)
    (case i_rsome => k_is)
    (case l_rsome => k_is)
    (case c_rsome => k_is)
    (case k_rsome => k_is)
    (case a_rline => k_is)
    (case i_rline => k_is)
    (case l_rline => k_is)
    (case c_rline => k_is)
    (case k_rline => k_is)
    (case t_rline => k_is)
    (case a_pool => k_is)
    (case l_pool => k_is)
    (case c_pool => k_is)
    (case k_pool => k_is)
    (case a_take => k_is)
    (case l_take => k_is)
    (case c_take => k_is)
    (case k_take => k_is)
    (case a_bytes => k_is)
    (case l_bytes => k_is)
    (case c_bytes => k_is)
    (case k_bytes => k_is)
    (case a_llaid => k_is)
    (case l_llaid => k_is)
    (case c_llaid => k_is)
    (case k_llaid => k_is)
    (case a_draw => k_is)
    (case l_draw => k_is)
    (case c_draw => k_is)
    (case k_draw => k_is)
    (case a_due => k_is)
    (case l_due => k_is)
    (case c_due => k_is)
    (case k_due => k_is)
    (case a_bad => k_is)
    (case l_bad => k_is)
    (case c_bad => k_is)
    (case k_bad => k_is)
    (case a_does => k_is)
    (case l_does => k_is)
    (case c_does => k_is)
    (case k_does => k_is)
    (case a_tries => k_is)
    (case l_tries => k_is)
    (case c_tries => k_is)
    (case k_tries => k_is)
    (case a_law => k_is)
    (case l_law => k_is)
    (case c_law => k_is)
    (case k_law => k_is)
    (case pg_Plain => k_is)
    (case hd_Plain => k_is)
    (case po_Plain => k_is)
    (case sa_Plain => k_is)
    (case mk_Plain => k_is)
    (case kc_Plain => k_is)
    (case n_Plain_cells => k_is)
    (case n_Plain_cursor => k_is)
    (case v_LONGEST => k_is)
    (case v_LINE_FEED => k_is)
    (case z_list => k_is)
    (case z_len => k_is)
    (case z_range => k_is)
    (case z_max => k_is)
    (case z_min => k_is)
    (case z_isinstance => k_is)
    (case z_int => k_is)
    (case z_bool => k_is)
    (case z_all => k_is)
    (case z_enumerate => k_is)
    (case z_repr => k_is)
